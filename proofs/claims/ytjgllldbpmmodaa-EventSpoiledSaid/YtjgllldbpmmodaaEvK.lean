/-
  How any arguments of plain shapes open, and the step from a contract in names to the call itself.
-/
import Derived.Test.YtjgllldbpmmodaaEvH
import Derived.Test.YtjgllldbpmmodaaKit
namespace Go.Ev
open Go.RowKit Go.Deep Go.WideShapes Go.ChangeAt
set_option linter.unusedSimpArgs false
set_option linter.unusedVariables false

/-- What a cell of a type holds. -/
inductive CK where
  | int (k : IntKind)
  | bool
  | str
  | list (e : TypeId)
inductive CKs (R : CK → Value → Prop) : List CK → List Value → Prop
  | nil : CKs R [] []
  | cons {k : CK} {c : Value} {ks : List CK} {cs : List Value} (h : R k c) (hl : CKs R ks cs) : CKs R (k :: ks) (c :: cs)
theorem CKs.append {R : CK → Value → Prop} : ∀ {a b : List CK} {u v : List Value}, CKs R a u → CKs R b v → CKs R (a ++ b) (u ++ v)
  | _, _, _, _, .nil, h => h
  | _, _, _, _, .cons h hl, k => .cons h (hl.append k)
def lenK : List CK → Nat
  | [] => 0
  | _ :: l => lenK l + 1
theorem lenK_eq : ∀ (l : List CK), lenK l = l.length
  | [] => rfl
  | _ :: l => by simp [lenK, lenK_eq l]
theorem CKs.len {R : CK → Value → Prop} : ∀ {a : List CK} {u : List Value}, CKs R a u → u.length = lenK a
  | _, _, .nil => rfl
  | _, _, .cons h hl => by simp [lenK, hl.len]
section
variable (P : Program)
def joinS (g : TypeId → Option (List CK)) : List Field → Nat → Option (List CK)
  | [], _ => some []
  | f :: fs, o => match Nat.beq f.offset o, g f.type with
    | true, some ks => match Nat.beq (lenK ks) (P.cellsOf f.type), joinS g fs (o + lenK ks) with
      | true, some l => some (ks ++ l)
      | _, _ => none
    | _, _ => none
def joinA (ks : List CK) : Nat → List CK
  | 0 => []
  | m + 1 => joinA ks m ++ ks
/-- The cells of a type. -/
def flatOf : Nat → TypeId → Option (List CK)
  | 0, _ => none
  | n + 1, t => match P.underlying t with
    | some .bool => some [.bool]
    | some (.int k) => some [.int k]
    | some .string => some [.str]
    | some (.slice e) => some [.list e]
    | some (.struct fs) => match joinS P (flatOf n) fs.toList 0 with
      | some ks => match Nat.beq (lenK ks) (P.cellsOf t) with
        | true => some ks
        | false => none
      | none => none
    | some (.array m e) => match flatOf n e with
      | some ks => match Nat.beq (lenK ks) (P.cellsOf e), Nat.beq (m * lenK ks) (P.cellsOf t) with
        | true, true => some (joinA ks m)
        | _, _ => none
      | none => none
    | _ => none
end
section
variable {H : Type} {enc : TypeId × Value → H} {P : Program} {w : World} {base : Nat} {held : Bool}
/-- A cell that is read. -/
def CellOk (enc : TypeId × Value → H) (P : Program) (w : World) (base : Nat) (held : Bool) : CK → Value → Prop
  | .int k, c => ∃ z, c = .int k z ∧ (Lit.int k z).wf = true
  | .bool, c => ∃ b, c = .bool b
  | .str, c => ∃ s, c = .string s ∧ s.size ≤ maxLen
  | .list e, c => ∃ (t : TypeId) (fuel : Nat) (x : DataW H × List MemPlace), P.underlying t = some (.slice e) ∧ DataW.trod enc P w base (fun _ => true) held fuel t [c] = some x
theorem take_drop_add {α : Type} (l : List α) (o a b : Nat) : (l.drop o).take (a + b) = (l.drop o).take a ++ (l.drop (o + a)).take b := by
  rw [List.take_add, List.drop_drop]
theorem joinS_ok {g : TypeId → Option (List CK)} {R : CK → Value → Prop} {cs : List Value} : ∀ {fs : List Field} {o : Nat} {ks : List CK}, joinS P g fs o = some ks →
    (∀ f ∈ fs, ∀ l, g f.type = some l → CKs R l ((cs.drop f.offset).take (P.cellsOf f.type))) → CKs R ks ((cs.drop o).take (lenK ks))
  | [], o, ks, h, _ => by simp only [joinS, Option.some.injEq] at h; subst h; simpa [lenK] using CKs.nil
  | f :: fs, o, ks, h, hf => by
    simp only [joinS] at h
    split at h
    · rename_i l h1 h2
      split at h
      · rename_i l2 h3 h4
        simp only [Option.some.injEq] at h
        subst h
        have e1 := Nat.eq_of_beq_eq_true h1
        have e3 := Nat.eq_of_beq_eq_true h3
        have a := hf f (by simp) l h2
        rw [e1, ← e3] at a
        have b := joinS_ok h4 fun f' hf' => hf f' (by simp [hf'])
        rw [show lenK (l ++ l2) = lenK l + lenK l2 by simp [lenK_eq], take_drop_add]
        exact a.append b
      · cases h
    · cases h
theorem joinA_ok {R : CK → Value → Prop} {cs : List Value} {ks : List CK} : ∀ {m : Nat}, (∀ i, i < m → CKs R ks ((cs.drop (i * lenK ks)).take (lenK ks))) → CKs R (joinA ks m) (cs.take (m * lenK ks))
  | 0, _ => by simpa [joinA] using CKs.nil
  | m + 1, h => by
    have a := joinA_ok (m := m) fun i hi => h i (by omega)
    have b := h m (by omega)
    have e := take_drop_add cs 0 (m * lenK ks) (lenK ks)
    simp only [List.drop_zero, Nat.zero_add] at e
    rw [joinA, Nat.succ_mul, e]
    exact a.append b
theorem flat_ok : ∀ {n : Nat} {t : TypeId} {ks : List CK} {cs : List Value} {fuel : Nat} {x : DataW H × List MemPlace}, flatOf P n t = some ks → DataW.trod enc P w base (fun _ => true) held fuel t cs = some x → CKs (CellOk enc P w base held) ks cs := by
  intro n
  induction n with
  | zero => intro t ks cs fuel x h; cases h
  | succ n ih =>
    intro t ks cs fuel x h ht
    simp only [flatOf] at h
    split at h
    · rename_i hu
      cases h
      obtain ⟨b, rfl, _⟩ := DataW.trod_bool hu ht
      exact .cons ⟨b, rfl⟩ .nil
    · rename_i k hu
      cases h
      obtain ⟨z, rfl, _, hw⟩ := DataW.trod_int hu ht
      exact .cons ⟨z, rfl, hw⟩ .nil
    · rename_i hu
      cases h
      obtain ⟨s, rfl, _, hs⟩ := DataW.trod_string hu ht
      exact .cons ⟨s, rfl, hs⟩ .nil
    · rename_i e hu
      cases h
      have : ∃ c, cs = [c] := by
        rcases Go.Deep.open_slice hu ht with ⟨h0, _⟩ | ⟨a, len, cap, k, m, Dd, Pl, hcs, _⟩
        · exact ⟨_, h0⟩
        · exact ⟨_, hcs⟩
      obtain ⟨c, rfl⟩ := this
      exact .cons ⟨t, fuel, x, hu, ht⟩ .nil
    · rename_i fs hu
      split at h
      · rename_i l hj
        split at h
        · rename_i hc
          cases h
          obtain ⟨xs, m, _, _, hl, hx, hg⟩ := DataW.trod_struct hu ht
          have a := joinS_ok (R := CellOk enc P w base held) (cs := cs) hj fun f hf l hl => by
            obtain ⟨i, hi, rfl⟩ := List.getElem_of_mem hf
            have := hg i fs[i] (Array.getElem?_eq_getElem (by simpa using hi))
            rw [List.getElem?_eq_getElem (by simpa [hx] using hi)] at this
            exact ih hl this
          simp only [List.drop_zero] at a
          rw [Nat.eq_of_beq_eq_true hc, ← hl, List.take_length] at a
          exact a
        · cases h
      · cases h
    · rename_i m e hu
      split at h
      · rename_i l hj
        split at h
        · rename_i h1 h2
          cases h
          obtain ⟨xs, k, _, _, hl, hx, hg⟩ := DataW.trod_array hu ht
          have a := joinA_ok (R := CellOk enc P w base held) (cs := cs) (ks := l) (m := m) fun i hi => by
            have := hg i hi
            rw [List.getElem?_eq_getElem (by omega), ← Nat.eq_of_beq_eq_true h1] at this
            exact ih hj this
          rw [Nat.eq_of_beq_eq_true h2, ← hl, List.take_length] at a
          exact a
        · cases h
      · cases h
    · cases h
end

/-- What a list's columns hold. -/
inductive Kd where
  | int (k : IntKind)
  | bool
  | str
def Kd.ck : Kd → CK
  | .int k => .int k
  | .bool => .bool
  | .str => .str
def cks : List Kd → List CK
  | [] => []
  | k :: l => k.ck :: cks l
def lenD : List Kd → Nat
  | [] => 0
  | _ :: l => lenD l + 1
def Kd.I : Kd → Type
  | .int _ => Int
  | .bool => Bool
  | .str => ByteArray
def Kd.v : (k : Kd) → k.I → PV
  | .int k, z => .int k z
  | .bool, b => .bool b
  | .str, s => .str s
def Kd.dflt : (k : Kd) → k.I
  | .int _ => (0 : Int)
  | .bool => false
  | .str => (default : ByteArray)
def inR (k : IntKind) (z : Int) : Prop := k.min ≤ z ∧ z ≤ k.max
def strR (s : ByteArray) : Prop := s.size ≤ maxLen
def Kd.fits : (k : Kd) → k.I → Prop
  | .int k, z => inR k z
  | .bool, _ => True
  | .str, s => strR s
def Kd.col : (k : Kd) → (Nat → k.I) → Col
  | .int k, f => .int k f
  | .bool, f => .bool f
  | .str, f => .str f
theorem kdcol_at : ∀ (k : Kd) (f : Nat → k.I) (j : Nat), colAt (k.col f) j = k.v (f j)
  | .int _, _, _ => rfl
  | .bool, _, _ => rfl
  | .str, _, _ => rfl
/-- Plain columns. -/
def CsI : List Kd → Type
  | [] => Unit
  | k :: l => (Nat → k.I) × CsI l
def csC : (l : List Kd) → CsI l → List Col
  | [], _ => []
  | k :: l, (f, x) => k.col f :: csC l x
def csFits (n : Nat) : (l : List Kd) → CsI l → Prop
  | [], _ => True
  | k :: l, (f, x) => (∀ j, j < n → k.fits (f j)) ∧ csFits n l x
theorem lenc_csC : ∀ (l : List Kd) (x : CsI l), lenc (csC l x) = lenD l
  | [], _ => rfl
  | k :: l, (f, x) => by simp [csC, lenc, lenD, lenc_csC l x]
section
variable {H : Type} {enc : TypeId × Value → H} {P : Program} {w : World} {base : Nat} {held : Bool}
theorem kd_ok (k : Kd) {c : Value} (h : CellOk enc P w base held k.ck c) : ∃ x : k.I, k.fits x ∧ (∀ σ, VR1 σ (k.v x) c) := by
  cases k with
  | int k =>
    obtain ⟨z, rfl, hw⟩ := h
    refine ⟨z, by simpa [Kd.fits, inR, Lit.wf] using hw, fun σ => ⟨.int _ _, rfl⟩⟩
  | bool =>
    obtain ⟨b, rfl⟩ := h
    exact ⟨b, trivial, fun σ => ⟨.bool _, rfl⟩⟩
  | str =>
    obtain ⟨s, rfl, hs⟩ := h
    exact ⟨s, hs, fun σ => ⟨.str _, rfl⟩⟩
theorem ck_get : ∀ (l : List Kd) {cs : List Value}, CKs (CellOk enc P w base held) (cks l) cs → ∀ (i : Nat) (k : Kd), l[i]? = some k → ∃ c, cs[i]? = some c ∧ CellOk enc P w base held k.ck c
  | [], _, _, i, k, h => by simp at h
  | q :: l, _, hc, i, k, e => by
    cases hc with
    | cons h hl =>
      cases i with
      | zero => simp only [List.getElem?_cons_zero, Option.some.injEq] at e; subst e; exact ⟨_, rfl, h⟩
      | succ i =>
        obtain ⟨c, h1, h2⟩ := ck_get l hl i k (by simpa using e)
        exact ⟨c, by simpa using h1, h2⟩
/-- The columns of a list's rows. -/
theorem cols_ok {n : Nat} {C : Nat → Nat → Value} : ∀ {l : List Kd} (i0 : Nat), (∀ j, j < n → ∀ i k, l[i]? = some k → CellOk enc P w base held k.ck (C j (i0 + i))) →
    ∃ x : CsI l, csFits n l x ∧ ∀ j, j < n → ∀ i c, nthc (csC l x) i = some c → ∀ σ, VR1 σ (colAt c j) (C j (i0 + i))
  | [], _, _ => ⟨(), trivial, fun j hj i c hc => by simp [csC, nthc] at hc⟩
  | k :: l, i0, h => by
    obtain ⟨x, h1, h2⟩ := cols_ok (n := n) (C := C) (l := l) (i0 + 1) fun j hj i k hk => by
      have := h j hj (i + 1) k (by simpa using hk)
      rwa [show i0 + 1 + i = i0 + (i + 1) by omega]
    have hc : ∀ j, ∃ y : k.I, j < n → k.fits y ∧ ∀ σ, VR1 σ (k.v y) (C j i0) := fun j => by
      by_cases hj : j < n
      · obtain ⟨y, h3, h4⟩ := kd_ok k (h j hj 0 k rfl)
        exact ⟨y, fun _ => ⟨h3, h4⟩⟩
      · exact ⟨k.dflt, fun h => absurd h hj⟩
    refine ⟨(fun j => Classical.choose (hc j), x), ⟨fun j hj => (Classical.choose_spec (hc j) hj).1, h1⟩, fun j hj i c hcc σ => ?_⟩
    cases i with
    | zero =>
      simp only [csC, nthc, Option.some.injEq] at hcc
      subst hcc
      rw [kdcol_at]
      exact (Classical.choose_spec (hc j) hj).2 σ
    | succ i =>
      have := h2 j hj i c hcc σ
      rwa [show i0 + 1 + i = i0 + (i + 1) by omega] at this
end

/-- What a cell of an argument holds, all in all. -/
inductive AK where
  | plain (k : Kd)
  | list (ks : List Kd)
  | own (ks : List Kd)
  | cell (ks : List Kd)
  | win (ks : List Kd)
/-- Plain cells. -/
def CeI : List Kd → Type
  | [] => Unit
  | k :: l => k.I × CeI l
def ceP : (l : List Kd) → CeI l → List PV
  | [], _ => []
  | k :: l, (x, y) => k.v x :: ceP l y
def AK.I : AK → Type
  | .plain k => k.I
  | .list ks => Nat × CsI ks
  | .own ks => Nat × CsI ks
  | .cell ks => CeI ks
  | .win ks => Nat × CsI ks
def AK.pv : (a : AK) → a.I → Nat → PV
  | .plain k, x, _ => k.v x
  | .list ks, (n, _), nm => .loose ⟨nm, lenD ks, 0, 0⟩ n
  | .own ks, (n, _), nm => .own nm (lenD ks) n
  | .cell ks, _, nm => .ptr ⟨nm, 0, 0, 0⟩
  | .win ks, (n, _), nm => .loose ⟨nm, lenD ks, 0, 0⟩ n
def AK.next : AK → Nat → Nat
  | .plain _, n => n
  | .list _, n => n + 1
  | .own _, n => n + 1
  | .cell _, n => n + 1
  | .win _, n => n + 1
def AK.fits : (a : AK) → a.I → Prop
  | .plain k, x => k.fits x
  | .list ks, (n, c) => n ≤ maxLen ∧ csFits n ks c
  | .own ks, (n, c) => n ≤ maxLen ∧ csFits n ks c
  | .cell _, _ => True
  | .win ks, (n, c) => n ≤ maxLen ∧ csFits n ks c
def AK.lvl : (a : AK) → a.I → Nat → Lvl
  | .plain _, _, _ => []
  | .list ks, (n, c), nm => [(nm, (false, .cols n (csC ks c)))]
  | .own ks, (n, c), nm => [(nm, (true, .cols n (csC ks c)))]
  | .cell ks, x, nm => [(nm, (false, .cells (ceP ks x)))]
  | .win ks, (n, c), nm => [(nm, (true, .cols n (csC ks c)))]
def AsI : List AK → Type
  | [] => Unit
  | a :: l => a.I × AsI l
def asPV : (l : List AK) → AsI l → Nat → List PV
  | [], _, _ => []
  | a :: l, (x, y), nm => a.pv x nm :: asPV l y (a.next nm)
def asNext : List AK → Nat → Nat
  | [], n => n
  | a :: l, n => asNext l (a.next n)
def asFits : (l : List AK) → AsI l → Prop
  | [], _ => True
  | a :: l, (x, y) => a.fits x ∧ asFits l y
def asLvl : (l : List AK) → AsI l → Nat → Lvl
  | [], _, _ => []
  | a :: l, (x, y), nm => a.lvl x nm ++ asLvl l y (a.next nm)
section
variable (P : Program)
def kdOf : CK → Option Kd
  | .int k => some (.int k)
  | .bool => some .bool
  | .str => some .str
  | .list _ => none
def kdsOf : List CK → Option (List Kd)
  | [] => some []
  | c :: l => match kdOf c, kdsOf l with
    | some k, some m => some (k :: m)
    | _, _ => none
def akOf (n : Nat) : CK → Option AK
  | .list e => match flatOf P n e with
    | some cs => match kdsOf cs, Nat.beq (lenK cs) (P.cellsOf e), Nat.ble 1 (lenK cs) with
      | some ks, true, true => some (.list ks)
      | _, _, _ => none
    | none => none
  | c => match kdOf c with
    | some k => some (.plain k)
    | none => none
def aksOf (n : Nat) : List CK → Option (List AK)
  | [] => some []
  | c :: l => match akOf P n c, aksOf n l with
    | some k, some m => some (k :: m)
    | _, _ => none
def typeAks (n : Nat) (t : TypeId) : Option (List AK) := match flatOf P n t with
  | some cs => aksOf P n cs
  | none => none
/-- An argument's shape: one cell, or several. -/
def isAgg (t : TypeId) : Bool := match P.underlying t with
  | some (.struct _) => true
  | some (.array _ _) => true
  | _ => false
end
theorem kdOf_ck : ∀ {c : CK} {k : Kd}, kdOf c = some k → k.ck = c
  | .int _, _, h => by cases h; rfl
  | .bool, _, h => by cases h; rfl
  | .str, _, h => by cases h; rfl
  | .list _, _, h => by cases h
theorem kdsOf_ck : ∀ {l : List CK} {m : List Kd}, kdsOf l = some m → cks m = l ∧ lenD m = lenK l
  | [], _, h => by cases h; exact ⟨rfl, rfl⟩
  | c :: l, m, h => by
    simp only [kdsOf] at h
    split at h
    · rename_i k m' h1 h2
      cases h
      obtain ⟨q1, q2⟩ := kdsOf_ck h2
      exact ⟨by simp [cks, kdOf_ck h1, q1], by simp [lenD, lenK, q2]⟩
    · cases h
section
variable {H : Type} {enc : TypeId × Value → H} {P : Program} {w : World} {held : Bool}
/-- What names stand for, from one on and below another; and the blocks under these names are there. -/
structure Opn (w : World) (σ : Sg) (l : Lvl) : Prop where
  blk : ∀ p ∈ l, p.2.1 = false ∧ ∀ rb, σ p.1 = some rb → rb.blk < w.heap.size ∧ BlkR (fun _ => none) w rb p.2.2
theorem vr1_any {v : PV} {u : Value} (h : VR1 (fun _ => none) v u) (σ : Sg) : VR1 σ v u := ⟨VR.mono (fun _ _ h => by cases h) h.1, h.2⟩
theorem blkR_mono {σ τ : Sg} (m : Mono σ τ) {rb : RB} : ∀ {b : Blk}, BlkR σ w rb b → BlkR τ w rb b
  | .dead, _ => trivial
  | .cells cs, h => fun i v hi => by obtain ⟨u, h1, h2⟩ := h i v hi; exact ⟨u, h1, h2.mono m⟩
  | .rows st n F, h => fun j i hj hi => by obtain ⟨u, h1, h2⟩ := h j i hj hi; exact ⟨u, h1, h2.mono m⟩
  | .ints k n f, h => h
  | .cols n cs, h => fun j i c hj hi => by obtain ⟨u, h1, h2⟩ := h j i c hj hi; exact ⟨u, h1, h2.mono m⟩
theorem ak_ok {n : Nat} {ck : CK} {a : AK} (ha : akOf P n ck = some a) {c : Value} (h : CellOk enc P w 0 held ck c) (nm : Nat) :
    ∃ (x : a.I) (o : Option RB), a.fits x ∧ (∀ σ : Sg, σ nm = o → VR σ (a.pv x nm) c) ∧ ∀ p ∈ a.lvl x nm, p.1 = nm ∧ a.next nm = nm + 1 ∧ p.2.1 = false ∧ ∀ rb, o = some rb → rb.blk < w.heap.size ∧ BlkR (fun _ => none) w rb p.2.2 := by
  have plain : ∀ k : Kd, kdOf ck = some k → a = .plain k → ∃ (x : a.I) (o : Option RB), a.fits x ∧ (∀ σ : Sg, σ nm = o → VR σ (a.pv x nm) c) ∧ ∀ p ∈ a.lvl x nm, p.1 = nm ∧ a.next nm = nm + 1 ∧ p.2.1 = false ∧ ∀ rb, o = some rb → rb.blk < w.heap.size ∧ BlkR (fun _ => none) w rb p.2.2 := fun k hk e => by
    subst e
    rw [← kdOf_ck hk] at h
    obtain ⟨x, h1, h2⟩ := kd_ok k h
    exact ⟨x, none, h1, fun σ _ => (h2 σ).1, fun p hp => by cases hp⟩
  cases ck with
  | int k => simp only [akOf, kdOf, Option.some.injEq] at ha; exact plain _ rfl ha.symm
  | bool => simp only [akOf, kdOf, Option.some.injEq] at ha; exact plain _ rfl ha.symm
  | str => simp only [akOf, kdOf, Option.some.injEq] at ha; exact plain _ rfl ha.symm
  | list e =>
    simp only [akOf] at ha
    split at ha
    · rename_i cs hcs
      split at ha
      · rename_i ks hk hc h1'
        cases ha
        obtain ⟨q1, q2⟩ := kdsOf_ck hk
        have hm : lenD ks = P.cellsOf e := by rw [q2]; exact Nat.eq_of_beq_eq_true hc
        have hm0 : 0 < lenD ks := by rw [q2]; exact Nat.le_of_ble_eq_true h1'
        obtain ⟨t, fuel, x, hu, ht⟩ := h
        have lenks : ∀ l : List Kd, lenD l = l.length := fun l => by
          induction l with
          | nil => rfl
          | cons a l ih => simp [lenD, ih]
        obtain ⟨k0, hk0⟩ : ∃ k0, ks[0]? = some k0 := ⟨_, List.getElem?_eq_getElem (by rw [← lenks]; exact hm0)⟩
        have nilcase : ∀ (A : Option Addr) (cap : Nat), c = .slice A 0 cap → ∃ (x : (AK.list ks).I) (o : Option RB), (AK.list ks).fits x ∧ (∀ σ : Sg, σ nm = o → VR σ ((AK.list ks).pv x nm) c) ∧ ∀ p ∈ (AK.list ks).lvl x nm, p.1 = nm ∧ (AK.list ks).next nm = nm + 1 ∧ p.2.1 = false ∧ ∀ rb, o = some rb → rb.blk < w.heap.size ∧ BlkR (fun _ => none) w rb p.2.2 := fun A cap e => by
          obtain ⟨x, hx, _⟩ := cols_ok (enc := enc) (P := P) (w := w) (base := 0) (held := held) (n := 0) (C := fun _ _ => default) (l := ks) 0 (fun j hj => by omega)
          refine ⟨(0, x), none, ⟨Nat.zero_le _, hx⟩, fun σ _ => by subst e; exact .loose _ 0 _ _ (Nat.zero_le _) (fun h => by omega), fun p hp => ?_⟩
          simp only [AK.lvl, List.mem_singleton] at hp
          subst hp
          exact ⟨rfl, rfl, rfl, fun rb h => by cases h⟩
        rcases Go.Deep.open_slice hu ht with ⟨h0, _⟩ | ⟨a, len, cap, k, m, Dd, Pl, hcs', hb, hl, hcap, hk, _, hi⟩
        · have e0 : c = .slice none 0 0 := by simpa using h0
          exact nilcase _ _ e0
        · have e0 : c = .slice (some a) len cap := by simpa using hcs'
          simp only [if_true] at hk
          by_cases hz : len = 0
          · subst hz; exact nilcase _ _ e0
          have key : ∀ j, j < len → ∃ cs', CKs (CellOk enc P w 0 held) (cks ks) cs' ∧ cs'.length = lenD ks ∧ ∀ i, i < lenD ks → w.cell? (a.add (j * lenD ks + i)) = cs'[i]? := fun j hj => by
            obtain ⟨cs', hc', ht'⟩ := hi j (by omega)
            rw [← hm] at hc'
            obtain ⟨_, hcl, hat⟩ := World.cells?_some hc'
            refine ⟨cs', by rw [q1]; exact flat_ok hcs ht', hcl, fun i hi' => ?_⟩
            have := hat i hi'
            rwa [Go.Deep.add_add] at this
          have cell : ∀ j, j < len → ∀ i k, ks[i]? = some k → ∃ c, w.cell? (a.add (j * lenD ks + i)) = some c ∧ CellOk enc P w 0 held k.ck c := fun j hj i k hk => by
            obtain ⟨cs', h1, h2, h3⟩ := key j hj
            obtain ⟨c, h4, h5⟩ := ck_get _ h1 i k hk
            have : i < cs'.length := (List.getElem?_eq_some_iff.1 h4).1
            exact ⟨c, by rw [h3 i (by omega), h4], h5⟩
          obtain ⟨b, off, spot⟩ := a
          have hspot : spot = none := by
            obtain ⟨c, hc, _⟩ := cell 0 (by omega) 0 k0 hk0
            simp [Addr.add] at hc
            exact World.cell?_spot hc
          subst hspot
          have hadd : ∀ k, (⟨b, off, none⟩ : Addr).add k = ⟨b, off + k, none⟩ := fun k => by unfold Addr.add; split <;> simp_all
          have hbz : b < w.heap.size := by
            obtain ⟨c, hc, _⟩ := cell 0 (by omega) 0 k0 hk0
            have := World.block_lt_of_cell? w _ hc
            rwa [hadd] at this
          obtain ⟨x, h1, h2⟩ := cols_ok (enc := enc) (P := P) (w := w) (base := 0) (held := held) (n := len) (C := fun j i => (w.cell? ⟨b, off + (j * lenD ks + i), none⟩).getD default) (l := ks) 0 (fun j hj i k hk => by
            obtain ⟨c, h3, h4⟩ := cell j hj i k hk
            rw [hadd] at h3
            simpa [h3] using h4)
          refine ⟨(len, x), some ⟨b, off, 0⟩, ⟨Nat.le_trans hl hcap, h1⟩, fun σ hσ => ?_, fun p hp => ?_⟩
          · subst e0
            exact .loose _ _ _ _ hl fun _ => ⟨_, hσ, by simp [PA.at, pos_eq]⟩
          · simp only [AK.lvl, List.mem_singleton] at hp
            subst hp
            refine ⟨rfl, rfl, rfl, fun rb hrb => ?_⟩
            cases hrb
            refine ⟨hbz, fun j i c hj hi => ?_⟩
            have hil := nthc_lt hi
            rw [lenc_csC] at hil
            obtain ⟨ki, hki⟩ : ∃ ki, ks[i]? = some ki := ⟨_, List.getElem?_eq_getElem (by rw [← lenks]; exact hil)⟩
            obtain ⟨y, h3, _⟩ := cell j hj i ki hki
            rw [hadd] at h3
            have := h2 j hj i c hi (fun _ => none)
            rw [Nat.zero_add, h3] at this
            rw [lenc_csC]
            exact ⟨y, h3, this⟩
      · cases ha
    · cases ha
/-- Names from lo on. -/
def Opd (w : World) (l : Lvl) (lo hi : Nat) (σ : Nat → Option RB) : Prop := lo ≤ hi ∧ ∀ p ∈ l, lo ≤ p.1 ∧ p.1 < hi ∧ p.2.1 = false ∧ ∀ rb, σ p.1 = some rb → rb.blk < w.heap.size ∧ BlkR (fun _ => none) w rb p.2.2
theorem next_le (a : AK) (n : Nat) : n ≤ a.next n := by cases a <;> simp [AK.next]
theorem asNext_le : ∀ (l : List AK) (n : Nat), n ≤ asNext l n
  | [], n => Nat.le_refl _
  | a :: l, n => Nat.le_trans (next_le a n) (asNext_le l _)
theorem as_ok {n : Nat} : ∀ {cks : List CK} {al : List AK} {cs : List Value}, aksOf P n cks = some al → CKs (CellOk enc P w 0 held) cks cs → ∀ nm, ∃ (x : AsI al) (ρ : Nat → Option RB), asFits al x ∧
    (∀ σ : Sg, (∀ k, nm ≤ k → k < asNext al nm → σ k = ρ k) → VRs σ (asPV al x nm) cs) ∧ Opd w (asLvl al x nm) nm (asNext al nm) ρ
  | [], al, cs, h, hc, nm => by
    cases h
    cases hc
    exact ⟨(), fun _ => none, trivial, fun σ _ => .nil, Nat.le_refl _, fun p hp => by cases hp⟩
  | ck :: l, al, cs, h, hc, nm => by
    simp only [aksOf] at h
    split at h
    · rename_i a m h1 h2
      cases h
      cases hc with
      | cons hcell hl =>
        obtain ⟨x, o, a1, a2, a3⟩ := ak_ok h1 hcell nm
        obtain ⟨y, ρ, b1, b2, b3, b4⟩ := as_ok h2 hl (a.next nm)
        have hle := next_le a nm
        have hle2 := asNext_le m (a.next nm)
        refine ⟨(x, y), fun k => if k < a.next nm then o else ρ k, ⟨a1, b1⟩, fun σ hσ => .cons _ _ _ _ ?_ (b2 σ fun k h3 h4 => ?_), Nat.le_trans hle hle2, fun p hp => ?_⟩
        · by_cases hn : a.next nm = nm
          · cases a with
            | plain k =>
              have e : ∀ σ : Sg, VR (fun q => if q = nm then o else σ q) (AK.pv (.plain k) x nm) _ := fun σ => a2 _ (by simp)
              have := e σ
              cases k <;> cases this <;> constructor
            | list ks => simp [AK.next] at hn
            | own ks => simp [AK.next] at hn
            | cell ks => simp [AK.next] at hn
            | win ks => simp [AK.next] at hn
          · exact a2 σ (by rw [hσ nm (Nat.le_refl _) (by show nm < asNext m (a.next nm); omega)]; exact if_pos (by omega))
        · rw [hσ k (by omega) h4]; exact if_neg (by omega)
        · simp only [asLvl] at hp
          rcases List.mem_append.1 hp with hp | hp
          · obtain ⟨q1, q2, q3, q4⟩ := a3 p hp
            refine ⟨by omega, by show p.1 < asNext m (a.next nm); omega, q3, fun rb hrb => q4 rb ?_⟩
            rw [← hrb]; exact (if_pos (by omega)).symm
          · obtain ⟨q1, q2, q3, q4⟩ := b4 p hp
            refine ⟨by omega, q2, q3, fun rb hrb => q4 rb ?_⟩
            rw [← hrb]; exact (if_neg (by omega)).symm
    · cases h

/-! Pointers to cells, which may be changed or not, and hold lists, too. -/
abbrev Bx := Bool × List AK
def bsI : List Bx → Type
  | [] => Unit
  | b :: l => AsI b.2 × bsI l
def bsPV : List Bx → Nat → List PV
  | [], _ => []
  | b :: l, nm => .ptr ⟨nm, 0, 0, 0⟩ :: bsPV l (asNext b.2 (nm + 1))
def bsNext : List Bx → Nat → Nat
  | [], n => n
  | b :: l, n => bsNext l (asNext b.2 (n + 1))
def bsFits : (l : List Bx) → bsI l → Prop
  | [], _ => True
  | b :: l, (x, y) => asFits b.2 x ∧ bsFits l y
def bxLvl (b : Bx) (x : AsI b.2) (nm : Nat) : Lvl := (nm, (b.1, .cells (asPV b.2 x (nm + 1)))) :: asLvl b.2 x (nm + 1)
def bsLvl : (l : List Bx) → bsI l → Nat → Lvl
  | [], _, _ => []
  | b :: l, (x, y), nm => bxLvl b x nm ++ bsLvl l y (asNext b.2 (nm + 1))
/-- Arguments: several cells together, or one alone. -/
inductive Sh where
  | one (a : AK)
  | agg (l : List AK)
  | fn (g : Nat) (l : List AK)
  | box (b : Bx)
  | sbx (b : Bx) (st m : Nat)
  | fnx (g : Nat) (l : List Bx)
def Sh.I : Sh → Type
  | .one a => a.I
  | .agg l => AsI l
  | .fn _ l => AsI l
  | .box b => AsI b.2
  | .sbx b _ _ => AsI b.2
  | .fnx _ l => bsI l
def Sh.pv : (s : Sh) → s.I → Nat → PV
  | .one a, x, nm => a.pv x nm
  | .agg l, x, nm => .agg (asPV l x nm)
  | .fn g l, x, nm => .fn (.func g) [] (asPV l x nm)
  | .box _, _, nm => .ptr ⟨nm, 0, 0, 0⟩
  | .sbx _ st m, _, nm => .loose ⟨nm, st, 0, 0⟩ m
  | .fnx g l, _, nm => .fn (.func g) [] (bsPV l nm)
def Sh.next : Sh → Nat → Nat
  | .one a, n => a.next n
  | .agg l, n => asNext l n
  | .fn _ l, n => asNext l n
  | .box b, n => asNext b.2 (n + 1)
  | .sbx b _ _, n => asNext b.2 (n + 1)
  | .fnx _ l, n => bsNext l n
def Sh.fits : (s : Sh) → s.I → Prop
  | .one a, x => a.fits x
  | .agg l, x => asFits l x
  | .fn _ l, x => asFits l x
  | .box b, x => asFits b.2 x
  | .sbx b _ _, x => asFits b.2 x
  | .fnx _ l, x => bsFits l x
def Sh.lvl : (s : Sh) → s.I → Nat → Lvl
  | .one a, x, nm => a.lvl x nm
  | .agg l, x, nm => asLvl l x nm
  | .fn _ l, x, nm => asLvl l x nm
  | .box b, x, nm => bxLvl b x nm
  | .sbx b _ _, x, nm => bxLvl b x nm
  | .fnx _ l, x, nm => bsLvl l x nm
def SsI : List Sh → Type
  | [] => Unit
  | s :: l => s.I × SsI l
def ssPV : (l : List Sh) → SsI l → Nat → List PV
  | [], _, _ => []
  | s :: l, (x, y), nm => s.pv x nm :: ssPV l y (s.next nm)
def ssNext : List Sh → Nat → Nat
  | [], n => n
  | s :: l, n => ssNext l (s.next n)
def ssFits : (l : List Sh) → SsI l → Prop
  | [], _ => True
  | s :: l, (x, y) => s.fits x ∧ ssFits l y
def ssLvl : (l : List Sh) → SsI l → Nat → Lvl
  | [], _, _ => []
  | s :: l, (x, y), nm => s.lvl x nm ++ ssLvl l y (s.next nm)
def shOf (P : Program) (n : Nat) (t : TypeId) : Option Sh := match typeAks P n t with
  | some l => match isAgg P t, l with
    | true, l => some (.agg l)
    | false, [a] => some (.one a)
    | false, _ => none
  | none => none
def shsOf (P : Program) (n : Nat) : List TypeId → Option (List Sh)
  | [] => some []
  | t :: l => match shOf P n t, shsOf P n l with
    | some s, some m => some (s :: m)
    | _, _ => none
theorem bsNext_le : ∀ (l : List Bx) (n : Nat), n ≤ bsNext l n
  | [], n => Nat.le_refl _
  | b :: l, n => Nat.le_trans (Nat.le_trans (Nat.le_succ n) (asNext_le b.2 (n + 1))) (bsNext_le l _)
theorem sh_next (s : Sh) (n : Nat) : n ≤ s.next n := by
  cases s with
  | one a => exact next_le a n
  | agg l => exact asNext_le l n
  | fn g l => exact asNext_le l n
  | box b => exact Nat.le_trans (Nat.le_succ n) (asNext_le b.2 (n + 1))
  | sbx b st m => exact Nat.le_trans (Nat.le_succ n) (asNext_le b.2 (n + 1))
  | fnx g l => exact bsNext_le l n
theorem ssNext_le : ∀ (l : List Sh) (n : Nat), n ≤ ssNext l n
  | [], n => Nat.le_refl _
  | a :: l, n => Nat.le_trans (sh_next a n) (ssNext_le l _)
theorem isAgg_agg {r : Reach} {b0 : Nat} {t : TypeId} {v : Value} (ha : isAgg P t = true) (hv : Value.okWide P w r b0 t v) : ∃ cs, v = .agg cs := by
  unfold isAgg at ha
  unfold Value.okWide at hv
  split at ha
  · rename_i hu; rw [hu] at hv; exact ⟨_, hv.choose_spec.1⟩
  · rename_i hu; rw [hu] at hv; exact ⟨_, hv.choose_spec.1⟩
  · cases ha
theorem sh_ok {n : Nat} {t : TypeId} {s : Sh} (hs : shOf P n t = some s) {r : Reach} {b0 : Nat} {v : Value} (hv : Value.okWide P w r b0 t v) {d : DataW H} {p : List MemPlace} (h : DataW.Trod enc P w 0 (fun _ => true) held t v d p) (hone : isAgg P t = false → v.cells = #[v]) (nm : Nat) :
    ∃ (x : s.I) (ρ : Nat → Option RB), s.fits x ∧ (∀ σ : Sg, (∀ k, nm ≤ k → k < s.next nm → σ k = ρ k) → VR σ (s.pv x nm) v) ∧ Opd w (s.lvl x nm) nm (s.next nm) ρ := by
  obtain ⟨fuel, hf⟩ := h
  unfold shOf typeAks at hs
  split at hs
  · rename_i l hl
    split at hl
    · rename_i cs hcs
      have hc := flat_ok hcs hf
      obtain ⟨x, ρ, h1, h2, h3⟩ := as_ok hl hc nm
      split at hs
      · rename_i l' ha
        cases hs
        obtain ⟨c, rfl⟩ := isAgg_agg ha hv
        exact ⟨x, ρ, h1, fun σ hσ => .agg _ _ (h2 σ hσ), h3⟩
      · rename_i a ha
        cases hs
        obtain ⟨x, u⟩ := x
        have hv1 := hone ha
        refine ⟨x, ρ, h1.1, fun σ hσ => ?_, by simpa [asLvl, Sh.lvl, asNext, Sh.next] using h3⟩
        have := h2 σ hσ
        rw [hv1] at this
        cases this with
        | cons _ _ _ _ h4 _ => exact h4
      · cases hs
    · cases hl
  · cases hs
theorem ss_ok {n : Nat} {r : Reach} {b0 : Nat} : ∀ {ts : List TypeId} {ss : List Sh} {vs : List Value} {ds : List (DataW H)} {ps : List MemPlace}, shsOf P n ts = some ss → DataW.TrodAll enc P w 0 (fun _ => true) held ts vs ds ps →
    (∀ (j : Nat) t v, ts[j]? = some t → vs[j]? = some v → Value.okWide P w r b0 t v ∧ (isAgg P t = false → v.cells = #[v])) → ∀ nm, ∃ (x : SsI ss) (ρ : Nat → Option RB), ssFits ss x ∧
    (∀ σ : Sg, (∀ k, nm ≤ k → k < ssNext ss nm → σ k = ρ k) → VRs σ (ssPV ss x nm) vs) ∧ Opd w (ssLvl ss x nm) nm (ssNext ss nm) ρ
  | [], ss, [], [], ps, h, hA, hv, nm => by
    cases h
    exact ⟨(), fun _ => none, trivial, fun σ _ => .nil, Nat.le_refl _, fun p hp => by cases hp⟩
  | t :: ts, ss, v :: vs, d :: ds, ps, h, hA, hv, nm => by
    obtain ⟨p, q, hT, hA, _⟩ := hA
    simp only [shsOf] at h
    split at h
    · rename_i s m h1 h2
      cases h
      obtain ⟨x, ρ1, a1, a2, a3, a4⟩ := sh_ok h1 (hv 0 t v rfl rfl).1 hT (hv 0 t v rfl rfl).2 nm
      obtain ⟨y, ρ2, b1, b2, b3, b4⟩ := ss_ok h2 hA (fun j t v e1 e2 => hv (j + 1) t v (by simpa using e1) (by simpa using e2)) (s.next nm)
      have hle := sh_next s nm
      have hle2 := ssNext_le m (s.next nm)
      refine ⟨(x, y), fun k => if k < s.next nm then ρ1 k else ρ2 k, ⟨a1, b1⟩, fun σ hσ => .cons _ _ _ _ (a2 σ fun k h3 h4 => ?_) (b2 σ fun k h3 h4 => ?_), Nat.le_trans hle hle2, fun p hp => ?_⟩
      · rw [hσ k h3 (by show k < ssNext m (s.next nm); omega)]; exact if_pos h4
      · rw [hσ k (by omega) h4]; exact if_neg (by omega)
      · simp only [ssLvl] at hp
        rcases List.mem_append.1 hp with hp | hp
        · obtain ⟨q1, q2, q3, q4⟩ := a4 p hp
          refine ⟨q1, by show p.1 < ssNext m (s.next nm); omega, q3, fun rb hrb => q4 rb ?_⟩
          rw [← hrb]; exact (if_pos (by omega)).symm
        · obtain ⟨q1, q2, q3, q4⟩ := b4 p hp
          refine ⟨by omega, q2, q3, fun rb hrb => q4 rb ?_⟩
          rw [← hrb]; exact (if_neg (by omega)).symm
    · cases h
  | [], _, _ :: _, _, _, _, hA, _, _ => hA.elim
  | [], _, [], _ :: _, _, _, hA, _, _ => hA.elim
  | _ :: _, _, [], _, _, _, hA, _, _ => hA.elim
  | _ :: _, _, _ :: _, [], _, _, hA, _, _ => hA.elim
end

/-- From a law's contract to its call. -/
theorem link {P : Program} {f : FuncId} {H : Type} {enc : TypeId × Value → H} {n : Nat} {ts : List TypeId} {ss : List Sh} {W : World} {args : Array Value} {ds : List (DataW H)} {ps : List MemPlace} {r : Reach} {b0 : Nat} (hss : shsOf P n ts = some ss)
    (hA : DataW.TrodAll enc P W 0 (fun _ => true) true ts args.toList ds ps) (hv : ∀ (j : Nat) t v, ts[j]? = some t → args[j]? = some v → Value.okWide P W r b0 t v)
    (hc : ∀ (x : SsI ss), ssFits ss x → ∃ H' fr', CallR P f (ssPV ss x 0) [ssLvl ss x 0] (ssNext ss 0) (.bool true) H' fr') : Calls P f args W fun e W' => e = .returned (.bool true) ∧ Below W.heap.size W W' := by
  obtain ⟨x, ρ, h1, h2, h3, h4⟩ := ss_ok (w := W) (r := r) (b0 := b0) hss hA (fun j t v e1 e2 => by
    have hok := hv j t v e1 (by simpa using e2)
    refine ⟨hok, fun ha => ?_⟩
    unfold isAgg at ha
    unfold Value.okWide at hok
    split at ha
    · cases ha
    · cases ha
    · rename_i u1 u2
      split at hok
      · rename_i q _ _ hq; exact absurd hq (u1 _)
      · rename_i q _ _ hq; exact absurd hq (u2 _ _)
      · unfold Cell.okWide at hok
        cases v <;> first | rfl | (exfalso; revert hok; split <;> simp_all <;> unfold Cell.ok <;> split <;> simp_all)) 0
  obtain ⟨H', fr', C⟩ := hc x h1
  let σ : Sg := fun k => if k < ssNext ss 0 then ρ k else none
  have hσ : ∀ k, k < ssNext ss 0 → σ k = ρ k := fun k hk => if_pos hk
  have hfl : ∀ n e, hget [ssLvl ss x 0] n = some e → (n, e) ∈ ssLvl ss x 0 := fun n e hn => by
    have := lget_mem (l := ssLvl ss x 0) (n := n) (e := e) (by simp only [hget] at hn; split at hn <;> simp_all)
    exact this
  have hno : ∀ n b, hget [ssLvl ss x 0] n = some (true, b) → False := fun n b hn => by
    have := (h4 _ (hfl _ _ hn)).2.2.1
    cases this
  have hsim : Sim σ W [ssLvl ss x 0] := by
    refine ⟨fun n e hn hd rb hrb => ?_, fun n m b e hn _ _ _ _ => (hno n b hn).elim⟩
    obtain ⟨q1, q2, q3, q4⟩ := h4 _ (hfl _ _ hn)
    rw [hσ n q2] at hrb
    obtain ⟨q5, q6⟩ := q4 rb hrb
    exact ⟨q5, blkR_mono (fun _ _ h => by cases h) q6, fun ht => by
      have : e.1 = false := q3
      rw [ht] at this; cases this⟩
  refine Calls.mono (C σ W args (h2 σ fun k _ hk => hσ k hk) hsim fun k hk _ => if_neg (by omega)) fun e W' he => ?_
  obtain ⟨v', σ', rfl, ho⟩ := he
  have hvt : v' = .bool true := by cases ho.v; rfl
  subst hvt
  exact ⟨rfl, ho.frm.os, ho.frm.tape, ho.frm.output, ho.frm.size, fun k hk => ho.frm.old k hk fun ⟨n, b, rb, q1, _⟩ => hno n b q1⟩
end Go.Ev
