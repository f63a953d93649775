/-
  Contracts as data: what a function answers for arguments of given shapes that are only read, with new blocks of plain columns.
-/
import Derived.Test.YtjgllldbpmmodaaEvK
namespace Go.Ev
open Go.RowKit
set_option linter.unusedSimpArgs false
set_option linter.unusedVariables false

/-- A list that is asked for: where it begins, how many, how many are there, and the columns. -/
def AK.J : AK → Type
  | .plain k => k.I
  | .list ks => Nat × Nat × Nat × CsI ks
  | .own ks => Nat × Nat × CsI ks
  | .cell ks => CeI ks
  | .win ks => Nat × Nat × Nat × CsI ks
def AK.pj : (a : AK) → a.J → Nat → PV
  | .plain k, x, _ => k.v x
  | .list ks, (ix, n, _, _), nm => .loose ⟨nm, lenD ks, ix, 0⟩ n
  | .own ks, (n, _, _), nm => .own nm (lenD ks) n
  | .cell ks, _, nm => .ptr ⟨nm, 0, 0, 0⟩
  | .win ks, (ix, n, _, _), nm => .loose ⟨nm, lenD ks, ix, 0⟩ n
def AK.lj : (a : AK) → a.J → Nat → Lvl
  | .plain _, _, _ => []
  | .list ks, (_, _, m, c), nm => [(nm, (false, .cols m (csC ks c)))]
  | .own ks, (n, _, c), nm => [(nm, (true, .cols n (csC ks c)))]
  | .cell ks, x, nm => [(nm, (false, .cells (ceP ks x)))]
  | .win ks, (_, _, m, c), nm => [(nm, (true, .cols m (csC ks c)))]
/-- The names of lists that are given away. -/
def AK.o : AK → Nat → List Nat
  | .own _, nm => [nm]
  | .win _, nm => [nm]
  | _, _ => []
/-- As they are behind the call. -/
def AK.lo' : (a : AK) → a.J → (Nat → Blk) → Nat → Lvl
  | .own _, _, g, nm => [(nm, (true, g nm))]
  | .win _, _, g, nm => [(nm, (true, g nm))]
  | .plain _, _, _, _ => []
  | .list ks, (_, _, m, c), _, nm => [(nm, (false, .cols m (csC ks c)))]
  | .cell ks, x, _, nm => [(nm, (false, .cells (ceP ks x)))]
def AK.le : (a : AK) → a.J → Bool
  | .own _, (n, m, _) => decide (n ≤ m)
  | _, _ => true
def AsJ : List AK → Type
  | [] => Unit
  | a :: l => a.J × AsJ l
def asPJ : (l : List AK) → AsJ l → Nat → List PV
  | [], _, _ => []
  | a :: l, (x, y), nm => a.pj x nm :: asPJ l y (a.next nm)
def asLJ : (l : List AK) → AsJ l → Nat → Lvl
  | [], _, _ => []
  | a :: l, (x, y), nm => a.lj x nm ++ asLJ l y (a.next nm)
def asO : List AK → Nat → List Nat
  | [], _ => []
  | a :: l, nm => a.o nm ++ asO l (a.next nm)
def asLO : (l : List AK) → AsJ l → (Nat → Blk) → Nat → Lvl
  | [], _, _, _ => []
  | a :: l, (x, y), g, nm => a.lo' x g nm ++ asLO l y g (a.next nm)
def asLe : (l : List AK) → AsJ l → Bool
  | [], _ => true
  | a :: l, (x, y) => a.le x && asLe l y
def bsJ : List Bx → Type
  | [] => Unit
  | b :: l => AsJ b.2 × bsJ l
def bxLJ (b : Bx) (x : AsJ b.2) (nm : Nat) : Lvl := (nm, (b.1, .cells (asPJ b.2 x (nm + 1)))) :: asLJ b.2 x (nm + 1)
def bsLJ : (l : List Bx) → bsJ l → Nat → Lvl
  | [], _, _ => []
  | b :: l, (x, y), nm => bxLJ b x nm ++ bsLJ l y (asNext b.2 (nm + 1))
def conO (w : Bool) (nm : Nat) (O : List Nat) : List Nat := match w with
  | true => nm :: O
  | false => O
def bxO (b : Bx) (nm : Nat) : List Nat := conO b.1 nm (asO b.2 (nm + 1))
def bsO : List Bx → Nat → List Nat
  | [], _ => []
  | b :: l, nm => bxO b nm ++ bsO l (asNext b.2 (nm + 1))
def conE (w : Bool) (e : Blk) (c : Blk) : Bool × Blk := match w with
  | true => (true, e)
  | false => (false, c)
def bxLO (b : Bx) (x : AsJ b.2) (g : Nat → Blk) (nm : Nat) : Lvl := (nm, conE b.1 (g nm) (.cells (asPJ b.2 x (nm + 1)))) :: asLO b.2 x g (nm + 1)
def bsLO : (l : List Bx) → bsJ l → (Nat → Blk) → Nat → Lvl
  | [], _, _, _ => []
  | b :: l, (x, y), g, nm => bxLO b x g nm ++ bsLO l y g (asNext b.2 (nm + 1))
def bsLe : (l : List Bx) → bsJ l → Bool
  | [], _ => true
  | b :: l, (x, y) => asLe b.2 x && bsLe l y
def Sh.J : Sh → Type
  | .one a => a.J
  | .agg l => AsJ l
  | .fn _ l => AsJ l
  | .box b => AsJ b.2
  | .sbx b _ _ => AsJ b.2
  | .fnx _ l => bsJ l
def Sh.pj : (s : Sh) → s.J → Nat → PV
  | .one a, x, nm => a.pj x nm
  | .agg l, x, nm => .agg (asPJ l x nm)
  | .fn g l, x, nm => .fn (.func g) [] (asPJ l x nm)
  | .box _, _, nm => .ptr ⟨nm, 0, 0, 0⟩
  | .sbx _ st m, _, nm => .loose ⟨nm, st, 0, 0⟩ m
  | .fnx g l, _, nm => .fn (.func g) [] (bsPV l nm)
def Sh.lj : (s : Sh) → s.J → Nat → Lvl
  | .one a, x, nm => a.lj x nm
  | .agg l, x, nm => asLJ l x nm
  | .fn _ l, x, nm => asLJ l x nm
  | .box b, x, nm => bxLJ b x nm
  | .sbx b _ _, x, nm => bxLJ b x nm
  | .fnx _ l, x, nm => bsLJ l x nm
def Sh.o : Sh → Nat → List Nat
  | .one a, nm => a.o nm
  | .agg l, nm => asO l nm
  | .fn _ l, nm => asO l nm
  | .box b, nm => bxO b nm
  | .sbx b _ _, nm => bxO b nm
  | .fnx _ l, nm => bsO l nm
def Sh.lo' : (s : Sh) → s.J → (Nat → Blk) → Nat → Lvl
  | .one a, x, g, nm => a.lo' x g nm
  | .agg l, x, g, nm => asLO l x g nm
  | .fn _ l, x, g, nm => asLO l x g nm
  | .box b, x, g, nm => bxLO b x g nm
  | .sbx b _ _, x, g, nm => bxLO b x g nm
  | .fnx _ l, x, g, nm => bsLO l x g nm
def Sh.le : (s : Sh) → s.J → Bool
  | .one a, x => a.le x
  | .agg l, x => asLe l x
  | .fn _ l, x => asLe l x
  | .box b, x => asLe b.2 x
  | .sbx b _ _, x => asLe b.2 x
  | .fnx _ l, x => bsLe l x
def SsJ : List Sh → Type
  | [] => Unit
  | s :: l => s.J × SsJ l
def ssPJ : (l : List Sh) → SsJ l → Nat → List PV
  | [], _, _ => []
  | s :: l, (x, y), nm => s.pj x nm :: ssPJ l y (s.next nm)
def ssLJ : (l : List Sh) → SsJ l → Nat → Lvl
  | [], _, _ => []
  | s :: l, (x, y), nm => s.lj x nm ++ ssLJ l y (s.next nm)
def ssO : List Sh → Nat → List Nat
  | [], _ => []
  | s :: l, nm => s.o nm ++ ssO l (s.next nm)
def ssLO : (l : List Sh) → SsJ l → (Nat → Blk) → Nat → Lvl
  | [], _, _, _ => []
  | s :: l, (x, y), g, nm => s.lo' x g nm ++ ssLO l y g (s.next nm)
def ssLe : (l : List Sh) → SsJ l → Bool
  | [], _ => true
  | s :: l, (x, y) => s.le x && ssLe l y

/-! How arguments are read in a run. -/
def rdK : (k : Kd) → PV → Option k.I
  | .int k, .int k' z => match keq k k' with
    | true => some z
    | false => none
  | .bool, .bool b => some b
  | .bool, .tf b => some b
  | .str, .str s => some s
  | _, _ => none
def rdC : (k : Kd) → Col → Option (Nat → k.I)
  | .int k, .int k' f => match keq k k' with
    | true => some f
    | false => none
  | .bool, .bool f => some f
  | .str, .str f => some f
  | _, _ => none
def rdCs : (l : List Kd) → List Col → Option (CsI l)
  | [], [] => some ()
  | k :: l, c :: cs => match rdC k c, rdCs l cs with
    | some f, some x => some (f, x)
    | _, _ => none
  | _, _ => none
def csDef : (l : List Kd) → CsI l
  | [] => ()
  | k :: l => (fun _ => k.dflt, csDef l)
def len' {α : Type} : List α → Nat
  | [] => 0
  | _ :: l => len' l + 1
theorem len'_eq {α : Type} : ∀ l : List α, len' l = l.length
  | [] => rfl
  | _ :: l => by simp [len', len'_eq l]
/-- A list that is written out. -/
def S.lit {α : Type} (l : List α) (d : α) (j : Nat) : α := l.getD j d
def rdRow : (ks : List Kd) → List PV → Option (CeI ks × List PV)
  | [], l => some ((), l)
  | k :: ks, v :: l => match rdK k v, rdRow ks l with
    | some x, some (y, r) => some ((x, y), r)
    | _, _ => none
  | _ :: _, [] => none
def rdRows (ks : List Kd) : Nat → List PV → Option (List (CeI ks))
  | 0, [] => some []
  | 0, _ :: _ => none
  | n + 1, l => match rdRow ks l with
    | some (x, r) => match rdRows ks n r with
      | some xs => some (x :: xs)
      | none => none
    | none => none
def colsRows : (ks : List Kd) → List (CeI ks) → CsI ks
  | [], _ => ()
  | k :: ks, rows => (fun j => S.lit (rows.map (·.1)) k.dflt j, colsRows ks (rows.map (·.2)))
def divN : Nat → Nat → Nat → Nat
  | 0, _, _ => 0
  | f + 1, a, b => match Nat.ble b a with
    | true => divN f (a - b) b + 1
    | false => 0
def rdL (H : Heap) (ks : List Kd) (a : PA) (n : Nat) : Option ((Nat × Nat × Nat × CsI ks) × List Nat) := match Nat.beq a.st (lenD ks), Nat.beq a.off 0, hget H a.nm with
  | true, true, some (_, .cols m cs) => match rdCs ks cs with
    | some c => some ((a.ix, n, m, c), [a.nm])
    | none => none
  | true, true, some (_, .cells cs) => match Nat.beq a.ix 0, rdRows ks (divN (len cs) (len cs) (lenD ks)) cs with
    | true, some rows => some ((0, n, len' rows, colsRows ks rows), [a.nm])
    | _, _ => none
  | _, _, _ => none
/-- A list that is given away. -/
def rdO (H : Heap) (ks : List Kd) (nm st n : Nat) : Option ((Nat × Nat × CsI ks) × List Nat) := match Nat.beq st (lenD ks), hget H nm with
  | true, some (true, .cols m cs) => match rdCs ks cs with
    | some c => some ((n, m, c), [nm])
    | none => none
  | _, _ => none
/-- A part of a list that may be changed. -/
def rdW (H : Heap) (ks : List Kd) (a : PA) (n : Nat) : Option ((Nat × Nat × Nat × CsI ks) × List Nat) := match Nat.beq a.st (lenD ks), Nat.beq a.off 0, hget H a.nm with
  | true, true, some (true, .cols m cs) => match rdCs ks cs with
    | some c => some ((a.ix, n, m, c), [a.nm])
    | none => none
  | _, _, _ => none
def rdOv (H : Heap) (z : Nat) (ks : List Kd) : PV → Option ((Nat × Nat × CsI ks) × List Nat)
  | .own nm st n => rdO H ks nm st n
  | .nils => some ((0, 0, csDef ks), [z])
  | .emp => some ((0, 0, csDef ks), [z])
  | _ => none
/-- Cells behind a pointer. -/
def rdE : (l : List Kd) → List PV → Option (CeI l)
  | [], [] => some ()
  | k :: l, v :: vs => match rdK k v, rdE l vs with
    | some x, some y => some (x, y)
    | _, _ => none
  | _, _ => none
def rdP (H : Heap) (ks : List Kd) : PV → Option (CeI ks × List Nat)
  | .ptr a => match Nat.beq (pos a) 0, hget H a.nm with
    | true, some (_, .cells cs) => match rdE ks cs with
      | some x => some (x, [a.nm])
      | none => none
    | _, _ => none
  | _ => none
def rdA (H : Heap) (z : Nat) : (a : AK) → PV → Option (a.J × List Nat)
  | .own ks, v => rdOv H z ks v
  | .cell ks, v => rdP H ks v
  | .win ks, v => match spanOf v with
    | some (a, n) => rdW H ks a n
    | none => none
  | .plain k, v => match rdK k v with
    | some x => some (x, [])
    | none => none
  | .list ks, .nils => some ((0, 0, 0, csDef ks), [z])
  | .list ks, .emp => some ((0, 0, 0, csDef ks), [z])
  | .list ks, v => match spanOf v with
    | some (a, n) => rdL H ks a n
    | none => none
def rdAs (H : Heap) (z : Nat) : (l : List AK) → List PV → Option (AsJ l × List Nat)
  | [], [] => some ((), [])
  | a :: l, v :: vs => match rdA H z a v, rdAs H z l vs with
    | some (x, ns), some (y, ms) => some ((x, y), ns ++ ms)
    | _, _ => none
  | _, _ => none
def aggOf : PV → Option (List PV)
  | .agg l => some l
  | _ => none
theorem aggOf_eq {v : PV} {l : List PV} (h : aggOf v = some l) : v = .agg l := by
  cases v <;> simp only [aggOf, reduceCtorEq, Option.some.injEq] at h
  rw [h]
def fnOf' (g : Nat) : PV → Option (List PV)
  | .fn (.func f) [] b => match Nat.beq f g with
    | true => some b
    | false => none
  | _ => none
theorem fnOf'_eq {g : Nat} {v : PV} {l : List PV} (h : fnOf' g v = some l) : v = .fn (.func g) [] l := by
  unfold fnOf' at h
  split at h
  · split at h
    · rename_i hb
      cases Nat.eq_of_beq_eq_true hb
      cases h
      rfl
    · cases h
  · cases h
def ptrC (H : Heap) (wr : Bool) : PV → Option (Nat × List PV)
  | .ptr a => match Nat.beq (pos a) 0, hget H a.nm with
    | true, some (w, .cells cs) => match wr, w with
      | true, false => none
      | _, _ => some (a.nm, cs)
    | _, _ => none
  | _ => none
def rdBx (H : Heap) (z : Nat) (b : Bx) (v : PV) : Option (AsJ b.2 × List Nat) := match ptrC H b.1 v with
  | some (n, cs) => match rdAs H z b.2 cs with
    | some (x, ns) => some (x, n :: ns)
    | none => none
  | none => none
/-- Cells behind a slice. -/
def slA : PV → Option (PA × Nat)
  | .sl a n => some (a, n)
  | .loose a n => some (a, n)
  | _ => none
theorem rn_slA {r : Mp} {v : PV} {a b : PA} {n m : Nat} (h : slA v = some (b, m)) (hu : r.use a.nm) (hn : b.nm = r.nm a.nm) (hp : pos a = pos b) (hm : n = m) : Rn r (.loose a n) v := by
  cases v <;> simp only [slA, reduceCtorEq, Option.some.injEq, Prod.mk.injEq] at h
  · obtain ⟨rfl, rfl⟩ := h; exact rn_loose hu hn hp hm
  · obtain ⟨rfl, rfl⟩ := h; exact rn_loose_sl hu hn hp hm
def slC (H : Heap) (wr : Bool) (st m : Nat) (v : PV) : Option (Nat × List PV) := match slA v with
  | some (a, n) => match Nat.beq a.st st, Nat.beq n m, Nat.beq (pos a) 0, hget H a.nm with
    | true, true, true, some (w, .cells cs) => match wr, w with
      | true, false => none
      | _, _ => some (a.nm, cs)
    | _, _, _, _ => none
  | none => none
def rdSb (H : Heap) (z : Nat) (b : Bx) (st m : Nat) (v : PV) : Option (AsJ b.2 × List Nat) := match slC H b.1 st m v with
  | some (n, cs) => match rdAs H z b.2 cs with
    | some (x, ns) => some (x, n :: ns)
    | none => none
  | none => none
def rdBs (H : Heap) (z : Nat) : (l : List Bx) → List PV → Option (bsJ l × List Nat)
  | [], [] => some ((), [])
  | b :: l, v :: vs => match rdBx H z b v, rdBs H z l vs with
    | some (x, ns), some (y, ms) => some ((x, y), ns ++ ms)
    | _, _ => none
  | _, _ => none
def rdS (H : Heap) (z : Nat) : (s : Sh) → PV → Option (s.J × List Nat)
  | .box b, v => rdBx H z b v
  | .sbx b st m, v => rdSb H z b st m v
  | .fnx g l, v => match fnOf' g v with
    | some vs => rdBs H z l vs
    | none => none
  | .fn g l, v => match fnOf' g v with
    | some vs => rdAs H z l vs
    | none => none
  | .one a, v => rdA H z a v
  | .agg l, v => match aggOf v with
    | some vs => rdAs H z l vs
    | none => none
def rdSs (H : Heap) (z : Nat) : (l : List Sh) → List PV → Option (SsJ l × List Nat)
  | [], [] => some ((), [])
  | s :: l, v :: vs => match rdS H z s v, rdSs H z l vs with
    | some (x, ns), some (y, ms) => some ((x, y), ns ++ ms)
    | _, _ => none
  | _, _ => none

section
variable {r : Mp}
def Rd (r : Mp) (ns : List Nat) (nm : Nat) : Prop := ∀ i k, ns[i]? = some k → r.use (nm + i) ∧ r.nm (nm + i) = k
theorem Rd.left {ns ms : List Nat} {nm : Nat} (h : Rd r (ns ++ ms) nm) : Rd r ns nm := fun i k hi => h i k (by rw [List.getElem?_append_left (List.getElem?_eq_some_iff.1 hi).1]; exact hi)
theorem Rd.right {ns ms : List Nat} {nm : Nat} (h : Rd r (ns ++ ms) nm) : Rd r ms (nm + ns.length) := fun i k hi => by
  have := h (ns.length + i) k (by rw [List.getElem?_append_right (by omega)]; simpa using hi)
  rwa [← Nat.add_assoc] at this
theorem rdK_ok : ∀ {k : Kd} {v : PV} {x : k.I}, rdK k v = some x → Rn r (k.v x) v := by
  intro k v x h
  cases k <;> cases v <;> simp only [rdK, reduceCtorEq] at h
  · split at h
    · rename_i hk; cases keq_eq hk; cases h; exact rn_int rfl
    · cases h
  · cases h; exact rn_bool rfl
  · cases h; exact rn_bool_tf rfl
  · cases h; exact rn_str rfl
theorem rdC_ok {n : Nat} : ∀ {k : Kd} {c : Col} {f : Nat → k.I}, rdC k c = some f → ∀ j, j < n → Rn r (colAt (k.col f) j) (colAt c j) := by
  intro k c f h j _
  cases k <;> cases c <;> simp only [rdC, reduceCtorEq] at h
  · split at h
    · rename_i hk; cases keq_eq hk; cases h; exact rn_int rfl
    · cases h
  · cases h; exact rn_bool rfl
  · cases h; exact rn_str rfl
theorem rdCs_ok {n : Nat} : ∀ {l : List Kd} {cs : List Col} {x : CsI l}, rdCs l cs = some x → Rcs r n (csC l x) cs
  | [], [], x, _ => trivial
  | k :: l, c :: cs, x, h => by
    simp only [rdCs] at h
    split at h
    · rename_i f y h1 h2
      cases h
      exact ⟨rdC_ok h1, rdCs_ok h2⟩
    · cases h
  | [], _ :: _, _, h => by cases h
  | _ :: _, [], _, h => by cases h
theorem entl_append {fresh : Nat → Prop} {H' : Heap} : ∀ {l m : Lvl}, EntL r fresh H' l → EntL r fresh H' m → EntL r fresh H' (l ++ m)
  | [], m, _, h => h
  | (n, b, blk) :: l, m, h, k => ⟨h.1, entl_append h.2 k⟩
end
theorem allB_append : ∀ {l m : Lvl}, allB l = true → allB m = true → allB (l ++ m) = true
  | [], m, _, h => h
  | (n, b, e) :: l, m, h, k => by
    cases b with
    | true => cases h
    | false => exact allB_append (l := l) h k
/-- What reading yields. -/
structure RdOk (H : Heap) (z : Nat) (pv : Nat → List PV) (lv : Nat → Lvl) (next : Nat → Nat) (o : Nat → List Nat) (le : Bool) (vs : List PV) (ns : List Nat) : Prop where
  next : ∀ nm, next nm = nm + ns.length
  lt : ∀ k ∈ ns, k = z ∨ ∃ e, hget H k = some e
  own : ∀ nm, ∀ p ∈ lv nm, (nm ≤ p.1 ∧ p.1 < nm + ns.length) ∧ (p.2.1 = true → p.1 ∈ o nm)
  ok : le = true → ∀ (r : Mp) (fresh : Nat → Prop) nm, fresh z → Rd r ns nm → Rns r (pv nm) vs ∧ EntL r fresh H (lv nm)
theorem rdRow_ok {r : Mp} : ∀ {ks : List Kd} {l rest : List PV} {x : CeI ks}, rdRow ks l = some (x, rest) → ∃ a, l = a ++ rest ∧ a.length = lenD ks ∧ Rns r (ceP ks x) a
  | [], l, rest, x, h => by simp only [rdRow, Option.some.injEq] at h; cases h; exact ⟨[], rfl, rfl, trivial⟩
  | k :: ks, [], rest, x, h => by cases h
  | k :: ks, v :: l, rest, x, h => by
    simp only [rdRow] at h
    split at h
    · rename_i y z r' h1 h2
      simp only [Option.some.injEq, Prod.mk.injEq] at h
      obtain ⟨rfl, rfl⟩ := h
      obtain ⟨a, e1, e2, e3⟩ := rdRow_ok h2
      exact ⟨v :: a, by rw [e1]; rfl, by simp [lenD, e2], rdK_ok h1, e3⟩
    · cases h
theorem nth_app : ∀ {a b : List PV} {i : Nat}, nth (a ++ b) i = if i < a.length then nth a i else nth b (i - a.length)
  | [], b, i => by simp
  | v :: a, b, 0 => by simp [nth]
  | v :: a, b, i + 1 => by
    have := nth_app (a := a) (b := b) (i := i)
    simp only [List.cons_append, nth, List.length_cons, Nat.add_lt_add_iff_right, Nat.add_sub_add_right]
    exact this
theorem rdRows_ok {r : Mp} {ks : List Kd} : ∀ {n : Nat} {l : List PV} {rows : List (CeI ks)}, rdRows ks n l = some rows → ∀ j row, rows[j]? = some row → ∀ i v, nth (ceP ks row) i = some v → i < lenD ks → ∃ v', nth l (j * lenD ks + i) = some v' ∧ Rn r v v'
  | 0, [], rows, h, j, row, hj => by simp only [rdRows, Option.some.injEq] at h; subst h; simp at hj
  | 0, _ :: _, rows, h, j, row, hj => by cases h
  | n + 1, l, rows, h, j, row, hj => by
    intro i v hi hl
    simp only [rdRows] at h
    split at h
    · rename_i x rest h1
      split at h
      · rename_i xs h2
        simp only [Option.some.injEq] at h
        subst h
        obtain ⟨a, e1, e2, e3⟩ := rdRow_ok (r := r) h1
        subst e1
        cases j with
        | zero =>
          simp only [List.getElem?_cons_zero, Option.some.injEq] at hj
          subst hj
          obtain ⟨v', q1, q2⟩ := e3.nth i v hi
          exact ⟨v', by rw [Nat.zero_mul, Nat.zero_add, nth_app, if_pos (by omega)]; exact q1, q2⟩
        | succ j =>
          obtain ⟨v', q1, q2⟩ := rdRows_ok h2 j row (by simpa using hj) i v hi hl
          refine ⟨v', ?_, q2⟩
          rw [nth_app, Nat.succ_mul, if_neg (by omega), e2, show j * lenD ks + lenD ks + i - lenD ks = j * lenD ks + i by omega]
          exact q1
      · cases h
    · cases h
theorem colsRows_at : ∀ {ks : List Kd} {rows : List (CeI ks)} {j : Nat} {row : CeI ks}, rows[j]? = some row → ∀ i, i < lenD ks → nth (ceP ks row) i = some (colsAt (csC ks (colsRows ks rows)) j i)
  | [], rows, j, row, _, i, hi => by simp [lenD] at hi
  | k :: ks, rows, j, row, h, 0, hi => by
    simp only [colsAt, csC, colsRows, nthc, kdcol_at]
    show some (k.v row.1) = _
    congr 2
    simp [S.lit, List.getD, h]
  | k :: ks, rows, j, row, h, i + 1, hi => by
    have := colsRows_at (ks := ks) (rows := rows.map (·.2)) (j := j) (row := row.2) (by simp [h]) i (by simpa [lenD] using hi)
    simp only [colsAt, csC, colsRows, nthc]
    simp only [colsAt] at this
    exact this
theorem rdL_ok {H : Heap} {z : Nat} {ks : List Kd} {a : PA} {n : Nat} {v : PV} (hsp : spanOf v = some (a, n)) {x : Nat × Nat × Nat × CsI ks} {ns : List Nat} (h : rdL H ks a n = some (x, ns)) : RdOk H z (fun nm => [AK.pj (.list ks) x nm]) (AK.lj (.list ks) x) (AK.next (.list ks)) (AK.o (.list ks)) true [v] ns := by
  unfold rdL at h
  split at h
  · rename_i b m cs h1 h2 hh
    split at h
    · rename_i c hc
      simp only [Option.some.injEq, Prod.mk.injEq] at h
      obtain ⟨rfl, rfl⟩ := h
      have e1 := Nat.eq_of_beq_eq_true h1
      have e2 := Nat.eq_of_beq_eq_true h2
      refine ⟨fun nm => rfl, fun k hk => .inr ⟨_, by simp at hk; subst hk; exact hh⟩, fun nm p hp => by simp only [AK.lj, List.mem_singleton] at hp; subst hp; exact ⟨⟨Nat.le_refl _, Nat.lt_succ_self _⟩, fun h => by cases h⟩, fun _ r fresh nm hz hr => ?_⟩
      obtain ⟨hu, hn⟩ := hr 0 a.nm rfl
      refine ⟨⟨?_, trivial⟩, ⟨.inr ⟨hu, .inl ⟨_, _, by rw [show r.nm nm = a.nm from hn]; exact hh, by simp, by simp, rb_cols (Nat.le_refl _) (rdCs_ok hc)⟩⟩, trivial⟩⟩
      have hp : pos ⟨nm, lenD ks, a.ix, 0⟩ = pos a := by rw [pos_eq, pos_eq, e1, e2]
      unfold spanOf at hsp
      split at hsp <;> simp only [Option.some.injEq, Prod.mk.injEq, reduceCtorEq] at hsp
      · obtain ⟨rfl, rfl⟩ := hsp; exact rn_loose hu hn.symm hp rfl
      · obtain ⟨rfl, rfl⟩ := hsp; exact rn_loose_sl hu hn.symm hp rfl
      · obtain ⟨rfl, rfl⟩ := hsp
        simp only at e1 hn
        subst e1
        exact rn_own_loose (a := ⟨nm, lenD ks, 0, 0⟩) hu hn.symm (by simp [pos_eq]) rfl
    · cases h
  · rename_i b cs h1 h2 hh
    split at h
    · rename_i rows h3 hc
      simp only [Option.some.injEq, Prod.mk.injEq] at h
      obtain ⟨rfl, rfl⟩ := h
      have e1 := Nat.eq_of_beq_eq_true h1
      have e2 := Nat.eq_of_beq_eq_true h2
      have e3 := Nat.eq_of_beq_eq_true h3
      refine ⟨fun nm => rfl, fun k hk => .inr ⟨_, by simp at hk; subst hk; exact hh⟩, fun nm p hp => by simp only [AK.lj, List.mem_singleton] at hp; subst hp; exact ⟨⟨Nat.le_refl _, Nat.lt_succ_self _⟩, fun h => by cases h⟩, fun _ r fresh nm hz hr => ?_⟩
      obtain ⟨hu, hn⟩ := hr 0 a.nm rfl
      refine ⟨⟨?_, trivial⟩, ⟨.inr ⟨hu, .inl ⟨_, _, by rw [show r.nm nm = a.nm from hn]; exact hh, by simp, by simp, rb_cells_cols fun j i hj hi => ?_⟩⟩, trivial⟩⟩
      · have hp : pos ⟨nm, lenD ks, 0, 0⟩ = pos a := by rw [pos_eq, pos_eq, e1, e2, e3]
        unfold spanOf at hsp
        split at hsp <;> simp only [Option.some.injEq, Prod.mk.injEq, reduceCtorEq] at hsp
        · obtain ⟨rfl, rfl⟩ := hsp; exact rn_loose hu hn.symm hp rfl
        · obtain ⟨rfl, rfl⟩ := hsp; exact rn_loose_sl hu hn.symm hp rfl
        · obtain ⟨rfl, rfl⟩ := hsp
          simp only at e1 hn
          subst e1
          exact rn_own_loose (a := ⟨nm, lenD ks, 0, 0⟩) hu hn.symm (by simp [pos_eq]) rfl
      · rw [lenc_csC] at hi ⊢
        rw [len'_eq] at hj
        have hr := List.getElem?_eq_getElem hj
        obtain ⟨v', q1, q2⟩ := rdRows_ok (r := r) hc j _ hr i _ (colsRows_at hr i hi) hi
        exact ⟨v', q1, q2⟩
    · cases h
  · cases h
theorem rn_loose_emp {r : Mp} {a : PA} : Rn r (.loose a 0) .emp := fun σ τ u _ hu => by cases hu; exact .loose a 0 _ 0 (Nat.le_refl _) (fun h => by omega)
theorem rdE_ok {r : Mp} : ∀ {l : List Kd} {vs : List PV} {x : CeI l}, rdE l vs = some x → Rns r (ceP l x) vs
  | [], [], x, _ => trivial
  | k :: l, v :: vs, x, h => by
    simp only [rdE] at h
    split at h
    · rename_i f y h1 h2
      cases h
      exact ⟨rdK_ok h1, rdE_ok h2⟩
    · cases h
  | [], _ :: _, _, h => by cases h
  | _ :: _, [], _, h => by cases h
theorem rdOv_ok {H : Heap} {z : Nat} {ks : List Kd} {v : PV} {x : Nat × Nat × CsI ks} {ns : List Nat} (h : rdOv H z ks v = some (x, ns)) : RdOk H z (fun nm => [AK.pj (.own ks) x nm]) (AK.lj (.own ks) x) (AK.next (.own ks)) (AK.o (.own ks)) (AK.le (.own ks) x) [v] ns := by
  have ow : ∀ {ns : List Nat}, ns.length = 1 → ∀ nm, ∀ p ∈ AK.lj (.own ks) x nm, (nm ≤ p.1 ∧ p.1 < nm + ns.length) ∧ (p.2.1 = true → p.1 ∈ AK.o (.own ks) nm) := fun hl nm p hp => by
    obtain ⟨n, m, c⟩ := x
    simp only [AK.lj, List.mem_singleton] at hp
    subst hp
    exact ⟨⟨Nat.le_refl _, by rw [hl]; exact Nat.lt_succ_self _⟩, fun _ => by simp [AK.o]⟩
  have nilcase : ∀ {v : PV}, (∀ r nm, Rn r (.own nm (lenD ks) 0) v) → x = (0, 0, csDef ks) → ns = [z] → RdOk H z (fun nm => [AK.pj (.own ks) x nm]) (AK.lj (.own ks) x) (AK.next (.own ks)) (AK.o (.own ks)) (AK.le (.own ks) x) [v] ns := fun hv e1 e2 => by
    subst e2
    refine ⟨fun nm => rfl, fun k hk => .inl (by simpa using hk), ow rfl, fun _ r fresh nm hz hr => ?_⟩
    subst e1
    obtain ⟨hu, hn⟩ := hr 0 z rfl
    exact ⟨⟨hv _ _, trivial⟩, ⟨.inr ⟨hu, .inr (by rw [show r.nm nm = z from hn]; exact hz)⟩, trivial⟩⟩
  cases v <;> simp only [rdOv, reduceCtorEq, Option.some.injEq, Prod.mk.injEq] at h
  · exact nilcase (fun r nm => rn_own_nils rfl) h.1.symm h.2.symm
  · exact nilcase (fun r nm => rn_own_emp rfl) h.1.symm h.2.symm
  · rename_i nm0 st n
    unfold rdO at h
    split at h
    · rename_i m cs h1 hh
      split at h
      · rename_i c hc
        simp only [Option.some.injEq, Prod.mk.injEq] at h
        obtain ⟨rfl, rfl⟩ := h
        have e1 := Nat.eq_of_beq_eq_true h1
        subst e1
        refine ⟨fun nm => rfl, fun k hk => .inr ⟨_, by simp at hk; subst hk; exact hh⟩, ow rfl, fun hle r fresh nm hz hr => ?_⟩
        obtain ⟨hu, hn⟩ := hr 0 nm0 rfl
        refine ⟨⟨rn_own hu hn.symm rfl, trivial⟩, ⟨.inr ⟨hu, .inl ⟨_, _, by rw [show r.nm nm = nm0 from hn]; exact hh, by simp, by simp, rb_cols (of_decide_eq_true hle) (rdCs_ok hc)⟩⟩, trivial⟩⟩
      · cases h
    · cases h
theorem rdP_ok {H : Heap} {z : Nat} {ks : List Kd} {v : PV} {x : CeI ks} {ns : List Nat} (h : rdP H ks v = some (x, ns)) : RdOk H z (fun nm => [AK.pj (.cell ks) x nm]) (AK.lj (.cell ks) x) (AK.next (.cell ks)) (AK.o (.cell ks)) true [v] ns := by
  cases v <;> simp only [rdP, reduceCtorEq] at h
  rename_i a
  split at h
  · rename_i b cs h1 hh
    split at h
    · rename_i y hy
      simp only [Option.some.injEq, Prod.mk.injEq] at h
      obtain ⟨rfl, rfl⟩ := h
      have e1 := Nat.eq_of_beq_eq_true h1
      refine ⟨fun nm => rfl, fun k hk => .inr ⟨_, by simp at hk; subst hk; exact hh⟩, fun nm p hp => by simp only [AK.lj, List.mem_singleton] at hp; subst hp; exact ⟨⟨Nat.le_refl _, Nat.lt_succ_self _⟩, fun h => by cases h⟩, fun _ r fresh nm hz hr => ?_⟩
      obtain ⟨hu, hn⟩ := hr 0 a.nm rfl
      exact ⟨⟨rn_ptr hu hn.symm (by rw [e1]; rfl), trivial⟩, ⟨.inr ⟨hu, .inl ⟨_, _, by rw [show r.nm nm = a.nm from hn]; exact hh, by simp, by simp, rb_cells (rdE_ok hy)⟩⟩, trivial⟩⟩
    · cases h
  · cases h
theorem rdW_ok {H : Heap} {z : Nat} {ks : List Kd} {a : PA} {n : Nat} {v : PV} (hsp : spanOf v = some (a, n)) {x : Nat × Nat × Nat × CsI ks} {ns : List Nat} (h : rdW H ks a n = some (x, ns)) : RdOk H z (fun nm => [AK.pj (.win ks) x nm]) (AK.lj (.win ks) x) (AK.next (.win ks)) (AK.o (.win ks)) true [v] ns := by
  unfold rdW at h
  split at h
  · rename_i m cs h1 h2 hh
    split at h
    · rename_i c hc
      simp only [Option.some.injEq, Prod.mk.injEq] at h
      obtain ⟨rfl, rfl⟩ := h
      have e1 := Nat.eq_of_beq_eq_true h1
      have e2 := Nat.eq_of_beq_eq_true h2
      refine ⟨fun nm => rfl, fun k hk => .inr ⟨_, by simp at hk; subst hk; exact hh⟩, fun nm p hp => by simp only [AK.lj, List.mem_singleton] at hp; subst hp; exact ⟨⟨Nat.le_refl _, Nat.lt_succ_self _⟩, fun _ => by simp [AK.o]⟩, fun _ r fresh nm hz hr => ?_⟩
      obtain ⟨hu, hn⟩ := hr 0 a.nm rfl
      refine ⟨⟨?_, trivial⟩, ⟨.inr ⟨hu, .inl ⟨_, _, by rw [show r.nm nm = a.nm from hn]; exact hh, by simp, by simp, rb_cols (Nat.le_refl _) (rdCs_ok hc)⟩⟩, trivial⟩⟩
      have hp : pos ⟨nm, lenD ks, a.ix, 0⟩ = pos a := by rw [pos_eq, pos_eq, e1, e2]
      unfold spanOf at hsp
      split at hsp <;> simp only [Option.some.injEq, Prod.mk.injEq, reduceCtorEq] at hsp
      · obtain ⟨rfl, rfl⟩ := hsp; exact rn_loose hu hn.symm hp rfl
      · obtain ⟨rfl, rfl⟩ := hsp; exact rn_loose_sl hu hn.symm hp rfl
      · obtain ⟨rfl, rfl⟩ := hsp
        simp only at e1 hn
        subst e1
        exact rn_own_loose (a := ⟨nm, lenD ks, 0, 0⟩) hu hn.symm (by simp [pos_eq]) rfl
    · cases h
  · cases h
theorem rdA_ok {H : Heap} {z : Nat} : ∀ {a : AK} {v : PV} {x : a.J} {ns : List Nat}, rdA H z a v = some (x, ns) → RdOk H z (fun nm => [a.pj x nm]) (a.lj x) a.next a.o (a.le x) [v] ns := by
  intro a v x ns h
  have nilcase : ∀ {ks : List Kd} {v : PV}, (∀ r nm, Rn r (.loose ⟨nm, lenD ks, 0, 0⟩ 0) v) → RdOk H z (fun nm => [AK.pj (.list ks) (0, 0, 0, csDef ks) nm]) (AK.lj (.list ks) (0, 0, 0, csDef ks)) (AK.next (.list ks)) (AK.o (.list ks)) true [v] [z] := fun hv =>
    ⟨fun nm => rfl, fun k hk => .inl (by simpa using hk), fun nm p hp => by simp only [AK.lj, List.mem_singleton] at hp; subst hp; exact ⟨⟨Nat.le_refl _, Nat.lt_succ_self _⟩, fun h => by cases h⟩, fun _ r fresh nm hz hr => by
      obtain ⟨hu, hn⟩ := hr 0 z rfl
      exact ⟨⟨hv _ _, trivial⟩, ⟨.inr ⟨hu, .inr (by rw [show r.nm nm = z from hn]; exact hz)⟩, trivial⟩⟩⟩
  cases a with
  | own ks => exact rdOv_ok h
  | cell ks => exact rdP_ok h
  | win ks =>
    simp only [rdA] at h
    split at h
    · rename_i hsp; exact rdW_ok hsp h
    · cases h
  | plain k =>
    simp only [rdA] at h
    split at h
    · rename_i y hy
      simp only [Option.some.injEq, Prod.mk.injEq] at h
      obtain ⟨rfl, rfl⟩ := h
      exact ⟨fun nm => rfl, fun k hk => (by cases hk), fun nm p hp => (by cases hp), fun _ r fresh nm hz hr => ⟨⟨rdK_ok hy, trivial⟩, trivial⟩⟩
    · cases h
  | list ks =>
    cases v
    case nils =>
      simp only [rdA, Option.some.injEq, Prod.mk.injEq] at h
      obtain ⟨rfl, rfl⟩ := h
      exact nilcase fun r nm => rn_loose_nils rfl
    case emp =>
      simp only [rdA, Option.some.injEq, Prod.mk.injEq] at h
      obtain ⟨rfl, rfl⟩ := h
      exact nilcase fun r nm => rn_loose_emp
    all_goals
      simp only [rdA] at h
      split at h
      · rename_i hsp; exact rdL_ok hsp h
      · cases h
theorem rdAs_ok {H : Heap} {z : Nat} : ∀ {l : List AK} {vs : List PV} {x : AsJ l} {ns : List Nat}, rdAs H z l vs = some (x, ns) → RdOk H z (fun nm => asPJ l x nm) (asLJ l x) (asNext l) (asO l) (asLe l x) vs ns
  | [], [], x, ns, h => by
    simp only [rdAs, Option.some.injEq, Prod.mk.injEq] at h
    obtain ⟨rfl, rfl⟩ := h
    exact ⟨fun nm => rfl, fun k hk => (by cases hk), fun nm p hp => (by cases hp), fun _ r fresh nm hz hr => ⟨trivial, trivial⟩⟩
  | a :: l, v :: vs, x, ns, h => by
    simp only [rdAs] at h
    split at h
    · rename_i x' ns' y' ms' h1 h2
      simp only [Option.some.injEq, Prod.mk.injEq] at h
      obtain ⟨rfl, rfl⟩ := h
      obtain ⟨p1, p2, p3, p4⟩ := rdA_ok h1
      obtain ⟨q1, q2, q3, q4⟩ := rdAs_ok h2
      refine ⟨fun nm => ?_, fun k hk => (List.mem_append.1 hk).elim (p2 k) (q2 k), fun nm p hp => ?_, fun hle r fresh nm hz hr => ?_⟩
      · show asNext l (a.next nm) = _
        rw [q1, p1, List.length_append, Nat.add_assoc]
      · simp only [asLJ] at hp
        rw [List.length_append]
        rcases List.mem_append.1 hp with hp | hp
        · obtain ⟨⟨a1, a2⟩, a3⟩ := p3 nm p hp
          exact ⟨⟨a1, by omega⟩, fun h => List.mem_append.2 (.inl (a3 h))⟩
        · obtain ⟨⟨a1, a2⟩, a3⟩ := q3 (a.next nm) p hp
          rw [p1] at a1 a2
          exact ⟨⟨by omega, by omega⟩, fun h => List.mem_append.2 (.inr (a3 h))⟩
      · simp only [asLe, Bool.and_eq_true] at hle
        obtain ⟨a1, a2⟩ := p4 hle.1 r fresh nm hz hr.left
        obtain ⟨b1, b2⟩ := q4 hle.2 r fresh (a.next nm) hz (by rw [p1]; exact hr.right)
        exact ⟨⟨a1.1, b1⟩, entl_append a2 b2⟩
    · cases h
  | [], _ :: _, _, _, h => by cases h
  | _ :: _, [], _, _, h => by cases h
theorem ptrC_ok {H : Heap} {wr : Bool} {v : PV} {n : Nat} {cs : List PV} (h : ptrC H wr v = some (n, cs)) : ∃ a w, v = .ptr a ∧ pos a = 0 ∧ a.nm = n ∧ hget H n = some (w, .cells cs) ∧ (wr = true → w = true) := by
  unfold ptrC at h
  split at h
  · rename_i a
    split at h
    · rename_i w cs' h1 hh
      split at h
      · cases h
      · rename_i hne
        simp only [Option.some.injEq, Prod.mk.injEq] at h
        obtain ⟨rfl, rfl⟩ := h
        refine ⟨a, w, rfl, Nat.eq_of_beq_eq_true h1, rfl, hh, fun e => ?_⟩
        cases w with
        | true => rfl
        | false => exact absurd rfl (hne e)
    · cases h
  · cases h
theorem rdBx_ok {H : Heap} {z : Nat} {b : Bx} {v : PV} {x : AsJ b.2} {ns : List Nat} (h : rdBx H z b v = some (x, ns)) : RdOk H z (fun nm => [.ptr ⟨nm, 0, 0, 0⟩]) (bxLJ b x) (fun nm => asNext b.2 (nm + 1)) (bxO b) (asLe b.2 x) [v] ns := by
  unfold rdBx at h
  split at h
  case h_2 => cases h
  rename_i n cs hp
  split at h
  case h_2 => cases h
  rename_i x' ns' hr
  simp only [Option.some.injEq, Prod.mk.injEq] at h
  obtain ⟨rfl, rfl⟩ := h
  obtain ⟨a, w, rfl, h0, hnm, hh, hw⟩ := ptrC_ok hp
  obtain ⟨p1, p2, p3, p4⟩ := rdAs_ok hr
  refine ⟨fun nm => ?_, fun k hk => ?_, fun nm p hp => ?_, fun hle r fresh nm hz hr => ?_⟩
  · show asNext b.2 (nm + 1) = _
    rw [p1, List.length_cons]; omega
  · rcases List.mem_cons.1 hk with rfl | hk
    · exact .inr ⟨_, hh⟩
    · exact p2 k hk
  · simp only [bxLJ] at hp
    rw [List.length_cons]
    rcases List.mem_cons.1 hp with rfl | hp
    · refine ⟨⟨Nat.le_refl _, by simp only; omega⟩, fun h => ?_⟩
      have h : b.1 = true := h
      simp only [bxO, conO, h]
      exact List.mem_cons.2 (.inl rfl)
    · obtain ⟨⟨a1, a2⟩, a3⟩ := p3 (nm + 1) p hp
      refine ⟨⟨by omega, by omega⟩, fun h => ?_⟩
      have := a3 h
      unfold bxO conO
      split
      · exact List.mem_cons.2 (.inr this)
      · exact this
  · have hr' : Rd r ns' (nm + 1) := fun i k hi => by
      have := hr (i + 1) k (by simpa using hi)
      rwa [show nm + (i + 1) = nm + 1 + i by omega] at this
    obtain ⟨a1, a2⟩ := p4 hle r fresh (nm + 1) hz hr'
    obtain ⟨hu, hn⟩ := hr 0 n rfl
    have hn : r.nm nm = n := hn
    exact ⟨⟨rn_ptr hu (by rw [hnm]; exact hn.symm) (by rw [h0]; rfl), trivial⟩, ⟨.inr ⟨hu, .inl ⟨w, _, by rw [hn]; exact hh, by simp, hw, rb_cells a1⟩⟩, a2⟩⟩
theorem slC_ok {H : Heap} {wr : Bool} {st m : Nat} {v : PV} {n : Nat} {cs : List PV} (h : slC H wr st m v = some (n, cs)) : ∃ a w, slA v = some (a, m) ∧ pos a = 0 ∧ a.nm = n ∧ hget H n = some (w, .cells cs) ∧ (wr = true → w = true) := by
  unfold slC at h
  split at h
  · rename_i a k hv
    split at h
    · rename_i w cs' h2 h3 h1 hh
      split at h
      · cases h
      · rename_i hne
        simp only [Option.some.injEq, Prod.mk.injEq] at h
        obtain ⟨rfl, rfl⟩ := h
        cases Nat.eq_of_beq_eq_true h3
        refine ⟨a, w, hv, Nat.eq_of_beq_eq_true h1, rfl, hh, fun e => ?_⟩
        cases w with
        | true => rfl
        | false => exact absurd rfl (hne e)
    · cases h
  · cases h
theorem rdSb_ok {H : Heap} {z : Nat} {b : Bx} {st m : Nat} {v : PV} {x : AsJ b.2} {ns : List Nat} (h : rdSb H z b st m v = some (x, ns)) : RdOk H z (fun nm => [.loose ⟨nm, st, 0, 0⟩ m]) (bxLJ b x) (fun nm => asNext b.2 (nm + 1)) (bxO b) (asLe b.2 x) [v] ns := by
  unfold rdSb at h
  split at h
  case h_2 => cases h
  rename_i n cs hp
  split at h
  case h_2 => cases h
  rename_i x' ns' hr
  simp only [Option.some.injEq, Prod.mk.injEq] at h
  obtain ⟨rfl, rfl⟩ := h
  obtain ⟨a, w, hv, h0, hnm, hh, hw⟩ := slC_ok hp
  obtain ⟨p1, p2, p3, p4⟩ := rdAs_ok hr
  refine ⟨fun nm => ?_, fun k hk => ?_, fun nm p hp => ?_, fun hle r fresh nm hz hr => ?_⟩
  · show asNext b.2 (nm + 1) = _
    rw [p1, List.length_cons]; omega
  · rcases List.mem_cons.1 hk with rfl | hk
    · exact .inr ⟨_, hh⟩
    · exact p2 k hk
  · simp only [bxLJ] at hp
    rw [List.length_cons]
    rcases List.mem_cons.1 hp with rfl | hp
    · refine ⟨⟨Nat.le_refl _, by simp only; omega⟩, fun h => ?_⟩
      have h : b.1 = true := h
      simp only [bxO, conO, h]
      exact List.mem_cons.2 (.inl rfl)
    · obtain ⟨⟨a1, a2⟩, a3⟩ := p3 (nm + 1) p hp
      refine ⟨⟨by omega, by omega⟩, fun h => ?_⟩
      have := a3 h
      unfold bxO conO
      split
      · exact List.mem_cons.2 (.inr this)
      · exact this
  · have hr' : Rd r ns' (nm + 1) := fun i k hi => by
      have := hr (i + 1) k (by simpa using hi)
      rwa [show nm + (i + 1) = nm + 1 + i by omega] at this
    obtain ⟨a1, a2⟩ := p4 hle r fresh (nm + 1) hz hr'
    obtain ⟨hu, hn⟩ := hr 0 n rfl
    have hn : r.nm nm = n := hn
    exact ⟨⟨rn_slA hv hu (by rw [hnm]; exact hn.symm) (by rw [h0]; rcases st with _ | _ | n <;> first | rfl | exact Nat.zero_mul _) rfl, trivial⟩, ⟨.inr ⟨hu, .inl ⟨w, _, by rw [hn]; exact hh, by simp, hw, rb_cells a1⟩⟩, a2⟩⟩
theorem rdBs_ok {H : Heap} {z : Nat} : ∀ {l : List Bx} {vs : List PV} {x : bsJ l} {ns : List Nat}, rdBs H z l vs = some (x, ns) → RdOk H z (fun nm => bsPV l nm) (bsLJ l x) (bsNext l) (bsO l) (bsLe l x) vs ns
  | [], [], x, ns, h => by
    simp only [rdBs, Option.some.injEq, Prod.mk.injEq] at h
    obtain ⟨rfl, rfl⟩ := h
    exact ⟨fun nm => rfl, fun k hk => (by cases hk), fun nm p hp => (by cases hp), fun _ r fresh nm hz hr => ⟨trivial, trivial⟩⟩
  | a :: l, v :: vs, x, ns, h => by
    simp only [rdBs] at h
    split at h
    · rename_i x' ns' y' ms' h1 h2
      simp only [Option.some.injEq, Prod.mk.injEq] at h
      obtain ⟨rfl, rfl⟩ := h
      obtain ⟨p1, p2, p3, p4⟩ := rdBx_ok h1
      obtain ⟨q1, q2, q3, q4⟩ := rdBs_ok h2
      refine ⟨fun nm => ?_, fun k hk => (List.mem_append.1 hk).elim (p2 k) (q2 k), fun nm p hp => ?_, fun hle r fresh nm hz hr => ?_⟩
      · have := p1 nm
        show bsNext l (asNext a.2 (nm + 1)) = _
        rw [q1, this, List.length_append, Nat.add_assoc]
      · have e : asNext a.2 (nm + 1) = nm + ns'.length := p1 nm
        simp only [bsLJ] at hp
        rw [List.length_append]
        rcases List.mem_append.1 hp with hp | hp
        · obtain ⟨⟨a1, a2⟩, a3⟩ := p3 nm p hp
          exact ⟨⟨a1, by omega⟩, fun h => List.mem_append.2 (.inl (a3 h))⟩
        · obtain ⟨⟨a1, a2⟩, a3⟩ := q3 (asNext a.2 (nm + 1)) p hp
          rw [e] at a1 a2
          exact ⟨⟨by omega, by omega⟩, fun h => List.mem_append.2 (.inr (a3 h))⟩
      · have e : asNext a.2 (nm + 1) = nm + ns'.length := p1 nm
        simp only [bsLe, Bool.and_eq_true] at hle
        obtain ⟨a1, a2⟩ := p4 hle.1 r fresh nm hz hr.left
        obtain ⟨b1, b2⟩ := q4 hle.2 r fresh (asNext a.2 (nm + 1)) hz (by rw [e]; exact hr.right)
        exact ⟨⟨a1.1, b1⟩, entl_append a2 b2⟩
    · cases h
  | [], _ :: _, _, _, h => by cases h
  | _ :: _, [], _, _, h => by cases h
theorem rdS_ok {H : Heap} {z : Nat} : ∀ {s : Sh} {v : PV} {x : s.J} {ns : List Nat}, rdS H z s v = some (x, ns) → RdOk H z (fun nm => [s.pj x nm]) (s.lj x) s.next s.o (s.le x) [v] ns := by
  intro s v x ns h
  cases s with
  | one a => exact rdA_ok h
  | agg l =>
    simp only [rdS] at h
    split at h
    case h_2 => cases h
    rename_i vs hv
    cases aggOf_eq hv
    obtain ⟨p1, p2, p3, p4⟩ := rdAs_ok h
    exact ⟨p1, p2, p3, fun hle r fresh nm hz hr => ⟨⟨rn_agg (p4 hle r fresh nm hz hr).1, trivial⟩, (p4 hle r fresh nm hz hr).2⟩⟩
  | fn g l =>
    simp only [rdS] at h
    split at h
    case h_2 => cases h
    rename_i vs hv
    cases fnOf'_eq hv
    obtain ⟨p1, p2, p3, p4⟩ := rdAs_ok h
    exact ⟨p1, p2, p3, fun hle r fresh nm hz hr => ⟨⟨rn_fn trivial (p4 hle r fresh nm hz hr).1, trivial⟩, (p4 hle r fresh nm hz hr).2⟩⟩
  | box b => exact rdBx_ok h
  | sbx b st m => exact rdSb_ok h
  | fnx g l =>
    simp only [rdS] at h
    split at h
    case h_2 => cases h
    rename_i vs hv
    cases fnOf'_eq hv
    obtain ⟨p1, p2, p3, p4⟩ := rdBs_ok h
    exact ⟨p1, p2, p3, fun hle r fresh nm hz hr => ⟨⟨rn_fn trivial (p4 hle r fresh nm hz hr).1, trivial⟩, (p4 hle r fresh nm hz hr).2⟩⟩
theorem rdSs_ok {H : Heap} {z : Nat} : ∀ {l : List Sh} {vs : List PV} {x : SsJ l} {ns : List Nat}, rdSs H z l vs = some (x, ns) → RdOk H z (fun nm => ssPJ l x nm) (ssLJ l x) (ssNext l) (ssO l) (ssLe l x) vs ns
  | [], [], x, ns, h => by
    simp only [rdSs, Option.some.injEq, Prod.mk.injEq] at h
    obtain ⟨rfl, rfl⟩ := h
    exact ⟨fun nm => rfl, fun k hk => (by cases hk), fun nm p hp => (by cases hp), fun _ r fresh nm hz hr => ⟨trivial, trivial⟩⟩
  | s :: l, v :: vs, x, ns, h => by
    simp only [rdSs] at h
    split at h
    · rename_i x' ns' y' ms' h1 h2
      simp only [Option.some.injEq, Prod.mk.injEq] at h
      obtain ⟨rfl, rfl⟩ := h
      obtain ⟨p1, p2, p3, p4⟩ := rdS_ok h1
      obtain ⟨q1, q2, q3, q4⟩ := rdSs_ok h2
      refine ⟨fun nm => ?_, fun k hk => (List.mem_append.1 hk).elim (p2 k) (q2 k), fun nm p hp => ?_, fun hle r fresh nm hz hr => ?_⟩
      · show ssNext l (s.next nm) = _
        rw [q1, p1, List.length_append, Nat.add_assoc]
      · simp only [ssLJ] at hp
        rw [List.length_append]
        rcases List.mem_append.1 hp with hp | hp
        · obtain ⟨⟨a1, a2⟩, a3⟩ := p3 nm p hp
          exact ⟨⟨a1, by omega⟩, fun h => List.mem_append.2 (.inl (a3 h))⟩
        · obtain ⟨⟨a1, a2⟩, a3⟩ := q3 (s.next nm) p hp
          rw [p1] at a1 a2
          exact ⟨⟨by omega, by omega⟩, fun h => List.mem_append.2 (.inr (a3 h))⟩
      · simp only [ssLe, Bool.and_eq_true] at hle
        obtain ⟨a1, a2⟩ := p4 hle.1 r fresh nm hz hr.left
        obtain ⟨b1, b2⟩ := q4 hle.2 r fresh (s.next nm) hz (by rw [p1]; exact hr.right)
        exact ⟨⟨a1.1, b1⟩, entl_append a2 b2⟩
    · cases h
  | [], _ :: _, _, _, h => by cases h
  | _ :: _, [], _, _, h => by cases h

/-! Other names for a value's. -/
def renA (ρ : Nat → Nat) (a : PA) : PA := ⟨ρ a.nm, a.st, a.ix, a.off⟩
mutual
def ren (ρ : Nat → Nat) : PV → PV
  | .unk => .unk
  | .bool b => .bool b
  | .tf b => .tf b
  | .int k n => .int k n
  | .str s => .str s
  | .ptr a => .ptr (renA ρ a)
  | .nilp => .nilp
  | .nils => .nils
  | .emp => .emp
  | .loose a n => .loose (renA ρ a) n
  | .sl a n => .sl (renA ρ a) n
  | .own nm st n => .own (ρ nm) st n
  | .agg cs => .agg (rens ρ cs)
  | .tup cs => .tup (rens ρ cs)
  | .fn f a b => .fn f (rens ρ a) (rens ρ b)
  | .nilf => .nilf
  | .ifc t v => .ifc t (ren ρ v)
  | .nili => .nili
  | .zer b => .zer b
def rens (ρ : Nat → Nat) : List PV → List PV
  | [] => []
  | v :: l => ren ρ v :: rens ρ l
end
mutual
def chk (p : Nat → Bool) : PV → Bool
  | .ptr a => p a.nm
  | .loose a _ => p a.nm
  | .sl a _ => p a.nm
  | .own nm _ _ => p nm
  | .agg cs => chks p cs
  | .tup cs => chks p cs
  | .fn _ a b => chks p a && chks p b
  | .ifc _ v => chk p v
  | .unk | .bool _ | .tf _ | .int _ _ | .str _ | .nilp | .nils | .emp | .nilf | .nili | .zer _ => true
def chks (p : Nat → Bool) : List PV → Bool
  | [] => true
  | v :: l => chk p v && chks p l
end
theorem rn_ifc {r : Mp} {t : TypeId} {v v' : PV} (h : Rn r v v') : Rn r (.ifc t v) (.ifc t v') := fun σ τ u ht hu => by cases hu with | ifc _ _ u' h' => exact .ifc _ _ _ (h σ τ u' ht h')
mutual
theorem ren_ok {r : Mp} {ρ : Nat → Nat} {p : Nat → Bool} (hp : ∀ n, p n = true → r.use (ρ n) ∧ r.nm (ρ n) = n) : ∀ {v : PV}, chk p v = true → Rn r (ren ρ v) v
  | .unk, _ => rn_unk _
  | .bool b, _ => rn_bool rfl
  | .tf b, _ => rn_tf rfl
  | .int k n, _ => rn_int rfl
  | .str s, _ => rn_str rfl
  | .ptr a, h => rn_ptr (hp _ h).1 (hp _ h).2.symm (by rw [pos_eq, pos_eq]; rfl)
  | .nilp, _ => rn_nilp
  | .nils, _ => rn_nils
  | .emp, _ => rn_emp
  | .loose a n, h => rn_loose (hp _ h).1 (hp _ h).2.symm (by rw [pos_eq, pos_eq]; rfl) rfl
  | .sl a n, h => rn_sl (hp _ h).1 (hp _ h).2.symm (by rw [pos_eq, pos_eq]; rfl) rfl
  | .own nm st n, h => rn_own (hp _ h).1 (hp _ h).2.symm rfl
  | .agg cs, h => rn_agg (rens_ok hp (by simpa only [chk] using h))
  | .tup cs, h => rn_tup (rens_ok hp (by simpa only [chk] using h))
  | .fn f a b, h => by
    simp only [chk, Bool.and_eq_true] at h
    exact rn_fn (rens_ok hp h.1) (rens_ok hp h.2)
  | .nilf, _ => rn_nilf
  | .ifc t v, h => rn_ifc (ren_ok hp (by simpa only [chk] using h))
  | .nili, _ => rn_nili
  | .zer b, _ => fun σ τ u _ hu => by cases hu; exact .zer _ _ _ ‹_›
theorem rens_ok {r : Mp} {ρ : Nat → Nat} {p : Nat → Bool} (hp : ∀ n, p n = true → r.use (ρ n) ∧ r.nm (ρ n) = n) : ∀ {l : List PV}, chks p l = true → Rns r (rens ρ l) l
  | [], _ => trivial
  | v :: l, h => by
    simp only [chks, Bool.and_eq_true] at h
    exact ⟨ren_ok hp h.1, rens_ok hp h.2⟩
end

/-! New blocks. -/
def newL : Nat → List Blk → Lvl
  | _, [] => []
  | n, b :: l => (n, (true, b)) :: newL (n + 1) l
def lenB : List Blk → Nat
  | [] => 0
  | _ :: l => lenB l + 1
def plainB (p : Nat → Bool) : List Blk → Bool
  | [] => true
  | .cols _ cs :: l => plainC cs && plainB p l
  | .cells cs :: l => chks p cs && plainB p l
  | _ :: _ => false
/-- New blocks in the caller's names. -/
def newR (ρ : Nat → Nat) : Nat → List Blk → Lvl
  | _, [] => []
  | n, .cells cs :: l => (n, (true, .cells (rens ρ cs))) :: newR ρ (n + 1) l
  | n, b :: l => (n, (true, b)) :: newR ρ (n + 1) l
def renB (ρ : Nat → Nat) : Blk → Blk
  | .cells cs => .cells (rens ρ cs)
  | b => b
theorem newR_cons (ρ : Nat → Nat) (n : Nat) (b : Blk) (l : List Blk) : newR ρ n (b :: l) = (n, (true, renB ρ b)) :: newR ρ (n + 1) l := by cases b <;> rfl
theorem newR_get {ρ : Nat → Nat} : ∀ {bs : List Blk} {lo n : Nat} {e : Bool × Blk}, lget (newR ρ lo bs) n = some e → lo ≤ n ∧ n < lo + lenB bs ∧ e.1 = true ∧ ∃ b, bs[n - lo]? = some b ∧ e.2 = renB ρ b
  | [], lo, n, e, h => by cases h
  | b :: l, lo, n, e, h => by
    rw [newR_cons] at h
    simp only [lget] at h
    split at h
    · rename_i hb
      have := Nat.eq_of_beq_eq_true hb
      subst this
      cases h
      simp [lenB]
    · obtain ⟨h1, h2, h3, b', h4, h5⟩ := newR_get h
      refine ⟨by omega, by simp only [lenB]; omega, h3, b', ?_, h5⟩
      rw [show n - lo = (n - (lo + 1)) + 1 by omega]
      simpa using h4
theorem newR_mem {ρ : Nat → Nat} : ∀ {bs : List Blk} {lo : Nat}, ∀ p ∈ newR ρ lo bs, lo ≤ p.1 ∧ p.1 < lo + lenB bs ∧ p.2.1 = true
  | [], lo, p, h => by cases h
  | b :: l, lo, p, h => by
    rw [newR_cons] at h
    simp only [List.mem_cons] at h
    rcases h with rfl | h
    · exact ⟨Nat.le_refl _, by simp only [lenB]; omega, rfl⟩
    · obtain ⟨h1, h2, h3⟩ := newR_mem p h
      exact ⟨by omega, by simp only [lenB]; omega, h3⟩
theorem newL_get : ∀ {bs : List Blk} {lo n : Nat} {e : Bool × Blk}, lget (newL lo bs) n = some e → lo ≤ n ∧ n < lo + lenB bs ∧ e.1 = true ∧ bs[n - lo]? = some e.2
  | [], lo, n, e, h => by cases h
  | b :: l, lo, n, e, h => by
    simp only [newL, lget] at h
    split at h
    · rename_i hb
      have := Nat.eq_of_beq_eq_true hb
      subst this
      cases h
      simp [lenB]
    · obtain ⟨h1, h2, h3, h4⟩ := newL_get h
      refine ⟨by omega, by simp only [lenB]; omega, h3, ?_⟩
      rw [show n - lo = (n - (lo + 1)) + 1 by omega]
      simpa using h4
theorem newL_at : ∀ {bs : List Blk} {lo i : Nat} {b : Blk}, bs[i]? = some b → lget (newL lo bs) (lo + i) = some (true, b)
  | [], lo, i, b, h => by simp at h
  | c :: l, lo, 0, b, h => by
    simp only [List.getElem?_cons_zero, Option.some.injEq] at h
    subst h
    simp [newL, lget]
  | c :: l, lo, i + 1, b, h => by
    have := newL_at (lo := lo + 1) (bs := l) (i := i) (b := b) (by simpa using h)
    have hne : Nat.beq lo (lo + (i + 1)) = false := by
      cases hb : Nat.beq lo (lo + (i + 1))
      · rfl
      · have := Nat.eq_of_beq_eq_true hb; omega
    simp only [newL, lget, hne]
    rwa [show lo + (i + 1) = lo + 1 + i by omega]
theorem plainB_get {p : Nat → Bool} : ∀ {bs : List Blk} {i : Nat} {b : Blk}, plainB p bs = true → bs[i]? = some b → (∃ n cs, b = .cols n cs ∧ plainC cs = true) ∨ ∃ cs, b = .cells cs ∧ chks p cs = true
  | [], i, b, _, h => by simp at h
  | c :: l, i, b, hp, h => by
    cases c <;> simp only [plainB, Bool.and_eq_true, Bool.false_eq_true] at hp
    all_goals
      cases i with
      | zero => simp only [List.getElem?_cons_zero, Option.some.injEq] at h; subst h; first | exact .inl ⟨_, _, rfl, hp.1⟩ | exact .inr ⟨_, rfl, hp.1⟩
      | succ i => exact plainB_get hp.2 (by simpa using h)
theorem newL_mem : ∀ {bs : List Blk} {lo : Nat}, ∀ p ∈ newL lo bs, lo ≤ p.1 ∧ p.1 < lo + lenB bs ∧ p.2.1 = true
  | [], lo, p, h => by cases h
  | b :: l, lo, p, h => by
    simp only [newL, List.mem_cons] at h
    rcases h with rfl | h
    · exact ⟨Nat.le_refl _, by simp only [lenB]; omega, rfl⟩
    · obtain ⟨h1, h2, h3⟩ := newL_mem p h
      exact ⟨by omega, by simp only [lenB]; omega, h3⟩

/-- A contract as data. -/
structure Con where
  f : Nat
  ss : List Sh
  pre : SsJ ss → Bool
  res : SsJ ss → PV
  new : SsJ ss → List Blk
  own : SsJ ss → Nat → Blk
def Con.lo (c : Con) : Nat := ssNext c.ss 0
def Con.ok (P : Program) (c : Con) : Prop := ∀ x, c.pre x = true → (∃ hi, c.lo + 1 + lenB (c.new x) ≤ hi ∧ CallR P c.f (ssPJ c.ss x 0) [ssLJ c.ss x 0] c.lo (c.res x) [newL (c.lo + 1) (c.new x) ++ ssLO c.ss x (c.own x) 0] hi) ∧
  ∃ F, P.funcs[c.f]? = some F ∧ F.body.isSome = true ∧ (F.name == "runtime.NumGoroutine") = false
def nthN : List Nat → Nat → Nat
  | [], _ => 0
  | n :: _, 0 => n
  | _ :: l, i + 1 => nthN l i
def idxN : List Nat → Nat → Nat
  | [], _ => 0
  | m :: l, n => match Nat.beq m n with
    | true => 0
    | false => idxN l n + 1
def rho (ns : List Nat) (lo fr : Nat) (n : Nat) : Nat := match Nat.blt n lo with
  | true => nthN ns n
  | false => n - lo + fr
def okN (ns : List Nat) (lo fr k : Nat) (n : Nat) : Bool := match Nat.blt n lo with
  | true => Nat.blt (nthN ns n) fr && Nat.beq (idxN ns (nthN ns n)) n
  | false => Nat.blt lo n && Nat.ble n (lo + k)
def hadd (l : Lvl) : Heap → Heap
  | [] => [l]
  | h :: t => match l with
    | [] => h :: t
    | p :: q => ((p :: q) ++ h) :: t
/-- No other name is called so. -/
def apartL (v i : Nat) : List Nat → Nat → Bool
  | [], _ => true
  | m :: l, j => match Nat.beq i j with
    | true => apartL v i l (j + 1)
    | false => match Nat.beq m v with
      | true => false
      | false => apartL v i l (j + 1)
def apartN (ns : List Nat) : List Nat → Bool
  | [] => true
  | i :: O => match apartL (nthN ns i) i ns 0 with
    | true => apartN ns O
    | false => false
def plainO (p : Nat → Bool) (g : Nat → Blk) : List Nat → Bool
  | [] => true
  | i :: O => match g i with
    | .cols _ cs => plainC cs && plainO p g O
    | .cells cs => chks p cs && plainO p g O
    | .dead => plainO p g O
    | _ => false
def backR (ρ : Nat → Nat) (g : Nat → Blk) (n : Nat) : Blk := renB ρ (g n)
def backL (ns : List Nat) (fr : Nat) (g : Nat → Blk) : List Nat → Lvl
  | [] => []
  | i :: O => match Nat.blt (nthN ns i) fr with
    | true => (nthN ns i, (true, g i)) :: backL ns fr g O
    | false => backL ns fr g O
section
variable (test : Bool → Prop → Prop → Prop)
def AK.leK : (a : AK) → a.J → Prop → Prop
  | .own _, (n, m, _), K => test (decide (n ≤ m)) K False
  | .plain _, _, K => K
  | .list _, _, K => K
  | .cell _, _, K => K
  | .win _, _, K => K
def asLeK : (l : List AK) → AsJ l → Prop → Prop
  | [], _, K => K
  | a :: l, (x, y), K => a.leK test x (asLeK l y K)
def bsLeK : (l : List Bx) → bsJ l → Prop → Prop
  | [], _, K => K
  | b :: l, (x, y), K => asLeK test b.2 x (bsLeK l y K)
def Sh.leK : (s : Sh) → s.J → Prop → Prop
  | .one a, x, K => a.leK test x K
  | .agg l, x, K => asLeK test l x K
  | .fn _ l, x, K => asLeK test l x K
  | .box b, x, K => asLeK test b.2 x K
  | .sbx b _ _, x, K => asLeK test b.2 x K
  | .fnx _ l, x, K => bsLeK test l x K
def ssLeK : (l : List Sh) → SsJ l → Prop → Prop
  | [], _, K => K
  | s :: l, (x, y), K => s.leK test x (ssLeK l y K)
end
theorem ak_leK {a : AK} {x : a.J} {K : Prop} (h : a.leK cond x K) : a.le x = true ∧ K := by
  cases a with
  | own ks => obtain ⟨n, m, c⟩ := x; exact cond_t h
  | plain k => exact ⟨rfl, h⟩
  | list ks => exact ⟨rfl, h⟩
  | cell ks => exact ⟨rfl, h⟩
  | win ks => exact ⟨rfl, h⟩
theorem as_leK : ∀ {l : List AK} {x : AsJ l} {K : Prop}, asLeK cond l x K → asLe l x = true ∧ K
  | [], _, _, h => ⟨rfl, h⟩
  | a :: l, (x, y), K, h => by
    obtain ⟨h1, h⟩ := ak_leK h
    obtain ⟨h2, h⟩ := as_leK h
    exact ⟨by simp only [asLe, h1, h2, Bool.and_self], h⟩
theorem bs_leK : ∀ {l : List Bx} {x : bsJ l} {K : Prop}, bsLeK cond l x K → bsLe l x = true ∧ K
  | [], _, _, h => ⟨rfl, h⟩
  | a :: l, (x, y), K, h => by
    obtain ⟨h1, h⟩ := as_leK h
    obtain ⟨h2, h⟩ := bs_leK h
    exact ⟨by simp only [bsLe, h1, h2, Bool.and_self], h⟩
theorem ss_leK : ∀ {l : List Sh} {x : SsJ l} {K : Prop}, ssLeK cond l x K → ssLe l x = true ∧ K
  | [], _, _, h => ⟨rfl, h⟩
  | s :: l, (x, y), K, h => by
    have h1 : s.le x = true ∧ ssLeK cond l y K := by
      cases s with
      | one a => exact ak_leK h
      | agg l => exact as_leK h
      | fn g l => exact as_leK h
      | box b => exact as_leK h
      | sbx b st m => exact as_leK h
      | fnx g l => exact bs_leK h
    obtain ⟨h1, h⟩ := h1
    obtain ⟨h2, h⟩ := ss_leK h
    exact ⟨by simp only [ssLe, h1, h2, Bool.and_self], h⟩
def conX (test : Bool → Prop → Prop → Prop) (c : Con) : Ext := fun f args H fr K no => match Nat.beq f c.f with
  | false => no
  | true => match rdSs H fr c.ss args with
    | none => no
    | some (x, ns) => match chk (okN ns c.lo fr (lenB (c.new x))) (c.res x), plainB (okN ns c.lo fr (lenB (c.new x))) (c.new x), apartN ns (ssO c.ss 0) && plainO (okN ns c.lo fr (lenB (c.new x))) (c.own x) (ssO c.ss 0) with
      | true, true, true => ssLeK test c.ss x (test (c.pre x) (K (ren (rho ns c.lo fr) (c.res x)) (hadd (newR (rho ns c.lo fr) (fr + 1) (c.new x) ++ backL ns fr (backR (rho ns c.lo fr) (c.own x)) (ssO c.ss 0)) H) (fr + 1 + lenB (c.new x))) False)
      | _, _, _ => no
def consX (test : Bool → Prop → Prop → Prop) : List Con → Ext
  | [] => noX
  | c :: l => also (conX test c) (consX test l)
theorem nthN_get : ∀ {ns : List Nat} {i : Nat}, i < ns.length → ns[i]? = some (nthN ns i)
  | [], i, h => by simp at h
  | n :: l, 0, _ => rfl
  | n :: l, i + 1, h => by simpa [nthN] using nthN_get (ns := l) (by simpa using h)
theorem hadd_eq (l : Lvl) {H : Heap} (hne : H ≠ []) : ∃ h t, H = h :: t ∧ hadd l H = (l ++ h) :: t := by
  cases H with
  | nil => exact absurd rfl hne
  | cons h t => exact ⟨h, t, rfl, by cases l <;> rfl⟩
theorem apartL_ok {v i : Nat} : ∀ {ns : List Nat} {j0 : Nat}, apartL v i ns j0 = true → ∀ j, j < ns.length → j0 + j ≠ i → nthN ns j ≠ v
  | [], j0, _, j, hj, _ => by simp at hj
  | m :: l, j0, h, j, hj, hne => by
    simp only [apartL] at h
    have step : apartL v i l (j0 + 1) = true ∧ (j0 = i ∨ m ≠ v) := by
      split at h
      · rename_i hb; exact ⟨h, .inl (Nat.eq_of_beq_eq_true hb).symm⟩
      · split at h
        · cases h
        · rename_i hb; exact ⟨h, .inr fun e => by rw [e, Nat.beq_refl] at hb; cases hb⟩
    cases j with
    | zero => exact step.2.elim (fun h => absurd h (by simpa using hne)) id
    | succ j => exact apartL_ok step.1 j (by simpa using hj) (by omega)
theorem apartN_ok {ns : List Nat} : ∀ {O : List Nat}, apartN ns O = true → ∀ i ∈ O, ∀ j, j < ns.length → j ≠ i → nthN ns j ≠ nthN ns i
  | [], _, i, hi, _, _, _ => by cases hi
  | k :: O, h, i, hi, j, hj, hne => by
    simp only [apartN] at h
    split at h
    · rename_i ha
      rcases List.mem_cons.1 hi with rfl | hi
      · exact apartL_ok ha j hj (by omega)
      · exact apartN_ok h i hi j hj hne
    · cases h
theorem plainO_ok {p : Nat → Bool} {g : Nat → Blk} : ∀ {O : List Nat}, plainO p g O = true → ∀ i ∈ O, g i = .dead ∨ (∃ n cs, g i = .cols n cs ∧ plainC cs = true) ∨ ∃ cs, g i = .cells cs ∧ chks p cs = true
  | [], _, i, hi => by cases hi
  | k :: O, h, i, hi => by
    simp only [plainO] at h
    have : plainO p g O = true ∧ (g k = .dead ∨ (∃ n cs, g k = .cols n cs ∧ plainC cs = true) ∨ ∃ cs, g k = .cells cs ∧ chks p cs = true) := by
      split at h
      · rename_i n cs e; simp only [Bool.and_eq_true] at h; exact ⟨h.2, .inr (.inl ⟨n, cs, e, h.1⟩)⟩
      · rename_i cs e; simp only [Bool.and_eq_true] at h; exact ⟨h.2, .inr (.inr ⟨cs, e, h.1⟩)⟩
      · rename_i e; exact ⟨h, .inl e⟩
      · cases h
    rcases List.mem_cons.1 hi with rfl | hi
    · exact this.2
    · exact plainO_ok this.1 i hi
theorem backL_mem {ns : List Nat} {fr : Nat} {g : Nat → Blk} : ∀ {O : List Nat}, ∀ p ∈ backL ns fr g O, ∃ i ∈ O, p = (nthN ns i, (true, g i)) ∧ nthN ns i < fr
  | [], p, hp => by cases hp
  | k :: O, p, hp => by
    simp only [backL] at hp
    split at hp
    · rename_i hb
      rcases List.mem_cons.1 hp with rfl | hp
      · exact ⟨k, by simp, rfl, lt_ok hb⟩
      · obtain ⟨i, h1, h2⟩ := backL_mem p hp
        exact ⟨i, by simp [h1], h2⟩
    · obtain ⟨i, h1, h2⟩ := backL_mem p hp
      exact ⟨i, by simp [h1], h2⟩
theorem backL_has {ns : List Nat} {fr : Nat} {g : Nat → Blk} {i : Nat} : ∀ {O : List Nat}, i ∈ O → nthN ns i < fr → ∃ e, lget (backL ns fr g O) (nthN ns i) = some e
  | [], hi, _ => by cases hi
  | k :: O, hi, hl => by
    simp only [backL]
    split
    · simp only [lget]
      split
      · exact ⟨_, rfl⟩
      · rename_i hb
        rcases List.mem_cons.1 hi with rfl | hi
        · rw [Nat.beq_refl] at hb; cases hb
        · exact backL_has hi hl
    · rename_i hb
      rcases List.mem_cons.1 hi with rfl | hi
      · rw [show Nat.blt (nthN ns i) fr = true by simpa [Nat.blt_eq] using hl] at hb; cases hb
      · exact backL_has hi hl
theorem nthN_mem : ∀ {ns : List Nat} {i : Nat}, i < ns.length → nthN ns i ∈ ns := fun {ns i} h => List.mem_of_getElem? (nthN_get h)
/-- What stands behind a call under the name of a list that was given away. -/
theorem lget_none' {l : Lvl} {n : Nat} (h : ∀ p ∈ l, p.1 ≠ n) : lget l n = none := by
  cases hl : lget l n with
  | none => rfl
  | some e => exact absurd rfl (h _ (lget_mem hl))
section
variable {g : Nat → Blk}
theorem ak_lo (a : AK) (x : a.J) (nm : Nat) : (∀ p ∈ a.lo' x g nm, nm ≤ p.1 ∧ p.1 < a.next nm) ∧ ∀ i ∈ a.o nm, nm ≤ i ∧ i < a.next nm ∧ lget (a.lo' x g nm) i = some (true, g i) := by
  cases a with
  | plain k => exact ⟨fun p hp => (by cases hp), fun i hi => (by cases hi)⟩
  | list ks => obtain ⟨ix, n, m, c⟩ := x; exact ⟨fun p hp => by simp only [AK.lo', List.mem_singleton] at hp; subst hp; exact ⟨Nat.le_refl _, Nat.lt_succ_self _⟩, fun i hi => (by cases hi)⟩
  | cell ks => exact ⟨fun p hp => by simp only [AK.lo', List.mem_singleton] at hp; subst hp; exact ⟨Nat.le_refl _, Nat.lt_succ_self _⟩, fun i hi => (by cases hi)⟩
  | own ks => obtain ⟨n, m, c⟩ := x; exact ⟨fun p hp => by simp only [AK.lo', List.mem_singleton] at hp; subst hp; exact ⟨Nat.le_refl _, Nat.lt_succ_self _⟩, fun i hi => by
      simp only [AK.o, List.mem_singleton] at hi; subst hi; exact ⟨Nat.le_refl _, Nat.lt_succ_self _, by simp [AK.lo', lget]⟩⟩
  | win ks => obtain ⟨ix, n, m, c⟩ := x; exact ⟨fun p hp => by simp only [AK.lo', List.mem_singleton] at hp; subst hp; exact ⟨Nat.le_refl _, Nat.lt_succ_self _⟩, fun i hi => by
      simp only [AK.o, List.mem_singleton] at hi; subst hi; exact ⟨Nat.le_refl _, Nat.lt_succ_self _, by simp [AK.lo', lget]⟩⟩
theorem join_lo {l m : Lvl} {a b c : Nat} {O1 O2 : List Nat} (hab : a ≤ b) (hbc : b ≤ c) (h1 : (∀ p ∈ l, a ≤ p.1 ∧ p.1 < b) ∧ ∀ i ∈ O1, a ≤ i ∧ i < b ∧ lget l i = some (true, g i)) (h2 : (∀ p ∈ m, b ≤ p.1 ∧ p.1 < c) ∧ ∀ i ∈ O2, b ≤ i ∧ i < c ∧ lget m i = some (true, g i)) :
    (∀ p ∈ l ++ m, a ≤ p.1 ∧ p.1 < c) ∧ ∀ i ∈ O1 ++ O2, a ≤ i ∧ i < c ∧ lget (l ++ m) i = some (true, g i) := by
  refine ⟨fun p hp => ?_, fun i hi => ?_⟩
  · rcases List.mem_append.1 hp with hp | hp
    · have := h1.1 p hp; omega
    · have := h2.1 p hp; omega
  · rw [lget_append]
    rcases List.mem_append.1 hi with hi | hi
    · obtain ⟨q1, q2, q3⟩ := h1.2 i hi
      rw [q3]
      exact ⟨q1, by omega, rfl⟩
    · obtain ⟨q1, q2, q3⟩ := h2.2 i hi
      rw [lget_none' fun p hp => by have := h1.1 p hp; omega]
      exact ⟨by omega, q2, q3⟩
theorem as_lo : ∀ (l : List AK) (x : AsJ l) (nm : Nat), (∀ p ∈ asLO l x g nm, nm ≤ p.1 ∧ p.1 < asNext l nm) ∧ ∀ i ∈ asO l nm, nm ≤ i ∧ i < asNext l nm ∧ lget (asLO l x g nm) i = some (true, g i)
  | [], _, nm => ⟨fun p hp => (by cases hp), fun i hi => (by cases hi)⟩
  | a :: l, (x, y), nm => join_lo (next_le a nm) (asNext_le l _) (ak_lo a x nm) (as_lo l y (a.next nm))
theorem bx_lo (b : Bx) (x : AsJ b.2) (nm : Nat) : (∀ p ∈ bxLO b x g nm, nm ≤ p.1 ∧ p.1 < asNext b.2 (nm + 1)) ∧ ∀ i ∈ bxO b nm, nm ≤ i ∧ i < asNext b.2 (nm + 1) ∧ lget (bxLO b x g nm) i = some (true, g i) := by
  obtain ⟨h1, h2⟩ := as_lo (g := g) b.2 x (nm + 1)
  have hc := asNext_le b.2 (nm + 1)
  refine ⟨fun p hp => ?_, fun i hi => ?_⟩
  · simp only [bxLO] at hp
    rcases List.mem_cons.1 hp with rfl | hp
    · exact ⟨Nat.le_refl _, by simp only; omega⟩
    · have := h1 p hp; omega
  · have old : i ∈ asO b.2 (nm + 1) → nm ≤ i ∧ i < asNext b.2 (nm + 1) ∧ lget (bxLO b x g nm) i = some (true, g i) := fun hi => by
      obtain ⟨q1, q2, q3⟩ := h2 i hi
      refine ⟨by omega, q2, ?_⟩
      have hne : Nat.beq nm i = false := by cases hb : Nat.beq nm i; rfl; have := Nat.eq_of_beq_eq_true hb; omega
      simp only [bxLO, lget, hne]
      exact q3
    unfold bxO conO at hi
    split at hi
    · rename_i hw
      rcases List.mem_cons.1 hi with rfl | hi
      · refine ⟨Nat.le_refl _, by omega, ?_⟩
        simp only [bxLO, lget, Nat.beq_refl, hw, conE]
      · exact old hi
    · exact old hi
theorem bs_lo : ∀ (l : List Bx) (x : bsJ l) (nm : Nat), (∀ p ∈ bsLO l x g nm, nm ≤ p.1 ∧ p.1 < bsNext l nm) ∧ ∀ i ∈ bsO l nm, nm ≤ i ∧ i < bsNext l nm ∧ lget (bsLO l x g nm) i = some (true, g i)
  | [], _, nm => ⟨fun p hp => (by cases hp), fun i hi => (by cases hi)⟩
  | b :: l, (x, y), nm => join_lo (Nat.le_trans (Nat.le_succ nm) (asNext_le b.2 (nm + 1))) (bsNext_le l _) (bx_lo b x nm) (bs_lo l y (asNext b.2 (nm + 1)))
theorem sh_lo (s : Sh) (x : s.J) (nm : Nat) : (∀ p ∈ s.lo' x g nm, nm ≤ p.1 ∧ p.1 < s.next nm) ∧ ∀ i ∈ s.o nm, nm ≤ i ∧ i < s.next nm ∧ lget (s.lo' x g nm) i = some (true, g i) := by
  cases s with
  | one a => exact ak_lo a x nm
  | agg l => exact as_lo l x nm
  | fn f l => exact as_lo l x nm
  | box b => exact bx_lo b x nm
  | sbx b st m => exact bx_lo b x nm
  | fnx f l => exact bs_lo l x nm
theorem ss_lo : ∀ (l : List Sh) (x : SsJ l) (nm : Nat), (∀ p ∈ ssLO l x g nm, nm ≤ p.1 ∧ p.1 < ssNext l nm) ∧ ∀ i ∈ ssO l nm, nm ≤ i ∧ i < ssNext l nm ∧ lget (ssLO l x g nm) i = some (true, g i)
  | [], _, nm => ⟨fun p hp => (by cases hp), fun i hi => (by cases hi)⟩
  | s :: l, (x, y), nm => join_lo (sh_next s nm) (ssNext_le l _) (sh_lo s x nm) (ss_lo l y (s.next nm))
end
theorem ak_lj_own (a : AK) (x : a.J) (nm : Nat) : (∀ p ∈ a.lj x nm, nm ≤ p.1 ∧ p.1 < a.next nm) ∧ ∀ i ∈ a.o nm, nm ≤ i ∧ i < a.next nm ∧ ∃ b, lget (a.lj x nm) i = some (true, b) ∧ b ≠ .dead := by
  cases a with
  | plain k => exact ⟨fun p hp => (by cases hp), fun i hi => (by cases hi)⟩
  | list ks => obtain ⟨ix, n, m, c⟩ := x; exact ⟨fun p hp => by simp only [AK.lj, List.mem_singleton] at hp; subst hp; exact ⟨Nat.le_refl _, Nat.lt_succ_self _⟩, fun i hi => (by cases hi)⟩
  | cell ks => exact ⟨fun p hp => by simp only [AK.lj, List.mem_singleton] at hp; subst hp; exact ⟨Nat.le_refl _, Nat.lt_succ_self _⟩, fun i hi => (by cases hi)⟩
  | own ks => obtain ⟨n, m, c⟩ := x; exact ⟨fun p hp => by simp only [AK.lj, List.mem_singleton] at hp; subst hp; exact ⟨Nat.le_refl _, Nat.lt_succ_self _⟩, fun i hi => by
      simp only [AK.o, List.mem_singleton] at hi; subst hi; exact ⟨Nat.le_refl _, Nat.lt_succ_self _, .cols n (csC ks c), by simp [AK.lj, lget], by simp⟩⟩
  | win ks => obtain ⟨ix, n, m, c⟩ := x; exact ⟨fun p hp => by simp only [AK.lj, List.mem_singleton] at hp; subst hp; exact ⟨Nat.le_refl _, Nat.lt_succ_self _⟩, fun i hi => by
      simp only [AK.o, List.mem_singleton] at hi; subst hi; exact ⟨Nat.le_refl _, Nat.lt_succ_self _, .cols m (csC ks c), by simp [AK.lj, lget], by simp⟩⟩
theorem join_lj {l m : Lvl} {a b c : Nat} {O1 O2 : List Nat} (hab : a ≤ b) (hbc : b ≤ c) (h1 : (∀ p ∈ l, a ≤ p.1 ∧ p.1 < b) ∧ ∀ i ∈ O1, a ≤ i ∧ i < b ∧ ∃ e, lget l i = some (true, e) ∧ e ≠ .dead) (h2 : (∀ p ∈ m, b ≤ p.1 ∧ p.1 < c) ∧ ∀ i ∈ O2, b ≤ i ∧ i < c ∧ ∃ e, lget m i = some (true, e) ∧ e ≠ .dead) :
    (∀ p ∈ l ++ m, a ≤ p.1 ∧ p.1 < c) ∧ ∀ i ∈ O1 ++ O2, a ≤ i ∧ i < c ∧ ∃ e, lget (l ++ m) i = some (true, e) ∧ e ≠ .dead := by
  refine ⟨fun p hp => ?_, fun i hi => ?_⟩
  · rcases List.mem_append.1 hp with hp | hp
    · have := h1.1 p hp; omega
    · have := h2.1 p hp; omega
  · rw [lget_append]
    rcases List.mem_append.1 hi with hi | hi
    · obtain ⟨q1, q2, e, q3, q4⟩ := h1.2 i hi
      rw [q3]
      exact ⟨q1, by omega, e, rfl, q4⟩
    · obtain ⟨q1, q2, e, q3, q4⟩ := h2.2 i hi
      rw [lget_none' fun p hp => by have := h1.1 p hp; omega]
      exact ⟨by omega, q2, e, q3, q4⟩
theorem as_lj_own : ∀ (l : List AK) (x : AsJ l) (nm : Nat), (∀ p ∈ asLJ l x nm, nm ≤ p.1 ∧ p.1 < asNext l nm) ∧ ∀ i ∈ asO l nm, nm ≤ i ∧ i < asNext l nm ∧ ∃ e, lget (asLJ l x nm) i = some (true, e) ∧ e ≠ .dead
  | [], _, nm => ⟨fun p hp => (by cases hp), fun i hi => (by cases hi)⟩
  | a :: l, (x, y), nm => join_lj (next_le a nm) (asNext_le l _) (ak_lj_own a x nm) (as_lj_own l y (a.next nm))
theorem bx_lj_own (b : Bx) (x : AsJ b.2) (nm : Nat) : (∀ p ∈ bxLJ b x nm, nm ≤ p.1 ∧ p.1 < asNext b.2 (nm + 1)) ∧ ∀ i ∈ bxO b nm, nm ≤ i ∧ i < asNext b.2 (nm + 1) ∧ ∃ e, lget (bxLJ b x nm) i = some (true, e) ∧ e ≠ .dead := by
  obtain ⟨h1, h2⟩ := as_lj_own b.2 x (nm + 1)
  have hc := asNext_le b.2 (nm + 1)
  refine ⟨fun p hp => ?_, fun i hi => ?_⟩
  · simp only [bxLJ] at hp
    rcases List.mem_cons.1 hp with rfl | hp
    · exact ⟨Nat.le_refl _, by simp only; omega⟩
    · have := h1 p hp; omega
  · have old : i ∈ asO b.2 (nm + 1) → nm ≤ i ∧ i < asNext b.2 (nm + 1) ∧ ∃ e, lget (bxLJ b x nm) i = some (true, e) ∧ e ≠ .dead := fun hi => by
      obtain ⟨q1, q2, q3⟩ := h2 i hi
      refine ⟨by omega, q2, ?_⟩
      have hne : Nat.beq nm i = false := by cases hb : Nat.beq nm i; rfl; have := Nat.eq_of_beq_eq_true hb; omega
      simp only [bxLJ, lget, hne]
      exact q3
    unfold bxO conO at hi
    split at hi
    · rename_i hw
      rcases List.mem_cons.1 hi with rfl | hi
      · refine ⟨Nat.le_refl _, by omega, ?_⟩
        simp only [bxLJ, lget, Nat.beq_refl, hw]
        exact ⟨_, rfl, by simp⟩
      · exact old hi
    · exact old hi
theorem bs_lj_own : ∀ (l : List Bx) (x : bsJ l) (nm : Nat), (∀ p ∈ bsLJ l x nm, nm ≤ p.1 ∧ p.1 < bsNext l nm) ∧ ∀ i ∈ bsO l nm, nm ≤ i ∧ i < bsNext l nm ∧ ∃ e, lget (bsLJ l x nm) i = some (true, e) ∧ e ≠ .dead
  | [], _, nm => ⟨fun p hp => (by cases hp), fun i hi => (by cases hi)⟩
  | b :: l, (x, y), nm => join_lj (Nat.le_trans (Nat.le_succ nm) (asNext_le b.2 (nm + 1))) (bsNext_le l _) (bx_lj_own b x nm) (bs_lj_own l y (asNext b.2 (nm + 1)))
theorem sh_lj_own (s : Sh) (x : s.J) (nm : Nat) : (∀ p ∈ s.lj x nm, nm ≤ p.1 ∧ p.1 < s.next nm) ∧ ∀ i ∈ s.o nm, nm ≤ i ∧ i < s.next nm ∧ ∃ e, lget (s.lj x nm) i = some (true, e) ∧ e ≠ .dead := by
  cases s with
  | one a => exact ak_lj_own a x nm
  | agg l => exact as_lj_own l x nm
  | fn f l => exact as_lj_own l x nm
  | box b => exact bx_lj_own b x nm
  | sbx b st m => exact bx_lj_own b x nm
  | fnx f l => exact bs_lj_own l x nm
theorem ss_lj_own' : ∀ (l : List Sh) (x : SsJ l) (nm : Nat), (∀ p ∈ ssLJ l x nm, nm ≤ p.1 ∧ p.1 < ssNext l nm) ∧ ∀ i ∈ ssO l nm, nm ≤ i ∧ i < ssNext l nm ∧ ∃ e, lget (ssLJ l x nm) i = some (true, e) ∧ e ≠ .dead
  | [], _, nm => ⟨fun p hp => (by cases hp), fun i hi => (by cases hi)⟩
  | s :: l, (x, y), nm => join_lj (sh_next s nm) (ssNext_le l _) (sh_lj_own s x nm) (ss_lj_own' l y (s.next nm))
theorem ss_lj_own (l : List Sh) (x : SsJ l) (nm i : Nat) (hi : i ∈ ssO l nm) : ∃ e, lget (ssLJ l x nm) i = some (true, e) ∧ e ≠ .dead := ((ss_lj_own' l x nm).2 i hi).2.2
theorem conX_ok {P : Program} {c : Con} (hc : c.ok P) : ExtOk P (conX cond c) := by
  intro f args H fr K no hne hN h
  unfold conX at h
  split at h
  · exact .inr h
  rename_i hf
  cases Nat.eq_of_beq_eq_true hf
  split at h
  · exact .inr h
  rename_i x ns hrd
  split at h
  case h_2 => exact .inr h
  rename_i hchk hpl hown
  simp only [Bool.and_eq_true] at hown
  obtain ⟨hap, hplo⟩ := hown
  obtain ⟨hle, h⟩ := ss_leK h
  obtain ⟨hp, hk⟩ := cond_t h
  obtain ⟨⟨hi, hhi, C⟩, hF⟩ := hc x hp
  obtain ⟨p1, p2, p3, p4⟩ := rdSs_ok hrd
  have elo : c.lo = ns.length := by have := p1 0; unfold Con.lo; omega
  obtain ⟨hh, tt, eH, eA⟩ := hadd_eq (newR (rho ns c.lo fr) (fr + 1) (c.new x) ++ backL ns fr (backR (rho ns c.lo fr) (c.own x)) (ssO c.ss 0)) hne
  have hO : ∀ i ∈ ssO c.ss 0, i < c.lo := fun i hi => ((ss_lo (g := c.own x) c.ss x 0).2 i hi).2.1
  have hget' : ∀ n e, hget (hadd (newR (rho ns c.lo fr) (fr + 1) (c.new x) ++ backL ns fr (backR (rho ns c.lo fr) (c.own x)) (ssO c.ss 0)) H) n = some e → (lget (newR (rho ns c.lo fr) (fr + 1) (c.new x)) n = some e) ∨ (∃ i ∈ ssO c.ss 0, n = nthN ns i ∧ e = (true, backR (rho ns c.lo fr) (c.own x) i) ∧ n < fr) ∨ (hget H n = some e ∧ ∀ i ∈ ssO c.ss 0, nthN ns i < fr → nthN ns i ≠ n) := fun n e hn => by
    rw [eA, hget_cons, lget_append] at hn
    rw [eH, hget_cons]
    rw [lget_append] at hn
    cases hl : lget (newR (rho ns c.lo fr) (fr + 1) (c.new x)) n with
    | some e' => rw [hl] at hn; exact .inl hn
    | none =>
      rw [hl] at hn
      simp only at hn
      cases hl2 : lget (backL ns fr (backR (rho ns c.lo fr) (c.own x)) (ssO c.ss 0)) n with
      | some e' =>
        rw [hl2] at hn
        simp only [Option.some.injEq] at hn
        subst hn
        obtain ⟨i, q1, q2, q3⟩ := backL_mem _ (lget_mem hl2)
        simp only [Prod.mk.injEq] at q2
        exact .inr (.inl ⟨i, q1, q2.1, q2.2, by omega⟩)
      | none =>
        rw [hl2] at hn
        refine .inr (.inr ⟨hn, fun i hi hlt e => ?_⟩)
        obtain ⟨e', he'⟩ := backL_has (g := backR (rho ns c.lo fr) (c.own x)) hi hlt
        rw [e, hl2] at he'
        cases he'
  have hrdr : ∀ use, (∀ i, i < ns.length → use i) → Rd ⟨use, nthN ns⟩ ns 0 := fun use hu i k hi => by
    have hl := (List.getElem?_eq_some_iff.1 hi).1
    rw [Nat.zero_add]
    refine ⟨hu i hl, ?_⟩
    have := nthN_get hl
    rw [hi] at this
    exact (Option.some.inj this).symm
  obtain ⟨a1, a2⟩ := p4 hle ⟨fun n => n < c.lo, nthN ns⟩ (fun n => fr ≤ n ∧ n < fr + 1 + lenB (c.new x)) 0 (by omega) (hrdr _ fun i hi => by rw [elo]; exact hi)
  have hmem : ∀ n e, hget [ssLJ c.ss x 0] n = some e → n < ns.length ∧ (e.1 = true → n ∈ ssO c.ss 0) := fun n e hn => by
    rw [hget_cons] at hn
    cases hl : lget (ssLJ c.ss x 0) n with
    | none => rw [hl] at hn; cases hn
    | some e' =>
      rw [hl] at hn
      cases hn
      obtain ⟨⟨_, q1⟩, q2⟩ := p3 0 _ (lget_mem hl)
      exact ⟨by simpa using q1, q2⟩
  have hHp : HpR ⟨fun n => n < c.lo, nthN ns⟩ (fun n => fr ≤ n ∧ n < fr + 1 + lenB (c.new x)) [ssLJ c.ss x 0] H := by
    constructor
    · intro n e hn hd
      rw [hget_flat] at hn
      have a2 : EntL ⟨fun n => n < c.lo, nthN ns⟩ (fun n => fr ≤ n ∧ n < fr + 1 + lenB (c.new x)) H (flat [ssLJ c.ss x 0]) := by simpa [flat] using a2
      rcases a2.mem _ (lget_mem hn) with h1 | ⟨h1, h2⟩
      · exact absurd h1 hd
      · exact ⟨h1, h2.imp (fun ⟨b', blk', q⟩ => ⟨(b', blk'), q⟩) id⟩
    · intro n m e e' hn hm ht _ _ hne'
      obtain ⟨q1, q2⟩ := hmem n e hn
      obtain ⟨q3, _⟩ := hmem m e' hm
      exact fun he => apartN_ok hap n (q2 ht) m q3 (Ne.symm hne') he.symm
  refine .inl ⟨_, _, _, hk, ⟨by omega, ⟨newR (rho ns c.lo fr) (fr + 1) (c.new x) ++ backL ns fr (backR (rho ns c.lo fr) (c.own x)) (ssO c.ss 0), fun h t e => ?_, fun p hp => ?_⟩, fun n e hn => ?_⟩, ?_, hF⟩
  · obtain ⟨rfl, rfl⟩ : h = hh ∧ t = tt := by rw [eH] at e; simpa [eq_comm] using e
    exact eA
  · rcases List.mem_append.1 hp with hp | hp
    · obtain ⟨_, q2, q3⟩ := newR_mem p hp
      exact ⟨by omega, .inl q3⟩
    · obtain ⟨i, q1, q2, q3⟩ := backL_mem p hp
      subst q2
      exact ⟨by show nthN ns i < _; omega, .inl rfl⟩
  · rcases hget' n e hn with h1 | ⟨i, q1, q2, q3, q4⟩ | ⟨h1, _⟩
    · obtain ⟨q1, q2, _, _⟩ := newR_get h1
      exact .inr ⟨by omega, by omega⟩
    · have hin : nthN ns i ∈ ns := nthN_mem (by rw [← elo]; exact hO i q1)
      rcases p2 _ hin with h | h
      · omega
      · rw [q2]; exact .inl h
    · exact .inl ⟨e, h1⟩
  have hpr : ∀ n, okN ns c.lo fr (lenB (c.new x)) n = true → (Mp.mk (fun y => (fr ≤ y ∧ y < fr + 1 + lenB (c.new x)) ∨ (¬ (fr ≤ y ∧ y < fr + 1 + lenB (c.new x)) ∧ idxN ns y < c.lo ∧ nthN ns (idxN ns y) = y)) fun y => if fr ≤ y ∧ y < fr + 1 + lenB (c.new x) then y - fr + c.lo else idxN ns y).use (rho ns c.lo fr n) ∧ (Mp.mk (fun y => (fr ≤ y ∧ y < fr + 1 + lenB (c.new x)) ∨ (¬ (fr ≤ y ∧ y < fr + 1 + lenB (c.new x)) ∧ idxN ns y < c.lo ∧ nthN ns (idxN ns y) = y)) fun y => if fr ≤ y ∧ y < fr + 1 + lenB (c.new x) then y - fr + c.lo else idxN ns y).nm (rho ns c.lo fr n) = n := fun n hn => by
    cases hb : Nat.blt n c.lo <;> simp only [okN, rho, hb, Bool.and_eq_true] at hn ⊢
    · have e1 : c.lo < n := lt_ok hn.1
      have e2 : n ≤ c.lo + lenB (c.new x) := le_ok hn.2
      rw [if_pos (by omega)]
      exact ⟨.inl (by omega), by omega⟩
    · have e1 : nthN ns n < fr := lt_ok hn.1
      have e2 := Nat.eq_of_beq_eq_true hn.2
      have e3 : n < c.lo := lt_ok hb
      rw [if_neg (by omega), e2]
      exact ⟨.inr ⟨by omega, e3, rfl⟩, rfl⟩
  refine frameM C hN (nthN ns) (idxN ns) (by omega) (by omega) a1 hHp (ren_ok hpr hchk) fun n e hn => ?_
  · rcases hget' n e hn with h1 | ⟨i, q1, q2, q3, q4⟩ | ⟨h1, h0⟩
    · obtain ⟨q1, q2, q3, b', q4, q5⟩ := newR_get h1
      refine .inr (.inl ⟨by omega, by omega, .inr ⟨q3, b', ?_, ?_, ?_⟩⟩)
      · rw [hget_cons, lget_append, show n - fr + c.lo = c.lo + 1 + (n - (fr + 1)) by omega, newL_at q4]
      · rcases plainB_get hpl q4 with ⟨m, cs, e1, e2⟩ | ⟨cs, e1, e2⟩ <;> rw [e1] <;> simp
      · rw [q5]
        rcases plainB_get hpl q4 with ⟨m, cs, e1, e2⟩ | ⟨cs, e1, e2⟩
        · rw [e1]; exact rb_plain e2
        · rw [e1]; exact rb_cells (rens_ok hpr e2)
    · subst q3
      rcases plainO_ok hplo i q1 with hd | hd
      · exact .inr (.inr (.inl (by show renB _ (c.own x i) = .dead; rw [hd]; rfl)))
      · -- the block that was given away
        have hi' := hO i q1
        rcases p2 _ (nthN_mem (by rw [← elo]; exact hi') : nthN ns i ∈ ns) with h | ⟨e0, h⟩
        · omega
        obtain ⟨b0, hb0, hb1⟩ := ss_lj_own c.ss x 0 i q1
        refine .inr (.inr (.inr ⟨q4, rfl, i, b0, c.own x i, hi', ?_, hb1, q2.symm, ?_, by rcases hd with ⟨m, cs, hd, _⟩ | ⟨cs, hd, _⟩ <;> rw [hd] <;> simp, ?_⟩))
        · rw [hget_cons, hb0]
        · rw [hget_cons, lget_append, lget_none' fun p hp => by have := (newL_mem p hp).1; omega, ((ss_lo (g := c.own x) c.ss x 0).2 i q1).2.2]
        · show Rb _ (renB _ (c.own x i)) (c.own x i)
          rcases hd with ⟨m, cs, hd, hpc⟩ | ⟨cs, hd, hpc⟩
          · rw [hd]
            exact rb_plain hpc
          · rw [hd]
            exact rb_cells (rens_ok hpr hpc)
    · refine .inl ⟨h1, fun m b hm hb => ?_⟩
      obtain ⟨q1, q2⟩ := hmem m _ hm
      by_cases hlt : nthN ns m < fr
      · exact h0 m (q2 rfl) hlt
      · have := hN n e h1
        omega
def AllOk (P : Program) : List Con → Prop
  | [] => True
  | c :: l => c.ok P ∧ AllOk P l
theorem consX_ok {P : Program} : ∀ {l : List Con}, AllOk P l → ExtOk P (consX cond l)
  | [], _ => noX_ok
  | c :: l, h => also_ok (conX_ok h.1) (consX_ok h.2)
/-- Arguments as they open, as a contract asks for them. -/
def AK.j : (a : AK) → a.I → a.J
  | .plain _, x => x
  | .list _, (n, c) => (0, n, n, c)
  | .own _, (n, c) => (n, n, c)
  | .cell _, x => x
  | .win _, (n, c) => (0, n, n, c)
def asj : (l : List AK) → AsI l → AsJ l
  | [], _ => ()
  | a :: l, (x, y) => (a.j x, asj l y)
def bsj : (l : List Bx) → bsI l → bsJ l
  | [], _ => ()
  | b :: l, (x, y) => (asj b.2 x, bsj l y)
def Sh.j : (s : Sh) → s.I → s.J
  | .one a, x => a.j x
  | .agg l, x => asj l x
  | .fn _ l, x => asj l x
  | .box b, x => asj b.2 x
  | .sbx b _ _, x => asj b.2 x
  | .fnx _ l, x => bsj l x
def ssj : (l : List Sh) → SsI l → SsJ l
  | [], _ => ()
  | s :: l, (x, y) => (s.j x, ssj l y)
theorem akj (a : AK) (x : a.I) (nm : Nat) : a.pj (a.j x) nm = a.pv x nm ∧ a.lj (a.j x) nm = a.lvl x nm := by cases a <;> exact ⟨rfl, rfl⟩
theorem asj_eq : ∀ (l : List AK) (x : AsI l) (nm : Nat), asPJ l (asj l x) nm = asPV l x nm ∧ asLJ l (asj l x) nm = asLvl l x nm
  | [], _, _ => ⟨rfl, rfl⟩
  | a :: l, (x, y), nm => by
    obtain ⟨h1, h2⟩ := akj a x nm
    obtain ⟨h3, h4⟩ := asj_eq l y (a.next nm)
    exact ⟨by simp only [asPJ, asPV, asj, h1, h3], by simp only [asLJ, asLvl, asj, h2, h4]⟩
theorem bsj_eq : ∀ (l : List Bx) (x : bsI l) (nm : Nat), bsLJ l (bsj l x) nm = bsLvl l x nm
  | [], _, _ => rfl
  | b :: l, (x, y), nm => by
    obtain ⟨h1, h2⟩ := asj_eq b.2 x (nm + 1)
    simp only [bsLJ, bsLvl, bxLJ, bxLvl, bsj, h1, h2, bsj_eq l y]
theorem shj (s : Sh) (x : s.I) (nm : Nat) : s.pj (s.j x) nm = s.pv x nm ∧ s.lj (s.j x) nm = s.lvl x nm := by
  cases s with
  | one a => exact akj a x nm
  | agg l => exact ⟨congrArg PV.agg (asj_eq l x nm).1, (asj_eq l x nm).2⟩
  | fn g l => exact ⟨congrArg (PV.fn (.func g) []) (asj_eq l x nm).1, (asj_eq l x nm).2⟩
  | box b => exact ⟨rfl, by simp only [Sh.lj, Sh.lvl, bxLJ, bxLvl, Sh.j, (asj_eq b.2 x (nm + 1)).1, (asj_eq b.2 x (nm + 1)).2]⟩
  | sbx b st m => exact ⟨rfl, by simp only [Sh.lj, Sh.lvl, bxLJ, bxLvl, Sh.j, (asj_eq b.2 x (nm + 1)).1, (asj_eq b.2 x (nm + 1)).2]⟩
  | fnx g l => exact ⟨rfl, bsj_eq l x nm⟩
theorem ssj_eq : ∀ (l : List Sh) (x : SsI l) (nm : Nat), ssPJ l (ssj l x) nm = ssPV l x nm ∧ ssLJ l (ssj l x) nm = ssLvl l x nm
  | [], _, _ => ⟨rfl, rfl⟩
  | s :: l, (x, y), nm => by
    obtain ⟨h1, h2⟩ := shj s x nm
    obtain ⟨h3, h4⟩ := ssj_eq l y (s.next nm)
    exact ⟨by simp only [ssPJ, ssPV, ssj, h1, h3], by simp only [ssLJ, ssLvl, ssj, h2, h4]⟩
open Go.Deep Go.WideShapes Go.ChangeAt in
/-- From a law's contract to its call. -/
theorem law_link {P : Program} {c : Con} (hc : c.ok P) (hres : ∀ x, c.res x = .bool true) {H : Type} {enc : TypeId × Value → H} {n : Nat} {ts : List TypeId} {W : World} {args : Array Value} {ds : List (DataW H)} {ps : List MemPlace} {r : Reach} {b0 : Nat} (hss : shsOf P n ts = some c.ss)
    (hp : ∀ x, ssFits c.ss x → c.pre (ssj c.ss x) = true) (hA : DataW.TrodAll enc P W 0 (fun _ => true) true ts args.toList ds ps) (hv : ∀ (j : Nat) t v, ts[j]? = some t → args[j]? = some v → Value.okWide P W r b0 t v) :
    Calls P c.f args W fun e W' => e = .returned (.bool true) ∧ Below W.heap.size W W' :=
  link hss hA hv fun x hx => by
    obtain ⟨⟨hi, _, C⟩, _⟩ := hc _ (hp x hx)
    rw [(ssj_eq _ _ _).1, (ssj_eq _ _ _).2, hres] at C
    exact ⟨_, _, C⟩
section
variable {P : Program} {E : Env} (ok : EnvOk P E) (hm : P.follows .mixedOrders = true) {X : Ext} (hX : ExtOk P X)
include ok hm hX
/-- The same, with the tree of the run given as an equation. -/
theorem ret_eq {f : FuncId} {fn : FnI} {args : List PV} {H H0 : Heap} {lo hi : Nat} {v0 : PV} {sy : Bool} {n : Nat} (hf : nthFn E.fs f = some fn) (hl : lo ≤ hi) (hne : H ≠ []) (hN : Names H lo) {T : Prop}
    (e : run cond E sy X true n ⟨f, [.cd fn.body], argT 0 args, [] :: H, lo⟩ (proj lo [] (fun _ _ _ _ => False) (RetR lo hi fun v H' => v = v0 ∧ H' = H0)) = T) (h : T) : CallR P f args H lo v0 H0 hi ∧ ∃ F, P.funcs[f]? = some F ∧ F.body.isSome = true ∧ (F.name == "runtime.NumGoroutine") = false :=
  calls_ret ok hm hX hf hl hne hN (e ▸ h)
theorem loop_eq {lo hi : Nat} {ι : Type} (I : ι → Hd) (good : ι → Prop) {f : FuncId} {fn : FnI} {args : List PV} {H H0 : Heap} {v0 : PV} {sy : Bool} {n : Nat} {ts : List Nat} (hf : nthFn E.fs f = some fn) (hl : lo ≤ hi) (hN : Names H lo) (h6 : ∀ j, good j → lo ≤ (I j).fr) {T : Prop}
    (e : run cond E sy X true n ⟨f, [.cd fn.body], argT 0 args, [] :: H, lo⟩ (proj lo ts (StopR lo hi I good fun _ => True) (RetR lo hi fun v H' => v = v0 ∧ H' = H0)) = T) (h : T)
    (hL : ∀ i, good i → Lands P E ⟨f, (I i).todo, zipT ts (I i).V, (I i).H, (I i).fr⟩ lo hi fun v H' => v = v0 ∧ H' = H0) : CallR P f args H lo v0 H0 hi ∧ ∃ F, P.funcs[f]? = some F ∧ F.body.isSome = true ∧ (F.name == "runtime.NumGoroutine") = false :=
  calls_loop ok hm hX I good hf hl hN h6 (e ▸ h) hL
theorem lands_eq {lo hi : Nat} {ι : Type} (I : ι → Hd) (good : ι → Prop) (μ : ι → Nat) {R : PV → Heap → Prop} {sy : Bool} {n : Nat} {f : FuncId} {ts : List Nat}
    (hI : ∀ i, good i → (∀ x ∈ (I i).todo, ItOk x) ∧ (I i).H ≠ [] ∧ Names (I i).H (I i).fr ∧ lo ≤ (I i).fr) {T : ι → Prop}
    (e : ∀ i, run cond E sy X true n ⟨f, (I i).todo, zipT ts (I i).V, (I i).H, (I i).fr⟩ (proj lo ts (StopR lo hi I good (fun j => μ j < μ i)) (RetR lo hi R)) = T i) (h : ∀ i, good i → T i) : ∀ i, good i → Lands P E ⟨f, (I i).todo, zipT ts (I i).V, (I i).H, (I i).fr⟩ lo hi R :=
  lands ok hm hX I good μ hI fun i hi => e i ▸ h i hi
end
section
variable {r : Mp}
theorem rns_nil : Rns r [] [] := trivial
theorem rns_cons {v v' : PV} {l l' : List PV} (h : Rn r v v') (hl : Rns r l l') : Rns r (v :: l) (v' :: l') := ⟨h, hl⟩
theorem rcs_nil {n : Nat} : Rcs r n [] [] := trivial
theorem rcs_int {n : Nat} {k : IntKind} {f g : Nat → Int} {l m : List Col} (h : ∀ j, j < n → f j = g j) (hl : Rcs r n l m) : Rcs r n (.int k f :: l) (.int k g :: m) := ⟨fun j hj => rn_int (h j hj), hl⟩
theorem rcs_bool {n : Nat} {f g : Nat → Bool} {l m : List Col} (h : ∀ j, j < n → f j = g j) (hl : Rcs r n l m) : Rcs r n (.bool f :: l) (.bool g :: m) := ⟨fun j hj => rn_bool (h j hj), hl⟩
theorem rcs_str {n : Nat} {f g : Nat → ByteArray} {l m : List Col} (h : ∀ j, j < n → f j = g j) (hl : Rcs r n l m) : Rcs r n (.str f :: l) (.str g :: m) := ⟨fun j hj => rn_str (h j hj), hl⟩
theorem entl_cols {fresh : Nat → Prop} {H' : Heap} {k n n' : Nat} {b b' : Bool} {cs ds : List Col} {l : Lvl} (hu : r.use k) (hg : hget H' (r.nm k) = some (b', .cols n' ds)) (hb : b = true → b' = true) (hn : n ≤ n') (h : Rcs r n cs ds) (hl : EntL r fresh H' l) : EntL r fresh H' ((k, b, .cols n cs) :: l) :=
  ⟨.inr ⟨hu, .inl ⟨b', _, hg, by simp, hb, rb_cols hn h⟩⟩, hl⟩
end
theorem flat_one (L : Lvl) : flat [L] = L := by simp [flat]
theorem ret_k {lo hi : Nat} {v0 v' : PV} {L : Lvl} {H' : Heap} {fr' : Nat} {k : Nat} (hv : Rn (Ren.mp ⟨lo, hi, hi, fun _ => k⟩) v0 v') (hf : Nat.ble fr' hi = true) (hi' : injL (Ren.mp ⟨lo, hi, hi, fun _ => k⟩).nm (L.map (·.1)) = true)
    (hH : EntL (Ren.mp ⟨lo, hi, hi, fun _ => k⟩) (fun n => fr' ≤ n ∧ n < hi) H' L) : RetR lo hi (fun v H' => v = v0 ∧ H' = [L]) v' H' fr' :=
  ret_intro _ v0 [L] ⟨rfl, rfl⟩ hf hv (by rw [flat_one]; exact hi') (by rw [flat_one]; exact hH)
theorem fresh_ok {a b n : Nat} (h : (Nat.ble a n && Nat.blt n b) = true) : a ≤ n ∧ n < b := by
  simp only [Bool.and_eq_true] at h
  exact ⟨le_ok h.1, lt_ok h.2⟩
theorem nm_k {lo hi fr k n : Nat} (h : (Nat.ble lo n && Nat.blt n hi) = true) : k = (Ren.mp ⟨lo, hi, fr, fun _ => k⟩).nm n := by
  simp only [Bool.and_eq_true] at h
  have h1 := le_ok h.1
  have h2 := lt_ok h.2
  unfold Ren.mp
  simp only
  rw [if_neg (by omega)]
theorem nm_lo {r : Ren} {n : Nat} (h : Nat.blt n r.lo = true) : n = r.mp.nm n := by
  have := lt_ok h
  unfold Ren.mp
  simp only
  rw [if_pos (.inl this)]
theorem entl_bor {r : Mp} {fresh : Nat → Prop} {H' : Heap} {k n : Nat} {cs : List Col} {l : Lvl} (hu : r.use k) (hg : hget H' (r.nm k) = some (false, .cols n cs)) (h : plainC cs = true) (hl : EntL r fresh H' l) : EntL r fresh H' ((k, false, .cols n cs) :: l) :=
  entl_plain hu hg id h hl
theorem entl_new {r : Mp} {fresh : Nat → Prop} {H' : Heap} {k n n' : Nat} {cs ds : List Col} {l : Lvl} (hu : r.use k) (hg : hget H' (r.nm k) = some (true, .cols n' ds)) (hn : n ≤ n') (h : Rcs r n cs ds) (hl : EntL r fresh H' l) : EntL r fresh H' ((k, true, .cols n cs) :: l) :=
  entl_cols hu hg id hn h hl
/-- A block of columns that is there as a block of rows. -/
theorem entl_rows {r : Mp} {fresh : Nat → Prop} {H' : Heap} {k n n' st : Nat} {cs : List Col} {F : Nat → Nat → PV} {l : Lvl} (hu : r.use k) (hg : hget H' (r.nm k) = some (true, .rows st n' F)) (hs : lenc cs = st) (hn : n ≤ n') (h : ∀ i c, nthc cs i = some c → ∀ j, j < n → Rn r (colAt c j) (F j i)) (hl : EntL r fresh H' l) : EntL r fresh H' ((k, true, .cols n cs) :: l) :=
  ⟨.inr ⟨hu, .inl ⟨true, _, hg, by simp, id, fun σ τ w rb ht hb j i c hj hi => by
    subst hs
    obtain ⟨u, h1, h2⟩ := hb j i (by omega) (nthc_lt hi)
    rw [pos_eq] at h1
    exact ⟨u, by simpa [Nat.add_comm] using h1, h i c hi j hj σ τ u ht h2.1, h2.2⟩⟩⟩, hl⟩
/-- A list of which it is not known whether it is nil: three cases. -/
theorem loose_cases {P : Program} {f : FuncId} {a : PA} {n : Nat} {args : List PV} {H : Heap} {fr : Nat} {v : PV} {H' : Heap} {fr' : Nat} (h1 : 0 < n → CallR P f (.sl a n :: args) H fr v H' fr') (h2 : n = 0 → ∀ b, CallR P f (.zer b :: args) H fr v H' fr') : CallR P f (.loose a n :: args) H fr v H' fr' := by
  intro σ w vals hv
  generalize hq : vals.toList = q at hv
  cases hv with
  | cons _ u _ m hu hl =>
    cases hu with
    | loose _ _ A c hc hA =>
      rcases Nat.eq_zero_or_pos n with h0 | h0
      · subst h0
        exact h2 rfl A.isSome σ w vals (by rw [hq]; exact .cons _ _ _ _ (.zer _ A c rfl) hl)
      · obtain ⟨rb, e1, e2⟩ := hA h0
        subst e2
        exact h1 h0 σ w vals (by rw [hq]; exact .cons _ _ _ _ (.sl _ _ rb _ hc e1) hl)
theorem entl_zero {r : Mp} {fresh : Nat → Prop} {H' : Heap} {k n : Nat} {b' : Blk} {cs : List Col} {l : Lvl} (hu : r.use k) (hg : hget H' (r.nm k) = some (true, b')) (hd : b' ≠ .dead) (hn : n = 0) (hl : EntL r fresh H' l) : EntL r fresh H' ((k, true, .cols n cs) :: l) :=
  ⟨.inr ⟨hu, .inl ⟨true, _, hg, hd, id, fun σ τ w rb ht hb j i c hj hi => by subst hn; omega⟩⟩, hl⟩
/-- One after the other. -/
def AllC (p : Nat → Col → Prop) : Nat → List Col → Prop
  | _, [] => True
  | i, c :: l => p i c ∧ AllC p (i + 1) l
theorem AllC.get {p : Nat → Col → Prop} : ∀ {l : List Col} {i0 i : Nat} {c : Col}, AllC p i0 l → nthc l i = some c → p (i0 + i) c
  | [], _, i, c, _, h => by simp [nthc] at h
  | d :: l, i0, 0, c, h, e => by simp only [nthc, Option.some.injEq] at e; subst e; exact h.1
  | d :: l, i0, i + 1, c, h, e => by
    have := AllC.get (i := i) h.2 e
    rwa [show i0 + 1 + i = i0 + (i + 1) by omega] at this
theorem nthc_all {l : List Col} {p : Nat → Col → Prop} (h : AllC p 0 l) : ∀ i c, nthc l i = some c → p i c := fun i c e => by
  have := h.get e
  rwa [Nat.zero_add] at this
theorem allC_nil {p : Nat → Col → Prop} {i : Nat} : AllC p i [] := trivial
theorem allC_cons {p : Nat → Col → Prop} {i : Nat} {c : Col} {l : List Col} (h : p i c) (hl : AllC p (i + 1) l) : AllC p i (c :: l) := ⟨h, hl⟩
end Go.Ev
