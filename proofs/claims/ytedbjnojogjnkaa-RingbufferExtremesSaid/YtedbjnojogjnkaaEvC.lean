/-
  Contracts as data: what a function answers for arguments of given shapes that are only read, with new blocks of plain columns.
-/
import Derived.Test.YtedbjnojogjnkaaEvK
namespace Go.Ev
open Go.RowKit
set_option linter.unusedSimpArgs false
set_option linter.unusedVariables false

/-- A list that is asked for: where it begins, how many, how many are there, and the columns. -/
def AK.J : AK → Type
  | .plain k => k.I
  | .list ks => Nat × Nat × Nat × CsI ks
def AK.pj : (a : AK) → a.J → Nat → PV
  | .plain k, x, _ => k.v x
  | .list ks, (ix, n, _, _), nm => .loose ⟨nm, lenD ks, ix, 0⟩ n
def AK.lj : (a : AK) → a.J → Nat → Lvl
  | .plain _, _, _ => []
  | .list ks, (_, _, m, c), nm => [(nm, (false, .cols m (csC ks c)))]
def AsJ : List AK → Type
  | [] => Unit
  | a :: l => a.J × AsJ l
def asPJ : (l : List AK) → AsJ l → Nat → List PV
  | [], _, _ => []
  | a :: l, (x, y), nm => a.pj x nm :: asPJ l y (a.next nm)
def asLJ : (l : List AK) → AsJ l → Nat → Lvl
  | [], _, _ => []
  | a :: l, (x, y), nm => a.lj x nm ++ asLJ l y (a.next nm)
def Sh.J : Sh → Type
  | .one a => a.J
  | .agg l => AsJ l
def Sh.pj : (s : Sh) → s.J → Nat → PV
  | .one a, x, nm => a.pj x nm
  | .agg l, x, nm => .agg (asPJ l x nm)
def Sh.lj : (s : Sh) → s.J → Nat → Lvl
  | .one a, x, nm => a.lj x nm
  | .agg l, x, nm => asLJ l x nm
def SsJ : List Sh → Type
  | [] => Unit
  | s :: l => s.J × SsJ l
def ssPJ : (l : List Sh) → SsJ l → Nat → List PV
  | [], _, _ => []
  | s :: l, (x, y), nm => s.pj x nm :: ssPJ l y (s.next nm)
def ssLJ : (l : List Sh) → SsJ l → Nat → Lvl
  | [], _, _ => []
  | s :: l, (x, y), nm => s.lj x nm ++ ssLJ l y (s.next nm)

/-! How arguments are read in a run. -/
def rdK : (k : Kd) → PV → Option k.I
  | .int k, .int k' z => match keq k k' with
    | true => some z
    | false => none
  | .bool, .bool b => some b
  | .bool, .tf b => some b
  | .str, .str s => some s
  | _, _ => none
def rdC : (k : Kd) → Col → Option (Nat → k.I)
  | .int k, .int k' f => match keq k k' with
    | true => some f
    | false => none
  | .bool, .bool f => some f
  | .str, .str f => some f
  | _, _ => none
def rdCs : (l : List Kd) → List Col → Option (CsI l)
  | [], [] => some ()
  | k :: l, c :: cs => match rdC k c, rdCs l cs with
    | some f, some x => some (f, x)
    | _, _ => none
  | _, _ => none
def csDef : (l : List Kd) → CsI l
  | [] => ()
  | k :: l => (fun _ => k.dflt, csDef l)
def rdL (H : Heap) (ks : List Kd) (a : PA) (n : Nat) : Option ((Nat × Nat × Nat × CsI ks) × List Nat) := match Nat.beq a.st (lenD ks), Nat.beq a.off 0, hget H a.nm with
  | true, true, some (_, .cols m cs) => match rdCs ks cs with
    | some c => some ((a.ix, n, m, c), [a.nm])
    | none => none
  | _, _, _ => none
def rdA (H : Heap) (z : Nat) : (a : AK) → PV → Option (a.J × List Nat)
  | .plain k, v => match rdK k v with
    | some x => some (x, [])
    | none => none
  | .list ks, .nils => some ((0, 0, 0, csDef ks), [z])
  | .list ks, .emp => some ((0, 0, 0, csDef ks), [z])
  | .list ks, v => match spanOf v with
    | some (a, n) => rdL H ks a n
    | none => none
def rdAs (H : Heap) (z : Nat) : (l : List AK) → List PV → Option (AsJ l × List Nat)
  | [], [] => some ((), [])
  | a :: l, v :: vs => match rdA H z a v, rdAs H z l vs with
    | some (x, ns), some (y, ms) => some ((x, y), ns ++ ms)
    | _, _ => none
  | _, _ => none
def aggOf : PV → Option (List PV)
  | .agg l => some l
  | _ => none
theorem aggOf_eq {v : PV} {l : List PV} (h : aggOf v = some l) : v = .agg l := by
  cases v <;> simp only [aggOf, reduceCtorEq, Option.some.injEq] at h
  rw [h]
def rdS (H : Heap) (z : Nat) : (s : Sh) → PV → Option (s.J × List Nat)
  | .one a, v => rdA H z a v
  | .agg l, v => match aggOf v with
    | some vs => rdAs H z l vs
    | none => none
def rdSs (H : Heap) (z : Nat) : (l : List Sh) → List PV → Option (SsJ l × List Nat)
  | [], [] => some ((), [])
  | s :: l, v :: vs => match rdS H z s v, rdSs H z l vs with
    | some (x, ns), some (y, ms) => some ((x, y), ns ++ ms)
    | _, _ => none
  | _, _ => none

section
variable {r : Mp}
def Rd (r : Mp) (ns : List Nat) (nm : Nat) : Prop := ∀ i k, ns[i]? = some k → r.use (nm + i) ∧ r.nm (nm + i) = k
theorem Rd.left {ns ms : List Nat} {nm : Nat} (h : Rd r (ns ++ ms) nm) : Rd r ns nm := fun i k hi => h i k (by rw [List.getElem?_append_left (List.getElem?_eq_some_iff.1 hi).1]; exact hi)
theorem Rd.right {ns ms : List Nat} {nm : Nat} (h : Rd r (ns ++ ms) nm) : Rd r ms (nm + ns.length) := fun i k hi => by
  have := h (ns.length + i) k (by rw [List.getElem?_append_right (by omega)]; simpa using hi)
  rwa [← Nat.add_assoc] at this
theorem rdK_ok : ∀ {k : Kd} {v : PV} {x : k.I}, rdK k v = some x → Rn r (k.v x) v := by
  intro k v x h
  cases k <;> cases v <;> simp only [rdK, reduceCtorEq] at h
  · split at h
    · rename_i hk; cases keq_eq hk; cases h; exact rn_int rfl
    · cases h
  · cases h; exact rn_bool rfl
  · cases h; exact rn_bool_tf rfl
  · cases h; exact rn_str rfl
theorem rdC_ok {n : Nat} : ∀ {k : Kd} {c : Col} {f : Nat → k.I}, rdC k c = some f → ∀ j, j < n → Rn r (colAt (k.col f) j) (colAt c j) := by
  intro k c f h j _
  cases k <;> cases c <;> simp only [rdC, reduceCtorEq] at h
  · split at h
    · rename_i hk; cases keq_eq hk; cases h; exact rn_int rfl
    · cases h
  · cases h; exact rn_bool rfl
  · cases h; exact rn_str rfl
theorem rdCs_ok {n : Nat} : ∀ {l : List Kd} {cs : List Col} {x : CsI l}, rdCs l cs = some x → Rcs r n (csC l x) cs
  | [], [], x, _ => trivial
  | k :: l, c :: cs, x, h => by
    simp only [rdCs] at h
    split at h
    · rename_i f y h1 h2
      cases h
      exact ⟨rdC_ok h1, rdCs_ok h2⟩
    · cases h
  | [], _ :: _, _, h => by cases h
  | _ :: _, [], _, h => by cases h
theorem entl_append {fresh : Nat → Prop} {H' : Heap} : ∀ {l m : Lvl}, EntL r fresh H' l → EntL r fresh H' m → EntL r fresh H' (l ++ m)
  | [], m, _, h => h
  | (n, b, blk) :: l, m, h, k => ⟨h.1, entl_append h.2 k⟩
end
theorem allB_append : ∀ {l m : Lvl}, allB l = true → allB m = true → allB (l ++ m) = true
  | [], m, _, h => h
  | (n, b, e) :: l, m, h, k => by
    cases b with
    | true => cases h
    | false => exact allB_append (l := l) h k
/-- What reading yields. -/
structure RdOk (H : Heap) (z : Nat) (pv : Nat → List PV) (lv : Nat → Lvl) (next : Nat → Nat) (vs : List PV) (ns : List Nat) : Prop where
  next : ∀ nm, next nm = nm + ns.length
  lt : ∀ k ∈ ns, k = z ∨ ∃ e, hget H k = some e
  bor : ∀ nm, allB (lv nm) = true
  ok : ∀ (r : Mp) (fresh : Nat → Prop) nm, fresh z → Rd r ns nm → Rns r (pv nm) vs ∧ EntL r fresh H (lv nm)
theorem rdL_ok {H : Heap} {z : Nat} {ks : List Kd} {a : PA} {n : Nat} {v : PV} (hsp : spanOf v = some (a, n)) {x : Nat × Nat × Nat × CsI ks} {ns : List Nat} (h : rdL H ks a n = some (x, ns)) : RdOk H z (fun nm => [AK.pj (.list ks) x nm]) (AK.lj (.list ks) x) (AK.next (.list ks)) [v] ns := by
  unfold rdL at h
  split at h
  · rename_i b m cs h1 h2 hh
    split at h
    · rename_i c hc
      simp only [Option.some.injEq, Prod.mk.injEq] at h
      obtain ⟨rfl, rfl⟩ := h
      have e1 := Nat.eq_of_beq_eq_true h1
      have e2 := Nat.eq_of_beq_eq_true h2
      refine ⟨fun nm => rfl, fun k hk => .inr ⟨_, by simp at hk; subst hk; exact hh⟩, fun nm => rfl, fun r fresh nm hz hr => ?_⟩
      obtain ⟨hu, hn⟩ := hr 0 a.nm rfl
      refine ⟨⟨?_, trivial⟩, ⟨.inr ⟨hu, .inl ⟨_, _, by rw [show r.nm nm = a.nm from hn]; exact hh, by simp, by simp, rb_cols (Nat.le_refl _) (rdCs_ok hc)⟩⟩, trivial⟩⟩
      have hp : pos ⟨nm, lenD ks, a.ix, 0⟩ = pos a := by rw [pos_eq, pos_eq, e1, e2]
      unfold spanOf at hsp
      split at hsp <;> simp only [Option.some.injEq, Prod.mk.injEq, reduceCtorEq] at hsp
      · obtain ⟨rfl, rfl⟩ := hsp; exact rn_loose hu hn.symm hp rfl
      · obtain ⟨rfl, rfl⟩ := hsp; exact rn_loose_sl hu hn.symm hp rfl
      · obtain ⟨rfl, rfl⟩ := hsp
        simp only at e1 hn
        subst e1
        exact rn_own_loose (a := ⟨nm, lenD ks, 0, 0⟩) hu hn.symm (by simp [pos_eq]) rfl
    · cases h
  · cases h
theorem rn_loose_emp {r : Mp} {a : PA} : Rn r (.loose a 0) .emp := fun σ τ u _ hu => by cases hu; exact .loose a 0 _ 0 (Nat.le_refl _) (fun h => by omega)
theorem rdA_ok {H : Heap} {z : Nat} : ∀ {a : AK} {v : PV} {x : a.J} {ns : List Nat}, rdA H z a v = some (x, ns) → RdOk H z (fun nm => [a.pj x nm]) (a.lj x) a.next [v] ns := by
  intro a v x ns h
  have nilcase : ∀ {ks : List Kd} {v : PV}, (∀ r nm, Rn r (.loose ⟨nm, lenD ks, 0, 0⟩ 0) v) → RdOk H z (fun nm => [AK.pj (.list ks) (0, 0, 0, csDef ks) nm]) (AK.lj (.list ks) (0, 0, 0, csDef ks)) (AK.next (.list ks)) [v] [z] := fun hv =>
    ⟨fun nm => rfl, fun k hk => .inl (by simpa using hk), fun nm => rfl, fun r fresh nm hz hr => by
      obtain ⟨hu, hn⟩ := hr 0 z rfl
      exact ⟨⟨hv _ _, trivial⟩, ⟨.inr ⟨hu, .inr (by rw [show r.nm nm = z from hn]; exact hz)⟩, trivial⟩⟩⟩
  cases a with
  | plain k =>
    simp only [rdA] at h
    split at h
    · rename_i y hy
      simp only [Option.some.injEq, Prod.mk.injEq] at h
      obtain ⟨rfl, rfl⟩ := h
      exact ⟨fun nm => rfl, fun k hk => (by cases hk), fun nm => rfl, fun r fresh nm hz hr => ⟨⟨rdK_ok hy, trivial⟩, trivial⟩⟩
    · cases h
  | list ks =>
    cases v
    case nils =>
      simp only [rdA, Option.some.injEq, Prod.mk.injEq] at h
      obtain ⟨rfl, rfl⟩ := h
      exact nilcase fun r nm => rn_loose_nils rfl
    case emp =>
      simp only [rdA, Option.some.injEq, Prod.mk.injEq] at h
      obtain ⟨rfl, rfl⟩ := h
      exact nilcase fun r nm => rn_loose_emp
    all_goals
      simp only [rdA] at h
      split at h
      · rename_i hsp; exact rdL_ok hsp h
      · cases h
theorem rdAs_ok {H : Heap} {z : Nat} : ∀ {l : List AK} {vs : List PV} {x : AsJ l} {ns : List Nat}, rdAs H z l vs = some (x, ns) → RdOk H z (fun nm => asPJ l x nm) (asLJ l x) (asNext l) vs ns
  | [], [], x, ns, h => by
    simp only [rdAs, Option.some.injEq, Prod.mk.injEq] at h
    obtain ⟨rfl, rfl⟩ := h
    exact ⟨fun nm => rfl, fun k hk => (by cases hk), fun nm => rfl, fun r fresh nm hz hr => ⟨trivial, trivial⟩⟩
  | a :: l, v :: vs, x, ns, h => by
    simp only [rdAs] at h
    split at h
    · rename_i x' ns' y' ms' h1 h2
      simp only [Option.some.injEq, Prod.mk.injEq] at h
      obtain ⟨rfl, rfl⟩ := h
      obtain ⟨p1, p2, p3, p4⟩ := rdA_ok h1
      obtain ⟨q1, q2, q3, q4⟩ := rdAs_ok h2
      refine ⟨fun nm => ?_, fun k hk => (List.mem_append.1 hk).elim (p2 k) (q2 k), fun nm => allB_append (p3 nm) (q3 _), fun r fresh nm hz hr => ?_⟩
      · show asNext l (a.next nm) = _
        rw [q1, p1, List.length_append, Nat.add_assoc]
      · obtain ⟨a1, a2⟩ := p4 r fresh nm hz hr.left
        obtain ⟨b1, b2⟩ := q4 r fresh (a.next nm) hz (by rw [p1]; exact hr.right)
        exact ⟨⟨a1.1, b1⟩, entl_append a2 b2⟩
    · cases h
  | [], _ :: _, _, _, h => by cases h
  | _ :: _, [], _, _, h => by cases h
theorem rdS_ok {H : Heap} {z : Nat} : ∀ {s : Sh} {v : PV} {x : s.J} {ns : List Nat}, rdS H z s v = some (x, ns) → RdOk H z (fun nm => [s.pj x nm]) (s.lj x) s.next [v] ns := by
  intro s v x ns h
  cases s with
  | one a => exact rdA_ok h
  | agg l =>
    simp only [rdS] at h
    split at h
    case h_2 => cases h
    rename_i vs hv
    cases aggOf_eq hv
    obtain ⟨p1, p2, p3, p4⟩ := rdAs_ok h
    exact ⟨p1, p2, p3, fun r fresh nm hz hr => ⟨⟨rn_agg (p4 r fresh nm hz hr).1, trivial⟩, (p4 r fresh nm hz hr).2⟩⟩
theorem rdSs_ok {H : Heap} {z : Nat} : ∀ {l : List Sh} {vs : List PV} {x : SsJ l} {ns : List Nat}, rdSs H z l vs = some (x, ns) → RdOk H z (fun nm => ssPJ l x nm) (ssLJ l x) (ssNext l) vs ns
  | [], [], x, ns, h => by
    simp only [rdSs, Option.some.injEq, Prod.mk.injEq] at h
    obtain ⟨rfl, rfl⟩ := h
    exact ⟨fun nm => rfl, fun k hk => (by cases hk), fun nm => rfl, fun r fresh nm hz hr => ⟨trivial, trivial⟩⟩
  | s :: l, v :: vs, x, ns, h => by
    simp only [rdSs] at h
    split at h
    · rename_i x' ns' y' ms' h1 h2
      simp only [Option.some.injEq, Prod.mk.injEq] at h
      obtain ⟨rfl, rfl⟩ := h
      obtain ⟨p1, p2, p3, p4⟩ := rdS_ok h1
      obtain ⟨q1, q2, q3, q4⟩ := rdSs_ok h2
      refine ⟨fun nm => ?_, fun k hk => (List.mem_append.1 hk).elim (p2 k) (q2 k), fun nm => allB_append (p3 nm) (q3 _), fun r fresh nm hz hr => ?_⟩
      · show ssNext l (s.next nm) = _
        rw [q1, p1, List.length_append, Nat.add_assoc]
      · obtain ⟨a1, a2⟩ := p4 r fresh nm hz hr.left
        obtain ⟨b1, b2⟩ := q4 r fresh (s.next nm) hz (by rw [p1]; exact hr.right)
        exact ⟨⟨a1.1, b1⟩, entl_append a2 b2⟩
    · cases h
  | [], _ :: _, _, _, h => by cases h
  | _ :: _, [], _, _, h => by cases h

/-! Other names for a value's. -/
def renA (ρ : Nat → Nat) (a : PA) : PA := ⟨ρ a.nm, a.st, a.ix, a.off⟩
mutual
def ren (ρ : Nat → Nat) : PV → PV
  | .unk => .unk
  | .bool b => .bool b
  | .tf b => .tf b
  | .int k n => .int k n
  | .str s => .str s
  | .ptr a => .ptr (renA ρ a)
  | .nilp => .nilp
  | .nils => .nils
  | .emp => .emp
  | .loose a n => .loose (renA ρ a) n
  | .sl a n => .sl (renA ρ a) n
  | .own nm st n => .own (ρ nm) st n
  | .agg cs => .agg (rens ρ cs)
  | .tup cs => .tup (rens ρ cs)
  | .fn f a b => .fn f (rens ρ a) (rens ρ b)
  | .nilf => .nilf
  | .ifc t v => .ifc t (ren ρ v)
  | .nili => .nili
  | .zer b => .zer b
def rens (ρ : Nat → Nat) : List PV → List PV
  | [] => []
  | v :: l => ren ρ v :: rens ρ l
end
mutual
def chk (p : Nat → Bool) : PV → Bool
  | .ptr a => p a.nm
  | .loose a _ => p a.nm
  | .sl a _ => p a.nm
  | .own nm _ _ => p nm
  | .agg cs => chks p cs
  | .tup cs => chks p cs
  | .fn _ a b => chks p a && chks p b
  | .ifc _ v => chk p v
  | .unk | .bool _ | .tf _ | .int _ _ | .str _ | .nilp | .nils | .emp | .nilf | .nili | .zer _ => true
def chks (p : Nat → Bool) : List PV → Bool
  | [] => true
  | v :: l => chk p v && chks p l
end
theorem rn_ifc {r : Mp} {t : TypeId} {v v' : PV} (h : Rn r v v') : Rn r (.ifc t v) (.ifc t v') := fun σ τ u ht hu => by cases hu with | ifc _ _ u' h' => exact .ifc _ _ _ (h σ τ u' ht h')
mutual
theorem ren_ok {r : Mp} {ρ : Nat → Nat} {p : Nat → Bool} (hp : ∀ n, p n = true → r.use (ρ n) ∧ r.nm (ρ n) = n) : ∀ {v : PV}, chk p v = true → Rn r (ren ρ v) v
  | .unk, _ => rn_unk _
  | .bool b, _ => rn_bool rfl
  | .tf b, _ => rn_tf rfl
  | .int k n, _ => rn_int rfl
  | .str s, _ => rn_str rfl
  | .ptr a, h => rn_ptr (hp _ h).1 (hp _ h).2.symm (by rw [pos_eq, pos_eq]; rfl)
  | .nilp, _ => rn_nilp
  | .nils, _ => rn_nils
  | .emp, _ => rn_emp
  | .loose a n, h => rn_loose (hp _ h).1 (hp _ h).2.symm (by rw [pos_eq, pos_eq]; rfl) rfl
  | .sl a n, h => rn_sl (hp _ h).1 (hp _ h).2.symm (by rw [pos_eq, pos_eq]; rfl) rfl
  | .own nm st n, h => rn_own (hp _ h).1 (hp _ h).2.symm rfl
  | .agg cs, h => rn_agg (rens_ok hp (by simpa only [chk] using h))
  | .tup cs, h => rn_tup (rens_ok hp (by simpa only [chk] using h))
  | .fn f a b, h => by
    simp only [chk, Bool.and_eq_true] at h
    exact rn_fn (rens_ok hp h.1) (rens_ok hp h.2)
  | .nilf, _ => rn_nilf
  | .ifc t v, h => rn_ifc (ren_ok hp (by simpa only [chk] using h))
  | .nili, _ => rn_nili
  | .zer b, _ => fun σ τ u _ hu => by cases hu; exact .zer _ _ _ ‹_›
theorem rens_ok {r : Mp} {ρ : Nat → Nat} {p : Nat → Bool} (hp : ∀ n, p n = true → r.use (ρ n) ∧ r.nm (ρ n) = n) : ∀ {l : List PV}, chks p l = true → Rns r (rens ρ l) l
  | [], _ => trivial
  | v :: l, h => by
    simp only [chks, Bool.and_eq_true] at h
    exact ⟨ren_ok hp h.1, rens_ok hp h.2⟩
end

/-! New blocks. -/
def newL : Nat → List Blk → Lvl
  | _, [] => []
  | n, b :: l => (n, (true, b)) :: newL (n + 1) l
def lenB : List Blk → Nat
  | [] => 0
  | _ :: l => lenB l + 1
def plainB : List Blk → Bool
  | [] => true
  | .cols _ cs :: l => plainC cs && plainB l
  | _ :: _ => false
theorem newL_get : ∀ {bs : List Blk} {lo n : Nat} {e : Bool × Blk}, lget (newL lo bs) n = some e → lo ≤ n ∧ n < lo + lenB bs ∧ e.1 = true ∧ bs[n - lo]? = some e.2
  | [], lo, n, e, h => by cases h
  | b :: l, lo, n, e, h => by
    simp only [newL, lget] at h
    split at h
    · rename_i hb
      have := Nat.eq_of_beq_eq_true hb
      subst this
      cases h
      simp [lenB]
    · obtain ⟨h1, h2, h3, h4⟩ := newL_get h
      refine ⟨by omega, by simp only [lenB]; omega, h3, ?_⟩
      rw [show n - lo = (n - (lo + 1)) + 1 by omega]
      simpa using h4
theorem newL_at : ∀ {bs : List Blk} {lo i : Nat} {b : Blk}, bs[i]? = some b → lget (newL lo bs) (lo + i) = some (true, b)
  | [], lo, i, b, h => by simp at h
  | c :: l, lo, 0, b, h => by
    simp only [List.getElem?_cons_zero, Option.some.injEq] at h
    subst h
    simp [newL, lget]
  | c :: l, lo, i + 1, b, h => by
    have := newL_at (lo := lo + 1) (bs := l) (i := i) (b := b) (by simpa using h)
    have hne : Nat.beq lo (lo + (i + 1)) = false := by
      cases hb : Nat.beq lo (lo + (i + 1))
      · rfl
      · have := Nat.eq_of_beq_eq_true hb; omega
    simp only [newL, lget, hne]
    rwa [show lo + (i + 1) = lo + 1 + i by omega]
theorem plainB_get : ∀ {bs : List Blk} {i : Nat} {b : Blk}, plainB bs = true → bs[i]? = some b → ∃ n cs, b = .cols n cs ∧ plainC cs = true
  | [], i, b, _, h => by simp at h
  | c :: l, i, b, hp, h => by
    cases c <;> simp only [plainB, Bool.and_eq_true, Bool.false_eq_true] at hp
    cases i with
    | zero => simp only [List.getElem?_cons_zero, Option.some.injEq] at h; subst h; exact ⟨_, _, rfl, hp.1⟩
    | succ i => exact plainB_get hp.2 (by simpa using h)
theorem newL_mem : ∀ {bs : List Blk} {lo : Nat}, ∀ p ∈ newL lo bs, lo ≤ p.1 ∧ p.1 < lo + lenB bs ∧ p.2.1 = true
  | [], lo, p, h => by cases h
  | b :: l, lo, p, h => by
    simp only [newL, List.mem_cons] at h
    rcases h with rfl | h
    · exact ⟨Nat.le_refl _, by simp only [lenB]; omega, rfl⟩
    · obtain ⟨h1, h2, h3⟩ := newL_mem p h
      exact ⟨by omega, by simp only [lenB]; omega, h3⟩

/-- A contract as data. -/
structure Con where
  f : Nat
  ss : List Sh
  pre : SsJ ss → Bool
  res : SsJ ss → PV
  new : SsJ ss → List Blk
def Con.lo (c : Con) : Nat := ssNext c.ss 0
def Con.ok (P : Program) (c : Con) : Prop := ∀ x, c.pre x = true → (∃ hi, c.lo + 1 + lenB (c.new x) ≤ hi ∧ CallR P c.f (ssPJ c.ss x 0) [ssLJ c.ss x 0] c.lo (c.res x) [newL (c.lo + 1) (c.new x) ++ ssLJ c.ss x 0] hi) ∧
  ∃ F, P.funcs[c.f]? = some F ∧ F.body.isSome = true ∧ (F.name == "runtime.NumGoroutine") = false
def nthN : List Nat → Nat → Nat
  | [], _ => 0
  | n :: _, 0 => n
  | _ :: l, i + 1 => nthN l i
def idxN : List Nat → Nat → Nat
  | [], _ => 0
  | m :: l, n => match Nat.beq m n with
    | true => 0
    | false => idxN l n + 1
def rho (ns : List Nat) (lo fr : Nat) (n : Nat) : Nat := match Nat.blt n lo with
  | true => nthN ns n
  | false => n - lo + fr
def okN (ns : List Nat) (lo fr k : Nat) (n : Nat) : Bool := match Nat.blt n lo with
  | true => Nat.blt (nthN ns n) fr && Nat.beq (idxN ns (nthN ns n)) n
  | false => Nat.blt lo n && Nat.ble n (lo + k)
def hadd (l : Lvl) : Heap → Heap
  | [] => [l]
  | h :: t => match l with
    | [] => h :: t
    | p :: q => ((p :: q) ++ h) :: t
def conX (test : Bool → Prop → Prop → Prop) (c : Con) : Ext := fun f args H fr K no => match Nat.beq f c.f with
  | false => no
  | true => match rdSs H fr c.ss args with
    | none => no
    | some (x, ns) => match chk (okN ns c.lo fr (lenB (c.new x))) (c.res x), plainB (c.new x) with
      | true, true => test (c.pre x) (K (ren (rho ns c.lo fr) (c.res x)) (hadd (newL (fr + 1) (c.new x)) H) (fr + 1 + lenB (c.new x))) False
      | _, _ => no
def consX (test : Bool → Prop → Prop → Prop) : List Con → Ext
  | [] => noX
  | c :: l => also (conX test c) (consX test l)
theorem nthN_get : ∀ {ns : List Nat} {i : Nat}, i < ns.length → ns[i]? = some (nthN ns i)
  | [], i, h => by simp at h
  | n :: l, 0, _ => rfl
  | n :: l, i + 1, h => by simpa [nthN] using nthN_get (ns := l) (by simpa using h)
theorem hadd_eq (l : Lvl) {H : Heap} (hne : H ≠ []) : ∃ h t, H = h :: t ∧ hadd l H = (l ++ h) :: t := by
  cases H with
  | nil => exact absurd rfl hne
  | cons h t => exact ⟨h, t, rfl, by cases l <;> rfl⟩
theorem conX_ok {P : Program} {c : Con} (hc : c.ok P) : ExtOk P (conX cond c) := by
  intro f args H fr K no hne hN h
  unfold conX at h
  split at h
  · exact .inr h
  rename_i hf
  cases Nat.eq_of_beq_eq_true hf
  split at h
  · exact .inr h
  rename_i x ns hrd
  split at h
  case h_2 => exact .inr h
  rename_i hchk hpl
  obtain ⟨hp, hk⟩ := cond_t h
  obtain ⟨⟨hi, hhi, C⟩, hF⟩ := hc x hp
  obtain ⟨p1, p2, p3, p4⟩ := rdSs_ok hrd
  have elo : c.lo = ns.length := by have := p1 0; unfold Con.lo; omega
  have hb : ∀ n b, hget [ssLJ c.ss x 0] n = some (true, b) → b = .dead := hget_bor (by simpa [flat] using p3 0)
  obtain ⟨hh, tt, eH, eA⟩ := hadd_eq (newL (fr + 1) (c.new x)) hne
  have hget' : ∀ n e, hget (hadd (newL (fr + 1) (c.new x)) H) n = some e → (lget (newL (fr + 1) (c.new x)) n = some e) ∨ hget H n = some e := fun n e hn => by
    rw [eA, hget_cons, lget_append] at hn
    rw [eH, hget_cons]
    cases hl : lget (newL (fr + 1) (c.new x)) n with
    | some e' => rw [hl] at hn; exact .inl hn
    | none => rw [hl] at hn; exact .inr hn
  have hrdr : ∀ use, (∀ i, i < ns.length → use i) → Rd ⟨use, nthN ns⟩ ns 0 := fun use hu i k hi => by
    have hl := (List.getElem?_eq_some_iff.1 hi).1
    rw [Nat.zero_add]
    refine ⟨hu i hl, ?_⟩
    have := nthN_get hl
    rw [hi] at this
    exact (Option.some.inj this).symm
  obtain ⟨a1, a2⟩ := p4 ⟨fun n => n < c.lo, nthN ns⟩ (fun n => fr ≤ n ∧ n < fr + 1 + lenB (c.new x)) 0 (by omega) (hrdr _ fun i hi => by rw [elo]; exact hi)
  refine .inl ⟨_, _, _, hk, ⟨by omega, ⟨newL (fr + 1) (c.new x), fun h t e => ?_, fun p hp => ?_⟩, fun n e hn => ?_⟩, ?_, hF⟩
  · obtain ⟨rfl, rfl⟩ : h = hh ∧ t = tt := by rw [eH] at e; simpa [eq_comm] using e
    exact eA
  · obtain ⟨_, q2, q3⟩ := newL_mem p hp
    exact ⟨by omega, .inl q3⟩
  · rcases hget' n e hn with h1 | h1
    · obtain ⟨q1, q2, _, _⟩ := newL_get h1
      exact .inr ⟨by omega, by omega⟩
    · exact .inl ⟨e, h1⟩
  refine frame C hb hN (nthN ns) (idxN ns) (by omega) (by omega) a1 (HpR.bor (by simpa [flat] using p3 0) (by simpa [flat] using a2)) (ren_ok (fun n hn => ?_) hchk) fun n e hn => ?_
  · cases hb : Nat.blt n c.lo <;> simp only [okN, rho, hb, Bool.and_eq_true] at hn ⊢
    · have e1 : c.lo < n := lt_ok hn.1
      have e2 : n ≤ c.lo + lenB (c.new x) := le_ok hn.2
      rw [if_pos (by omega)]
      exact ⟨.inl (by omega), by omega⟩
    · have e1 : nthN ns n < fr := lt_ok hn.1
      have e2 := Nat.eq_of_beq_eq_true hn.2
      have e3 : n < c.lo := lt_ok hb
      rw [if_neg (by omega), e2]
      exact ⟨.inr ⟨by omega, e3, rfl⟩, rfl⟩
  · rcases hget' n e hn with h1 | h1
    · obtain ⟨q1, q2, q3, q4⟩ := newL_get h1
      refine .inr ⟨by omega, by omega, .inr ⟨q3, ?_⟩⟩
      obtain ⟨m, cs, e1, e2⟩ := plainB_get hpl q4
      refine ⟨e.2, ?_, by rw [e1]; simp, by rw [e1]; exact rb_plain e2⟩
      rw [hget_cons, lget_append, show n - fr + c.lo = c.lo + 1 + (n - (fr + 1)) by omega, newL_at q4]
    · exact .inl h1
def AllOk (P : Program) : List Con → Prop
  | [] => True
  | c :: l => c.ok P ∧ AllOk P l
theorem consX_ok {P : Program} : ∀ {l : List Con}, AllOk P l → ExtOk P (consX cond l)
  | [], _ => noX_ok
  | c :: l, h => also_ok (conX_ok h.1) (consX_ok h.2)
/-- Arguments as they open, as a contract asks for them. -/
def AK.j : (a : AK) → a.I → a.J
  | .plain _, x => x
  | .list _, (n, c) => (0, n, n, c)
def asj : (l : List AK) → AsI l → AsJ l
  | [], _ => ()
  | a :: l, (x, y) => (a.j x, asj l y)
def Sh.j : (s : Sh) → s.I → s.J
  | .one a, x => a.j x
  | .agg l, x => asj l x
def ssj : (l : List Sh) → SsI l → SsJ l
  | [], _ => ()
  | s :: l, (x, y) => (s.j x, ssj l y)
theorem akj (a : AK) (x : a.I) (nm : Nat) : a.pj (a.j x) nm = a.pv x nm ∧ a.lj (a.j x) nm = a.lvl x nm := by cases a <;> exact ⟨rfl, rfl⟩
theorem asj_eq : ∀ (l : List AK) (x : AsI l) (nm : Nat), asPJ l (asj l x) nm = asPV l x nm ∧ asLJ l (asj l x) nm = asLvl l x nm
  | [], _, _ => ⟨rfl, rfl⟩
  | a :: l, (x, y), nm => by
    obtain ⟨h1, h2⟩ := akj a x nm
    obtain ⟨h3, h4⟩ := asj_eq l y (a.next nm)
    exact ⟨by simp only [asPJ, asPV, asj, h1, h3], by simp only [asLJ, asLvl, asj, h2, h4]⟩
theorem shj (s : Sh) (x : s.I) (nm : Nat) : s.pj (s.j x) nm = s.pv x nm ∧ s.lj (s.j x) nm = s.lvl x nm := by
  cases s with
  | one a => exact akj a x nm
  | agg l => exact ⟨congrArg PV.agg (asj_eq l x nm).1, (asj_eq l x nm).2⟩
theorem ssj_eq : ∀ (l : List Sh) (x : SsI l) (nm : Nat), ssPJ l (ssj l x) nm = ssPV l x nm ∧ ssLJ l (ssj l x) nm = ssLvl l x nm
  | [], _, _ => ⟨rfl, rfl⟩
  | s :: l, (x, y), nm => by
    obtain ⟨h1, h2⟩ := shj s x nm
    obtain ⟨h3, h4⟩ := ssj_eq l y (s.next nm)
    exact ⟨by simp only [ssPJ, ssPV, ssj, h1, h3], by simp only [ssLJ, ssLvl, ssj, h2, h4]⟩
open Go.Deep Go.WideShapes Go.ChangeAt in
/-- From a law's contract to its call. -/
theorem law_link {P : Program} {c : Con} (hc : c.ok P) (hres : ∀ x, c.res x = .bool true) {H : Type} {enc : TypeId × Value → H} {n : Nat} {ts : List TypeId} {W : World} {args : Array Value} {ds : List (DataW H)} {ps : List MemPlace} {r : Reach} {b0 : Nat} (hss : shsOf P n ts = some c.ss)
    (hp : ∀ x, ssFits c.ss x → c.pre (ssj c.ss x) = true) (hA : DataW.TrodAll enc P W 0 (fun _ => true) true ts args.toList ds ps) (hv : ∀ (j : Nat) t v, ts[j]? = some t → args[j]? = some v → Value.okWide P W r b0 t v) :
    Calls P c.f args W fun e W' => e = .returned (.bool true) ∧ Below W.heap.size W W' :=
  link hss hA hv fun x hx => by
    obtain ⟨⟨hi, _, C⟩, _⟩ := hc _ (hp x hx)
    rw [(ssj_eq _ _ _).1, (ssj_eq _ _ _).2, hres] at C
    exact ⟨_, _, C⟩
section
variable {P : Program} {E : Env} (ok : EnvOk P E) (hm : P.follows .mixedOrders = true) {X : Ext} (hX : ExtOk P X)
include ok hm hX
/-- The same, with the tree of the run given as an equation. -/
theorem ret_eq {f : FuncId} {fn : FnI} {args : List PV} {H H0 : Heap} {lo hi : Nat} {v0 : PV} {sy : Bool} {n : Nat} (hf : nthFn E.fs f = some fn) (hl : lo ≤ hi) (hne : H ≠ []) (hN : Names H lo) {T : Prop}
    (e : run cond E sy X true n ⟨f, [.cd fn.body], argT 0 args, [] :: H, lo⟩ (proj lo [] (fun _ _ _ _ => False) (RetR lo hi fun v H' => v = v0 ∧ H' = H0)) = T) (h : T) : CallR P f args H lo v0 H0 hi ∧ ∃ F, P.funcs[f]? = some F ∧ F.body.isSome = true ∧ (F.name == "runtime.NumGoroutine") = false :=
  calls_ret ok hm hX hf hl hne hN (e ▸ h)
theorem loop_eq {lo hi : Nat} {ι : Type} (I : ι → Hd) (good : ι → Prop) {f : FuncId} {fn : FnI} {args : List PV} {H H0 : Heap} {v0 : PV} {sy : Bool} {n : Nat} {ts : List Nat} (hf : nthFn E.fs f = some fn) (hl : lo ≤ hi) (hN : Names H lo) (h6 : ∀ j, good j → lo ≤ (I j).fr) {T : Prop}
    (e : run cond E sy X true n ⟨f, [.cd fn.body], argT 0 args, [] :: H, lo⟩ (proj lo ts (StopR lo hi I good fun _ => True) (RetR lo hi fun v H' => v = v0 ∧ H' = H0)) = T) (h : T)
    (hL : ∀ i, good i → Lands P E ⟨f, (I i).todo, zipT ts (I i).V, (I i).H, (I i).fr⟩ lo hi fun v H' => v = v0 ∧ H' = H0) : CallR P f args H lo v0 H0 hi ∧ ∃ F, P.funcs[f]? = some F ∧ F.body.isSome = true ∧ (F.name == "runtime.NumGoroutine") = false :=
  calls_loop ok hm hX I good hf hl hN h6 (e ▸ h) hL
theorem lands_eq {lo hi : Nat} {ι : Type} (I : ι → Hd) (good : ι → Prop) (μ : ι → Nat) {R : PV → Heap → Prop} {sy : Bool} {n : Nat} {f : FuncId} {ts : List Nat}
    (hI : ∀ i, good i → (∀ x ∈ (I i).todo, ItOk x) ∧ (I i).H ≠ [] ∧ Names (I i).H (I i).fr ∧ lo ≤ (I i).fr) {T : ι → Prop}
    (e : ∀ i, run cond E sy X true n ⟨f, (I i).todo, zipT ts (I i).V, (I i).H, (I i).fr⟩ (proj lo ts (StopR lo hi I good (fun j => μ j < μ i)) (RetR lo hi R)) = T i) (h : ∀ i, good i → T i) : ∀ i, good i → Lands P E ⟨f, (I i).todo, zipT ts (I i).V, (I i).H, (I i).fr⟩ lo hi R :=
  lands ok hm hX I good μ hI fun i hi => e i ▸ h i hi
end
section
variable {r : Mp}
theorem rns_nil : Rns r [] [] := trivial
theorem rns_cons {v v' : PV} {l l' : List PV} (h : Rn r v v') (hl : Rns r l l') : Rns r (v :: l) (v' :: l') := ⟨h, hl⟩
theorem rcs_nil {n : Nat} : Rcs r n [] [] := trivial
theorem rcs_int {n : Nat} {k : IntKind} {f g : Nat → Int} {l m : List Col} (h : ∀ j, j < n → f j = g j) (hl : Rcs r n l m) : Rcs r n (.int k f :: l) (.int k g :: m) := ⟨fun j hj => rn_int (h j hj), hl⟩
theorem rcs_bool {n : Nat} {f g : Nat → Bool} {l m : List Col} (h : ∀ j, j < n → f j = g j) (hl : Rcs r n l m) : Rcs r n (.bool f :: l) (.bool g :: m) := ⟨fun j hj => rn_bool (h j hj), hl⟩
theorem rcs_str {n : Nat} {f g : Nat → ByteArray} {l m : List Col} (h : ∀ j, j < n → f j = g j) (hl : Rcs r n l m) : Rcs r n (.str f :: l) (.str g :: m) := ⟨fun j hj => rn_str (h j hj), hl⟩
theorem entl_cols {fresh : Nat → Prop} {H' : Heap} {k n n' : Nat} {b b' : Bool} {cs ds : List Col} {l : Lvl} (hu : r.use k) (hg : hget H' (r.nm k) = some (b', .cols n' ds)) (hb : b = true → b' = true) (hn : n ≤ n') (h : Rcs r n cs ds) (hl : EntL r fresh H' l) : EntL r fresh H' ((k, b, .cols n cs) :: l) :=
  ⟨.inr ⟨hu, .inl ⟨b', _, hg, by simp, hb, rb_cols hn h⟩⟩, hl⟩
end
theorem flat_one (L : Lvl) : flat [L] = L := by simp [flat]
theorem ret_k {lo hi : Nat} {v0 v' : PV} {L : Lvl} {H' : Heap} {fr' : Nat} {k : Nat} (hv : Rn (Ren.mp ⟨lo, hi, hi, fun _ => k⟩) v0 v') (hf : Nat.ble fr' hi = true) (hi' : injL (Ren.mp ⟨lo, hi, hi, fun _ => k⟩).nm (L.map (·.1)) = true)
    (hH : EntL (Ren.mp ⟨lo, hi, hi, fun _ => k⟩) (fun n => fr' ≤ n ∧ n < hi) H' L) : RetR lo hi (fun v H' => v = v0 ∧ H' = [L]) v' H' fr' :=
  ret_intro _ v0 [L] ⟨rfl, rfl⟩ hf hv (by rw [flat_one]; exact hi') (by rw [flat_one]; exact hH)
theorem fresh_ok {a b n : Nat} (h : (Nat.ble a n && Nat.blt n b) = true) : a ≤ n ∧ n < b := by
  simp only [Bool.and_eq_true] at h
  exact ⟨le_ok h.1, lt_ok h.2⟩
theorem nm_k {lo hi fr k n : Nat} (h : (Nat.ble lo n && Nat.blt n hi) = true) : k = (Ren.mp ⟨lo, hi, fr, fun _ => k⟩).nm n := by
  simp only [Bool.and_eq_true] at h
  have h1 := le_ok h.1
  have h2 := lt_ok h.2
  unfold Ren.mp
  simp only
  rw [if_neg (by omega)]
theorem nm_lo {r : Ren} {n : Nat} (h : Nat.blt n r.lo = true) : n = r.mp.nm n := by
  have := lt_ok h
  unfold Ren.mp
  simp only
  rw [if_pos (.inl this)]
theorem entl_bor {r : Mp} {fresh : Nat → Prop} {H' : Heap} {k n : Nat} {cs : List Col} {l : Lvl} (hu : r.use k) (hg : hget H' (r.nm k) = some (false, .cols n cs)) (h : plainC cs = true) (hl : EntL r fresh H' l) : EntL r fresh H' ((k, false, .cols n cs) :: l) :=
  entl_plain hu hg id h hl
theorem entl_new {r : Mp} {fresh : Nat → Prop} {H' : Heap} {k n n' : Nat} {cs ds : List Col} {l : Lvl} (hu : r.use k) (hg : hget H' (r.nm k) = some (true, .cols n' ds)) (hn : n ≤ n') (h : Rcs r n cs ds) (hl : EntL r fresh H' l) : EntL r fresh H' ((k, true, .cols n cs) :: l) :=
  entl_cols hu hg id hn h hl
/-- A block of columns that is there as a block of rows. -/
theorem entl_rows {r : Mp} {fresh : Nat → Prop} {H' : Heap} {k n n' st : Nat} {cs : List Col} {F : Nat → Nat → PV} {l : Lvl} (hu : r.use k) (hg : hget H' (r.nm k) = some (true, .rows st n' F)) (hs : lenc cs = st) (hn : n ≤ n') (h : ∀ i c, nthc cs i = some c → ∀ j, j < n → Rn r (colAt c j) (F j i)) (hl : EntL r fresh H' l) : EntL r fresh H' ((k, true, .cols n cs) :: l) :=
  ⟨.inr ⟨hu, .inl ⟨true, _, hg, by simp, id, fun σ τ w rb ht hb j i c hj hi => by
    subst hs
    obtain ⟨u, h1, h2⟩ := hb j i (by omega) (nthc_lt hi)
    rw [pos_eq] at h1
    exact ⟨u, by simpa [Nat.add_comm] using h1, h i c hi j hj σ τ u ht h2.1, h2.2⟩⟩⟩, hl⟩
/-- A list of which it is not known whether it is nil: three cases. -/
theorem loose_cases {P : Program} {f : FuncId} {a : PA} {n : Nat} {args : List PV} {H : Heap} {fr : Nat} {v : PV} {H' : Heap} {fr' : Nat} (h1 : 0 < n → CallR P f (.sl a n :: args) H fr v H' fr') (h2 : n = 0 → ∀ b, CallR P f (.zer b :: args) H fr v H' fr') : CallR P f (.loose a n :: args) H fr v H' fr' := by
  intro σ w vals hv
  generalize hq : vals.toList = q at hv
  cases hv with
  | cons _ u _ m hu hl =>
    cases hu with
    | loose _ _ A c hc hA =>
      rcases Nat.eq_zero_or_pos n with h0 | h0
      · subst h0
        exact h2 rfl A.isSome σ w vals (by rw [hq]; exact .cons _ _ _ _ (.zer _ A c rfl) hl)
      · obtain ⟨rb, e1, e2⟩ := hA h0
        subst e2
        exact h1 h0 σ w vals (by rw [hq]; exact .cons _ _ _ _ (.sl _ _ rb _ hc e1) hl)
theorem entl_zero {r : Mp} {fresh : Nat → Prop} {H' : Heap} {k n : Nat} {b' : Blk} {cs : List Col} {l : Lvl} (hu : r.use k) (hg : hget H' (r.nm k) = some (true, b')) (hd : b' ≠ .dead) (hn : n = 0) (hl : EntL r fresh H' l) : EntL r fresh H' ((k, true, .cols n cs) :: l) :=
  ⟨.inr ⟨hu, .inl ⟨true, _, hg, hd, id, fun σ τ w rb ht hb j i c hj hi => by subst hn; omega⟩⟩, hl⟩
/-- One after the other. -/
def AllC (p : Nat → Col → Prop) : Nat → List Col → Prop
  | _, [] => True
  | i, c :: l => p i c ∧ AllC p (i + 1) l
theorem AllC.get {p : Nat → Col → Prop} : ∀ {l : List Col} {i0 i : Nat} {c : Col}, AllC p i0 l → nthc l i = some c → p (i0 + i) c
  | [], _, i, c, _, h => by simp [nthc] at h
  | d :: l, i0, 0, c, h, e => by simp only [nthc, Option.some.injEq] at e; subst e; exact h.1
  | d :: l, i0, i + 1, c, h, e => by
    have := AllC.get (i := i) h.2 e
    rwa [show i0 + 1 + i = i0 + (i + 1) by omega] at this
theorem nthc_all {l : List Col} {p : Nat → Col → Prop} (h : AllC p 0 l) : ∀ i c, nthc l i = some c → p i c := fun i c e => by
  have := h.get e
  rwa [Nat.zero_add] at this
theorem allC_nil {p : Nat → Col → Prop} {i : Nat} : AllC p i [] := trivial
theorem allC_cons {p : Nat → Col → Prop} {i : Nat} {c : Col} {l : List Col} (h : p i c) (hl : AllC p (i + 1) l) : AllC p i (c :: l) := ⟨h, hl⟩
end Go.Ev
