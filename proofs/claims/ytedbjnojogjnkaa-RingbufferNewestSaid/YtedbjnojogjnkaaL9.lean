/-
  The law of Run.
-/
import Derived.Test.YtedbjnojogjnkaaL9a
namespace Go.Ev
open Go.Proofs
set_option linter.unusedVariables false
set_option linter.unusedSimpArgs false

theorem stepB_len {b : S.Bu} {kd st sv : Int} {sg : Bool} : (S.stepB b kd st sv sg).2.2.2.2.2.2.length ≤ b.2.2.2.2.2.2.length + 1 := stepS_len
theorem runS_len {kd st sv : Nat → Int} {sg : Nat → Bool} : ∀ (k i : Nat) (b : S.Bu) (r : Int), (S.runS kd st sv sg i k b r).1.2.2.2.2.2.2.length ≤ b.2.2.2.2.2.2.length + k := by
  intro k
  induction k with
  | zero => intro i b r; exact Nat.le_refl _
  | succ k ih =>
    intro i b r
    simp only [S.runS]
    have h1 := stepB_len (b := b) (kd := kd i) (st := st i) (sv := sv i) (sg := sg i)
    split
    · have := ih (i + 1) (S.stepB b (kd i) (st i) (sv i) (sg i)) r; omega
    · have := ih (i + 1) b (r + 1); omega
theorem runR_len {ca af : Int} {n : Nat} {kd st sv : Nat → Int} {sg : Nat → Bool} : (S.runR ca af n kd st sv sg).2.2.2.2.2.2.2.length ≤ n + n := by
  unfold S.runR
  split
  · have := runS_len (kd := kd) (st := st) (sv := sv) (sg := sg) n 0 (ca, af, 0, -1, false, 0, []) 0
    simp only [S.resR] at this ⊢
    simp only [List.length_nil] at this
    omega
  · exact Nat.zero_le _
theorem runS_congr {kd st sv kd' st' sv' : Nat → Int} {sg sg' : Nat → Bool} : ∀ (k i : Nat) (b : S.Bu) (r : Int), (∀ j, i ≤ j → j < i + k → kd j = kd' j ∧ st j = st' j ∧ sv j = sv' j ∧ sg j = sg' j) → S.runS kd st sv sg i k b r = S.runS kd' st' sv' sg' i k b r := by
  intro k
  induction k with
  | zero => intro i b r h; rfl
  | succ k ih =>
    intro i b r h
    obtain ⟨h1, h2, h3, h4⟩ := h i (Nat.le_refl _) (by omega)
    simp only [S.runS]
    rw [h1, h2, h3, h4, ih (i + 1) _ r fun j a c => h j (by omega) (by omega), ih (i + 1) b (r + 1) fun j a c => h j (by omega) (by omega)]
theorem runR_cl {ca af : Int} {n : Nat} {f : Nat → Int × Int × Int × Bool} : S.runR ca af (S.mkl n f).length (fun j => (S.at' (S.mkl n f) j).1) (fun j => (S.at' (S.mkl n f) j).2.1) (fun j => (S.at' (S.mkl n f) j).2.2.1) (fun j => (S.at' (S.mkl n f) j).2.2.2) = S.runR ca af n (fun j => (f j).1) (fun j => (f j).2.1) (fun j => (f j).2.2.1) (fun j => (f j).2.2.2) := by
  rw [mkl_len]
  unfold S.runR
  rw [runS_congr n 0 _ _ fun j _ hj => by rw [at_mkl (by omega)]; exact ⟨rfl, rfl, rfl, rfl⟩]
abbrev St7 := Empty
abbrev Rt7 := Bool
noncomputable def V7 (ca : Int) (af : Int) (al nl ml : Nat) (tl : Nat → Int) (vl : Nat → Int) (gl : Nat → Int) (wl : Nat → Bool) (r : Rt7) : PV := PV.bool r
noncomputable def N7 (ca : Int) (af : Int) (al nl ml : Nat) (tl : Nat → Int) (vl : Nat → Int) (gl : Nat → Int) (wl : Nat → Bool) (r : Rt7) : List Blk := []
noncomputable def I7 (ca : Int) (af : Int) (al nl ml : Nat) (tl : Nat → Int) (vl : Nat → Int) (gl : Nat → Int) (wl : Nat → Bool) : St7 → Hd := fun s => s.elim
noncomputable def q7 (ca : Int) (af : Int) (al nl ml : Nat) (tl : Nat → Int) (vl : Nat → Int) (gl : Nat → Int) (wl : Nat → Bool) : St7 → Option (St7 ⊕ Rt7) := fun s => s.elim
noncomputable def p7 (ca : Int) (af : Int) (al nl ml : Nat) (tl : Nat → Int) (vl : Nat → Int) (gl : Nat → Int) (wl : Nat → Bool) : Option (St7 ⊕ Rt7) := bif (decide ((↑nl : Int) > (60 : Int)))
 then (some (.inr (true)))
 else (bif (decide (al + nl ≤ ml ∧ nl ≤ 1000000))
 then (bif (decide (0 + nl ≤ nl ∧ nl ≤ 999998))
 then (bif (decide (al + nl ≤ ml ∧ nl ≤ 999998))
 then (bif (Prod.fst
 (Prod.snd
 (Prod.snd
 (Prod.snd
 (Prod.snd
 (Prod.snd
 (Prod.snd
 (S.runR ca af nl (fun (j : Nat) => tl (j + al)) (fun (j : Nat) => vl (j + al))
 (fun (j : Nat) => gl (j + al)) fun (j : Nat) => wl (j + al)))))))) ==
 Prod.fst
 (Prod.snd
 (Prod.snd
 (Prod.snd
 (Prod.snd
 (Prod.snd
 (Prod.snd
 (S.runR ca af nl (fun (j : Nat) => tl (j + al)) (fun (j : Nat) => vl (j + al))
 (fun (j : Nat) => gl (j + al)) fun (j : Nat) => wl (j + al)))))))))
 then (bif (Prod.fst
 (Prod.snd
 (Prod.snd
 (Prod.snd
 (Prod.snd
 (Prod.snd
 (S.runR ca af nl (fun (j : Nat) => tl (j + al)) (fun (j : Nat) => vl (j + al))
 (fun (j : Nat) => gl (j + al)) fun (j : Nat) => wl (j + al))))))) ==
 Prod.fst
 (Prod.snd
 (Prod.snd
 (Prod.snd
 (Prod.snd
 (Prod.snd
 (S.runR ca af nl (fun (j : Nat) => tl (j + al)) (fun (j : Nat) => vl (j + al))
 (fun (j : Nat) => gl (j + al)) fun (j : Nat) => wl (j + al))))))))
 then (bif (decide
 (0 +
 List.length
 (Prod.snd
 (Prod.snd
 (Prod.snd
 (Prod.snd
 (Prod.snd
 (Prod.snd
 (Prod.snd
 (S.runR ca af nl (fun (j : Nat) => tl (j + al)) (fun (j : Nat) => vl (j + al))
 (fun (j : Nat) => gl (j + al)) fun (j : Nat) => wl (j + al))))))))) ≤
 List.length
 (Prod.snd
 (Prod.snd
 (Prod.snd
 (Prod.snd
 (Prod.snd
 (Prod.snd
 (Prod.snd
 (S.runR ca af nl (fun (j : Nat) => tl (j + al)) (fun (j : Nat) => vl (j + al))
 (fun (j : Nat) => gl (j + al)) fun (j : Nat) => wl (j + al))))))))) ∧
 List.length
 (Prod.snd
 (Prod.snd
 (Prod.snd
 (Prod.snd
 (Prod.snd
 (Prod.snd
 (Prod.snd
 (S.runR ca af nl (fun (j : Nat) => tl (j + al)) (fun (j : Nat) => vl (j + al))
 (fun (j : Nat) => gl (j + al)) fun (j : Nat) => wl (j + al))))))))) ≤
 1000000 ∧
 0 +
 List.length
 (Prod.snd
 (Prod.snd
 (Prod.snd
 (Prod.snd
 (Prod.snd
 (Prod.snd
 (Prod.snd
 (S.runR ca af nl (fun (j : Nat) => tl (j + al)) (fun (j : Nat) => vl (j + al))
 (fun (j : Nat) => gl (j + al)) fun (j : Nat) => wl (j + al))))))))) ≤
 List.length
 (Prod.snd
 (Prod.snd
 (Prod.snd
 (Prod.snd
 (Prod.snd
 (Prod.snd
 (Prod.snd
 (S.runR ca af nl (fun (j : Nat) => tl (j + al)) (fun (j : Nat) => vl (j + al))
 (fun (j : Nat) => gl (j + al)) fun (j : Nat) => wl (j + al))))))))) ∧
 List.length
 (Prod.snd
 (Prod.snd
 (Prod.snd
 (Prod.snd
 (Prod.snd
 (Prod.snd
 (Prod.snd
 (S.runR ca af nl (fun (j : Nat) => tl (j + al)) (fun (j : Nat) => vl (j + al))
 (fun (j : Nat) => gl (j + al)) fun (j : Nat) => wl (j + al))))))))) ≤
 1000000))
 then (bif (decide
 (Prod.fst
 (S.runR ca af nl (fun (j : Nat) => tl (j + al)) (fun (j : Nat) => vl (j + al))
 (fun (j : Nat) => gl (j + al)) fun (j : Nat) => wl (j + al)) =
 Prod.fst
 (S.runR ca af nl (fun (j : Nat) => tl (j + al)) (fun (j : Nat) => vl (j + al))
 (fun (j : Nat) => gl (j + al)) fun (j : Nat) => wl (j + al)) ∧
 Prod.fst
 (Prod.snd
 (S.runR ca af nl (fun (j : Nat) => tl (j + al)) (fun (j : Nat) => vl (j + al))
 (fun (j : Nat) => gl (j + al)) fun (j : Nat) => wl (j + al))) =
 Prod.fst
 (Prod.snd
 (S.runR ca af nl (fun (j : Nat) => tl (j + al)) (fun (j : Nat) => vl (j + al))
 (fun (j : Nat) => gl (j + al)) fun (j : Nat) => wl (j + al))) ∧
 Prod.fst
 (Prod.snd
 (Prod.snd
 (S.runR ca af nl (fun (j : Nat) => tl (j + al)) (fun (j : Nat) => vl (j + al))
 (fun (j : Nat) => gl (j + al)) fun (j : Nat) => wl (j + al)))) =
 Prod.fst
 (Prod.snd
 (Prod.snd
 (S.runR ca af nl (fun (j : Nat) => tl (j + al)) (fun (j : Nat) => vl (j + al))
 (fun (j : Nat) => gl (j + al)) fun (j : Nat) => wl (j + al)))) ∧
 Prod.fst
 (Prod.snd
 (Prod.snd
 (Prod.snd
 (S.runR ca af nl (fun (j : Nat) => tl (j + al)) (fun (j : Nat) => vl (j + al))
 (fun (j : Nat) => gl (j + al)) fun (j : Nat) => wl (j + al))))) =
 Prod.fst
 (Prod.snd
 (Prod.snd
 (Prod.snd
 (S.runR ca af nl (fun (j : Nat) => tl (j + al)) (fun (j : Nat) => vl (j + al))
 (fun (j : Nat) => gl (j + al)) fun (j : Nat) => wl (j + al))))) ∧
 Prod.fst
 (Prod.snd
 (Prod.snd
 (Prod.snd
 (Prod.snd
 (S.runR ca af nl (fun (j : Nat) => tl (j + al)) (fun (j : Nat) => vl (j + al))
 (fun (j : Nat) => gl (j + al)) fun (j : Nat) => wl (j + al)))))) =
 Prod.fst
 (Prod.snd
 (Prod.snd
 (Prod.snd
 (Prod.snd
 (S.runR ca af nl (fun (j : Nat) => tl (j + al)) (fun (j : Nat) => vl (j + al))
 (fun (j : Nat) => gl (j + al)) fun (j : Nat) => wl (j + al)))))) ∧
 (S.mkl
 (List.length
 (Prod.snd
 (Prod.snd
 (Prod.snd
 (Prod.snd
 (Prod.snd
 (Prod.snd
 (Prod.snd
 (S.runR ca af nl (fun (j : Nat) => tl (j + al)) (fun (j : Nat) => vl (j + al))
 (fun (j : Nat) => gl (j + al)) fun (j : Nat) => wl (j + al))))))))))
 fun (j : Nat) =>
 (Prod.fst
 (S.at'
 (Prod.snd
 (Prod.snd
 (Prod.snd
 (Prod.snd
 (Prod.snd
 (Prod.snd
 (Prod.snd
 (S.runR ca af nl (fun (j : Nat) => tl (j + al)) (fun (j : Nat) => vl (j + al))
 (fun (j : Nat) => gl (j + al)) fun (j : Nat) => wl (j + al)))))))))
 j),
 Prod.fst
 (Prod.snd
 (S.at'
 (Prod.snd
 (Prod.snd
 (Prod.snd
 (Prod.snd
 (Prod.snd
 (Prod.snd
 (Prod.snd
 (S.runR ca af nl (fun (j : Nat) => tl (j + al))
 (fun (j : Nat) => vl (j + al)) (fun (j : Nat) => gl (j + al)) fun (j : Nat) =>
 wl (j + al)))))))))
 j)),
 Prod.snd
 (Prod.snd
 (S.at'
 (Prod.snd
 (Prod.snd
 (Prod.snd
 (Prod.snd
 (Prod.snd
 (Prod.snd
 (Prod.snd
 (S.runR ca af nl (fun (j : Nat) => tl (j + al))
 (fun (j : Nat) => vl (j + al)) (fun (j : Nat) => gl (j + al)) fun (j : Nat) =>
 wl (j + al)))))))))
 j)))) =
 S.mkl
 (List.length
 (Prod.snd
 (Prod.snd
 (Prod.snd
 (Prod.snd
 (Prod.snd
 (Prod.snd
 (Prod.snd
 (S.runR ca af nl (fun (j : Nat) => tl (j + al)) (fun (j : Nat) => vl (j + al))
 (fun (j : Nat) => gl (j + al)) fun (j : Nat) => wl (j + al))))))))))
 fun (j : Nat) =>
 (Prod.fst
 (S.at'
 (Prod.snd
 (Prod.snd
 (Prod.snd
 (Prod.snd
 (Prod.snd
 (Prod.snd
 (Prod.snd
 (S.runR ca af nl (fun (j : Nat) => tl (j + al)) (fun (j : Nat) => vl (j + al))
 (fun (j : Nat) => gl (j + al)) fun (j : Nat) => wl (j + al)))))))))
 j),
 Prod.fst
 (Prod.snd
 (S.at'
 (Prod.snd
 (Prod.snd
 (Prod.snd
 (Prod.snd
 (Prod.snd
 (Prod.snd
 (Prod.snd
 (S.runR ca af nl (fun (j : Nat) => tl (j + al))
 (fun (j : Nat) => vl (j + al)) (fun (j : Nat) => gl (j + al)) fun (j : Nat) =>
 wl (j + al)))))))))
 j)),
 Prod.snd
 (Prod.snd
 (S.at'
 (Prod.snd
 (Prod.snd
 (Prod.snd
 (Prod.snd
 (Prod.snd
 (Prod.snd
 (Prod.snd
 (S.runR ca af nl (fun (j : Nat) => tl (j + al))
 (fun (j : Nat) => vl (j + al)) (fun (j : Nat) => gl (j + al)) fun (j : Nat) =>
 wl (j + al)))))))))
 j)))))
 then (some (.inr (true)))
 else (some (.inr (false))))
 else (none))
 else (some (.inr (false))))
 else (some (.inr (false))))
 else (none))
 else (none))
 else (none))
noncomputable def Te7 (test : Bool → Prop → Prop → Prop) (Kst : KS) (Kret : KR) (ca : Int) (af : Int) (al nl ml : Nat) (tl : Nat → Int) (vl : Nat → Int) (gl : Nat → Int) (wl : Nat → Bool) : Prop :=
  test (true)
 (test (true)
 (test (decide ((↑nl : Int) > (60 : Int)))
 (test (true)
 (test (true)
 (Kret (PV.tf true) ([[(0, false,
 Blk.cols ml
 [Col.int IntKind.i64 tl, Col.int IntKind.i64 vl, Col.int IntKind.i64 gl,
 Col.bool wl])]]) (4))
 (Kret (PV.tf false) ([[(0, false,
 Blk.cols ml
 [Col.int IntKind.i64 tl, Col.int IntKind.i64 vl, Col.int IntKind.i64 gl,
 Col.bool wl])]]) (4)))
 (False))
 (test (decide (al + nl ≤ ml ∧ nl ≤ 1000000))
 (test (decide (0 + nl ≤ nl ∧ nl ≤ 999998))
 (test (decide (al + nl ≤ ml ∧ nl ≤ 999998))
 (test (Prod.fst
 (Prod.snd
 (Prod.snd
 (Prod.snd
 (Prod.snd
 (Prod.snd
 (Prod.snd
 (S.runR ca af nl (fun (j : Nat) => tl (j + al)) (fun (j : Nat) => vl (j + al))
 (fun (j : Nat) => gl (j + al)) fun (j : Nat) => wl (j + al)))))))) ==
 Prod.fst
 (Prod.snd
 (Prod.snd
 (Prod.snd
 (Prod.snd
 (Prod.snd
 (Prod.snd
 (S.runR ca af nl (fun (j : Nat) => tl (j + al)) (fun (j : Nat) => vl (j + al))
 (fun (j : Nat) => gl (j + al)) fun (j : Nat) => wl (j + al)))))))))
 (test (Prod.fst
 (Prod.snd
 (Prod.snd
 (Prod.snd
 (Prod.snd
 (Prod.snd
 (S.runR ca af nl (fun (j : Nat) => tl (j + al)) (fun (j : Nat) => vl (j + al))
 (fun (j : Nat) => gl (j + al)) fun (j : Nat) => wl (j + al))))))) ==
 Prod.fst
 (Prod.snd
 (Prod.snd
 (Prod.snd
 (Prod.snd
 (Prod.snd
 (S.runR ca af nl (fun (j : Nat) => tl (j + al)) (fun (j : Nat) => vl (j + al))
 (fun (j : Nat) => gl (j + al)) fun (j : Nat) => wl (j + al))))))))
 (test (decide
 (0 +
 List.length
 (Prod.snd
 (Prod.snd
 (Prod.snd
 (Prod.snd
 (Prod.snd
 (Prod.snd
 (Prod.snd
 (S.runR ca af nl (fun (j : Nat) => tl (j + al)) (fun (j : Nat) => vl (j + al))
 (fun (j : Nat) => gl (j + al)) fun (j : Nat) => wl (j + al))))))))) ≤
 List.length
 (Prod.snd
 (Prod.snd
 (Prod.snd
 (Prod.snd
 (Prod.snd
 (Prod.snd
 (Prod.snd
 (S.runR ca af nl (fun (j : Nat) => tl (j + al)) (fun (j : Nat) => vl (j + al))
 (fun (j : Nat) => gl (j + al)) fun (j : Nat) => wl (j + al))))))))) ∧
 List.length
 (Prod.snd
 (Prod.snd
 (Prod.snd
 (Prod.snd
 (Prod.snd
 (Prod.snd
 (Prod.snd
 (S.runR ca af nl (fun (j : Nat) => tl (j + al)) (fun (j : Nat) => vl (j + al))
 (fun (j : Nat) => gl (j + al)) fun (j : Nat) => wl (j + al))))))))) ≤
 1000000 ∧
 0 +
 List.length
 (Prod.snd
 (Prod.snd
 (Prod.snd
 (Prod.snd
 (Prod.snd
 (Prod.snd
 (Prod.snd
 (S.runR ca af nl (fun (j : Nat) => tl (j + al)) (fun (j : Nat) => vl (j + al))
 (fun (j : Nat) => gl (j + al)) fun (j : Nat) => wl (j + al))))))))) ≤
 List.length
 (Prod.snd
 (Prod.snd
 (Prod.snd
 (Prod.snd
 (Prod.snd
 (Prod.snd
 (Prod.snd
 (S.runR ca af nl (fun (j : Nat) => tl (j + al)) (fun (j : Nat) => vl (j + al))
 (fun (j : Nat) => gl (j + al)) fun (j : Nat) => wl (j + al))))))))) ∧
 List.length
 (Prod.snd
 (Prod.snd
 (Prod.snd
 (Prod.snd
 (Prod.snd
 (Prod.snd
 (Prod.snd
 (S.runR ca af nl (fun (j : Nat) => tl (j + al)) (fun (j : Nat) => vl (j + al))
 (fun (j : Nat) => gl (j + al)) fun (j : Nat) => wl (j + al))))))))) ≤
 1000000))
 (test (decide
 (Prod.fst
 (S.runR ca af nl (fun (j : Nat) => tl (j + al)) (fun (j : Nat) => vl (j + al))
 (fun (j : Nat) => gl (j + al)) fun (j : Nat) => wl (j + al)) =
 Prod.fst
 (S.runR ca af nl (fun (j : Nat) => tl (j + al)) (fun (j : Nat) => vl (j + al))
 (fun (j : Nat) => gl (j + al)) fun (j : Nat) => wl (j + al)) ∧
 Prod.fst
 (Prod.snd
 (S.runR ca af nl (fun (j : Nat) => tl (j + al)) (fun (j : Nat) => vl (j + al))
 (fun (j : Nat) => gl (j + al)) fun (j : Nat) => wl (j + al))) =
 Prod.fst
 (Prod.snd
 (S.runR ca af nl (fun (j : Nat) => tl (j + al)) (fun (j : Nat) => vl (j + al))
 (fun (j : Nat) => gl (j + al)) fun (j : Nat) => wl (j + al))) ∧
 Prod.fst
 (Prod.snd
 (Prod.snd
 (S.runR ca af nl (fun (j : Nat) => tl (j + al)) (fun (j : Nat) => vl (j + al))
 (fun (j : Nat) => gl (j + al)) fun (j : Nat) => wl (j + al)))) =
 Prod.fst
 (Prod.snd
 (Prod.snd
 (S.runR ca af nl (fun (j : Nat) => tl (j + al)) (fun (j : Nat) => vl (j + al))
 (fun (j : Nat) => gl (j + al)) fun (j : Nat) => wl (j + al)))) ∧
 Prod.fst
 (Prod.snd
 (Prod.snd
 (Prod.snd
 (S.runR ca af nl (fun (j : Nat) => tl (j + al)) (fun (j : Nat) => vl (j + al))
 (fun (j : Nat) => gl (j + al)) fun (j : Nat) => wl (j + al))))) =
 Prod.fst
 (Prod.snd
 (Prod.snd
 (Prod.snd
 (S.runR ca af nl (fun (j : Nat) => tl (j + al)) (fun (j : Nat) => vl (j + al))
 (fun (j : Nat) => gl (j + al)) fun (j : Nat) => wl (j + al))))) ∧
 Prod.fst
 (Prod.snd
 (Prod.snd
 (Prod.snd
 (Prod.snd
 (S.runR ca af nl (fun (j : Nat) => tl (j + al)) (fun (j : Nat) => vl (j + al))
 (fun (j : Nat) => gl (j + al)) fun (j : Nat) => wl (j + al)))))) =
 Prod.fst
 (Prod.snd
 (Prod.snd
 (Prod.snd
 (Prod.snd
 (S.runR ca af nl (fun (j : Nat) => tl (j + al)) (fun (j : Nat) => vl (j + al))
 (fun (j : Nat) => gl (j + al)) fun (j : Nat) => wl (j + al)))))) ∧
 (S.mkl
 (List.length
 (Prod.snd
 (Prod.snd
 (Prod.snd
 (Prod.snd
 (Prod.snd
 (Prod.snd
 (Prod.snd
 (S.runR ca af nl (fun (j : Nat) => tl (j + al)) (fun (j : Nat) => vl (j + al))
 (fun (j : Nat) => gl (j + al)) fun (j : Nat) => wl (j + al))))))))))
 fun (j : Nat) =>
 (Prod.fst
 (S.at'
 (Prod.snd
 (Prod.snd
 (Prod.snd
 (Prod.snd
 (Prod.snd
 (Prod.snd
 (Prod.snd
 (S.runR ca af nl (fun (j : Nat) => tl (j + al)) (fun (j : Nat) => vl (j + al))
 (fun (j : Nat) => gl (j + al)) fun (j : Nat) => wl (j + al)))))))))
 j),
 Prod.fst
 (Prod.snd
 (S.at'
 (Prod.snd
 (Prod.snd
 (Prod.snd
 (Prod.snd
 (Prod.snd
 (Prod.snd
 (Prod.snd
 (S.runR ca af nl (fun (j : Nat) => tl (j + al))
 (fun (j : Nat) => vl (j + al)) (fun (j : Nat) => gl (j + al)) fun (j : Nat) =>
 wl (j + al)))))))))
 j)),
 Prod.snd
 (Prod.snd
 (S.at'
 (Prod.snd
 (Prod.snd
 (Prod.snd
 (Prod.snd
 (Prod.snd
 (Prod.snd
 (Prod.snd
 (S.runR ca af nl (fun (j : Nat) => tl (j + al))
 (fun (j : Nat) => vl (j + al)) (fun (j : Nat) => gl (j + al)) fun (j : Nat) =>
 wl (j + al)))))))))
 j)))) =
 S.mkl
 (List.length
 (Prod.snd
 (Prod.snd
 (Prod.snd
 (Prod.snd
 (Prod.snd
 (Prod.snd
 (Prod.snd
 (S.runR ca af nl (fun (j : Nat) => tl (j + al)) (fun (j : Nat) => vl (j + al))
 (fun (j : Nat) => gl (j + al)) fun (j : Nat) => wl (j + al))))))))))
 fun (j : Nat) =>
 (Prod.fst
 (S.at'
 (Prod.snd
 (Prod.snd
 (Prod.snd
 (Prod.snd
 (Prod.snd
 (Prod.snd
 (Prod.snd
 (S.runR ca af nl (fun (j : Nat) => tl (j + al)) (fun (j : Nat) => vl (j + al))
 (fun (j : Nat) => gl (j + al)) fun (j : Nat) => wl (j + al)))))))))
 j),
 Prod.fst
 (Prod.snd
 (S.at'
 (Prod.snd
 (Prod.snd
 (Prod.snd
 (Prod.snd
 (Prod.snd
 (Prod.snd
 (Prod.snd
 (S.runR ca af nl (fun (j : Nat) => tl (j + al))
 (fun (j : Nat) => vl (j + al)) (fun (j : Nat) => gl (j + al)) fun (j : Nat) =>
 wl (j + al)))))))))
 j)),
 Prod.snd
 (Prod.snd
 (S.at'
 (Prod.snd
 (Prod.snd
 (Prod.snd
 (Prod.snd
 (Prod.snd
 (Prod.snd
 (Prod.snd
 (S.runR ca af nl (fun (j : Nat) => tl (j + al))
 (fun (j : Nat) => vl (j + al)) (fun (j : Nat) => gl (j + al)) fun (j : Nat) =>
 wl (j + al)))))))))
 j)))))
 (Kret (PV.tf true) ([[(0, false,
 Blk.cols ml
 [Col.int IntKind.i64 tl, Col.int IntKind.i64 vl, Col.int IntKind.i64 gl,
 Col.bool wl])]]) (12))
 (Kret (PV.tf false) ([[(0, false,
 Blk.cols ml
 [Col.int IntKind.i64 tl, Col.int IntKind.i64 vl, Col.int IntKind.i64 gl,
 Col.bool wl])]]) (12)))
 (False))
 (Kret (PV.tf false) ([[(0, false,
 Blk.cols ml
 [Col.int IntKind.i64 tl, Col.int IntKind.i64 vl, Col.int IntKind.i64 gl,
 Col.bool wl])]]) (11)))
 (Kret (PV.tf false) ([[(0, false,
 Blk.cols ml
 [Col.int IntKind.i64 tl, Col.int IntKind.i64 vl, Col.int IntKind.i64 gl,
 Col.bool wl])]]) (11)))
 (False))
 (False))
 (False)))
 (test (true)
 (test (true)
 (Kret (PV.tf true) ([[(0, false,
 Blk.cols ml
 [Col.int IntKind.i64 tl, Col.int IntKind.i64 vl, Col.int IntKind.i64 gl,
 Col.bool wl])]]) (4))
 (Kret (PV.tf false) ([[(0, false,
 Blk.cols ml
 [Col.int IntKind.i64 tl, Col.int IntKind.i64 vl, Col.int IntKind.i64 gl,
 Col.bool wl])]]) (4)))
 (False)))
 (False)
set_option maxRecDepth 100000 in
theorem te7 (test : Bool → Prop → Prop → Prop) (Kst : KS) (Kret : KR) (ca : Int) (af : Int) (al nl ml : Nat) (tl : Nat → Int) (vl : Nat → Int) (gl : Nat → Int) (wl : Nat → Bool) : run test Try.env true (xF test) true 400 ⟨7, [.cd (mkFn Try.f7).body], argT 0 [.agg [.int .i64 ca, .int .i64 af], .loose ⟨0, 4, al, 0⟩ nl], [[], [(0, (false, .cols ml [.int .i64 tl, .int .i64 vl, .int .i64 gl, .bool wl]))]], 1⟩ (proj 1 [] Kst Kret) =
  Te7 test Kst Kret ca af al nl ml tl vl gl wl := by kernel_rfl
set_option maxRecDepth 100000 in
theorem be7 (ca : Int) (af : Int) (al nl ml : Nat) (tl : Nat → Int) (vl : Nat → Int) (gl : Nat → Int) (wl : Nat → Bool) (Kst : KS) (Kret : KR) (x : St7 ⊕ Rt7) (hS : HS 1 400 ((I7 ca af al nl ml tl vl gl wl)) Kst x) (hR : HR 1 400 ((V7 ca af al nl ml tl vl gl wl)) (fun r => [newL (1 + 1) ((N7 ca af al nl ml tl vl gl wl) r) ++ [(0, (false, .cols ml [.int .i64 tl, .int .i64 vl, .int .i64 gl, .bool wl]))]]) Kret x) (h : (bif (decide ((↑nl : Int) > (60 : Int)))
 then (some (.inr (true)))
 else (bif (decide (al + nl ≤ ml ∧ nl ≤ 1000000))
 then (bif (decide (0 + nl ≤ nl ∧ nl ≤ 999998))
 then (bif (decide (al + nl ≤ ml ∧ nl ≤ 999998))
 then (bif (Prod.fst
 (Prod.snd
 (Prod.snd
 (Prod.snd
 (Prod.snd
 (Prod.snd
 (Prod.snd
 (S.runR ca af nl (fun (j : Nat) => tl (j + al)) (fun (j : Nat) => vl (j + al))
 (fun (j : Nat) => gl (j + al)) fun (j : Nat) => wl (j + al)))))))) ==
 Prod.fst
 (Prod.snd
 (Prod.snd
 (Prod.snd
 (Prod.snd
 (Prod.snd
 (Prod.snd
 (S.runR ca af nl (fun (j : Nat) => tl (j + al)) (fun (j : Nat) => vl (j + al))
 (fun (j : Nat) => gl (j + al)) fun (j : Nat) => wl (j + al)))))))))
 then (bif (Prod.fst
 (Prod.snd
 (Prod.snd
 (Prod.snd
 (Prod.snd
 (Prod.snd
 (S.runR ca af nl (fun (j : Nat) => tl (j + al)) (fun (j : Nat) => vl (j + al))
 (fun (j : Nat) => gl (j + al)) fun (j : Nat) => wl (j + al))))))) ==
 Prod.fst
 (Prod.snd
 (Prod.snd
 (Prod.snd
 (Prod.snd
 (Prod.snd
 (S.runR ca af nl (fun (j : Nat) => tl (j + al)) (fun (j : Nat) => vl (j + al))
 (fun (j : Nat) => gl (j + al)) fun (j : Nat) => wl (j + al))))))))
 then (bif (decide
 (0 +
 List.length
 (Prod.snd
 (Prod.snd
 (Prod.snd
 (Prod.snd
 (Prod.snd
 (Prod.snd
 (Prod.snd
 (S.runR ca af nl (fun (j : Nat) => tl (j + al)) (fun (j : Nat) => vl (j + al))
 (fun (j : Nat) => gl (j + al)) fun (j : Nat) => wl (j + al))))))))) ≤
 List.length
 (Prod.snd
 (Prod.snd
 (Prod.snd
 (Prod.snd
 (Prod.snd
 (Prod.snd
 (Prod.snd
 (S.runR ca af nl (fun (j : Nat) => tl (j + al)) (fun (j : Nat) => vl (j + al))
 (fun (j : Nat) => gl (j + al)) fun (j : Nat) => wl (j + al))))))))) ∧
 List.length
 (Prod.snd
 (Prod.snd
 (Prod.snd
 (Prod.snd
 (Prod.snd
 (Prod.snd
 (Prod.snd
 (S.runR ca af nl (fun (j : Nat) => tl (j + al)) (fun (j : Nat) => vl (j + al))
 (fun (j : Nat) => gl (j + al)) fun (j : Nat) => wl (j + al))))))))) ≤
 1000000 ∧
 0 +
 List.length
 (Prod.snd
 (Prod.snd
 (Prod.snd
 (Prod.snd
 (Prod.snd
 (Prod.snd
 (Prod.snd
 (S.runR ca af nl (fun (j : Nat) => tl (j + al)) (fun (j : Nat) => vl (j + al))
 (fun (j : Nat) => gl (j + al)) fun (j : Nat) => wl (j + al))))))))) ≤
 List.length
 (Prod.snd
 (Prod.snd
 (Prod.snd
 (Prod.snd
 (Prod.snd
 (Prod.snd
 (Prod.snd
 (S.runR ca af nl (fun (j : Nat) => tl (j + al)) (fun (j : Nat) => vl (j + al))
 (fun (j : Nat) => gl (j + al)) fun (j : Nat) => wl (j + al))))))))) ∧
 List.length
 (Prod.snd
 (Prod.snd
 (Prod.snd
 (Prod.snd
 (Prod.snd
 (Prod.snd
 (Prod.snd
 (S.runR ca af nl (fun (j : Nat) => tl (j + al)) (fun (j : Nat) => vl (j + al))
 (fun (j : Nat) => gl (j + al)) fun (j : Nat) => wl (j + al))))))))) ≤
 1000000))
 then (bif (decide
 (Prod.fst
 (S.runR ca af nl (fun (j : Nat) => tl (j + al)) (fun (j : Nat) => vl (j + al))
 (fun (j : Nat) => gl (j + al)) fun (j : Nat) => wl (j + al)) =
 Prod.fst
 (S.runR ca af nl (fun (j : Nat) => tl (j + al)) (fun (j : Nat) => vl (j + al))
 (fun (j : Nat) => gl (j + al)) fun (j : Nat) => wl (j + al)) ∧
 Prod.fst
 (Prod.snd
 (S.runR ca af nl (fun (j : Nat) => tl (j + al)) (fun (j : Nat) => vl (j + al))
 (fun (j : Nat) => gl (j + al)) fun (j : Nat) => wl (j + al))) =
 Prod.fst
 (Prod.snd
 (S.runR ca af nl (fun (j : Nat) => tl (j + al)) (fun (j : Nat) => vl (j + al))
 (fun (j : Nat) => gl (j + al)) fun (j : Nat) => wl (j + al))) ∧
 Prod.fst
 (Prod.snd
 (Prod.snd
 (S.runR ca af nl (fun (j : Nat) => tl (j + al)) (fun (j : Nat) => vl (j + al))
 (fun (j : Nat) => gl (j + al)) fun (j : Nat) => wl (j + al)))) =
 Prod.fst
 (Prod.snd
 (Prod.snd
 (S.runR ca af nl (fun (j : Nat) => tl (j + al)) (fun (j : Nat) => vl (j + al))
 (fun (j : Nat) => gl (j + al)) fun (j : Nat) => wl (j + al)))) ∧
 Prod.fst
 (Prod.snd
 (Prod.snd
 (Prod.snd
 (S.runR ca af nl (fun (j : Nat) => tl (j + al)) (fun (j : Nat) => vl (j + al))
 (fun (j : Nat) => gl (j + al)) fun (j : Nat) => wl (j + al))))) =
 Prod.fst
 (Prod.snd
 (Prod.snd
 (Prod.snd
 (S.runR ca af nl (fun (j : Nat) => tl (j + al)) (fun (j : Nat) => vl (j + al))
 (fun (j : Nat) => gl (j + al)) fun (j : Nat) => wl (j + al))))) ∧
 Prod.fst
 (Prod.snd
 (Prod.snd
 (Prod.snd
 (Prod.snd
 (S.runR ca af nl (fun (j : Nat) => tl (j + al)) (fun (j : Nat) => vl (j + al))
 (fun (j : Nat) => gl (j + al)) fun (j : Nat) => wl (j + al)))))) =
 Prod.fst
 (Prod.snd
 (Prod.snd
 (Prod.snd
 (Prod.snd
 (S.runR ca af nl (fun (j : Nat) => tl (j + al)) (fun (j : Nat) => vl (j + al))
 (fun (j : Nat) => gl (j + al)) fun (j : Nat) => wl (j + al)))))) ∧
 (S.mkl
 (List.length
 (Prod.snd
 (Prod.snd
 (Prod.snd
 (Prod.snd
 (Prod.snd
 (Prod.snd
 (Prod.snd
 (S.runR ca af nl (fun (j : Nat) => tl (j + al)) (fun (j : Nat) => vl (j + al))
 (fun (j : Nat) => gl (j + al)) fun (j : Nat) => wl (j + al))))))))))
 fun (j : Nat) =>
 (Prod.fst
 (S.at'
 (Prod.snd
 (Prod.snd
 (Prod.snd
 (Prod.snd
 (Prod.snd
 (Prod.snd
 (Prod.snd
 (S.runR ca af nl (fun (j : Nat) => tl (j + al)) (fun (j : Nat) => vl (j + al))
 (fun (j : Nat) => gl (j + al)) fun (j : Nat) => wl (j + al)))))))))
 j),
 Prod.fst
 (Prod.snd
 (S.at'
 (Prod.snd
 (Prod.snd
 (Prod.snd
 (Prod.snd
 (Prod.snd
 (Prod.snd
 (Prod.snd
 (S.runR ca af nl (fun (j : Nat) => tl (j + al))
 (fun (j : Nat) => vl (j + al)) (fun (j : Nat) => gl (j + al)) fun (j : Nat) =>
 wl (j + al)))))))))
 j)),
 Prod.snd
 (Prod.snd
 (S.at'
 (Prod.snd
 (Prod.snd
 (Prod.snd
 (Prod.snd
 (Prod.snd
 (Prod.snd
 (Prod.snd
 (S.runR ca af nl (fun (j : Nat) => tl (j + al))
 (fun (j : Nat) => vl (j + al)) (fun (j : Nat) => gl (j + al)) fun (j : Nat) =>
 wl (j + al)))))))))
 j)))) =
 S.mkl
 (List.length
 (Prod.snd
 (Prod.snd
 (Prod.snd
 (Prod.snd
 (Prod.snd
 (Prod.snd
 (Prod.snd
 (S.runR ca af nl (fun (j : Nat) => tl (j + al)) (fun (j : Nat) => vl (j + al))
 (fun (j : Nat) => gl (j + al)) fun (j : Nat) => wl (j + al))))))))))
 fun (j : Nat) =>
 (Prod.fst
 (S.at'
 (Prod.snd
 (Prod.snd
 (Prod.snd
 (Prod.snd
 (Prod.snd
 (Prod.snd
 (Prod.snd
 (S.runR ca af nl (fun (j : Nat) => tl (j + al)) (fun (j : Nat) => vl (j + al))
 (fun (j : Nat) => gl (j + al)) fun (j : Nat) => wl (j + al)))))))))
 j),
 Prod.fst
 (Prod.snd
 (S.at'
 (Prod.snd
 (Prod.snd
 (Prod.snd
 (Prod.snd
 (Prod.snd
 (Prod.snd
 (Prod.snd
 (S.runR ca af nl (fun (j : Nat) => tl (j + al))
 (fun (j : Nat) => vl (j + al)) (fun (j : Nat) => gl (j + al)) fun (j : Nat) =>
 wl (j + al)))))))))
 j)),
 Prod.snd
 (Prod.snd
 (S.at'
 (Prod.snd
 (Prod.snd
 (Prod.snd
 (Prod.snd
 (Prod.snd
 (Prod.snd
 (Prod.snd
 (S.runR ca af nl (fun (j : Nat) => tl (j + al))
 (fun (j : Nat) => vl (j + al)) (fun (j : Nat) => gl (j + al)) fun (j : Nat) =>
 wl (j + al)))))))))
 j)))))
 then (some (.inr (true)))
 else (some (.inr (false))))
 else (none))
 else (some (.inr (false))))
 else (some (.inr (false))))
 else (none))
 else (none))
 else (none)) : Option (St7 ⊕ Rt7)) = some x) : Te7 cond Kst Kret ca af al nl ml tl vl gl wl := by
  unfold Te7
  exact cond_yes rfl (cond_yes rfl (bif_split h
   (fun c0 h => cond_yes rfl (cond_yes rfl (ret_at hR _ h (fun n => n) rfl rfl rfl (rn_bool_tf rfl) rfl (entl_bor (use_lo rfl) rfl rfl entl_nil))))
   (fun c0 h => bif_split h
   (fun c1 h => bif_split h
   (fun c2 h => bif_split h
   (fun c3 h => bif_split h
   (fun c4 h => bif_split h
   (fun c5 h => bif_split h
   (fun c6 h => bif_split h
   (fun c7 h => ret_at hR _ h (fun n => n) rfl rfl rfl (rn_bool_tf rfl) rfl (entl_bor (use_lo rfl) rfl rfl entl_nil))
   (fun c7 h => ret_at hR _ h (fun n => n) rfl rfl rfl (rn_bool_tf rfl) rfl (entl_bor (use_lo rfl) rfl rfl entl_nil)))
   (fun c6 h => no_some h))
   (fun c5 h => ret_at hR _ h (fun n => n) rfl rfl rfl (rn_bool_tf rfl) rfl (entl_bor (use_lo rfl) rfl rfl entl_nil)))
   (fun c4 h => ret_at hR _ h (fun n => n) rfl rfl rfl (rn_bool_tf rfl) rfl (entl_bor (use_lo rfl) rfl rfl entl_nil)))
   (fun c3 h => no_some h))
   (fun c2 h => no_some h))
   (fun c1 h => no_some h))))
theorem a7 (ca : Int) (af : Int) (al nl ml : Nat) (tl : Nat → Int) (vl : Nat → Int) (gl : Nat → Int) (wl : Nat → Bool) {r : Rt7} (h : Goes ((q7 ca af al nl ml tl vl gl wl)) ((p7 ca af al nl ml tl vl gl wl)) r) : CallR Try.prog 7 [.agg [.int .i64 ca, .int .i64 af], .loose ⟨0, 4, al, 0⟩ nl] [[(0, (false, .cols ml [.int .i64 tl, .int .i64 vl, .int .i64 gl, .bool wl]))]] 1 ((V7 ca af al nl ml tl vl gl wl) r) ((fun r => [newL (1 + 1) ((N7 ca af al nl ml tl vl gl wl) r) ++ [(0, (false, .cols ml [.int .i64 tl, .int .i64 vl, .int .i64 gl, .bool wl]))]]) r) 400 ∧ ∃ F, Try.prog.funcs[7]? = some F ∧ F.body.isSome = true ∧ (F.name == "runtime.NumGoroutine") = false := by
  refine dec_calls (f := 7) (lo := 1) (hi := 400) (H := [[(0, (false, .cols ml [.int .i64 tl, .int .i64 vl, .int .i64 gl, .bool wl]))]]) (args := [.agg [.int .i64 ca, .int .i64 af], .loose ⟨0, 4, al, 0⟩ nl]) Try.envOk Try.mixed xF_ok ((I7 ca af al nl ml tl vl gl wl)) ((V7 ca af al nl ml tl vl gl wl)) (fun r => [newL (1 + 1) ((N7 ca af al nl ml tl vl gl wl) r) ++ [(0, (false, .cols ml [.int .i64 tl, .int .i64 vl, .int .i64 gl, .bool wl]))]]) (fn := mkFn Try.f7) (ts := []) (n := 400) rfl (by decide) (by simp) (names_of rfl) ?_ ?_ ?_ h
  · intro s; exact s.elim
  · intro Kst Kret x hS hR h
    exact Holds.eq (te7 cond Kst Kret ca af al nl ml tl vl gl wl) (be7 ca af al nl ml tl vl gl wl Kst Kret x hS hR h)
  · intro Kst Kret x hS hR s h; exact s.elim
noncomputable def k7 : Con := ⟨7, [.agg [.plain (.int .i64), .plain (.int .i64)], .one (.list [.int .i64, .int .i64, .int .i64, .bool])], fun (x : (Int × Int × Unit) × (Nat × Nat × Nat × (Nat → Int) × (Nat → Int) × (Nat → Int) × (Nat → Bool) × Unit) × Unit) => (fun (ca : Int) (af : Int) (al nl ml : Nat) (tl : Nat → Int) (vl : Nat → Int) (gl : Nat → Int) (wl : Nat → Bool) => decide (al + nl ≤ ml)) x.1.1 x.1.2.1 x.2.1.1 x.2.1.2.1 x.2.1.2.2.1 x.2.1.2.2.2.1 x.2.1.2.2.2.2.1 x.2.1.2.2.2.2.2.1 x.2.1.2.2.2.2.2.2.1, fun (x : (Int × Int × Unit) × (Nat × Nat × Nat × (Nat → Int) × (Nat → Int) × (Nat → Int) × (Nat → Bool) × Unit) × Unit) => (fun (ca : Int) (af : Int) (al nl ml : Nat) (tl : Nat → Int) (vl : Nat → Int) (gl : Nat → Int) (wl : Nat → Bool) => (V7 ca af al nl ml tl vl gl wl) (true)) x.1.1 x.1.2.1 x.2.1.1 x.2.1.2.1 x.2.1.2.2.1 x.2.1.2.2.2.1 x.2.1.2.2.2.2.1 x.2.1.2.2.2.2.2.1 x.2.1.2.2.2.2.2.2.1, fun (x : (Int × Int × Unit) × (Nat × Nat × Nat × (Nat → Int) × (Nat → Int) × (Nat → Int) × (Nat → Bool) × Unit) × Unit) => (fun (ca : Int) (af : Int) (al nl ml : Nat) (tl : Nat → Int) (vl : Nat → Int) (gl : Nat → Int) (wl : Nat → Bool) => (N7 ca af al nl ml tl vl gl wl) (true)) x.1.1 x.1.2.1 x.2.1.1 x.2.1.2.1 x.2.1.2.2.1 x.2.1.2.2.2.1 x.2.1.2.2.2.2.1 x.2.1.2.2.2.2.2.1 x.2.1.2.2.2.2.2.2.1⟩
theorem s7 (ca : Int) (af : Int) (al nl ml : Nat) (tl : Nat → Int) (vl : Nat → Int) (gl : Nat → Int) (wl : Nat → Bool) (hp : al + nl ≤ ml) : Goes ((q7 ca af al nl ml tl vl gl wl)) ((p7 ca af al nl ml tl vl gl wl)) (true) := by
  unfold p7
  simp only [runR_cl, mkl3_at]
  have hl : (S.runR ca af nl (fun j => tl (j + al)) (fun j => vl (j + al)) (fun j => gl (j + al)) (fun j => wl (j + al))).2.2.2.2.2.2.2.length ≤ nl + nl := runR_len
  generalize (S.runR ca af nl (fun j => tl (j + al)) (fun j => vl (j + al)) (fun j => gl (j + al)) (fun j => wl (j + al))) = P at hl ⊢
  by_cases hb : (nl : Int) > 60
  · exact goes_ok (decide_eq_true hb) rfl
  refine goes_no (decide_eq_false hb) ?_
  repeat' first
    | exact goes_inr.mpr rfl
    | refine goes_ok (by first | exact beq_self_eq_true _ | exact decide_eq_true trivial | (apply decide_eq_true; omega) | (apply decide_eq_true; simp only [mkl_len, mkl_zero, List.length_nil, true_and, and_true, and_self, Nat.zero_add, Nat.add_zero, Nat.le_refl]; done) | (apply decide_eq_true; simp only [mkl_len, mkl_zero, List.length_nil, true_and, and_true, and_self, Nat.zero_add, Nat.add_zero, Nat.le_refl]; omega)) ?_

theorem k7_ok : k7.ok Try.prog := by
  intro x hx
  obtain ⟨⟨ca, af, _⟩, ⟨al, nl, ml, tl, vl, gl, wl, _⟩, _⟩ := x
  obtain ⟨h1, h2⟩ := a7 ca af al nl ml tl vl gl wl (s7 ca af al nl ml tl vl gl wl (of_decide_eq_true hx))
  exact ⟨⟨400, (by decide : 1 + 1 + 0 ≤ 400), h1⟩, h2⟩

end Go.Ev
