/-
  The law of Window.
-/
import Derived.Test.YtedbjnojogjnkaaW2
namespace Go.Ev
open Go.Proofs
set_option linter.unusedVariables false
set_option linter.unusedSimpArgs false
set_option maxRecDepth 100000

theorem cat_eq {L M R : List Row} (h : R = L ++ M) {f : Nat → Row} (hf : ∀ j, j < L.length + M.length → f j = if j < L.length then S.at' L j else S.at' M (j - L.length)) : R = S.mkl (0 + L.length + M.length) f := by
  subst h
  refine (mkl_at (L ++ M)).symm.trans (mkl_inj.mpr ⟨by rw [List.length_append, Nat.zero_add], fun j hj => ?_⟩)
  rw [List.length_append] at hj
  rw [hf j hj]
  show S.at' (L ++ M) j = _
  unfold S.at'
  by_cases hl : j < L.length
  · rw [if_pos hl]; simp [List.getElem?_append_left hl]
  · rw [if_neg hl]; simp [List.getElem?_append_right (by omega : L.length ≤ j)]
theorem blt_yes {j n : Nat} (h : j < n) : Nat.blt j (0 + n) = true := Nat.blt_eq.mpr (by omega)
theorem blt_no {j n : Nat} (h : ¬ j < n) : Nat.blt j (0 + n) = false := by rw [Bool.eq_false_iff]; exact fun e => h (by have := Nat.blt_eq.mp e; omega)
abbrev St5 := Empty
abbrev Rt5 := Bool
noncomputable def V5 (ca : Int) (af : Int) (al nl ml : Nat) (tl : Nat → Int) (vl : Nat → Int) (gl : Nat → Bool) (ov : Int) (re : Int) (fz : Bool) (f0 : Int) (t0 : Int) (e0 : Int) (r : Rt5) : PV := PV.bool r
noncomputable def N5 (ca : Int) (af : Int) (al nl ml : Nat) (tl : Nat → Int) (vl : Nat → Int) (gl : Nat → Bool) (ov : Int) (re : Int) (fz : Bool) (f0 : Int) (t0 : Int) (e0 : Int) (r : Rt5) : List Blk := []
noncomputable def I5 (ca : Int) (af : Int) (al nl ml : Nat) (tl : Nat → Int) (vl : Nat → Int) (gl : Nat → Bool) (ov : Int) (re : Int) (fz : Bool) (f0 : Int) (t0 : Int) (e0 : Int) : St5 → Hd := fun s => s.elim
noncomputable def q5 (ca : Int) (af : Int) (al nl ml : Nat) (tl : Nat → Int) (vl : Nat → Int) (gl : Nat → Bool) (ov : Int) (re : Int) (fz : Bool) (f0 : Int) (t0 : Int) (e0 : Int) : St5 → Option (St5 ⊕ Rt5) := fun s => s.elim
noncomputable def p5 (ca : Int) (af : Int) (al nl ml : Nat) (tl : Nat → Int) (vl : Nat → Int) (gl : Nat → Bool) (ov : Int) (re : Int) (fz : Bool) (f0 : Int) (t0 : Int) (e0 : Int) : Option (St5 ⊕ Rt5) := bif (decide ((↑nl : Int) > (210 : Int)))
 then (some (.inr (true)))
 else (bif (decide (al + nl ≤ ml ∧ nl ≤ 1000000))
 then (bif (decide
 (0 + List.length (S.mkl nl fun (j : Nat) => (tl (j + al), vl (j + al), gl (j + al))) ≤
 List.length (S.mkl nl fun (j : Nat) => (tl (j + al), vl (j + al), gl (j + al))) ∧
 List.length (S.mkl nl fun (j : Nat) => (tl (j + al), vl (j + al), gl (j + al))) ≤ 999999))
 then (bif (decide (al + nl ≤ ml ∧ nl ≤ 999999))
 then (bif (Prod.fst
 (S.winR ca af (List.length (S.mkl nl fun (j : Nat) => (tl (j + al), vl (j + al), gl (j + al))))
 (fun (j : Nat) =>
 (S.at' (S.mkl nl fun (j : Nat) => (tl (j + al), vl (j + al), gl (j + al))) j).1)
 (fun (j : Nat) =>
 (S.at' (S.mkl nl fun (j : Nat) => (tl (j + al), vl (j + al), gl (j + al))) j).2.1)
 (fun (j : Nat) =>
 (S.at' (S.mkl nl fun (j : Nat) => (tl (j + al), vl (j + al), gl (j + al))) j).2.2)
 ov re fz f0 t0) !=
 Prod.fst
 (S.winR ca af nl (fun (j : Nat) => tl (j + al)) (fun (j : Nat) => vl (j + al)) (fun (j : Nat) => gl (j + al))
 ov re fz f0 t0))
 then (bif (Prod.fst
 (S.winR ca af (List.length (S.mkl nl fun (j : Nat) => (tl (j + al), vl (j + al), gl (j + al))))
 (fun (j : Nat) =>
 (S.at' (S.mkl nl fun (j : Nat) => (tl (j + al), vl (j + al), gl (j + al))) j).1)
 (fun (j : Nat) =>
 (S.at' (S.mkl nl fun (j : Nat) => (tl (j + al), vl (j + al), gl (j + al))) j).2.1)
 (fun (j : Nat) =>
 (S.at' (S.mkl nl fun (j : Nat) => (tl (j + al), vl (j + al), gl (j + al))) j).2.2)
 ov re fz f0 t0) ==
 Prod.fst
 (S.winR ca af nl (fun (j : Nat) => tl (j + al)) (fun (j : Nat) => vl (j + al)) (fun (j : Nat) => gl (j + al))
 ov re fz f0 t0))
 then (bif (decide
 (0 +
 List.length
 (Prod.snd
 (S.winR ca af (List.length (S.mkl nl fun (j : Nat) => (tl (j + al), vl (j + al), gl (j + al))))
 (fun (j : Nat) =>
 (S.at' (S.mkl nl fun (j : Nat) => (tl (j + al), vl (j + al), gl (j + al))) j).1)
 (fun (j : Nat) =>
 Prod.fst
 ((S.at' (S.mkl nl fun (j : Nat) => (tl (j + al), vl (j + al), gl (j + al))) j).2))
 (fun (j : Nat) =>
 Prod.snd
 ((S.at' (S.mkl nl fun (j : Nat) => (tl (j + al), vl (j + al), gl (j + al))) j).2))
 ov re fz f0 t0)) ≤
 List.length
 (Prod.snd
 (S.winR ca af (List.length (S.mkl nl fun (j : Nat) => (tl (j + al), vl (j + al), gl (j + al))))
 (fun (j : Nat) =>
 (S.at' (S.mkl nl fun (j : Nat) => (tl (j + al), vl (j + al), gl (j + al))) j).1)
 (fun (j : Nat) =>
 Prod.fst
 ((S.at' (S.mkl nl fun (j : Nat) => (tl (j + al), vl (j + al), gl (j + al))) j).2))
 (fun (j : Nat) =>
 Prod.snd
 ((S.at' (S.mkl nl fun (j : Nat) => (tl (j + al), vl (j + al), gl (j + al))) j).2))
 ov re fz f0 t0)) ∧
 List.length
 (Prod.snd
 (S.winR ca af (List.length (S.mkl nl fun (j : Nat) => (tl (j + al), vl (j + al), gl (j + al))))
 (fun (j : Nat) =>
 (S.at' (S.mkl nl fun (j : Nat) => (tl (j + al), vl (j + al), gl (j + al))) j).1)
 (fun (j : Nat) =>
 Prod.fst
 ((S.at' (S.mkl nl fun (j : Nat) => (tl (j + al), vl (j + al), gl (j + al))) j).2))
 (fun (j : Nat) =>
 Prod.snd
 ((S.at' (S.mkl nl fun (j : Nat) => (tl (j + al), vl (j + al), gl (j + al))) j).2))
 ov re fz f0 t0)) ≤
 1000000 ∧
 0 +
 List.length
 (Prod.snd
 (S.winR ca af nl (fun (j : Nat) => tl (j + al)) (fun (j : Nat) => vl (j + al))
 (fun (j : Nat) => gl (j + al)) ov re fz f0 t0)) ≤
 List.length
 (Prod.snd
 (S.winR ca af nl (fun (j : Nat) => tl (j + al)) (fun (j : Nat) => vl (j + al))
 (fun (j : Nat) => gl (j + al)) ov re fz f0 t0)) ∧
 List.length
 (Prod.snd
 (S.winR ca af nl (fun (j : Nat) => tl (j + al)) (fun (j : Nat) => vl (j + al))
 (fun (j : Nat) => gl (j + al)) ov re fz f0 t0)) ≤
 1000000))
 then (bif (decide
 ((S.mkl
 (List.length
 (Prod.snd
 (S.winR ca af (List.length (S.mkl nl fun (j : Nat) => (tl (j + al), vl (j + al), gl (j + al))))
 (fun (j : Nat) =>
 (S.at' (S.mkl nl fun (j : Nat) => (tl (j + al), vl (j + al), gl (j + al))) j).1)
 (fun (j : Nat) =>
 Prod.fst
 ((S.at' (S.mkl nl fun (j : Nat) => (tl (j + al), vl (j + al), gl (j + al))) j).2))
 (fun (j : Nat) =>
 Prod.snd
 ((S.at' (S.mkl nl fun (j : Nat) => (tl (j + al), vl (j + al), gl (j + al))) j).2))
 ov re fz f0 t0)))
 fun (j : Nat) =>
 (Prod.fst
 (S.at'
 (Prod.snd
 (S.winR ca af
 (List.length (S.mkl nl fun (j : Nat) => (tl (j + al), vl (j + al), gl (j + al))))
 (fun (j : Nat) =>
 (S.at' (S.mkl nl fun (j : Nat) => (tl (j + al), vl (j + al), gl (j + al))) j).1)
 (fun (j : Nat) =>
 Prod.fst
 (Prod.snd
 (S.at' (S.mkl nl fun (j : Nat) => (tl (j + al), vl (j + al), gl (j + al))) j)))
 (fun (j : Nat) =>
 Prod.snd
 (Prod.snd
 (S.at' (S.mkl nl fun (j : Nat) => (tl (j + al), vl (j + al), gl (j + al))) j)))
 ov re fz f0 t0))
 j),
 Prod.fst
 (Prod.snd
 (S.at'
 (Prod.snd
 (S.winR ca af
 (List.length (S.mkl nl fun (j : Nat) => (tl (j + al), vl (j + al), gl (j + al))))
 (fun (j : Nat) =>
 (S.at' (S.mkl nl fun (j : Nat) => (tl (j + al), vl (j + al), gl (j + al))) j).1)
 (fun (j : Nat) =>
 Prod.fst
 (Prod.snd
 (S.at' (S.mkl nl fun (j : Nat) => (tl (j + al), vl (j + al), gl (j + al))) j)))
 (fun (j : Nat) =>
 Prod.snd
 (Prod.snd
 (S.at' (S.mkl nl fun (j : Nat) => (tl (j + al), vl (j + al), gl (j + al))) j)))
 ov re fz f0 t0))
 j)),
 Prod.snd
 (Prod.snd
 (S.at'
 (Prod.snd
 (S.winR ca af
 (List.length (S.mkl nl fun (j : Nat) => (tl (j + al), vl (j + al), gl (j + al))))
 (fun (j : Nat) =>
 (S.at' (S.mkl nl fun (j : Nat) => (tl (j + al), vl (j + al), gl (j + al))) j).1)
 (fun (j : Nat) =>
 Prod.fst
 (Prod.snd
 (S.at' (S.mkl nl fun (j : Nat) => (tl (j + al), vl (j + al), gl (j + al))) j)))
 (fun (j : Nat) =>
 Prod.snd
 (Prod.snd
 (S.at' (S.mkl nl fun (j : Nat) => (tl (j + al), vl (j + al), gl (j + al))) j)))
 ov re fz f0 t0))
 j)))) =
 S.mkl
 (List.length
 (Prod.snd
 (S.winR ca af nl (fun (j : Nat) => tl (j + al)) (fun (j : Nat) => vl (j + al))
 (fun (j : Nat) => gl (j + al)) ov re fz f0 t0)))
 fun (j : Nat) =>
 (Prod.fst
 (S.at'
 (Prod.snd
 (S.winR ca af nl (fun (j : Nat) => tl (j + al)) (fun (j : Nat) => vl (j + al))
 (fun (j : Nat) => gl (j + al)) ov re fz f0 t0))
 j),
 Prod.fst
 (Prod.snd
 (S.at'
 (Prod.snd
 (S.winR ca af nl (fun (j : Nat) => tl (j + al)) (fun (j : Nat) => vl (j + al))
 (fun (j : Nat) => gl (j + al)) ov re fz f0 t0))
 j)),
 Prod.snd
 (Prod.snd
 (S.at'
 (Prod.snd
 (S.winR ca af nl (fun (j : Nat) => tl (j + al)) (fun (j : Nat) => vl (j + al))
 (fun (j : Nat) => gl (j + al)) ov re fz f0 t0))
 j)))))
 then (some (.inr (true)))
 else (some (.inr (false))))
 else (none))
 else (some (.inr (false))))
 else (bif (decide
 (0 +
 List.length
 (Prod.snd
 (S.winR ca af (List.length (S.mkl nl fun (j : Nat) => (tl (j + al), vl (j + al), gl (j + al))))
 (fun (j : Nat) =>
 (S.at' (S.mkl nl fun (j : Nat) => (tl (j + al), vl (j + al), gl (j + al))) j).1)
 (fun (j : Nat) =>
 Prod.fst
 ((S.at' (S.mkl nl fun (j : Nat) => (tl (j + al), vl (j + al), gl (j + al))) j).2))
 (fun (j : Nat) =>
 Prod.snd
 ((S.at' (S.mkl nl fun (j : Nat) => (tl (j + al), vl (j + al), gl (j + al))) j).2))
 ov re fz f0 t0)) ≤
 List.length
 (Prod.snd
 (S.winR ca af (List.length (S.mkl nl fun (j : Nat) => (tl (j + al), vl (j + al), gl (j + al))))
 (fun (j : Nat) =>
 (S.at' (S.mkl nl fun (j : Nat) => (tl (j + al), vl (j + al), gl (j + al))) j).1)
 (fun (j : Nat) =>
 Prod.fst
 ((S.at' (S.mkl nl fun (j : Nat) => (tl (j + al), vl (j + al), gl (j + al))) j).2))
 (fun (j : Nat) =>
 Prod.snd
 ((S.at' (S.mkl nl fun (j : Nat) => (tl (j + al), vl (j + al), gl (j + al))) j).2))
 ov re fz f0 t0)) ∧
 List.length
 (Prod.snd
 (S.winR ca af (List.length (S.mkl nl fun (j : Nat) => (tl (j + al), vl (j + al), gl (j + al))))
 (fun (j : Nat) =>
 (S.at' (S.mkl nl fun (j : Nat) => (tl (j + al), vl (j + al), gl (j + al))) j).1)
 (fun (j : Nat) =>
 Prod.fst
 ((S.at' (S.mkl nl fun (j : Nat) => (tl (j + al), vl (j + al), gl (j + al))) j).2))
 (fun (j : Nat) =>
 Prod.snd
 ((S.at' (S.mkl nl fun (j : Nat) => (tl (j + al), vl (j + al), gl (j + al))) j).2))
 ov re fz f0 t0)) ≤
 1000000 ∧
 0 +
 List.length
 (Prod.snd
 (S.winR ca af nl (fun (j : Nat) => tl (j + al)) (fun (j : Nat) => vl (j + al))
 (fun (j : Nat) => gl (j + al)) ov re fz f0 t0)) ≤
 List.length
 (Prod.snd
 (S.winR ca af nl (fun (j : Nat) => tl (j + al)) (fun (j : Nat) => vl (j + al))
 (fun (j : Nat) => gl (j + al)) ov re fz f0 t0)) ∧
 List.length
 (Prod.snd
 (S.winR ca af nl (fun (j : Nat) => tl (j + al)) (fun (j : Nat) => vl (j + al))
 (fun (j : Nat) => gl (j + al)) ov re fz f0 t0)) ≤
 1000000))
 then (bif (decide
 ((S.mkl
 (List.length
 (Prod.snd
 (S.winR ca af (List.length (S.mkl nl fun (j : Nat) => (tl (j + al), vl (j + al), gl (j + al))))
 (fun (j : Nat) =>
 (S.at' (S.mkl nl fun (j : Nat) => (tl (j + al), vl (j + al), gl (j + al))) j).1)
 (fun (j : Nat) =>
 Prod.fst
 ((S.at' (S.mkl nl fun (j : Nat) => (tl (j + al), vl (j + al), gl (j + al))) j).2))
 (fun (j : Nat) =>
 Prod.snd
 ((S.at' (S.mkl nl fun (j : Nat) => (tl (j + al), vl (j + al), gl (j + al))) j).2))
 ov re fz f0 t0)))
 fun (j : Nat) =>
 (Prod.fst
 (S.at'
 (Prod.snd
 (S.winR ca af
 (List.length (S.mkl nl fun (j : Nat) => (tl (j + al), vl (j + al), gl (j + al))))
 (fun (j : Nat) =>
 (S.at' (S.mkl nl fun (j : Nat) => (tl (j + al), vl (j + al), gl (j + al))) j).1)
 (fun (j : Nat) =>
 Prod.fst
 (Prod.snd
 (S.at' (S.mkl nl fun (j : Nat) => (tl (j + al), vl (j + al), gl (j + al))) j)))
 (fun (j : Nat) =>
 Prod.snd
 (Prod.snd
 (S.at' (S.mkl nl fun (j : Nat) => (tl (j + al), vl (j + al), gl (j + al))) j)))
 ov re fz f0 t0))
 j),
 Prod.fst
 (Prod.snd
 (S.at'
 (Prod.snd
 (S.winR ca af
 (List.length (S.mkl nl fun (j : Nat) => (tl (j + al), vl (j + al), gl (j + al))))
 (fun (j : Nat) =>
 (S.at' (S.mkl nl fun (j : Nat) => (tl (j + al), vl (j + al), gl (j + al))) j).1)
 (fun (j : Nat) =>
 Prod.fst
 (Prod.snd
 (S.at' (S.mkl nl fun (j : Nat) => (tl (j + al), vl (j + al), gl (j + al))) j)))
 (fun (j : Nat) =>
 Prod.snd
 (Prod.snd
 (S.at' (S.mkl nl fun (j : Nat) => (tl (j + al), vl (j + al), gl (j + al))) j)))
 ov re fz f0 t0))
 j)),
 Prod.snd
 (Prod.snd
 (S.at'
 (Prod.snd
 (S.winR ca af
 (List.length (S.mkl nl fun (j : Nat) => (tl (j + al), vl (j + al), gl (j + al))))
 (fun (j : Nat) =>
 (S.at' (S.mkl nl fun (j : Nat) => (tl (j + al), vl (j + al), gl (j + al))) j).1)
 (fun (j : Nat) =>
 Prod.fst
 (Prod.snd
 (S.at' (S.mkl nl fun (j : Nat) => (tl (j + al), vl (j + al), gl (j + al))) j)))
 (fun (j : Nat) =>
 Prod.snd
 (Prod.snd
 (S.at' (S.mkl nl fun (j : Nat) => (tl (j + al), vl (j + al), gl (j + al))) j)))
 ov re fz f0 t0))
 j)))) =
 S.mkl
 (List.length
 (Prod.snd
 (S.winR ca af nl (fun (j : Nat) => tl (j + al)) (fun (j : Nat) => vl (j + al))
 (fun (j : Nat) => gl (j + al)) ov re fz f0 t0)))
 fun (j : Nat) =>
 (Prod.fst
 (S.at'
 (Prod.snd
 (S.winR ca af nl (fun (j : Nat) => tl (j + al)) (fun (j : Nat) => vl (j + al))
 (fun (j : Nat) => gl (j + al)) ov re fz f0 t0))
 j),
 Prod.fst
 (Prod.snd
 (S.at'
 (Prod.snd
 (S.winR ca af nl (fun (j : Nat) => tl (j + al)) (fun (j : Nat) => vl (j + al))
 (fun (j : Nat) => gl (j + al)) ov re fz f0 t0))
 j)),
 Prod.snd
 (Prod.snd
 (S.at'
 (Prod.snd
 (S.winR ca af nl (fun (j : Nat) => tl (j + al)) (fun (j : Nat) => vl (j + al))
 (fun (j : Nat) => gl (j + al)) ov re fz f0 t0))
 j)))))
 then (bif (Prod.fst
 (S.winR ca af (List.length (S.mkl nl fun (j : Nat) => (tl (j + al), vl (j + al), gl (j + al))))
 (fun (j : Nat) =>
 (S.at' (S.mkl nl fun (j : Nat) => (tl (j + al), vl (j + al), gl (j + al))) j).1)
 (fun (j : Nat) =>
 (S.at' (S.mkl nl fun (j : Nat) => (tl (j + al), vl (j + al), gl (j + al))) j).2.1)
 (fun (j : Nat) =>
 (S.at' (S.mkl nl fun (j : Nat) => (tl (j + al), vl (j + al), gl (j + al))) j).2.2)
 ov re fz f0 t0) !=
 (0 : Int))
 then (bif (Prod.fst
 (S.winR ca af (List.length (S.mkl nl fun (j : Nat) => (tl (j + al), vl (j + al), gl (j + al))))
 (fun (j : Nat) =>
 (S.at' (S.mkl nl fun (j : Nat) => (tl (j + al), vl (j + al), gl (j + al))) j).1)
 (fun (j : Nat) =>
 (S.at' (S.mkl nl fun (j : Nat) => (tl (j + al), vl (j + al), gl (j + al))) j).2.1)
 (fun (j : Nat) =>
 (S.at' (S.mkl nl fun (j : Nat) => (tl (j + al), vl (j + al), gl (j + al))) j).2.2)
 ov re fz f0 t0) ==
 Prod.fst
 (S.winR ca af nl (fun (j : Nat) => tl (j + al)) (fun (j : Nat) => vl (j + al)) (fun (j : Nat) => gl (j + al))
 ov re fz f0 t0))
 then (some (.inr (true)))
 else (some (.inr (false))))
 else (bif (Prod.fst
 (S.winR ca af nl (fun (j : Nat) => tl (j + al)) (fun (j : Nat) => vl (j + al)) (fun (j : Nat) => gl (j + al))
 ov re fz t0 e0) !=
 (0 : Int))
 then (some (.inr (true)))
 else (bif (Prod.fst
 (S.winR ca af nl (fun (j : Nat) => tl (j + al)) (fun (j : Nat) => vl (j + al)) (fun (j : Nat) => gl (j + al))
 ov re fz f0 e0) ==
 (0 : Int))
 then (bif (lim IntKind.i64
 ((0 : Int) +
 (↑(List.length
 (Prod.snd
 (S.winR ca af (List.length (S.mkl nl fun (j : Nat) => (tl (j + al), vl (j + al), gl (j + al))))
 (fun (j : Nat) =>
 (S.at' (S.mkl nl fun (j : Nat) => (tl (j + al), vl (j + al), gl (j + al))) j).1)
 (fun (j : Nat) =>
 Prod.fst
 ((S.at' (S.mkl nl fun (j : Nat) => (tl (j + al), vl (j + al), gl (j + al))) j).2))
 (fun (j : Nat) =>
 Prod.snd
 ((S.at' (S.mkl nl fun (j : Nat) => (tl (j + al), vl (j + al), gl (j + al))) j).2))
 ov re fz f0 t0))) :
 Int)))
 then (bif (decide
 ((0 : Int) +
 (↑(List.length
 (Prod.snd
 (S.winR ca af
 (List.length (S.mkl nl fun (j : Nat) => (tl (j + al), vl (j + al), gl (j + al))))
 (fun (j : Nat) =>
 (S.at' (S.mkl nl fun (j : Nat) => (tl (j + al), vl (j + al), gl (j + al))) j).1)
 (fun (j : Nat) =>
 Prod.fst
 (Prod.snd
 (S.at' (S.mkl nl fun (j : Nat) => (tl (j + al), vl (j + al), gl (j + al))) j)))
 (fun (j : Nat) =>
 Prod.snd
 (Prod.snd
 (S.at' (S.mkl nl fun (j : Nat) => (tl (j + al), vl (j + al), gl (j + al))) j)))
 ov re fz f0 t0))) :
 Int) <
 (0 : Int)))
 then (none)
 else (bif (lim IntKind.i64
 ((0 : Int) +
 (↑(List.length
 (Prod.snd
 (S.winR ca af
 (List.length (S.mkl nl fun (j : Nat) => (tl (j + al), vl (j + al), gl (j + al))))
 (fun (j : Nat) =>
 (S.at' (S.mkl nl fun (j : Nat) => (tl (j + al), vl (j + al), gl (j + al))) j).1)
 (fun (j : Nat) =>
 Prod.fst
 (Prod.snd
 (S.at' (S.mkl nl fun (j : Nat) => (tl (j + al), vl (j + al), gl (j + al))) j)))
 (fun (j : Nat) =>
 Prod.snd
 (Prod.snd
 (S.at' (S.mkl nl fun (j : Nat) => (tl (j + al), vl (j + al), gl (j + al))) j)))
 ov re fz f0 t0))) :
 Int) +
 (↑(List.length
 (Prod.snd
 (S.winR ca af nl (fun (j : Nat) => tl (j + al)) (fun (j : Nat) => vl (j + al))
 (fun (j : Nat) => gl (j + al)) ov re fz t0 e0))) :
 Int)))
 then (bif (decide
 ((0 : Int) +
 (↑(List.length
 (Prod.snd
 (S.winR ca af
 (List.length (S.mkl nl fun (j : Nat) => (tl (j + al), vl (j + al), gl (j + al))))
 (fun (j : Nat) =>
 (S.at' (S.mkl nl fun (j : Nat) => (tl (j + al), vl (j + al), gl (j + al))) j).1)
 (fun (j : Nat) =>
 Prod.fst
 (Prod.snd
 (S.at' (S.mkl nl fun (j : Nat) => (tl (j + al), vl (j + al), gl (j + al))) j)))
 (fun (j : Nat) =>
 Prod.snd
 (Prod.snd
 (S.at' (S.mkl nl fun (j : Nat) => (tl (j + al), vl (j + al), gl (j + al))) j)))
 ov re fz f0 t0))) :
 Int) +
 (↑(List.length
 (Prod.snd
 (S.winR ca af nl (fun (j : Nat) => tl (j + al)) (fun (j : Nat) => vl (j + al))
 (fun (j : Nat) => gl (j + al)) ov re fz t0 e0))) :
 Int) <
 (0 : Int)))
 then (none)
 else (bif (lim IntKind.i64
 ((0 : Int) +
 (↑(List.length
 (Prod.snd
 (S.winR ca af
 (List.length (S.mkl nl fun (j : Nat) => (tl (j + al), vl (j + al), gl (j + al))))
 (fun (j : Nat) =>
 (S.at' (S.mkl nl fun (j : Nat) => (tl (j + al), vl (j + al), gl (j + al))) j).1)
 (fun (j : Nat) =>
 Prod.fst
 (Prod.snd
 (S.at' (S.mkl nl fun (j : Nat) => (tl (j + al), vl (j + al), gl (j + al))) j)))
 (fun (j : Nat) =>
 Prod.snd
 (Prod.snd
 (S.at' (S.mkl nl fun (j : Nat) => (tl (j + al), vl (j + al), gl (j + al))) j)))
 ov re fz f0 t0))) :
 Int) +
 (↑(List.length
 (Prod.snd
 (S.winR ca af nl (fun (j : Nat) => tl (j + al)) (fun (j : Nat) => vl (j + al))
 (fun (j : Nat) => gl (j + al)) ov re fz t0 e0))) :
 Int) -
 (0 : Int)))
 then (bif (decide
 ((0 : Int) +
 (↑(List.length
 (Prod.snd
 (S.winR ca af
 (List.length (S.mkl nl fun (j : Nat) => (tl (j + al), vl (j + al), gl (j + al))))
 (fun (j : Nat) =>
 Prod.fst
 (S.at' (S.mkl nl fun (j : Nat) => (tl (j + al), vl (j + al), gl (j + al))) j))
 (fun (j : Nat) =>
 Prod.fst
 (Prod.snd
 (S.at' (S.mkl nl fun (j : Nat) => (tl (j + al), vl (j + al), gl (j + al))) j)))
 (fun (j : Nat) =>
 Prod.snd
 (Prod.snd
 (S.at' (S.mkl nl fun (j : Nat) => (tl (j + al), vl (j + al), gl (j + al))) j)))
 ov re fz f0 t0))) :
 Int) +
 (↑(List.length
 (Prod.snd
 (S.winR ca af nl (fun (j : Nat) => tl (j + al)) (fun (j : Nat) => vl (j + al))
 (fun (j : Nat) => gl (j + al)) ov re fz t0 e0))) :
 Int) -
 (0 : Int) >
 (0 : Int)))
 then (bif (decide
 ((0 : Int) ≤
 (0 : Int) +
 (↑(List.length
 (Prod.snd
 (S.winR ca af
 (List.length (S.mkl nl fun (j : Nat) => (tl (j + al), vl (j + al), gl (j + al))))
 (fun (j : Nat) =>
 Prod.fst
 (S.at' (S.mkl nl fun (j : Nat) => (tl (j + al), vl (j + al), gl (j + al))) j))
 (fun (j : Nat) =>
 Prod.fst
 (Prod.snd
 (S.at' (S.mkl nl fun (j : Nat) => (tl (j + al), vl (j + al), gl (j + al))) j)))
 (fun (j : Nat) =>
 Prod.snd
 (Prod.snd
 (S.at' (S.mkl nl fun (j : Nat) => (tl (j + al), vl (j + al), gl (j + al))) j)))
 ov re fz f0 t0))) :
 Int) +
 (↑(List.length
 (Prod.snd
 (S.winR ca af nl (fun (j : Nat) => tl (j + al)) (fun (j : Nat) => vl (j + al))
 (fun (j : Nat) => gl (j + al)) ov re fz t0 e0))) :
 Int) -
 (0 : Int) ∧
 (0 : Int) +
 (↑(List.length
 (Prod.snd
 (S.winR ca af
 (List.length (S.mkl nl fun (j : Nat) => (tl (j + al), vl (j + al), gl (j + al))))
 (fun (j : Nat) =>
 Prod.fst
 (S.at' (S.mkl nl fun (j : Nat) => (tl (j + al), vl (j + al), gl (j + al))) j))
 (fun (j : Nat) =>
 Prod.fst
 (Prod.snd
 (S.at' (S.mkl nl fun (j : Nat) => (tl (j + al), vl (j + al), gl (j + al))) j)))
 (fun (j : Nat) =>
 Prod.snd
 (Prod.snd
 (S.at' (S.mkl nl fun (j : Nat) => (tl (j + al), vl (j + al), gl (j + al))) j)))
 ov re fz f0 t0))) :
 Int) +
 (↑(List.length
 (Prod.snd
 (S.winR ca af nl (fun (j : Nat) => tl (j + al)) (fun (j : Nat) => vl (j + al))
 (fun (j : Nat) => gl (j + al)) ov re fz t0 e0))) :
 Int) -
 (0 : Int) ≤
 (1000000 : Int)))
 then (bif (decide
 ((0 : Int) ≤ (0 : Int) ∧
 (0 : Int) ≤
 (↑(Int.toNat
 ((0 : Int) +
 (↑(List.length
 (Prod.snd
 (S.winR ca af
 (List.length (S.mkl nl fun (j : Nat) => (tl (j + al), vl (j + al), gl (j + al))))
 (fun (j : Nat) =>
 Prod.fst
 (S.at' (S.mkl nl fun (j : Nat) => (tl (j + al), vl (j + al), gl (j + al)))
 j))
 (fun (j : Nat) =>
 Prod.fst
 (Prod.snd
 (S.at' (S.mkl nl fun (j : Nat) => (tl (j + al), vl (j + al), gl (j + al)))
 j)))
 (fun (j : Nat) =>
 Prod.snd
 (Prod.snd
 (S.at' (S.mkl nl fun (j : Nat) => (tl (j + al), vl (j + al), gl (j + al)))
 j)))
 ov re fz f0 t0))) :
 Int) +
 (↑(List.length
 (Prod.snd
 (S.winR ca af nl (fun (j : Nat) => tl (j + al)) (fun (j : Nat) => vl (j + al))
 (fun (j : Nat) => gl (j + al)) ov re fz t0 e0))) :
 Int) -
 (0 : Int))) :
 Int)))
 then (bif (decide
 (0 +
 List.length
 (Prod.snd
 (S.winR ca af (List.length (S.mkl nl fun (j : Nat) => (tl (j + al), vl (j + al), gl (j + al))))
 (fun (j : Nat) =>
 (S.at' (S.mkl nl fun (j : Nat) => (tl (j + al), vl (j + al), gl (j + al))) j).1)
 (fun (j : Nat) =>
 Prod.fst
 ((S.at' (S.mkl nl fun (j : Nat) => (tl (j + al), vl (j + al), gl (j + al))) j).2))
 (fun (j : Nat) =>
 Prod.snd
 ((S.at' (S.mkl nl fun (j : Nat) => (tl (j + al), vl (j + al), gl (j + al))) j).2))
 ov re fz f0 t0)) ≤
 1000000))
 then (bif (decide
 (0 ≤
 Int.toNat
 ((0 : Int) +
 (↑(List.length
 (Prod.snd
 (S.winR ca af
 (List.length (S.mkl nl fun (j : Nat) => (tl (j + al), vl (j + al), gl (j + al))))
 (fun (j : Nat) =>
 Prod.fst
 (S.at' (S.mkl nl fun (j : Nat) => (tl (j + al), vl (j + al), gl (j + al))) j))
 (fun (j : Nat) =>
 Prod.fst
 (Prod.snd
 (S.at' (S.mkl nl fun (j : Nat) => (tl (j + al), vl (j + al), gl (j + al))) j)))
 (fun (j : Nat) =>
 Prod.snd
 (Prod.snd
 (S.at' (S.mkl nl fun (j : Nat) => (tl (j + al), vl (j + al), gl (j + al))) j)))
 ov re fz f0 t0))) :
 Int) +
 (↑(List.length
 (Prod.snd
 (S.winR ca af nl (fun (j : Nat) => tl (j + al)) (fun (j : Nat) => vl (j + al))
 (fun (j : Nat) => gl (j + al)) ov re fz t0 e0))) :
 Int) -
 (0 : Int))))
 then (bif (decide
 (0 +
 List.length
 (Prod.snd
 (S.winR ca af (List.length (S.mkl nl fun (j : Nat) => (tl (j + al), vl (j + al), gl (j + al))))
 (fun (j : Nat) =>
 (S.at' (S.mkl nl fun (j : Nat) => (tl (j + al), vl (j + al), gl (j + al))) j).1)
 (fun (j : Nat) =>
 Prod.fst
 ((S.at' (S.mkl nl fun (j : Nat) => (tl (j + al), vl (j + al), gl (j + al))) j).2))
 (fun (j : Nat) =>
 Prod.snd
 ((S.at' (S.mkl nl fun (j : Nat) => (tl (j + al), vl (j + al), gl (j + al))) j).2))
 ov re fz f0 t0)) ≤
 List.length
 (Prod.snd
 (S.winR ca af (List.length (S.mkl nl fun (j : Nat) => (tl (j + al), vl (j + al), gl (j + al))))
 (fun (j : Nat) =>
 (S.at' (S.mkl nl fun (j : Nat) => (tl (j + al), vl (j + al), gl (j + al))) j).1)
 (fun (j : Nat) =>
 Prod.fst
 ((S.at' (S.mkl nl fun (j : Nat) => (tl (j + al), vl (j + al), gl (j + al))) j).2))
 (fun (j : Nat) =>
 Prod.snd
 ((S.at' (S.mkl nl fun (j : Nat) => (tl (j + al), vl (j + al), gl (j + al))) j).2))
 ov re fz f0 t0))))
 then (bif (decide
 (0 +
 List.length
 (Prod.snd
 (S.winR ca af (List.length (S.mkl nl fun (j : Nat) => (tl (j + al), vl (j + al), gl (j + al))))
 (fun (j : Nat) =>
 (S.at' (S.mkl nl fun (j : Nat) => (tl (j + al), vl (j + al), gl (j + al))) j).1)
 (fun (j : Nat) =>
 Prod.fst
 ((S.at' (S.mkl nl fun (j : Nat) => (tl (j + al), vl (j + al), gl (j + al))) j).2))
 (fun (j : Nat) =>
 Prod.snd
 ((S.at' (S.mkl nl fun (j : Nat) => (tl (j + al), vl (j + al), gl (j + al))) j).2))
 ov re fz f0 t0)) +
 List.length
 (Prod.snd
 (S.winR ca af nl (fun (j : Nat) => tl (j + al)) (fun (j : Nat) => vl (j + al))
 (fun (j : Nat) => gl (j + al)) ov re fz t0 e0)) ≤
 1000000))
 then (bif (decide
 (0 +
 List.length
 (Prod.snd
 (S.winR ca af (List.length (S.mkl nl fun (j : Nat) => (tl (j + al), vl (j + al), gl (j + al))))
 (fun (j : Nat) =>
 (S.at' (S.mkl nl fun (j : Nat) => (tl (j + al), vl (j + al), gl (j + al))) j).1)
 (fun (j : Nat) =>
 Prod.fst
 ((S.at' (S.mkl nl fun (j : Nat) => (tl (j + al), vl (j + al), gl (j + al))) j).2))
 (fun (j : Nat) =>
 Prod.snd
 ((S.at' (S.mkl nl fun (j : Nat) => (tl (j + al), vl (j + al), gl (j + al))) j).2))
 ov re fz f0 t0)) ≤
 0 +
 List.length
 (Prod.snd
 (S.winR ca af (List.length (S.mkl nl fun (j : Nat) => (tl (j + al), vl (j + al), gl (j + al))))
 (fun (j : Nat) =>
 (S.at' (S.mkl nl fun (j : Nat) => (tl (j + al), vl (j + al), gl (j + al))) j).1)
 (fun (j : Nat) =>
 Prod.fst
 ((S.at' (S.mkl nl fun (j : Nat) => (tl (j + al), vl (j + al), gl (j + al))) j).2))
 (fun (j : Nat) =>
 Prod.snd
 ((S.at' (S.mkl nl fun (j : Nat) => (tl (j + al), vl (j + al), gl (j + al))) j).2))
 ov re fz f0 t0))))
 then (bif (decide
 (0 +
 List.length
 (Prod.snd
 (S.winR ca af nl (fun (j : Nat) => tl (j + al)) (fun (j : Nat) => vl (j + al))
 (fun (j : Nat) => gl (j + al)) ov re fz t0 e0)) ≤
 List.length
 (Prod.snd
 (S.winR ca af nl (fun (j : Nat) => tl (j + al)) (fun (j : Nat) => vl (j + al))
 (fun (j : Nat) => gl (j + al)) ov re fz t0 e0))))
 then (bif (decide
 (0 +
 List.length
 (Prod.snd
 (S.winR ca af nl (fun (j : Nat) => tl (j + al)) (fun (j : Nat) => vl (j + al))
 (fun (j : Nat) => gl (j + al)) ov re fz f0 e0)) ≤
 List.length
 (Prod.snd
 (S.winR ca af nl (fun (j : Nat) => tl (j + al)) (fun (j : Nat) => vl (j + al))
 (fun (j : Nat) => gl (j + al)) ov re fz f0 e0)) ∧
 List.length
 (Prod.snd
 (S.winR ca af nl (fun (j : Nat) => tl (j + al)) (fun (j : Nat) => vl (j + al))
 (fun (j : Nat) => gl (j + al)) ov re fz f0 e0)) ≤
 1000000 ∧
 0 +
 (0 +
 List.length
 (Prod.snd
 (S.winR ca af
 (List.length (S.mkl nl fun (j : Nat) => (tl (j + al), vl (j + al), gl (j + al))))
 (fun (j : Nat) =>
 Prod.fst
 (S.at' (S.mkl nl fun (j : Nat) => (tl (j + al), vl (j + al), gl (j + al))) j))
 (fun (j : Nat) =>
 Prod.fst
 (Prod.snd
 (S.at' (S.mkl nl fun (j : Nat) => (tl (j + al), vl (j + al), gl (j + al))) j)))
 (fun (j : Nat) =>
 Prod.snd
 (Prod.snd
 (S.at' (S.mkl nl fun (j : Nat) => (tl (j + al), vl (j + al), gl (j + al))) j)))
 ov re fz f0 t0)) +
 List.length
 (Prod.snd
 (S.winR ca af nl (fun (j : Nat) => tl (j + al)) (fun (j : Nat) => vl (j + al))
 (fun (j : Nat) => gl (j + al)) ov re fz t0 e0))) ≤
 0 +
 List.length
 (Prod.snd
 (S.winR ca af
 (List.length (S.mkl nl fun (j : Nat) => (tl (j + al), vl (j + al), gl (j + al))))
 (fun (j : Nat) =>
 Prod.fst
 (S.at' (S.mkl nl fun (j : Nat) => (tl (j + al), vl (j + al), gl (j + al))) j))
 (fun (j : Nat) =>
 Prod.fst
 (Prod.snd
 (S.at' (S.mkl nl fun (j : Nat) => (tl (j + al), vl (j + al), gl (j + al))) j)))
 (fun (j : Nat) =>
 Prod.snd
 (Prod.snd
 (S.at' (S.mkl nl fun (j : Nat) => (tl (j + al), vl (j + al), gl (j + al))) j)))
 ov re fz f0 t0)) +
 List.length
 (Prod.snd
 (S.winR ca af nl (fun (j : Nat) => tl (j + al)) (fun (j : Nat) => vl (j + al))
 (fun (j : Nat) => gl (j + al)) ov re fz t0 e0)) ∧
 0 +
 List.length
 (Prod.snd
 (S.winR ca af
 (List.length (S.mkl nl fun (j : Nat) => (tl (j + al), vl (j + al), gl (j + al))))
 (fun (j : Nat) =>
 Prod.fst
 (S.at' (S.mkl nl fun (j : Nat) => (tl (j + al), vl (j + al), gl (j + al))) j))
 (fun (j : Nat) =>
 Prod.fst
 (Prod.snd
 (S.at' (S.mkl nl fun (j : Nat) => (tl (j + al), vl (j + al), gl (j + al))) j)))
 (fun (j : Nat) =>
 Prod.snd
 (Prod.snd
 (S.at' (S.mkl nl fun (j : Nat) => (tl (j + al), vl (j + al), gl (j + al))) j)))
 ov re fz f0 t0)) +
 List.length
 (Prod.snd
 (S.winR ca af nl (fun (j : Nat) => tl (j + al)) (fun (j : Nat) => vl (j + al))
 (fun (j : Nat) => gl (j + al)) ov re fz t0 e0)) ≤
 1000000))
 then (bif (decide
 ((S.mkl
 (List.length
 (Prod.snd
 (S.winR ca af nl (fun (j : Nat) => tl (j + al)) (fun (j : Nat) => vl (j + al))
 (fun (j : Nat) => gl (j + al)) ov re fz f0 e0)))
 fun (j : Nat) =>
 (Prod.fst
 (S.at'
 (Prod.snd
 (S.winR ca af nl (fun (j : Nat) => tl (j + al)) (fun (j : Nat) => vl (j + al))
 (fun (j : Nat) => gl (j + al)) ov re fz f0 e0))
 j),
 Prod.fst
 (Prod.snd
 (S.at'
 (Prod.snd
 (S.winR ca af nl (fun (j : Nat) => tl (j + al)) (fun (j : Nat) => vl (j + al))
 (fun (j : Nat) => gl (j + al)) ov re fz f0 e0))
 j)),
 Prod.snd
 (Prod.snd
 (S.at'
 (Prod.snd
 (S.winR ca af nl (fun (j : Nat) => tl (j + al)) (fun (j : Nat) => vl (j + al))
 (fun (j : Nat) => gl (j + al)) ov re fz f0 e0))
 j)))) =
 S.mkl
 (0 +
 List.length
 (Prod.snd
 (S.winR ca af
 (List.length (S.mkl nl fun (j : Nat) => (tl (j + al), vl (j + al), gl (j + al))))
 (fun (j : Nat) =>
 (S.at' (S.mkl nl fun (j : Nat) => (tl (j + al), vl (j + al), gl (j + al))) j).1)
 (fun (j : Nat) =>
 Prod.fst
 (Prod.snd
 (S.at' (S.mkl nl fun (j : Nat) => (tl (j + al), vl (j + al), gl (j + al))) j)))
 (fun (j : Nat) =>
 Prod.snd
 (Prod.snd
 (S.at' (S.mkl nl fun (j : Nat) => (tl (j + al), vl (j + al), gl (j + al))) j)))
 ov re fz f0 t0)) +
 List.length
 (Prod.snd
 (S.winR ca af nl (fun (j : Nat) => tl (j + al)) (fun (j : Nat) => vl (j + al))
 (fun (j : Nat) => gl (j + al)) ov re fz t0 e0)))
 fun (j : Nat) =>
 (bif
 Nat.blt j
 (0 +
 List.length
 (Prod.snd
 (S.winR ca af
 (List.length (S.mkl nl fun (j : Nat) => (tl (j + al), vl (j + al), gl (j + al))))
 (fun (j : Nat) =>
 Prod.fst
 (S.at' (S.mkl nl fun (j : Nat) => (tl (j + al), vl (j + al), gl (j + al))) j))
 (fun (j : Nat) =>
 Prod.fst
 (Prod.snd
 (S.at' (S.mkl nl fun (j : Nat) => (tl (j + al), vl (j + al), gl (j + al))) j)))
 (fun (j : Nat) =>
 Prod.snd
 (Prod.snd
 (S.at' (S.mkl nl fun (j : Nat) => (tl (j + al), vl (j + al), gl (j + al))) j)))
 ov re fz f0 t0))) then
 bif Nat.blt j (0) then (0 : Int)
 else
 Prod.fst
 (S.at'
 (Prod.snd
 (S.winR ca af
 (List.length (S.mkl nl fun (j : Nat) => (tl (j + al), vl (j + al), gl (j + al))))
 (fun (j : Nat) =>
 Prod.fst
 (S.at' (S.mkl nl fun (j : Nat) => (tl (j + al), vl (j + al), gl (j + al))) j))
 (fun (j : Nat) =>
 Prod.fst
 (Prod.snd
 (S.at' (S.mkl nl fun (j : Nat) => (tl (j + al), vl (j + al), gl (j + al))) j)))
 (fun (j : Nat) =>
 Prod.snd
 (Prod.snd
 (S.at' (S.mkl nl fun (j : Nat) => (tl (j + al), vl (j + al), gl (j + al))) j)))
 ov re fz f0 t0))
 j)
 else
 Prod.fst
 (S.at'
 (Prod.snd
 (S.winR ca af nl (fun (j : Nat) => tl (j + al)) (fun (j : Nat) => vl (j + al))
 (fun (j : Nat) => gl (j + al)) ov re fz t0 e0))
 (j -
 (0 +
 List.length
 (Prod.snd
 (S.winR ca af
 (List.length (S.mkl nl fun (j : Nat) => (tl (j + al), vl (j + al), gl (j + al))))
 (fun (j : Nat) =>
 Prod.fst
 (S.at' (S.mkl nl fun (j : Nat) => (tl (j + al), vl (j + al), gl (j + al))) j))
 (fun (j : Nat) =>
 Prod.fst
 (Prod.snd
 (S.at' (S.mkl nl fun (j : Nat) => (tl (j + al), vl (j + al), gl (j + al)))
 j)))
 (fun (j : Nat) =>
 Prod.snd
 (Prod.snd
 (S.at' (S.mkl nl fun (j : Nat) => (tl (j + al), vl (j + al), gl (j + al)))
 j)))
 ov re fz f0 t0))))),
 bif
 Nat.blt j
 (0 +
 List.length
 (Prod.snd
 (S.winR ca af
 (List.length (S.mkl nl fun (j : Nat) => (tl (j + al), vl (j + al), gl (j + al))))
 (fun (j : Nat) =>
 Prod.fst
 (S.at' (S.mkl nl fun (j : Nat) => (tl (j + al), vl (j + al), gl (j + al))) j))
 (fun (j : Nat) =>
 Prod.fst
 (Prod.snd
 (S.at' (S.mkl nl fun (j : Nat) => (tl (j + al), vl (j + al), gl (j + al))) j)))
 (fun (j : Nat) =>
 Prod.snd
 (Prod.snd
 (S.at' (S.mkl nl fun (j : Nat) => (tl (j + al), vl (j + al), gl (j + al))) j)))
 ov re fz f0 t0))) then
 bif Nat.blt j (0) then (0 : Int)
 else
 Prod.fst
 (Prod.snd
 (S.at'
 (Prod.snd
 (S.winR ca af
 (List.length (S.mkl nl fun (j : Nat) => (tl (j + al), vl (j + al), gl (j + al))))
 (fun (j : Nat) =>
 Prod.fst
 (S.at' (S.mkl nl fun (j : Nat) => (tl (j + al), vl (j + al), gl (j + al))) j))
 (fun (j : Nat) =>
 Prod.fst
 (Prod.snd
 (S.at' (S.mkl nl fun (j : Nat) => (tl (j + al), vl (j + al), gl (j + al))) j)))
 (fun (j : Nat) =>
 Prod.snd
 (Prod.snd
 (S.at' (S.mkl nl fun (j : Nat) => (tl (j + al), vl (j + al), gl (j + al))) j)))
 ov re fz f0 t0))
 j))
 else
 Prod.fst
 (Prod.snd
 (S.at'
 (Prod.snd
 (S.winR ca af nl (fun (j : Nat) => tl (j + al)) (fun (j : Nat) => vl (j + al))
 (fun (j : Nat) => gl (j + al)) ov re fz t0 e0))
 (j -
 (0 +
 List.length
 (Prod.snd
 (S.winR ca af
 (List.length (S.mkl nl fun (j : Nat) => (tl (j + al), vl (j + al), gl (j + al))))
 (fun (j : Nat) =>
 Prod.fst
 (S.at' (S.mkl nl fun (j : Nat) => (tl (j + al), vl (j + al), gl (j + al))) j))
 (fun (j : Nat) =>
 Prod.fst
 (Prod.snd
 (S.at' (S.mkl nl fun (j : Nat) => (tl (j + al), vl (j + al), gl (j + al)))
 j)))
 (fun (j : Nat) =>
 Prod.snd
 (Prod.snd
 (S.at' (S.mkl nl fun (j : Nat) => (tl (j + al), vl (j + al), gl (j + al)))
 j)))
 ov re fz f0 t0)))))),
 bif
 Nat.blt j
 (0 +
 List.length
 (Prod.snd
 (S.winR ca af
 (List.length (S.mkl nl fun (j : Nat) => (tl (j + al), vl (j + al), gl (j + al))))
 (fun (j : Nat) =>
 Prod.fst
 (S.at' (S.mkl nl fun (j : Nat) => (tl (j + al), vl (j + al), gl (j + al))) j))
 (fun (j : Nat) =>
 Prod.fst
 (Prod.snd
 (S.at' (S.mkl nl fun (j : Nat) => (tl (j + al), vl (j + al), gl (j + al))) j)))
 (fun (j : Nat) =>
 Prod.snd
 (Prod.snd
 (S.at' (S.mkl nl fun (j : Nat) => (tl (j + al), vl (j + al), gl (j + al))) j)))
 ov re fz f0 t0))) then
 bif Nat.blt j (0) then false
 else
 Prod.snd
 (Prod.snd
 (S.at'
 (Prod.snd
 (S.winR ca af
 (List.length (S.mkl nl fun (j : Nat) => (tl (j + al), vl (j + al), gl (j + al))))
 (fun (j : Nat) =>
 Prod.fst
 (S.at' (S.mkl nl fun (j : Nat) => (tl (j + al), vl (j + al), gl (j + al))) j))
 (fun (j : Nat) =>
 Prod.fst
 (Prod.snd
 (S.at' (S.mkl nl fun (j : Nat) => (tl (j + al), vl (j + al), gl (j + al))) j)))
 (fun (j : Nat) =>
 Prod.snd
 (Prod.snd
 (S.at' (S.mkl nl fun (j : Nat) => (tl (j + al), vl (j + al), gl (j + al))) j)))
 ov re fz f0 t0))
 j))
 else
 Prod.snd
 (Prod.snd
 (S.at'
 (Prod.snd
 (S.winR ca af nl (fun (j : Nat) => tl (j + al)) (fun (j : Nat) => vl (j + al))
 (fun (j : Nat) => gl (j + al)) ov re fz t0 e0))
 (j -
 (0 +
 List.length
 (Prod.snd
 (S.winR ca af
 (List.length (S.mkl nl fun (j : Nat) => (tl (j + al), vl (j + al), gl (j + al))))
 (fun (j : Nat) =>
 Prod.fst
 (S.at' (S.mkl nl fun (j : Nat) => (tl (j + al), vl (j + al), gl (j + al))) j))
 (fun (j : Nat) =>
 Prod.fst
 (Prod.snd
 (S.at' (S.mkl nl fun (j : Nat) => (tl (j + al), vl (j + al), gl (j + al)))
 j)))
 (fun (j : Nat) =>
 Prod.snd
 (Prod.snd
 (S.at' (S.mkl nl fun (j : Nat) => (tl (j + al), vl (j + al), gl (j + al)))
 j)))
 ov re fz f0 t0)))))))))
 then (some (.inr (true)))
 else (some (.inr (false))))
 else (none))
 else (none))
 else (none))
 else (none))
 else (none))
 else (none))
 else (none))
 else (none))
 else (none))
 else (bif (decide
 (0 +
 List.length
 (Prod.snd
 (S.winR ca af (List.length (S.mkl nl fun (j : Nat) => (tl (j + al), vl (j + al), gl (j + al))))
 (fun (j : Nat) =>
 (S.at' (S.mkl nl fun (j : Nat) => (tl (j + al), vl (j + al), gl (j + al))) j).1)
 (fun (j : Nat) =>
 Prod.fst
 ((S.at' (S.mkl nl fun (j : Nat) => (tl (j + al), vl (j + al), gl (j + al))) j).2))
 (fun (j : Nat) =>
 Prod.snd
 ((S.at' (S.mkl nl fun (j : Nat) => (tl (j + al), vl (j + al), gl (j + al))) j).2))
 ov re fz f0 t0)) ≤
 1000000))
 then (bif (decide
 (0 +
 List.length
 (Prod.snd
 (S.winR ca af (List.length (S.mkl nl fun (j : Nat) => (tl (j + al), vl (j + al), gl (j + al))))
 (fun (j : Nat) =>
 (S.at' (S.mkl nl fun (j : Nat) => (tl (j + al), vl (j + al), gl (j + al))) j).1)
 (fun (j : Nat) =>
 Prod.fst
 ((S.at' (S.mkl nl fun (j : Nat) => (tl (j + al), vl (j + al), gl (j + al))) j).2))
 (fun (j : Nat) =>
 Prod.snd
 ((S.at' (S.mkl nl fun (j : Nat) => (tl (j + al), vl (j + al), gl (j + al))) j).2))
 ov re fz f0 t0)) ≤
 List.length
 (Prod.snd
 (S.winR ca af (List.length (S.mkl nl fun (j : Nat) => (tl (j + al), vl (j + al), gl (j + al))))
 (fun (j : Nat) =>
 (S.at' (S.mkl nl fun (j : Nat) => (tl (j + al), vl (j + al), gl (j + al))) j).1)
 (fun (j : Nat) =>
 Prod.fst
 ((S.at' (S.mkl nl fun (j : Nat) => (tl (j + al), vl (j + al), gl (j + al))) j).2))
 (fun (j : Nat) =>
 Prod.snd
 ((S.at' (S.mkl nl fun (j : Nat) => (tl (j + al), vl (j + al), gl (j + al))) j).2))
 ov re fz f0 t0))))
 then (bif (decide
 (0 +
 List.length
 (Prod.snd
 (S.winR ca af (List.length (S.mkl nl fun (j : Nat) => (tl (j + al), vl (j + al), gl (j + al))))
 (fun (j : Nat) =>
 (S.at' (S.mkl nl fun (j : Nat) => (tl (j + al), vl (j + al), gl (j + al))) j).1)
 (fun (j : Nat) =>
 Prod.fst
 ((S.at' (S.mkl nl fun (j : Nat) => (tl (j + al), vl (j + al), gl (j + al))) j).2))
 (fun (j : Nat) =>
 Prod.snd
 ((S.at' (S.mkl nl fun (j : Nat) => (tl (j + al), vl (j + al), gl (j + al))) j).2))
 ov re fz f0 t0)) +
 List.length
 (Prod.snd
 (S.winR ca af nl (fun (j : Nat) => tl (j + al)) (fun (j : Nat) => vl (j + al))
 (fun (j : Nat) => gl (j + al)) ov re fz t0 e0)) ≤
 1000000))
 then (bif (decide
 (0 +
 List.length
 (Prod.snd
 (S.winR ca af (List.length (S.mkl nl fun (j : Nat) => (tl (j + al), vl (j + al), gl (j + al))))
 (fun (j : Nat) =>
 (S.at' (S.mkl nl fun (j : Nat) => (tl (j + al), vl (j + al), gl (j + al))) j).1)
 (fun (j : Nat) =>
 Prod.fst
 ((S.at' (S.mkl nl fun (j : Nat) => (tl (j + al), vl (j + al), gl (j + al))) j).2))
 (fun (j : Nat) =>
 Prod.snd
 ((S.at' (S.mkl nl fun (j : Nat) => (tl (j + al), vl (j + al), gl (j + al))) j).2))
 ov re fz f0 t0)) ≤
 0 +
 List.length
 (Prod.snd
 (S.winR ca af (List.length (S.mkl nl fun (j : Nat) => (tl (j + al), vl (j + al), gl (j + al))))
 (fun (j : Nat) =>
 (S.at' (S.mkl nl fun (j : Nat) => (tl (j + al), vl (j + al), gl (j + al))) j).1)
 (fun (j : Nat) =>
 Prod.fst
 ((S.at' (S.mkl nl fun (j : Nat) => (tl (j + al), vl (j + al), gl (j + al))) j).2))
 (fun (j : Nat) =>
 Prod.snd
 ((S.at' (S.mkl nl fun (j : Nat) => (tl (j + al), vl (j + al), gl (j + al))) j).2))
 ov re fz f0 t0))))
 then (bif (decide
 (0 +
 List.length
 (Prod.snd
 (S.winR ca af nl (fun (j : Nat) => tl (j + al)) (fun (j : Nat) => vl (j + al))
 (fun (j : Nat) => gl (j + al)) ov re fz t0 e0)) ≤
 List.length
 (Prod.snd
 (S.winR ca af nl (fun (j : Nat) => tl (j + al)) (fun (j : Nat) => vl (j + al))
 (fun (j : Nat) => gl (j + al)) ov re fz t0 e0))))
 then (bif (decide
 (0 +
 List.length
 (Prod.snd
 (S.winR ca af nl (fun (j : Nat) => tl (j + al)) (fun (j : Nat) => vl (j + al))
 (fun (j : Nat) => gl (j + al)) ov re fz f0 e0)) ≤
 List.length
 (Prod.snd
 (S.winR ca af nl (fun (j : Nat) => tl (j + al)) (fun (j : Nat) => vl (j + al))
 (fun (j : Nat) => gl (j + al)) ov re fz f0 e0)) ∧
 List.length
 (Prod.snd
 (S.winR ca af nl (fun (j : Nat) => tl (j + al)) (fun (j : Nat) => vl (j + al))
 (fun (j : Nat) => gl (j + al)) ov re fz f0 e0)) ≤
 1000000 ∧
 0 +
 (0 +
 List.length
 (Prod.snd
 (S.winR ca af
 (List.length (S.mkl nl fun (j : Nat) => (tl (j + al), vl (j + al), gl (j + al))))
 (fun (j : Nat) =>
 Prod.fst
 (S.at' (S.mkl nl fun (j : Nat) => (tl (j + al), vl (j + al), gl (j + al))) j))
 (fun (j : Nat) =>
 Prod.fst
 (Prod.snd
 (S.at' (S.mkl nl fun (j : Nat) => (tl (j + al), vl (j + al), gl (j + al))) j)))
 (fun (j : Nat) =>
 Prod.snd
 (Prod.snd
 (S.at' (S.mkl nl fun (j : Nat) => (tl (j + al), vl (j + al), gl (j + al))) j)))
 ov re fz f0 t0)) +
 List.length
 (Prod.snd
 (S.winR ca af nl (fun (j : Nat) => tl (j + al)) (fun (j : Nat) => vl (j + al))
 (fun (j : Nat) => gl (j + al)) ov re fz t0 e0))) ≤
 0 +
 List.length
 (Prod.snd
 (S.winR ca af
 (List.length (S.mkl nl fun (j : Nat) => (tl (j + al), vl (j + al), gl (j + al))))
 (fun (j : Nat) =>
 Prod.fst
 (S.at' (S.mkl nl fun (j : Nat) => (tl (j + al), vl (j + al), gl (j + al))) j))
 (fun (j : Nat) =>
 Prod.fst
 (Prod.snd
 (S.at' (S.mkl nl fun (j : Nat) => (tl (j + al), vl (j + al), gl (j + al))) j)))
 (fun (j : Nat) =>
 Prod.snd
 (Prod.snd
 (S.at' (S.mkl nl fun (j : Nat) => (tl (j + al), vl (j + al), gl (j + al))) j)))
 ov re fz f0 t0)) +
 List.length
 (Prod.snd
 (S.winR ca af nl (fun (j : Nat) => tl (j + al)) (fun (j : Nat) => vl (j + al))
 (fun (j : Nat) => gl (j + al)) ov re fz t0 e0)) ∧
 0 +
 List.length
 (Prod.snd
 (S.winR ca af
 (List.length (S.mkl nl fun (j : Nat) => (tl (j + al), vl (j + al), gl (j + al))))
 (fun (j : Nat) =>
 Prod.fst
 (S.at' (S.mkl nl fun (j : Nat) => (tl (j + al), vl (j + al), gl (j + al))) j))
 (fun (j : Nat) =>
 Prod.fst
 (Prod.snd
 (S.at' (S.mkl nl fun (j : Nat) => (tl (j + al), vl (j + al), gl (j + al))) j)))
 (fun (j : Nat) =>
 Prod.snd
 (Prod.snd
 (S.at' (S.mkl nl fun (j : Nat) => (tl (j + al), vl (j + al), gl (j + al))) j)))
 ov re fz f0 t0)) +
 List.length
 (Prod.snd
 (S.winR ca af nl (fun (j : Nat) => tl (j + al)) (fun (j : Nat) => vl (j + al))
 (fun (j : Nat) => gl (j + al)) ov re fz t0 e0)) ≤
 1000000))
 then (bif (decide
 ((S.mkl
 (List.length
 (Prod.snd
 (S.winR ca af nl (fun (j : Nat) => tl (j + al)) (fun (j : Nat) => vl (j + al))
 (fun (j : Nat) => gl (j + al)) ov re fz f0 e0)))
 fun (j : Nat) =>
 (Prod.fst
 (S.at'
 (Prod.snd
 (S.winR ca af nl (fun (j : Nat) => tl (j + al)) (fun (j : Nat) => vl (j + al))
 (fun (j : Nat) => gl (j + al)) ov re fz f0 e0))
 j),
 Prod.fst
 (Prod.snd
 (S.at'
 (Prod.snd
 (S.winR ca af nl (fun (j : Nat) => tl (j + al)) (fun (j : Nat) => vl (j + al))
 (fun (j : Nat) => gl (j + al)) ov re fz f0 e0))
 j)),
 Prod.snd
 (Prod.snd
 (S.at'
 (Prod.snd
 (S.winR ca af nl (fun (j : Nat) => tl (j + al)) (fun (j : Nat) => vl (j + al))
 (fun (j : Nat) => gl (j + al)) ov re fz f0 e0))
 j)))) =
 S.mkl
 (0 +
 List.length
 (Prod.snd
 (S.winR ca af
 (List.length (S.mkl nl fun (j : Nat) => (tl (j + al), vl (j + al), gl (j + al))))
 (fun (j : Nat) =>
 (S.at' (S.mkl nl fun (j : Nat) => (tl (j + al), vl (j + al), gl (j + al))) j).1)
 (fun (j : Nat) =>
 Prod.fst
 (Prod.snd
 (S.at' (S.mkl nl fun (j : Nat) => (tl (j + al), vl (j + al), gl (j + al))) j)))
 (fun (j : Nat) =>
 Prod.snd
 (Prod.snd
 (S.at' (S.mkl nl fun (j : Nat) => (tl (j + al), vl (j + al), gl (j + al))) j)))
 ov re fz f0 t0)) +
 List.length
 (Prod.snd
 (S.winR ca af nl (fun (j : Nat) => tl (j + al)) (fun (j : Nat) => vl (j + al))
 (fun (j : Nat) => gl (j + al)) ov re fz t0 e0)))
 fun (j : Nat) =>
 (bif
 Nat.blt j
 (0 +
 List.length
 (Prod.snd
 (S.winR ca af
 (List.length (S.mkl nl fun (j : Nat) => (tl (j + al), vl (j + al), gl (j + al))))
 (fun (j : Nat) =>
 Prod.fst
 (S.at' (S.mkl nl fun (j : Nat) => (tl (j + al), vl (j + al), gl (j + al))) j))
 (fun (j : Nat) =>
 Prod.fst
 (Prod.snd
 (S.at' (S.mkl nl fun (j : Nat) => (tl (j + al), vl (j + al), gl (j + al))) j)))
 (fun (j : Nat) =>
 Prod.snd
 (Prod.snd
 (S.at' (S.mkl nl fun (j : Nat) => (tl (j + al), vl (j + al), gl (j + al))) j)))
 ov re fz f0 t0))) then
 Prod.fst
 (S.at'
 (Prod.snd
 (S.winR ca af
 (List.length (S.mkl nl fun (j : Nat) => (tl (j + al), vl (j + al), gl (j + al))))
 (fun (j : Nat) =>
 (S.at' (S.mkl nl fun (j : Nat) => (tl (j + al), vl (j + al), gl (j + al))) j).1)
 (fun (j : Nat) =>
 Prod.fst
 (Prod.snd
 (S.at' (S.mkl nl fun (j : Nat) => (tl (j + al), vl (j + al), gl (j + al))) j)))
 (fun (j : Nat) =>
 Prod.snd
 (Prod.snd
 (S.at' (S.mkl nl fun (j : Nat) => (tl (j + al), vl (j + al), gl (j + al))) j)))
 ov re fz f0 t0))
 j)
 else
 Prod.fst
 (S.at'
 (Prod.snd
 (S.winR ca af nl (fun (j : Nat) => tl (j + al)) (fun (j : Nat) => vl (j + al))
 (fun (j : Nat) => gl (j + al)) ov re fz t0 e0))
 (j -
 (0 +
 List.length
 (Prod.snd
 (S.winR ca af
 (List.length (S.mkl nl fun (j : Nat) => (tl (j + al), vl (j + al), gl (j + al))))
 (fun (j : Nat) =>
 Prod.fst
 (S.at' (S.mkl nl fun (j : Nat) => (tl (j + al), vl (j + al), gl (j + al))) j))
 (fun (j : Nat) =>
 Prod.fst
 (Prod.snd
 (S.at' (S.mkl nl fun (j : Nat) => (tl (j + al), vl (j + al), gl (j + al)))
 j)))
 (fun (j : Nat) =>
 Prod.snd
 (Prod.snd
 (S.at' (S.mkl nl fun (j : Nat) => (tl (j + al), vl (j + al), gl (j + al)))
 j)))
 ov re fz f0 t0))))),
 bif
 Nat.blt j
 (0 +
 List.length
 (Prod.snd
 (S.winR ca af
 (List.length (S.mkl nl fun (j : Nat) => (tl (j + al), vl (j + al), gl (j + al))))
 (fun (j : Nat) =>
 Prod.fst
 (S.at' (S.mkl nl fun (j : Nat) => (tl (j + al), vl (j + al), gl (j + al))) j))
 (fun (j : Nat) =>
 Prod.fst
 (Prod.snd
 (S.at' (S.mkl nl fun (j : Nat) => (tl (j + al), vl (j + al), gl (j + al))) j)))
 (fun (j : Nat) =>
 Prod.snd
 (Prod.snd
 (S.at' (S.mkl nl fun (j : Nat) => (tl (j + al), vl (j + al), gl (j + al))) j)))
 ov re fz f0 t0))) then
 Prod.fst
 (Prod.snd
 (S.at'
 (Prod.snd
 (S.winR ca af
 (List.length (S.mkl nl fun (j : Nat) => (tl (j + al), vl (j + al), gl (j + al))))
 (fun (j : Nat) =>
 Prod.fst
 (S.at' (S.mkl nl fun (j : Nat) => (tl (j + al), vl (j + al), gl (j + al))) j))
 (fun (j : Nat) =>
 Prod.fst
 (Prod.snd
 (S.at' (S.mkl nl fun (j : Nat) => (tl (j + al), vl (j + al), gl (j + al))) j)))
 (fun (j : Nat) =>
 Prod.snd
 (Prod.snd
 (S.at' (S.mkl nl fun (j : Nat) => (tl (j + al), vl (j + al), gl (j + al))) j)))
 ov re fz f0 t0))
 j))
 else
 Prod.fst
 (Prod.snd
 (S.at'
 (Prod.snd
 (S.winR ca af nl (fun (j : Nat) => tl (j + al)) (fun (j : Nat) => vl (j + al))
 (fun (j : Nat) => gl (j + al)) ov re fz t0 e0))
 (j -
 (0 +
 List.length
 (Prod.snd
 (S.winR ca af
 (List.length (S.mkl nl fun (j : Nat) => (tl (j + al), vl (j + al), gl (j + al))))
 (fun (j : Nat) =>
 Prod.fst
 (S.at' (S.mkl nl fun (j : Nat) => (tl (j + al), vl (j + al), gl (j + al))) j))
 (fun (j : Nat) =>
 Prod.fst
 (Prod.snd
 (S.at' (S.mkl nl fun (j : Nat) => (tl (j + al), vl (j + al), gl (j + al)))
 j)))
 (fun (j : Nat) =>
 Prod.snd
 (Prod.snd
 (S.at' (S.mkl nl fun (j : Nat) => (tl (j + al), vl (j + al), gl (j + al)))
 j)))
 ov re fz f0 t0)))))),
 bif
 Nat.blt j
 (0 +
 List.length
 (Prod.snd
 (S.winR ca af
 (List.length (S.mkl nl fun (j : Nat) => (tl (j + al), vl (j + al), gl (j + al))))
 (fun (j : Nat) =>
 Prod.fst
 (S.at' (S.mkl nl fun (j : Nat) => (tl (j + al), vl (j + al), gl (j + al))) j))
 (fun (j : Nat) =>
 Prod.fst
 (Prod.snd
 (S.at' (S.mkl nl fun (j : Nat) => (tl (j + al), vl (j + al), gl (j + al))) j)))
 (fun (j : Nat) =>
 Prod.snd
 (Prod.snd
 (S.at' (S.mkl nl fun (j : Nat) => (tl (j + al), vl (j + al), gl (j + al))) j)))
 ov re fz f0 t0))) then
 Prod.snd
 (Prod.snd
 (S.at'
 (Prod.snd
 (S.winR ca af
 (List.length (S.mkl nl fun (j : Nat) => (tl (j + al), vl (j + al), gl (j + al))))
 (fun (j : Nat) =>
 Prod.fst
 (S.at' (S.mkl nl fun (j : Nat) => (tl (j + al), vl (j + al), gl (j + al))) j))
 (fun (j : Nat) =>
 Prod.fst
 (Prod.snd
 (S.at' (S.mkl nl fun (j : Nat) => (tl (j + al), vl (j + al), gl (j + al))) j)))
 (fun (j : Nat) =>
 Prod.snd
 (Prod.snd
 (S.at' (S.mkl nl fun (j : Nat) => (tl (j + al), vl (j + al), gl (j + al))) j)))
 ov re fz f0 t0))
 j))
 else
 Prod.snd
 (Prod.snd
 (S.at'
 (Prod.snd
 (S.winR ca af nl (fun (j : Nat) => tl (j + al)) (fun (j : Nat) => vl (j + al))
 (fun (j : Nat) => gl (j + al)) ov re fz t0 e0))
 (j -
 (0 +
 List.length
 (Prod.snd
 (S.winR ca af
 (List.length (S.mkl nl fun (j : Nat) => (tl (j + al), vl (j + al), gl (j + al))))
 (fun (j : Nat) =>
 Prod.fst
 (S.at' (S.mkl nl fun (j : Nat) => (tl (j + al), vl (j + al), gl (j + al))) j))
 (fun (j : Nat) =>
 Prod.fst
 (Prod.snd
 (S.at' (S.mkl nl fun (j : Nat) => (tl (j + al), vl (j + al), gl (j + al)))
 j)))
 (fun (j : Nat) =>
 Prod.snd
 (Prod.snd
 (S.at' (S.mkl nl fun (j : Nat) => (tl (j + al), vl (j + al), gl (j + al)))
 j)))
 ov re fz f0 t0)))))))))
 then (some (.inr (true)))
 else (some (.inr (false))))
 else (none))
 else (none))
 else (none))
 else (none))
 else (none))
 else (none)))
 else (none)))
 else (none)))
 else (none))
 else (some (.inr (false))))))
 else (bif (Prod.fst
 (S.winR ca af (List.length (S.mkl nl fun (j : Nat) => (tl (j + al), vl (j + al), gl (j + al))))
 (fun (j : Nat) =>
 (S.at' (S.mkl nl fun (j : Nat) => (tl (j + al), vl (j + al), gl (j + al))) j).1)
 (fun (j : Nat) =>
 (S.at' (S.mkl nl fun (j : Nat) => (tl (j + al), vl (j + al), gl (j + al))) j).2.1)
 (fun (j : Nat) =>
 (S.at' (S.mkl nl fun (j : Nat) => (tl (j + al), vl (j + al), gl (j + al))) j).2.2)
 ov re fz f0 t0) ==
 Prod.fst
 (S.winR ca af nl (fun (j : Nat) => tl (j + al)) (fun (j : Nat) => vl (j + al)) (fun (j : Nat) => gl (j + al))
 ov re fz f0 t0))
 then (some (.inr (false)))
 else (some (.inr (false)))))
 else (none)))
 else (none))
 else (none))
 else (none))
noncomputable def Te5 (test : Bool → Prop → Prop → Prop) (Kst : KS) (Kret : KR) (ca : Int) (af : Int) (al nl ml : Nat) (tl : Nat → Int) (vl : Nat → Int) (gl : Nat → Bool) (ov : Int) (re : Int) (fz : Bool) (f0 : Int) (t0 : Int) (e0 : Int) : Prop :=
  test (true)
 (test (true)
 (test (decide ((↑nl : Int) > (210 : Int)))
 (test (true)
 (test (true)
 (Kret (PV.tf true) ([[(0, false,
 Blk.cols ml [Col.int IntKind.i64 tl, Col.int IntKind.i64 vl, Col.bool gl])]]) (5))
 (Kret (PV.tf false) ([[(0, false,
 Blk.cols ml [Col.int IntKind.i64 tl, Col.int IntKind.i64 vl, Col.bool gl])]]) (5)))
 (False))
 (test (decide (al + nl ≤ ml ∧ nl ≤ 1000000))
 (test (decide
 (0 + List.length (S.mkl nl fun (j : Nat) => (tl (j + al), vl (j + al), gl (j + al))) ≤
 List.length (S.mkl nl fun (j : Nat) => (tl (j + al), vl (j + al), gl (j + al))) ∧
 List.length (S.mkl nl fun (j : Nat) => (tl (j + al), vl (j + al), gl (j + al))) ≤ 999999))
 (test (decide (al + nl ≤ ml ∧ nl ≤ 999999))
 (test (Prod.fst
 (S.winR ca af (List.length (S.mkl nl fun (j : Nat) => (tl (j + al), vl (j + al), gl (j + al))))
 (fun (j : Nat) =>
 (S.at' (S.mkl nl fun (j : Nat) => (tl (j + al), vl (j + al), gl (j + al))) j).1)
 (fun (j : Nat) =>
 (S.at' (S.mkl nl fun (j : Nat) => (tl (j + al), vl (j + al), gl (j + al))) j).2.1)
 (fun (j : Nat) =>
 (S.at' (S.mkl nl fun (j : Nat) => (tl (j + al), vl (j + al), gl (j + al))) j).2.2)
 ov re fz f0 t0) !=
 Prod.fst
 (S.winR ca af nl (fun (j : Nat) => tl (j + al)) (fun (j : Nat) => vl (j + al)) (fun (j : Nat) => gl (j + al))
 ov re fz f0 t0))
 (test (Prod.fst
 (S.winR ca af (List.length (S.mkl nl fun (j : Nat) => (tl (j + al), vl (j + al), gl (j + al))))
 (fun (j : Nat) =>
 (S.at' (S.mkl nl fun (j : Nat) => (tl (j + al), vl (j + al), gl (j + al))) j).1)
 (fun (j : Nat) =>
 (S.at' (S.mkl nl fun (j : Nat) => (tl (j + al), vl (j + al), gl (j + al))) j).2.1)
 (fun (j : Nat) =>
 (S.at' (S.mkl nl fun (j : Nat) => (tl (j + al), vl (j + al), gl (j + al))) j).2.2)
 ov re fz f0 t0) ==
 Prod.fst
 (S.winR ca af nl (fun (j : Nat) => tl (j + al)) (fun (j : Nat) => vl (j + al)) (fun (j : Nat) => gl (j + al))
 ov re fz f0 t0))
 (test (decide
 (0 +
 List.length
 (Prod.snd
 (S.winR ca af (List.length (S.mkl nl fun (j : Nat) => (tl (j + al), vl (j + al), gl (j + al))))
 (fun (j : Nat) =>
 (S.at' (S.mkl nl fun (j : Nat) => (tl (j + al), vl (j + al), gl (j + al))) j).1)
 (fun (j : Nat) =>
 Prod.fst
 ((S.at' (S.mkl nl fun (j : Nat) => (tl (j + al), vl (j + al), gl (j + al))) j).2))
 (fun (j : Nat) =>
 Prod.snd
 ((S.at' (S.mkl nl fun (j : Nat) => (tl (j + al), vl (j + al), gl (j + al))) j).2))
 ov re fz f0 t0)) ≤
 List.length
 (Prod.snd
 (S.winR ca af (List.length (S.mkl nl fun (j : Nat) => (tl (j + al), vl (j + al), gl (j + al))))
 (fun (j : Nat) =>
 (S.at' (S.mkl nl fun (j : Nat) => (tl (j + al), vl (j + al), gl (j + al))) j).1)
 (fun (j : Nat) =>
 Prod.fst
 ((S.at' (S.mkl nl fun (j : Nat) => (tl (j + al), vl (j + al), gl (j + al))) j).2))
 (fun (j : Nat) =>
 Prod.snd
 ((S.at' (S.mkl nl fun (j : Nat) => (tl (j + al), vl (j + al), gl (j + al))) j).2))
 ov re fz f0 t0)) ∧
 List.length
 (Prod.snd
 (S.winR ca af (List.length (S.mkl nl fun (j : Nat) => (tl (j + al), vl (j + al), gl (j + al))))
 (fun (j : Nat) =>
 (S.at' (S.mkl nl fun (j : Nat) => (tl (j + al), vl (j + al), gl (j + al))) j).1)
 (fun (j : Nat) =>
 Prod.fst
 ((S.at' (S.mkl nl fun (j : Nat) => (tl (j + al), vl (j + al), gl (j + al))) j).2))
 (fun (j : Nat) =>
 Prod.snd
 ((S.at' (S.mkl nl fun (j : Nat) => (tl (j + al), vl (j + al), gl (j + al))) j).2))
 ov re fz f0 t0)) ≤
 1000000 ∧
 0 +
 List.length
 (Prod.snd
 (S.winR ca af nl (fun (j : Nat) => tl (j + al)) (fun (j : Nat) => vl (j + al))
 (fun (j : Nat) => gl (j + al)) ov re fz f0 t0)) ≤
 List.length
 (Prod.snd
 (S.winR ca af nl (fun (j : Nat) => tl (j + al)) (fun (j : Nat) => vl (j + al))
 (fun (j : Nat) => gl (j + al)) ov re fz f0 t0)) ∧
 List.length
 (Prod.snd
 (S.winR ca af nl (fun (j : Nat) => tl (j + al)) (fun (j : Nat) => vl (j + al))
 (fun (j : Nat) => gl (j + al)) ov re fz f0 t0)) ≤
 1000000))
 (test (decide
 ((S.mkl
 (List.length
 (Prod.snd
 (S.winR ca af (List.length (S.mkl nl fun (j : Nat) => (tl (j + al), vl (j + al), gl (j + al))))
 (fun (j : Nat) =>
 (S.at' (S.mkl nl fun (j : Nat) => (tl (j + al), vl (j + al), gl (j + al))) j).1)
 (fun (j : Nat) =>
 Prod.fst
 ((S.at' (S.mkl nl fun (j : Nat) => (tl (j + al), vl (j + al), gl (j + al))) j).2))
 (fun (j : Nat) =>
 Prod.snd
 ((S.at' (S.mkl nl fun (j : Nat) => (tl (j + al), vl (j + al), gl (j + al))) j).2))
 ov re fz f0 t0)))
 fun (j : Nat) =>
 (Prod.fst
 (S.at'
 (Prod.snd
 (S.winR ca af
 (List.length (S.mkl nl fun (j : Nat) => (tl (j + al), vl (j + al), gl (j + al))))
 (fun (j : Nat) =>
 (S.at' (S.mkl nl fun (j : Nat) => (tl (j + al), vl (j + al), gl (j + al))) j).1)
 (fun (j : Nat) =>
 Prod.fst
 (Prod.snd
 (S.at' (S.mkl nl fun (j : Nat) => (tl (j + al), vl (j + al), gl (j + al))) j)))
 (fun (j : Nat) =>
 Prod.snd
 (Prod.snd
 (S.at' (S.mkl nl fun (j : Nat) => (tl (j + al), vl (j + al), gl (j + al))) j)))
 ov re fz f0 t0))
 j),
 Prod.fst
 (Prod.snd
 (S.at'
 (Prod.snd
 (S.winR ca af
 (List.length (S.mkl nl fun (j : Nat) => (tl (j + al), vl (j + al), gl (j + al))))
 (fun (j : Nat) =>
 (S.at' (S.mkl nl fun (j : Nat) => (tl (j + al), vl (j + al), gl (j + al))) j).1)
 (fun (j : Nat) =>
 Prod.fst
 (Prod.snd
 (S.at' (S.mkl nl fun (j : Nat) => (tl (j + al), vl (j + al), gl (j + al))) j)))
 (fun (j : Nat) =>
 Prod.snd
 (Prod.snd
 (S.at' (S.mkl nl fun (j : Nat) => (tl (j + al), vl (j + al), gl (j + al))) j)))
 ov re fz f0 t0))
 j)),
 Prod.snd
 (Prod.snd
 (S.at'
 (Prod.snd
 (S.winR ca af
 (List.length (S.mkl nl fun (j : Nat) => (tl (j + al), vl (j + al), gl (j + al))))
 (fun (j : Nat) =>
 (S.at' (S.mkl nl fun (j : Nat) => (tl (j + al), vl (j + al), gl (j + al))) j).1)
 (fun (j : Nat) =>
 Prod.fst
 (Prod.snd
 (S.at' (S.mkl nl fun (j : Nat) => (tl (j + al), vl (j + al), gl (j + al))) j)))
 (fun (j : Nat) =>
 Prod.snd
 (Prod.snd
 (S.at' (S.mkl nl fun (j : Nat) => (tl (j + al), vl (j + al), gl (j + al))) j)))
 ov re fz f0 t0))
 j)))) =
 S.mkl
 (List.length
 (Prod.snd
 (S.winR ca af nl (fun (j : Nat) => tl (j + al)) (fun (j : Nat) => vl (j + al))
 (fun (j : Nat) => gl (j + al)) ov re fz f0 t0)))
 fun (j : Nat) =>
 (Prod.fst
 (S.at'
 (Prod.snd
 (S.winR ca af nl (fun (j : Nat) => tl (j + al)) (fun (j : Nat) => vl (j + al))
 (fun (j : Nat) => gl (j + al)) ov re fz f0 t0))
 j),
 Prod.fst
 (Prod.snd
 (S.at'
 (Prod.snd
 (S.winR ca af nl (fun (j : Nat) => tl (j + al)) (fun (j : Nat) => vl (j + al))
 (fun (j : Nat) => gl (j + al)) ov re fz f0 t0))
 j)),
 Prod.snd
 (Prod.snd
 (S.at'
 (Prod.snd
 (S.winR ca af nl (fun (j : Nat) => tl (j + al)) (fun (j : Nat) => vl (j + al))
 (fun (j : Nat) => gl (j + al)) ov re fz f0 t0))
 j)))))
 (Kret (PV.tf true) ([[(0, false,
 Blk.cols ml [Col.int IntKind.i64 tl, Col.int IntKind.i64 vl, Col.bool gl])]]) (11))
 (Kret (PV.tf false) ([[(0, false,
 Blk.cols ml [Col.int IntKind.i64 tl, Col.int IntKind.i64 vl, Col.bool gl])]]) (11)))
 (False))
 (Kret (PV.tf false) ([[(0, false,
 Blk.cols ml [Col.int IntKind.i64 tl, Col.int IntKind.i64 vl, Col.bool gl])]]) (10)))
 (test (decide
 (0 +
 List.length
 (Prod.snd
 (S.winR ca af (List.length (S.mkl nl fun (j : Nat) => (tl (j + al), vl (j + al), gl (j + al))))
 (fun (j : Nat) =>
 (S.at' (S.mkl nl fun (j : Nat) => (tl (j + al), vl (j + al), gl (j + al))) j).1)
 (fun (j : Nat) =>
 Prod.fst
 ((S.at' (S.mkl nl fun (j : Nat) => (tl (j + al), vl (j + al), gl (j + al))) j).2))
 (fun (j : Nat) =>
 Prod.snd
 ((S.at' (S.mkl nl fun (j : Nat) => (tl (j + al), vl (j + al), gl (j + al))) j).2))
 ov re fz f0 t0)) ≤
 List.length
 (Prod.snd
 (S.winR ca af (List.length (S.mkl nl fun (j : Nat) => (tl (j + al), vl (j + al), gl (j + al))))
 (fun (j : Nat) =>
 (S.at' (S.mkl nl fun (j : Nat) => (tl (j + al), vl (j + al), gl (j + al))) j).1)
 (fun (j : Nat) =>
 Prod.fst
 ((S.at' (S.mkl nl fun (j : Nat) => (tl (j + al), vl (j + al), gl (j + al))) j).2))
 (fun (j : Nat) =>
 Prod.snd
 ((S.at' (S.mkl nl fun (j : Nat) => (tl (j + al), vl (j + al), gl (j + al))) j).2))
 ov re fz f0 t0)) ∧
 List.length
 (Prod.snd
 (S.winR ca af (List.length (S.mkl nl fun (j : Nat) => (tl (j + al), vl (j + al), gl (j + al))))
 (fun (j : Nat) =>
 (S.at' (S.mkl nl fun (j : Nat) => (tl (j + al), vl (j + al), gl (j + al))) j).1)
 (fun (j : Nat) =>
 Prod.fst
 ((S.at' (S.mkl nl fun (j : Nat) => (tl (j + al), vl (j + al), gl (j + al))) j).2))
 (fun (j : Nat) =>
 Prod.snd
 ((S.at' (S.mkl nl fun (j : Nat) => (tl (j + al), vl (j + al), gl (j + al))) j).2))
 ov re fz f0 t0)) ≤
 1000000 ∧
 0 +
 List.length
 (Prod.snd
 (S.winR ca af nl (fun (j : Nat) => tl (j + al)) (fun (j : Nat) => vl (j + al))
 (fun (j : Nat) => gl (j + al)) ov re fz f0 t0)) ≤
 List.length
 (Prod.snd
 (S.winR ca af nl (fun (j : Nat) => tl (j + al)) (fun (j : Nat) => vl (j + al))
 (fun (j : Nat) => gl (j + al)) ov re fz f0 t0)) ∧
 List.length
 (Prod.snd
 (S.winR ca af nl (fun (j : Nat) => tl (j + al)) (fun (j : Nat) => vl (j + al))
 (fun (j : Nat) => gl (j + al)) ov re fz f0 t0)) ≤
 1000000))
 (test (decide
 ((S.mkl
 (List.length
 (Prod.snd
 (S.winR ca af (List.length (S.mkl nl fun (j : Nat) => (tl (j + al), vl (j + al), gl (j + al))))
 (fun (j : Nat) =>
 (S.at' (S.mkl nl fun (j : Nat) => (tl (j + al), vl (j + al), gl (j + al))) j).1)
 (fun (j : Nat) =>
 Prod.fst
 ((S.at' (S.mkl nl fun (j : Nat) => (tl (j + al), vl (j + al), gl (j + al))) j).2))
 (fun (j : Nat) =>
 Prod.snd
 ((S.at' (S.mkl nl fun (j : Nat) => (tl (j + al), vl (j + al), gl (j + al))) j).2))
 ov re fz f0 t0)))
 fun (j : Nat) =>
 (Prod.fst
 (S.at'
 (Prod.snd
 (S.winR ca af
 (List.length (S.mkl nl fun (j : Nat) => (tl (j + al), vl (j + al), gl (j + al))))
 (fun (j : Nat) =>
 (S.at' (S.mkl nl fun (j : Nat) => (tl (j + al), vl (j + al), gl (j + al))) j).1)
 (fun (j : Nat) =>
 Prod.fst
 (Prod.snd
 (S.at' (S.mkl nl fun (j : Nat) => (tl (j + al), vl (j + al), gl (j + al))) j)))
 (fun (j : Nat) =>
 Prod.snd
 (Prod.snd
 (S.at' (S.mkl nl fun (j : Nat) => (tl (j + al), vl (j + al), gl (j + al))) j)))
 ov re fz f0 t0))
 j),
 Prod.fst
 (Prod.snd
 (S.at'
 (Prod.snd
 (S.winR ca af
 (List.length (S.mkl nl fun (j : Nat) => (tl (j + al), vl (j + al), gl (j + al))))
 (fun (j : Nat) =>
 (S.at' (S.mkl nl fun (j : Nat) => (tl (j + al), vl (j + al), gl (j + al))) j).1)
 (fun (j : Nat) =>
 Prod.fst
 (Prod.snd
 (S.at' (S.mkl nl fun (j : Nat) => (tl (j + al), vl (j + al), gl (j + al))) j)))
 (fun (j : Nat) =>
 Prod.snd
 (Prod.snd
 (S.at' (S.mkl nl fun (j : Nat) => (tl (j + al), vl (j + al), gl (j + al))) j)))
 ov re fz f0 t0))
 j)),
 Prod.snd
 (Prod.snd
 (S.at'
 (Prod.snd
 (S.winR ca af
 (List.length (S.mkl nl fun (j : Nat) => (tl (j + al), vl (j + al), gl (j + al))))
 (fun (j : Nat) =>
 (S.at' (S.mkl nl fun (j : Nat) => (tl (j + al), vl (j + al), gl (j + al))) j).1)
 (fun (j : Nat) =>
 Prod.fst
 (Prod.snd
 (S.at' (S.mkl nl fun (j : Nat) => (tl (j + al), vl (j + al), gl (j + al))) j)))
 (fun (j : Nat) =>
 Prod.snd
 (Prod.snd
 (S.at' (S.mkl nl fun (j : Nat) => (tl (j + al), vl (j + al), gl (j + al))) j)))
 ov re fz f0 t0))
 j)))) =
 S.mkl
 (List.length
 (Prod.snd
 (S.winR ca af nl (fun (j : Nat) => tl (j + al)) (fun (j : Nat) => vl (j + al))
 (fun (j : Nat) => gl (j + al)) ov re fz f0 t0)))
 fun (j : Nat) =>
 (Prod.fst
 (S.at'
 (Prod.snd
 (S.winR ca af nl (fun (j : Nat) => tl (j + al)) (fun (j : Nat) => vl (j + al))
 (fun (j : Nat) => gl (j + al)) ov re fz f0 t0))
 j),
 Prod.fst
 (Prod.snd
 (S.at'
 (Prod.snd
 (S.winR ca af nl (fun (j : Nat) => tl (j + al)) (fun (j : Nat) => vl (j + al))
 (fun (j : Nat) => gl (j + al)) ov re fz f0 t0))
 j)),
 Prod.snd
 (Prod.snd
 (S.at'
 (Prod.snd
 (S.winR ca af nl (fun (j : Nat) => tl (j + al)) (fun (j : Nat) => vl (j + al))
 (fun (j : Nat) => gl (j + al)) ov re fz f0 t0))
 j)))))
 (test (Prod.fst
 (S.winR ca af (List.length (S.mkl nl fun (j : Nat) => (tl (j + al), vl (j + al), gl (j + al))))
 (fun (j : Nat) =>
 (S.at' (S.mkl nl fun (j : Nat) => (tl (j + al), vl (j + al), gl (j + al))) j).1)
 (fun (j : Nat) =>
 (S.at' (S.mkl nl fun (j : Nat) => (tl (j + al), vl (j + al), gl (j + al))) j).2.1)
 (fun (j : Nat) =>
 (S.at' (S.mkl nl fun (j : Nat) => (tl (j + al), vl (j + al), gl (j + al))) j).2.2)
 ov re fz f0 t0) !=
 (0 : Int))
 (test (Prod.fst
 (S.winR ca af (List.length (S.mkl nl fun (j : Nat) => (tl (j + al), vl (j + al), gl (j + al))))
 (fun (j : Nat) =>
 (S.at' (S.mkl nl fun (j : Nat) => (tl (j + al), vl (j + al), gl (j + al))) j).1)
 (fun (j : Nat) =>
 (S.at' (S.mkl nl fun (j : Nat) => (tl (j + al), vl (j + al), gl (j + al))) j).2.1)
 (fun (j : Nat) =>
 (S.at' (S.mkl nl fun (j : Nat) => (tl (j + al), vl (j + al), gl (j + al))) j).2.2)
 ov re fz f0 t0) ==
 Prod.fst
 (S.winR ca af nl (fun (j : Nat) => tl (j + al)) (fun (j : Nat) => vl (j + al)) (fun (j : Nat) => gl (j + al))
 ov re fz f0 t0))
 (test (decide
 (0 +
 List.length
 (Prod.snd
 (S.winR ca af (List.length (S.mkl nl fun (j : Nat) => (tl (j + al), vl (j + al), gl (j + al))))
 (fun (j : Nat) =>
 (S.at' (S.mkl nl fun (j : Nat) => (tl (j + al), vl (j + al), gl (j + al))) j).1)
 (fun (j : Nat) =>
 Prod.fst
 ((S.at' (S.mkl nl fun (j : Nat) => (tl (j + al), vl (j + al), gl (j + al))) j).2))
 (fun (j : Nat) =>
 Prod.snd
 ((S.at' (S.mkl nl fun (j : Nat) => (tl (j + al), vl (j + al), gl (j + al))) j).2))
 ov re fz f0 t0)) ≤
 List.length
 (Prod.snd
 (S.winR ca af (List.length (S.mkl nl fun (j : Nat) => (tl (j + al), vl (j + al), gl (j + al))))
 (fun (j : Nat) =>
 (S.at' (S.mkl nl fun (j : Nat) => (tl (j + al), vl (j + al), gl (j + al))) j).1)
 (fun (j : Nat) =>
 Prod.fst
 ((S.at' (S.mkl nl fun (j : Nat) => (tl (j + al), vl (j + al), gl (j + al))) j).2))
 (fun (j : Nat) =>
 Prod.snd
 ((S.at' (S.mkl nl fun (j : Nat) => (tl (j + al), vl (j + al), gl (j + al))) j).2))
 ov re fz f0 t0)) ∧
 List.length
 (Prod.snd
 (S.winR ca af (List.length (S.mkl nl fun (j : Nat) => (tl (j + al), vl (j + al), gl (j + al))))
 (fun (j : Nat) =>
 (S.at' (S.mkl nl fun (j : Nat) => (tl (j + al), vl (j + al), gl (j + al))) j).1)
 (fun (j : Nat) =>
 Prod.fst
 ((S.at' (S.mkl nl fun (j : Nat) => (tl (j + al), vl (j + al), gl (j + al))) j).2))
 (fun (j : Nat) =>
 Prod.snd
 ((S.at' (S.mkl nl fun (j : Nat) => (tl (j + al), vl (j + al), gl (j + al))) j).2))
 ov re fz f0 t0)) ≤
 1000000 ∧
 0 +
 List.length
 (Prod.snd
 (S.winR ca af nl (fun (j : Nat) => tl (j + al)) (fun (j : Nat) => vl (j + al))
 (fun (j : Nat) => gl (j + al)) ov re fz f0 t0)) ≤
 List.length
 (Prod.snd
 (S.winR ca af nl (fun (j : Nat) => tl (j + al)) (fun (j : Nat) => vl (j + al))
 (fun (j : Nat) => gl (j + al)) ov re fz f0 t0)) ∧
 List.length
 (Prod.snd
 (S.winR ca af nl (fun (j : Nat) => tl (j + al)) (fun (j : Nat) => vl (j + al))
 (fun (j : Nat) => gl (j + al)) ov re fz f0 t0)) ≤
 1000000))
 (test (decide
 ((S.mkl
 (List.length
 (Prod.snd
 (S.winR ca af (List.length (S.mkl nl fun (j : Nat) => (tl (j + al), vl (j + al), gl (j + al))))
 (fun (j : Nat) =>
 (S.at' (S.mkl nl fun (j : Nat) => (tl (j + al), vl (j + al), gl (j + al))) j).1)
 (fun (j : Nat) =>
 Prod.fst
 ((S.at' (S.mkl nl fun (j : Nat) => (tl (j + al), vl (j + al), gl (j + al))) j).2))
 (fun (j : Nat) =>
 Prod.snd
 ((S.at' (S.mkl nl fun (j : Nat) => (tl (j + al), vl (j + al), gl (j + al))) j).2))
 ov re fz f0 t0)))
 fun (j : Nat) =>
 (Prod.fst
 (S.at'
 (Prod.snd
 (S.winR ca af
 (List.length (S.mkl nl fun (j : Nat) => (tl (j + al), vl (j + al), gl (j + al))))
 (fun (j : Nat) =>
 (S.at' (S.mkl nl fun (j : Nat) => (tl (j + al), vl (j + al), gl (j + al))) j).1)
 (fun (j : Nat) =>
 Prod.fst
 (Prod.snd
 (S.at' (S.mkl nl fun (j : Nat) => (tl (j + al), vl (j + al), gl (j + al))) j)))
 (fun (j : Nat) =>
 Prod.snd
 (Prod.snd
 (S.at' (S.mkl nl fun (j : Nat) => (tl (j + al), vl (j + al), gl (j + al))) j)))
 ov re fz f0 t0))
 j),
 Prod.fst
 (Prod.snd
 (S.at'
 (Prod.snd
 (S.winR ca af
 (List.length (S.mkl nl fun (j : Nat) => (tl (j + al), vl (j + al), gl (j + al))))
 (fun (j : Nat) =>
 (S.at' (S.mkl nl fun (j : Nat) => (tl (j + al), vl (j + al), gl (j + al))) j).1)
 (fun (j : Nat) =>
 Prod.fst
 (Prod.snd
 (S.at' (S.mkl nl fun (j : Nat) => (tl (j + al), vl (j + al), gl (j + al))) j)))
 (fun (j : Nat) =>
 Prod.snd
 (Prod.snd
 (S.at' (S.mkl nl fun (j : Nat) => (tl (j + al), vl (j + al), gl (j + al))) j)))
 ov re fz f0 t0))
 j)),
 Prod.snd
 (Prod.snd
 (S.at'
 (Prod.snd
 (S.winR ca af
 (List.length (S.mkl nl fun (j : Nat) => (tl (j + al), vl (j + al), gl (j + al))))
 (fun (j : Nat) =>
 (S.at' (S.mkl nl fun (j : Nat) => (tl (j + al), vl (j + al), gl (j + al))) j).1)
 (fun (j : Nat) =>
 Prod.fst
 (Prod.snd
 (S.at' (S.mkl nl fun (j : Nat) => (tl (j + al), vl (j + al), gl (j + al))) j)))
 (fun (j : Nat) =>
 Prod.snd
 (Prod.snd
 (S.at' (S.mkl nl fun (j : Nat) => (tl (j + al), vl (j + al), gl (j + al))) j)))
 ov re fz f0 t0))
 j)))) =
 S.mkl
 (List.length
 (Prod.snd
 (S.winR ca af nl (fun (j : Nat) => tl (j + al)) (fun (j : Nat) => vl (j + al))
 (fun (j : Nat) => gl (j + al)) ov re fz f0 t0)))
 fun (j : Nat) =>
 (Prod.fst
 (S.at'
 (Prod.snd
 (S.winR ca af nl (fun (j : Nat) => tl (j + al)) (fun (j : Nat) => vl (j + al))
 (fun (j : Nat) => gl (j + al)) ov re fz f0 t0))
 j),
 Prod.fst
 (Prod.snd
 (S.at'
 (Prod.snd
 (S.winR ca af nl (fun (j : Nat) => tl (j + al)) (fun (j : Nat) => vl (j + al))
 (fun (j : Nat) => gl (j + al)) ov re fz f0 t0))
 j)),
 Prod.snd
 (Prod.snd
 (S.at'
 (Prod.snd
 (S.winR ca af nl (fun (j : Nat) => tl (j + al)) (fun (j : Nat) => vl (j + al))
 (fun (j : Nat) => gl (j + al)) ov re fz f0 t0))
 j)))))
 (Kret (PV.tf true) ([[(0, false,
 Blk.cols ml [Col.int IntKind.i64 tl, Col.int IntKind.i64 vl, Col.bool gl])]]) (12))
 (Kret (PV.tf false) ([[(0, false,
 Blk.cols ml [Col.int IntKind.i64 tl, Col.int IntKind.i64 vl, Col.bool gl])]]) (12)))
 (False))
 (Kret (PV.tf false) ([[(0, false,
 Blk.cols ml [Col.int IntKind.i64 tl, Col.int IntKind.i64 vl, Col.bool gl])]]) (11)))
 (test (decide (al + nl ≤ ml ∧ nl ≤ 999999))
 (test (decide (al + nl ≤ ml ∧ nl ≤ 999999))
 (test (Prod.fst
 (S.winR ca af nl (fun (j : Nat) => tl (j + al)) (fun (j : Nat) => vl (j + al)) (fun (j : Nat) => gl (j + al))
 ov re fz t0 e0) !=
 (0 : Int))
 (Kret (PV.tf true) ([[(0, false,
 Blk.cols ml [Col.int IntKind.i64 tl, Col.int IntKind.i64 vl, Col.bool gl])]]) (15))
 (test (Prod.fst
 (S.winR ca af nl (fun (j : Nat) => tl (j + al)) (fun (j : Nat) => vl (j + al)) (fun (j : Nat) => gl (j + al))
 ov re fz f0 e0) ==
 (0 : Int))
 (test (true)
 (test (true)
 (test (lim IntKind.i64
 ((0 : Int) +
 (↑(List.length
 (Prod.snd
 (S.winR ca af (List.length (S.mkl nl fun (j : Nat) => (tl (j + al), vl (j + al), gl (j + al))))
 (fun (j : Nat) =>
 (S.at' (S.mkl nl fun (j : Nat) => (tl (j + al), vl (j + al), gl (j + al))) j).1)
 (fun (j : Nat) =>
 Prod.fst
 ((S.at' (S.mkl nl fun (j : Nat) => (tl (j + al), vl (j + al), gl (j + al))) j).2))
 (fun (j : Nat) =>
 Prod.snd
 ((S.at' (S.mkl nl fun (j : Nat) => (tl (j + al), vl (j + al), gl (j + al))) j).2))
 ov re fz f0 t0))) :
 Int)))
 (test (decide
 ((0 : Int) +
 (↑(List.length
 (Prod.snd
 (S.winR ca af
 (List.length (S.mkl nl fun (j : Nat) => (tl (j + al), vl (j + al), gl (j + al))))
 (fun (j : Nat) =>
 (S.at' (S.mkl nl fun (j : Nat) => (tl (j + al), vl (j + al), gl (j + al))) j).1)
 (fun (j : Nat) =>
 Prod.fst
 (Prod.snd
 (S.at' (S.mkl nl fun (j : Nat) => (tl (j + al), vl (j + al), gl (j + al))) j)))
 (fun (j : Nat) =>
 Prod.snd
 (Prod.snd
 (S.at' (S.mkl nl fun (j : Nat) => (tl (j + al), vl (j + al), gl (j + al))) j)))
 ov re fz f0 t0))) :
 Int) <
 (0 : Int)))
 (False)
 (test (true)
 (test (true)
 (test (true)
 (test (lim IntKind.i64
 ((0 : Int) +
 (↑(List.length
 (Prod.snd
 (S.winR ca af
 (List.length (S.mkl nl fun (j : Nat) => (tl (j + al), vl (j + al), gl (j + al))))
 (fun (j : Nat) =>
 (S.at' (S.mkl nl fun (j : Nat) => (tl (j + al), vl (j + al), gl (j + al))) j).1)
 (fun (j : Nat) =>
 Prod.fst
 (Prod.snd
 (S.at' (S.mkl nl fun (j : Nat) => (tl (j + al), vl (j + al), gl (j + al))) j)))
 (fun (j : Nat) =>
 Prod.snd
 (Prod.snd
 (S.at' (S.mkl nl fun (j : Nat) => (tl (j + al), vl (j + al), gl (j + al))) j)))
 ov re fz f0 t0))) :
 Int) +
 (↑(List.length
 (Prod.snd
 (S.winR ca af nl (fun (j : Nat) => tl (j + al)) (fun (j : Nat) => vl (j + al))
 (fun (j : Nat) => gl (j + al)) ov re fz t0 e0))) :
 Int)))
 (test (decide
 ((0 : Int) +
 (↑(List.length
 (Prod.snd
 (S.winR ca af
 (List.length (S.mkl nl fun (j : Nat) => (tl (j + al), vl (j + al), gl (j + al))))
 (fun (j : Nat) =>
 (S.at' (S.mkl nl fun (j : Nat) => (tl (j + al), vl (j + al), gl (j + al))) j).1)
 (fun (j : Nat) =>
 Prod.fst
 (Prod.snd
 (S.at' (S.mkl nl fun (j : Nat) => (tl (j + al), vl (j + al), gl (j + al))) j)))
 (fun (j : Nat) =>
 Prod.snd
 (Prod.snd
 (S.at' (S.mkl nl fun (j : Nat) => (tl (j + al), vl (j + al), gl (j + al))) j)))
 ov re fz f0 t0))) :
 Int) +
 (↑(List.length
 (Prod.snd
 (S.winR ca af nl (fun (j : Nat) => tl (j + al)) (fun (j : Nat) => vl (j + al))
 (fun (j : Nat) => gl (j + al)) ov re fz t0 e0))) :
 Int) <
 (0 : Int)))
 (False)
 (test (true)
 (test (false)
 (test (false)
 (False)
 (False))
 (test (decide
 ((0 : Int) +
 (↑(List.length
 (Prod.snd
 (S.winR ca af
 (List.length (S.mkl nl fun (j : Nat) => (tl (j + al), vl (j + al), gl (j + al))))
 (fun (j : Nat) =>
 (S.at' (S.mkl nl fun (j : Nat) => (tl (j + al), vl (j + al), gl (j + al))) j).1)
 (fun (j : Nat) =>
 Prod.fst
 (Prod.snd
 (S.at' (S.mkl nl fun (j : Nat) => (tl (j + al), vl (j + al), gl (j + al))) j)))
 (fun (j : Nat) =>
 Prod.snd
 (Prod.snd
 (S.at' (S.mkl nl fun (j : Nat) => (tl (j + al), vl (j + al), gl (j + al))) j)))
 ov re fz f0 t0))) :
 Int) +
 (↑(List.length
 (Prod.snd
 (S.winR ca af nl (fun (j : Nat) => tl (j + al)) (fun (j : Nat) => vl (j + al))
 (fun (j : Nat) => gl (j + al)) ov re fz t0 e0))) :
 Int) <
 (0 : Int)))
 (False)
 (test (true)
 (test (lim IntKind.i64
 ((0 : Int) +
 (↑(List.length
 (Prod.snd
 (S.winR ca af
 (List.length (S.mkl nl fun (j : Nat) => (tl (j + al), vl (j + al), gl (j + al))))
 (fun (j : Nat) =>
 (S.at' (S.mkl nl fun (j : Nat) => (tl (j + al), vl (j + al), gl (j + al))) j).1)
 (fun (j : Nat) =>
 Prod.fst
 (Prod.snd
 (S.at' (S.mkl nl fun (j : Nat) => (tl (j + al), vl (j + al), gl (j + al))) j)))
 (fun (j : Nat) =>
 Prod.snd
 (Prod.snd
 (S.at' (S.mkl nl fun (j : Nat) => (tl (j + al), vl (j + al), gl (j + al))) j)))
 ov re fz f0 t0))) :
 Int) +
 (↑(List.length
 (Prod.snd
 (S.winR ca af nl (fun (j : Nat) => tl (j + al)) (fun (j : Nat) => vl (j + al))
 (fun (j : Nat) => gl (j + al)) ov re fz t0 e0))) :
 Int) -
 (0 : Int)))
 (test (decide
 ((0 : Int) +
 (↑(List.length
 (Prod.snd
 (S.winR ca af
 (List.length (S.mkl nl fun (j : Nat) => (tl (j + al), vl (j + al), gl (j + al))))
 (fun (j : Nat) =>
 Prod.fst
 (S.at' (S.mkl nl fun (j : Nat) => (tl (j + al), vl (j + al), gl (j + al))) j))
 (fun (j : Nat) =>
 Prod.fst
 (Prod.snd
 (S.at' (S.mkl nl fun (j : Nat) => (tl (j + al), vl (j + al), gl (j + al))) j)))
 (fun (j : Nat) =>
 Prod.snd
 (Prod.snd
 (S.at' (S.mkl nl fun (j : Nat) => (tl (j + al), vl (j + al), gl (j + al))) j)))
 ov re fz f0 t0))) :
 Int) +
 (↑(List.length
 (Prod.snd
 (S.winR ca af nl (fun (j : Nat) => tl (j + al)) (fun (j : Nat) => vl (j + al))
 (fun (j : Nat) => gl (j + al)) ov re fz t0 e0))) :
 Int) -
 (0 : Int) >
 (0 : Int)))
 (test (true)
 (test (decide
 ((0 : Int) ≤
 (0 : Int) +
 (↑(List.length
 (Prod.snd
 (S.winR ca af
 (List.length (S.mkl nl fun (j : Nat) => (tl (j + al), vl (j + al), gl (j + al))))
 (fun (j : Nat) =>
 Prod.fst
 (S.at' (S.mkl nl fun (j : Nat) => (tl (j + al), vl (j + al), gl (j + al))) j))
 (fun (j : Nat) =>
 Prod.fst
 (Prod.snd
 (S.at' (S.mkl nl fun (j : Nat) => (tl (j + al), vl (j + al), gl (j + al))) j)))
 (fun (j : Nat) =>
 Prod.snd
 (Prod.snd
 (S.at' (S.mkl nl fun (j : Nat) => (tl (j + al), vl (j + al), gl (j + al))) j)))
 ov re fz f0 t0))) :
 Int) +
 (↑(List.length
 (Prod.snd
 (S.winR ca af nl (fun (j : Nat) => tl (j + al)) (fun (j : Nat) => vl (j + al))
 (fun (j : Nat) => gl (j + al)) ov re fz t0 e0))) :
 Int) -
 (0 : Int) ∧
 (0 : Int) +
 (↑(List.length
 (Prod.snd
 (S.winR ca af
 (List.length (S.mkl nl fun (j : Nat) => (tl (j + al), vl (j + al), gl (j + al))))
 (fun (j : Nat) =>
 Prod.fst
 (S.at' (S.mkl nl fun (j : Nat) => (tl (j + al), vl (j + al), gl (j + al))) j))
 (fun (j : Nat) =>
 Prod.fst
 (Prod.snd
 (S.at' (S.mkl nl fun (j : Nat) => (tl (j + al), vl (j + al), gl (j + al))) j)))
 (fun (j : Nat) =>
 Prod.snd
 (Prod.snd
 (S.at' (S.mkl nl fun (j : Nat) => (tl (j + al), vl (j + al), gl (j + al))) j)))
 ov re fz f0 t0))) :
 Int) +
 (↑(List.length
 (Prod.snd
 (S.winR ca af nl (fun (j : Nat) => tl (j + al)) (fun (j : Nat) => vl (j + al))
 (fun (j : Nat) => gl (j + al)) ov re fz t0 e0))) :
 Int) -
 (0 : Int) ≤
 (1000000 : Int)))
 (test (decide
 ((0 : Int) ≤ (0 : Int) ∧
 (0 : Int) ≤
 (↑(Int.toNat
 ((0 : Int) +
 (↑(List.length
 (Prod.snd
 (S.winR ca af
 (List.length (S.mkl nl fun (j : Nat) => (tl (j + al), vl (j + al), gl (j + al))))
 (fun (j : Nat) =>
 Prod.fst
 (S.at' (S.mkl nl fun (j : Nat) => (tl (j + al), vl (j + al), gl (j + al)))
 j))
 (fun (j : Nat) =>
 Prod.fst
 (Prod.snd
 (S.at' (S.mkl nl fun (j : Nat) => (tl (j + al), vl (j + al), gl (j + al)))
 j)))
 (fun (j : Nat) =>
 Prod.snd
 (Prod.snd
 (S.at' (S.mkl nl fun (j : Nat) => (tl (j + al), vl (j + al), gl (j + al)))
 j)))
 ov re fz f0 t0))) :
 Int) +
 (↑(List.length
 (Prod.snd
 (S.winR ca af nl (fun (j : Nat) => tl (j + al)) (fun (j : Nat) => vl (j + al))
 (fun (j : Nat) => gl (j + al)) ov re fz t0 e0))) :
 Int) -
 (0 : Int))) :
 Int)))
 (test (true)
 (test (true)
 (test (decide
 (0 +
 List.length
 (Prod.snd
 (S.winR ca af (List.length (S.mkl nl fun (j : Nat) => (tl (j + al), vl (j + al), gl (j + al))))
 (fun (j : Nat) =>
 (S.at' (S.mkl nl fun (j : Nat) => (tl (j + al), vl (j + al), gl (j + al))) j).1)
 (fun (j : Nat) =>
 Prod.fst
 ((S.at' (S.mkl nl fun (j : Nat) => (tl (j + al), vl (j + al), gl (j + al))) j).2))
 (fun (j : Nat) =>
 Prod.snd
 ((S.at' (S.mkl nl fun (j : Nat) => (tl (j + al), vl (j + al), gl (j + al))) j).2))
 ov re fz f0 t0)) ≤
 1000000))
 (test (decide
 (0 ≤
 Int.toNat
 ((0 : Int) +
 (↑(List.length
 (Prod.snd
 (S.winR ca af
 (List.length (S.mkl nl fun (j : Nat) => (tl (j + al), vl (j + al), gl (j + al))))
 (fun (j : Nat) =>
 Prod.fst
 (S.at' (S.mkl nl fun (j : Nat) => (tl (j + al), vl (j + al), gl (j + al))) j))
 (fun (j : Nat) =>
 Prod.fst
 (Prod.snd
 (S.at' (S.mkl nl fun (j : Nat) => (tl (j + al), vl (j + al), gl (j + al))) j)))
 (fun (j : Nat) =>
 Prod.snd
 (Prod.snd
 (S.at' (S.mkl nl fun (j : Nat) => (tl (j + al), vl (j + al), gl (j + al))) j)))
 ov re fz f0 t0))) :
 Int) +
 (↑(List.length
 (Prod.snd
 (S.winR ca af nl (fun (j : Nat) => tl (j + al)) (fun (j : Nat) => vl (j + al))
 (fun (j : Nat) => gl (j + al)) ov re fz t0 e0))) :
 Int) -
 (0 : Int))))
 (test (decide
 (0 +
 List.length
 (Prod.snd
 (S.winR ca af (List.length (S.mkl nl fun (j : Nat) => (tl (j + al), vl (j + al), gl (j + al))))
 (fun (j : Nat) =>
 (S.at' (S.mkl nl fun (j : Nat) => (tl (j + al), vl (j + al), gl (j + al))) j).1)
 (fun (j : Nat) =>
 Prod.fst
 ((S.at' (S.mkl nl fun (j : Nat) => (tl (j + al), vl (j + al), gl (j + al))) j).2))
 (fun (j : Nat) =>
 Prod.snd
 ((S.at' (S.mkl nl fun (j : Nat) => (tl (j + al), vl (j + al), gl (j + al))) j).2))
 ov re fz f0 t0)) ≤
 List.length
 (Prod.snd
 (S.winR ca af (List.length (S.mkl nl fun (j : Nat) => (tl (j + al), vl (j + al), gl (j + al))))
 (fun (j : Nat) =>
 (S.at' (S.mkl nl fun (j : Nat) => (tl (j + al), vl (j + al), gl (j + al))) j).1)
 (fun (j : Nat) =>
 Prod.fst
 ((S.at' (S.mkl nl fun (j : Nat) => (tl (j + al), vl (j + al), gl (j + al))) j).2))
 (fun (j : Nat) =>
 Prod.snd
 ((S.at' (S.mkl nl fun (j : Nat) => (tl (j + al), vl (j + al), gl (j + al))) j).2))
 ov re fz f0 t0))))
 (test (true)
 (test (true)
 (test (true)
 (test (decide
 (0 +
 List.length
 (Prod.snd
 (S.winR ca af (List.length (S.mkl nl fun (j : Nat) => (tl (j + al), vl (j + al), gl (j + al))))
 (fun (j : Nat) =>
 (S.at' (S.mkl nl fun (j : Nat) => (tl (j + al), vl (j + al), gl (j + al))) j).1)
 (fun (j : Nat) =>
 Prod.fst
 ((S.at' (S.mkl nl fun (j : Nat) => (tl (j + al), vl (j + al), gl (j + al))) j).2))
 (fun (j : Nat) =>
 Prod.snd
 ((S.at' (S.mkl nl fun (j : Nat) => (tl (j + al), vl (j + al), gl (j + al))) j).2))
 ov re fz f0 t0)) +
 List.length
 (Prod.snd
 (S.winR ca af nl (fun (j : Nat) => tl (j + al)) (fun (j : Nat) => vl (j + al))
 (fun (j : Nat) => gl (j + al)) ov re fz t0 e0)) ≤
 1000000))
 (test (decide
 (0 +
 List.length
 (Prod.snd
 (S.winR ca af (List.length (S.mkl nl fun (j : Nat) => (tl (j + al), vl (j + al), gl (j + al))))
 (fun (j : Nat) =>
 (S.at' (S.mkl nl fun (j : Nat) => (tl (j + al), vl (j + al), gl (j + al))) j).1)
 (fun (j : Nat) =>
 Prod.fst
 ((S.at' (S.mkl nl fun (j : Nat) => (tl (j + al), vl (j + al), gl (j + al))) j).2))
 (fun (j : Nat) =>
 Prod.snd
 ((S.at' (S.mkl nl fun (j : Nat) => (tl (j + al), vl (j + al), gl (j + al))) j).2))
 ov re fz f0 t0)) ≤
 0 +
 List.length
 (Prod.snd
 (S.winR ca af (List.length (S.mkl nl fun (j : Nat) => (tl (j + al), vl (j + al), gl (j + al))))
 (fun (j : Nat) =>
 (S.at' (S.mkl nl fun (j : Nat) => (tl (j + al), vl (j + al), gl (j + al))) j).1)
 (fun (j : Nat) =>
 Prod.fst
 ((S.at' (S.mkl nl fun (j : Nat) => (tl (j + al), vl (j + al), gl (j + al))) j).2))
 (fun (j : Nat) =>
 Prod.snd
 ((S.at' (S.mkl nl fun (j : Nat) => (tl (j + al), vl (j + al), gl (j + al))) j).2))
 ov re fz f0 t0))))
 (test (decide
 (0 +
 List.length
 (Prod.snd
 (S.winR ca af nl (fun (j : Nat) => tl (j + al)) (fun (j : Nat) => vl (j + al))
 (fun (j : Nat) => gl (j + al)) ov re fz t0 e0)) ≤
 List.length
 (Prod.snd
 (S.winR ca af nl (fun (j : Nat) => tl (j + al)) (fun (j : Nat) => vl (j + al))
 (fun (j : Nat) => gl (j + al)) ov re fz t0 e0))))
 (test (true)
 (test (false)
 (test (false)
 (False)
 (False))
 (test (decide
 (0 +
 List.length
 (Prod.snd
 (S.winR ca af nl (fun (j : Nat) => tl (j + al)) (fun (j : Nat) => vl (j + al))
 (fun (j : Nat) => gl (j + al)) ov re fz f0 e0)) ≤
 List.length
 (Prod.snd
 (S.winR ca af nl (fun (j : Nat) => tl (j + al)) (fun (j : Nat) => vl (j + al))
 (fun (j : Nat) => gl (j + al)) ov re fz f0 e0)) ∧
 List.length
 (Prod.snd
 (S.winR ca af nl (fun (j : Nat) => tl (j + al)) (fun (j : Nat) => vl (j + al))
 (fun (j : Nat) => gl (j + al)) ov re fz f0 e0)) ≤
 1000000 ∧
 0 +
 (0 +
 List.length
 (Prod.snd
 (S.winR ca af
 (List.length (S.mkl nl fun (j : Nat) => (tl (j + al), vl (j + al), gl (j + al))))
 (fun (j : Nat) =>
 Prod.fst
 (S.at' (S.mkl nl fun (j : Nat) => (tl (j + al), vl (j + al), gl (j + al))) j))
 (fun (j : Nat) =>
 Prod.fst
 (Prod.snd
 (S.at' (S.mkl nl fun (j : Nat) => (tl (j + al), vl (j + al), gl (j + al))) j)))
 (fun (j : Nat) =>
 Prod.snd
 (Prod.snd
 (S.at' (S.mkl nl fun (j : Nat) => (tl (j + al), vl (j + al), gl (j + al))) j)))
 ov re fz f0 t0)) +
 List.length
 (Prod.snd
 (S.winR ca af nl (fun (j : Nat) => tl (j + al)) (fun (j : Nat) => vl (j + al))
 (fun (j : Nat) => gl (j + al)) ov re fz t0 e0))) ≤
 0 +
 List.length
 (Prod.snd
 (S.winR ca af
 (List.length (S.mkl nl fun (j : Nat) => (tl (j + al), vl (j + al), gl (j + al))))
 (fun (j : Nat) =>
 Prod.fst
 (S.at' (S.mkl nl fun (j : Nat) => (tl (j + al), vl (j + al), gl (j + al))) j))
 (fun (j : Nat) =>
 Prod.fst
 (Prod.snd
 (S.at' (S.mkl nl fun (j : Nat) => (tl (j + al), vl (j + al), gl (j + al))) j)))
 (fun (j : Nat) =>
 Prod.snd
 (Prod.snd
 (S.at' (S.mkl nl fun (j : Nat) => (tl (j + al), vl (j + al), gl (j + al))) j)))
 ov re fz f0 t0)) +
 List.length
 (Prod.snd
 (S.winR ca af nl (fun (j : Nat) => tl (j + al)) (fun (j : Nat) => vl (j + al))
 (fun (j : Nat) => gl (j + al)) ov re fz t0 e0)) ∧
 0 +
 List.length
 (Prod.snd
 (S.winR ca af
 (List.length (S.mkl nl fun (j : Nat) => (tl (j + al), vl (j + al), gl (j + al))))
 (fun (j : Nat) =>
 Prod.fst
 (S.at' (S.mkl nl fun (j : Nat) => (tl (j + al), vl (j + al), gl (j + al))) j))
 (fun (j : Nat) =>
 Prod.fst
 (Prod.snd
 (S.at' (S.mkl nl fun (j : Nat) => (tl (j + al), vl (j + al), gl (j + al))) j)))
 (fun (j : Nat) =>
 Prod.snd
 (Prod.snd
 (S.at' (S.mkl nl fun (j : Nat) => (tl (j + al), vl (j + al), gl (j + al))) j)))
 ov re fz f0 t0)) +
 List.length
 (Prod.snd
 (S.winR ca af nl (fun (j : Nat) => tl (j + al)) (fun (j : Nat) => vl (j + al))
 (fun (j : Nat) => gl (j + al)) ov re fz t0 e0)) ≤
 1000000))
 (test (decide
 ((S.mkl
 (List.length
 (Prod.snd
 (S.winR ca af nl (fun (j : Nat) => tl (j + al)) (fun (j : Nat) => vl (j + al))
 (fun (j : Nat) => gl (j + al)) ov re fz f0 e0)))
 fun (j : Nat) =>
 (Prod.fst
 (S.at'
 (Prod.snd
 (S.winR ca af nl (fun (j : Nat) => tl (j + al)) (fun (j : Nat) => vl (j + al))
 (fun (j : Nat) => gl (j + al)) ov re fz f0 e0))
 j),
 Prod.fst
 (Prod.snd
 (S.at'
 (Prod.snd
 (S.winR ca af nl (fun (j : Nat) => tl (j + al)) (fun (j : Nat) => vl (j + al))
 (fun (j : Nat) => gl (j + al)) ov re fz f0 e0))
 j)),
 Prod.snd
 (Prod.snd
 (S.at'
 (Prod.snd
 (S.winR ca af nl (fun (j : Nat) => tl (j + al)) (fun (j : Nat) => vl (j + al))
 (fun (j : Nat) => gl (j + al)) ov re fz f0 e0))
 j)))) =
 S.mkl
 (0 +
 List.length
 (Prod.snd
 (S.winR ca af
 (List.length (S.mkl nl fun (j : Nat) => (tl (j + al), vl (j + al), gl (j + al))))
 (fun (j : Nat) =>
 (S.at' (S.mkl nl fun (j : Nat) => (tl (j + al), vl (j + al), gl (j + al))) j).1)
 (fun (j : Nat) =>
 Prod.fst
 (Prod.snd
 (S.at' (S.mkl nl fun (j : Nat) => (tl (j + al), vl (j + al), gl (j + al))) j)))
 (fun (j : Nat) =>
 Prod.snd
 (Prod.snd
 (S.at' (S.mkl nl fun (j : Nat) => (tl (j + al), vl (j + al), gl (j + al))) j)))
 ov re fz f0 t0)) +
 List.length
 (Prod.snd
 (S.winR ca af nl (fun (j : Nat) => tl (j + al)) (fun (j : Nat) => vl (j + al))
 (fun (j : Nat) => gl (j + al)) ov re fz t0 e0)))
 fun (j : Nat) =>
 (bif
 Nat.blt j
 (0 +
 List.length
 (Prod.snd
 (S.winR ca af
 (List.length (S.mkl nl fun (j : Nat) => (tl (j + al), vl (j + al), gl (j + al))))
 (fun (j : Nat) =>
 Prod.fst
 (S.at' (S.mkl nl fun (j : Nat) => (tl (j + al), vl (j + al), gl (j + al))) j))
 (fun (j : Nat) =>
 Prod.fst
 (Prod.snd
 (S.at' (S.mkl nl fun (j : Nat) => (tl (j + al), vl (j + al), gl (j + al))) j)))
 (fun (j : Nat) =>
 Prod.snd
 (Prod.snd
 (S.at' (S.mkl nl fun (j : Nat) => (tl (j + al), vl (j + al), gl (j + al))) j)))
 ov re fz f0 t0))) then
 bif Nat.blt j (0) then (0 : Int)
 else
 Prod.fst
 (S.at'
 (Prod.snd
 (S.winR ca af
 (List.length (S.mkl nl fun (j : Nat) => (tl (j + al), vl (j + al), gl (j + al))))
 (fun (j : Nat) =>
 Prod.fst
 (S.at' (S.mkl nl fun (j : Nat) => (tl (j + al), vl (j + al), gl (j + al))) j))
 (fun (j : Nat) =>
 Prod.fst
 (Prod.snd
 (S.at' (S.mkl nl fun (j : Nat) => (tl (j + al), vl (j + al), gl (j + al))) j)))
 (fun (j : Nat) =>
 Prod.snd
 (Prod.snd
 (S.at' (S.mkl nl fun (j : Nat) => (tl (j + al), vl (j + al), gl (j + al))) j)))
 ov re fz f0 t0))
 j)
 else
 Prod.fst
 (S.at'
 (Prod.snd
 (S.winR ca af nl (fun (j : Nat) => tl (j + al)) (fun (j : Nat) => vl (j + al))
 (fun (j : Nat) => gl (j + al)) ov re fz t0 e0))
 (j -
 (0 +
 List.length
 (Prod.snd
 (S.winR ca af
 (List.length (S.mkl nl fun (j : Nat) => (tl (j + al), vl (j + al), gl (j + al))))
 (fun (j : Nat) =>
 Prod.fst
 (S.at' (S.mkl nl fun (j : Nat) => (tl (j + al), vl (j + al), gl (j + al))) j))
 (fun (j : Nat) =>
 Prod.fst
 (Prod.snd
 (S.at' (S.mkl nl fun (j : Nat) => (tl (j + al), vl (j + al), gl (j + al)))
 j)))
 (fun (j : Nat) =>
 Prod.snd
 (Prod.snd
 (S.at' (S.mkl nl fun (j : Nat) => (tl (j + al), vl (j + al), gl (j + al)))
 j)))
 ov re fz f0 t0))))),
 bif
 Nat.blt j
 (0 +
 List.length
 (Prod.snd
 (S.winR ca af
 (List.length (S.mkl nl fun (j : Nat) => (tl (j + al), vl (j + al), gl (j + al))))
 (fun (j : Nat) =>
 Prod.fst
 (S.at' (S.mkl nl fun (j : Nat) => (tl (j + al), vl (j + al), gl (j + al))) j))
 (fun (j : Nat) =>
 Prod.fst
 (Prod.snd
 (S.at' (S.mkl nl fun (j : Nat) => (tl (j + al), vl (j + al), gl (j + al))) j)))
 (fun (j : Nat) =>
 Prod.snd
 (Prod.snd
 (S.at' (S.mkl nl fun (j : Nat) => (tl (j + al), vl (j + al), gl (j + al))) j)))
 ov re fz f0 t0))) then
 bif Nat.blt j (0) then (0 : Int)
 else
 Prod.fst
 (Prod.snd
 (S.at'
 (Prod.snd
 (S.winR ca af
 (List.length (S.mkl nl fun (j : Nat) => (tl (j + al), vl (j + al), gl (j + al))))
 (fun (j : Nat) =>
 Prod.fst
 (S.at' (S.mkl nl fun (j : Nat) => (tl (j + al), vl (j + al), gl (j + al))) j))
 (fun (j : Nat) =>
 Prod.fst
 (Prod.snd
 (S.at' (S.mkl nl fun (j : Nat) => (tl (j + al), vl (j + al), gl (j + al))) j)))
 (fun (j : Nat) =>
 Prod.snd
 (Prod.snd
 (S.at' (S.mkl nl fun (j : Nat) => (tl (j + al), vl (j + al), gl (j + al))) j)))
 ov re fz f0 t0))
 j))
 else
 Prod.fst
 (Prod.snd
 (S.at'
 (Prod.snd
 (S.winR ca af nl (fun (j : Nat) => tl (j + al)) (fun (j : Nat) => vl (j + al))
 (fun (j : Nat) => gl (j + al)) ov re fz t0 e0))
 (j -
 (0 +
 List.length
 (Prod.snd
 (S.winR ca af
 (List.length (S.mkl nl fun (j : Nat) => (tl (j + al), vl (j + al), gl (j + al))))
 (fun (j : Nat) =>
 Prod.fst
 (S.at' (S.mkl nl fun (j : Nat) => (tl (j + al), vl (j + al), gl (j + al))) j))
 (fun (j : Nat) =>
 Prod.fst
 (Prod.snd
 (S.at' (S.mkl nl fun (j : Nat) => (tl (j + al), vl (j + al), gl (j + al)))
 j)))
 (fun (j : Nat) =>
 Prod.snd
 (Prod.snd
 (S.at' (S.mkl nl fun (j : Nat) => (tl (j + al), vl (j + al), gl (j + al)))
 j)))
 ov re fz f0 t0)))))),
 bif
 Nat.blt j
 (0 +
 List.length
 (Prod.snd
 (S.winR ca af
 (List.length (S.mkl nl fun (j : Nat) => (tl (j + al), vl (j + al), gl (j + al))))
 (fun (j : Nat) =>
 Prod.fst
 (S.at' (S.mkl nl fun (j : Nat) => (tl (j + al), vl (j + al), gl (j + al))) j))
 (fun (j : Nat) =>
 Prod.fst
 (Prod.snd
 (S.at' (S.mkl nl fun (j : Nat) => (tl (j + al), vl (j + al), gl (j + al))) j)))
 (fun (j : Nat) =>
 Prod.snd
 (Prod.snd
 (S.at' (S.mkl nl fun (j : Nat) => (tl (j + al), vl (j + al), gl (j + al))) j)))
 ov re fz f0 t0))) then
 bif Nat.blt j (0) then false
 else
 Prod.snd
 (Prod.snd
 (S.at'
 (Prod.snd
 (S.winR ca af
 (List.length (S.mkl nl fun (j : Nat) => (tl (j + al), vl (j + al), gl (j + al))))
 (fun (j : Nat) =>
 Prod.fst
 (S.at' (S.mkl nl fun (j : Nat) => (tl (j + al), vl (j + al), gl (j + al))) j))
 (fun (j : Nat) =>
 Prod.fst
 (Prod.snd
 (S.at' (S.mkl nl fun (j : Nat) => (tl (j + al), vl (j + al), gl (j + al))) j)))
 (fun (j : Nat) =>
 Prod.snd
 (Prod.snd
 (S.at' (S.mkl nl fun (j : Nat) => (tl (j + al), vl (j + al), gl (j + al))) j)))
 ov re fz f0 t0))
 j))
 else
 Prod.snd
 (Prod.snd
 (S.at'
 (Prod.snd
 (S.winR ca af nl (fun (j : Nat) => tl (j + al)) (fun (j : Nat) => vl (j + al))
 (fun (j : Nat) => gl (j + al)) ov re fz t0 e0))
 (j -
 (0 +
 List.length
 (Prod.snd
 (S.winR ca af
 (List.length (S.mkl nl fun (j : Nat) => (tl (j + al), vl (j + al), gl (j + al))))
 (fun (j : Nat) =>
 Prod.fst
 (S.at' (S.mkl nl fun (j : Nat) => (tl (j + al), vl (j + al), gl (j + al))) j))
 (fun (j : Nat) =>
 Prod.fst
 (Prod.snd
 (S.at' (S.mkl nl fun (j : Nat) => (tl (j + al), vl (j + al), gl (j + al)))
 j)))
 (fun (j : Nat) =>
 Prod.snd
 (Prod.snd
 (S.at' (S.mkl nl fun (j : Nat) => (tl (j + al), vl (j + al), gl (j + al)))
 j)))
 ov re fz f0 t0)))))))))
 (Kret (PV.tf true) ([[(0, false,
 Blk.cols ml [Col.int IntKind.i64 tl, Col.int IntKind.i64 vl, Col.bool gl])]]) (20))
 (Kret (PV.tf false) ([[(0, false,
 Blk.cols ml [Col.int IntKind.i64 tl, Col.int IntKind.i64 vl, Col.bool gl])]]) (20)))
 (False)))
 (False))
 (False))
 (False))
 (False))
 (False))
 (test (decide
 (0 +
 List.length
 (Prod.snd
 (S.winR ca af nl (fun (j : Nat) => tl (j + al)) (fun (j : Nat) => vl (j + al))
 (fun (j : Nat) => gl (j + al)) ov re fz f0 e0)) ≤
 List.length
 (Prod.snd
 (S.winR ca af nl (fun (j : Nat) => tl (j + al)) (fun (j : Nat) => vl (j + al))
 (fun (j : Nat) => gl (j + al)) ov re fz f0 e0)) ∧
 List.length
 (Prod.snd
 (S.winR ca af nl (fun (j : Nat) => tl (j + al)) (fun (j : Nat) => vl (j + al))
 (fun (j : Nat) => gl (j + al)) ov re fz f0 e0)) ≤
 1000000 ∧
 0 +
 (0 +
 List.length
 (Prod.snd
 (S.winR ca af
 (List.length (S.mkl nl fun (j : Nat) => (tl (j + al), vl (j + al), gl (j + al))))
 (fun (j : Nat) =>
 Prod.fst
 (S.at' (S.mkl nl fun (j : Nat) => (tl (j + al), vl (j + al), gl (j + al))) j))
 (fun (j : Nat) =>
 Prod.fst
 (Prod.snd
 (S.at' (S.mkl nl fun (j : Nat) => (tl (j + al), vl (j + al), gl (j + al))) j)))
 (fun (j : Nat) =>
 Prod.snd
 (Prod.snd
 (S.at' (S.mkl nl fun (j : Nat) => (tl (j + al), vl (j + al), gl (j + al))) j)))
 ov re fz f0 t0))) ≤
 0 +
 List.length
 (Prod.snd
 (S.winR ca af
 (List.length (S.mkl nl fun (j : Nat) => (tl (j + al), vl (j + al), gl (j + al))))
 (fun (j : Nat) =>
 (S.at' (S.mkl nl fun (j : Nat) => (tl (j + al), vl (j + al), gl (j + al))) j).1)
 (fun (j : Nat) =>
 Prod.fst
 (Prod.snd
 (S.at' (S.mkl nl fun (j : Nat) => (tl (j + al), vl (j + al), gl (j + al))) j)))
 (fun (j : Nat) =>
 Prod.snd
 (Prod.snd
 (S.at' (S.mkl nl fun (j : Nat) => (tl (j + al), vl (j + al), gl (j + al))) j)))
 ov re fz f0 t0)) ∧
 0 +
 List.length
 (Prod.snd
 (S.winR ca af
 (List.length (S.mkl nl fun (j : Nat) => (tl (j + al), vl (j + al), gl (j + al))))
 (fun (j : Nat) =>
 (S.at' (S.mkl nl fun (j : Nat) => (tl (j + al), vl (j + al), gl (j + al))) j).1)
 (fun (j : Nat) =>
 Prod.fst
 (Prod.snd
 (S.at' (S.mkl nl fun (j : Nat) => (tl (j + al), vl (j + al), gl (j + al))) j)))
 (fun (j : Nat) =>
 Prod.snd
 (Prod.snd
 (S.at' (S.mkl nl fun (j : Nat) => (tl (j + al), vl (j + al), gl (j + al))) j)))
 ov re fz f0 t0)) ≤
 1000000))
 (test (decide
 ((S.mkl
 (List.length
 (Prod.snd
 (S.winR ca af nl (fun (j : Nat) => tl (j + al)) (fun (j : Nat) => vl (j + al))
 (fun (j : Nat) => gl (j + al)) ov re fz f0 e0)))
 fun (j : Nat) =>
 (Prod.fst
 (S.at'
 (Prod.snd
 (S.winR ca af nl (fun (j : Nat) => tl (j + al)) (fun (j : Nat) => vl (j + al))
 (fun (j : Nat) => gl (j + al)) ov re fz f0 e0))
 j),
 Prod.fst
 (Prod.snd
 (S.at'
 (Prod.snd
 (S.winR ca af nl (fun (j : Nat) => tl (j + al)) (fun (j : Nat) => vl (j + al))
 (fun (j : Nat) => gl (j + al)) ov re fz f0 e0))
 j)),
 Prod.snd
 (Prod.snd
 (S.at'
 (Prod.snd
 (S.winR ca af nl (fun (j : Nat) => tl (j + al)) (fun (j : Nat) => vl (j + al))
 (fun (j : Nat) => gl (j + al)) ov re fz f0 e0))
 j)))) =
 S.mkl
 (0 +
 List.length
 (Prod.snd
 (S.winR ca af (List.length (S.mkl nl fun (j : Nat) => (tl (j + al), vl (j + al), gl (j + al))))
 (fun (j : Nat) =>
 (S.at' (S.mkl nl fun (j : Nat) => (tl (j + al), vl (j + al), gl (j + al))) j).1)
 (fun (j : Nat) =>
 Prod.fst
 ((S.at' (S.mkl nl fun (j : Nat) => (tl (j + al), vl (j + al), gl (j + al))) j).2))
 (fun (j : Nat) =>
 Prod.snd
 ((S.at' (S.mkl nl fun (j : Nat) => (tl (j + al), vl (j + al), gl (j + al))) j).2))
 ov re fz f0 t0)))
 fun (j : Nat) =>
 (bif Nat.blt j (0) then (0 : Int)
 else
 Prod.fst
 (S.at'
 (Prod.snd
 (S.winR ca af
 (List.length (S.mkl nl fun (j : Nat) => (tl (j + al), vl (j + al), gl (j + al))))
 (fun (j : Nat) =>
 (S.at' (S.mkl nl fun (j : Nat) => (tl (j + al), vl (j + al), gl (j + al))) j).1)
 (fun (j : Nat) =>
 Prod.fst
 (Prod.snd
 (S.at' (S.mkl nl fun (j : Nat) => (tl (j + al), vl (j + al), gl (j + al))) j)))
 (fun (j : Nat) =>
 Prod.snd
 (Prod.snd
 (S.at' (S.mkl nl fun (j : Nat) => (tl (j + al), vl (j + al), gl (j + al))) j)))
 ov re fz f0 t0))
 j),
 bif Nat.blt j (0) then (0 : Int)
 else
 Prod.fst
 (Prod.snd
 (S.at'
 (Prod.snd
 (S.winR ca af
 (List.length (S.mkl nl fun (j : Nat) => (tl (j + al), vl (j + al), gl (j + al))))
 (fun (j : Nat) =>
 Prod.fst
 (S.at' (S.mkl nl fun (j : Nat) => (tl (j + al), vl (j + al), gl (j + al))) j))
 (fun (j : Nat) =>
 Prod.fst
 (Prod.snd
 (S.at' (S.mkl nl fun (j : Nat) => (tl (j + al), vl (j + al), gl (j + al))) j)))
 (fun (j : Nat) =>
 Prod.snd
 (Prod.snd
 (S.at' (S.mkl nl fun (j : Nat) => (tl (j + al), vl (j + al), gl (j + al))) j)))
 ov re fz f0 t0))
 j)),
 bif Nat.blt j (0) then false
 else
 Prod.snd
 (Prod.snd
 (S.at'
 (Prod.snd
 (S.winR ca af
 (List.length (S.mkl nl fun (j : Nat) => (tl (j + al), vl (j + al), gl (j + al))))
 (fun (j : Nat) =>
 Prod.fst
 (S.at' (S.mkl nl fun (j : Nat) => (tl (j + al), vl (j + al), gl (j + al))) j))
 (fun (j : Nat) =>
 Prod.fst
 (Prod.snd
 (S.at' (S.mkl nl fun (j : Nat) => (tl (j + al), vl (j + al), gl (j + al))) j)))
 (fun (j : Nat) =>
 Prod.snd
 (Prod.snd
 (S.at' (S.mkl nl fun (j : Nat) => (tl (j + al), vl (j + al), gl (j + al))) j)))
 ov re fz f0 t0))
 j)))))
 (Kret (PV.tf true) ([[(0, false,
 Blk.cols ml [Col.int IntKind.i64 tl, Col.int IntKind.i64 vl, Col.bool gl])]]) (19))
 (Kret (PV.tf false) ([[(0, false,
 Blk.cols ml [Col.int IntKind.i64 tl, Col.int IntKind.i64 vl, Col.bool gl])]]) (19)))
 (False)))
 (False))
 (False))
 (False))
 (False))
 (False))
 (test (decide
 (0 +
 List.length
 (Prod.snd
 (S.winR ca af nl (fun (j : Nat) => tl (j + al)) (fun (j : Nat) => vl (j + al))
 (fun (j : Nat) => gl (j + al)) ov re fz f0 e0)) ≤
 List.length
 (Prod.snd
 (S.winR ca af nl (fun (j : Nat) => tl (j + al)) (fun (j : Nat) => vl (j + al))
 (fun (j : Nat) => gl (j + al)) ov re fz f0 e0)) ∧
 List.length
 (Prod.snd
 (S.winR ca af nl (fun (j : Nat) => tl (j + al)) (fun (j : Nat) => vl (j + al))
 (fun (j : Nat) => gl (j + al)) ov re fz f0 e0)) ≤
 1000000 ∧
 0 ≤
 Int.toNat
 ((0 : Int) +
 (↑(List.length
 (Prod.snd
 (S.winR ca af
 (List.length (S.mkl nl fun (j : Nat) => (tl (j + al), vl (j + al), gl (j + al))))
 (fun (j : Nat) =>
 Prod.fst
 (S.at' (S.mkl nl fun (j : Nat) => (tl (j + al), vl (j + al), gl (j + al)))
 j))
 (fun (j : Nat) =>
 Prod.fst
 (Prod.snd
 (S.at' (S.mkl nl fun (j : Nat) => (tl (j + al), vl (j + al), gl (j + al)))
 j)))
 (fun (j : Nat) =>
 Prod.snd
 (Prod.snd
 (S.at' (S.mkl nl fun (j : Nat) => (tl (j + al), vl (j + al), gl (j + al)))
 j)))
 ov re fz f0 t0))) :
 Int) +
 (↑(List.length
 (Prod.snd
 (S.winR ca af nl (fun (j : Nat) => tl (j + al)) (fun (j : Nat) => vl (j + al))
 (fun (j : Nat) => gl (j + al)) ov re fz t0 e0))) :
 Int) -
 (0 : Int)) ∧
 0 ≤ 1000000))
 (test (decide
 ((S.mkl
 (List.length
 (Prod.snd
 (S.winR ca af nl (fun (j : Nat) => tl (j + al)) (fun (j : Nat) => vl (j + al))
 (fun (j : Nat) => gl (j + al)) ov re fz f0 e0)))
 fun (j : Nat) =>
 (Prod.fst
 (S.at'
 (Prod.snd
 (S.winR ca af nl (fun (j : Nat) => tl (j + al)) (fun (j : Nat) => vl (j + al))
 (fun (j : Nat) => gl (j + al)) ov re fz f0 e0))
 j),
 Prod.fst
 (Prod.snd
 (S.at'
 (Prod.snd
 (S.winR ca af nl (fun (j : Nat) => tl (j + al)) (fun (j : Nat) => vl (j + al))
 (fun (j : Nat) => gl (j + al)) ov re fz f0 e0))
 j)),
 Prod.snd
 (Prod.snd
 (S.at'
 (Prod.snd
 (S.winR ca af nl (fun (j : Nat) => tl (j + al)) (fun (j : Nat) => vl (j + al))
 (fun (j : Nat) => gl (j + al)) ov re fz f0 e0))
 j)))) =
 S.mkl (0) fun (j : Nat) => ((0 : Int), (0 : Int), false)))
 (Kret (PV.tf true) ([[(0, false,
 Blk.cols ml [Col.int IntKind.i64 tl, Col.int IntKind.i64 vl, Col.bool gl])]]) (18))
 (Kret (PV.tf false) ([[(0, false,
 Blk.cols ml [Col.int IntKind.i64 tl, Col.int IntKind.i64 vl, Col.bool gl])]]) (18)))
 (False)))
 (False))
 (False))
 (False))
 (test (true)
 (test (true)
 (test (decide
 (0 +
 List.length
 (Prod.snd
 (S.winR ca af (List.length (S.mkl nl fun (j : Nat) => (tl (j + al), vl (j + al), gl (j + al))))
 (fun (j : Nat) =>
 (S.at' (S.mkl nl fun (j : Nat) => (tl (j + al), vl (j + al), gl (j + al))) j).1)
 (fun (j : Nat) =>
 Prod.fst
 ((S.at' (S.mkl nl fun (j : Nat) => (tl (j + al), vl (j + al), gl (j + al))) j).2))
 (fun (j : Nat) =>
 Prod.snd
 ((S.at' (S.mkl nl fun (j : Nat) => (tl (j + al), vl (j + al), gl (j + al))) j).2))
 ov re fz f0 t0)) ≤
 1000000))
 (test (true)
 (test (decide
 (0 +
 List.length
 (Prod.snd
 (S.winR ca af (List.length (S.mkl nl fun (j : Nat) => (tl (j + al), vl (j + al), gl (j + al))))
 (fun (j : Nat) =>
 (S.at' (S.mkl nl fun (j : Nat) => (tl (j + al), vl (j + al), gl (j + al))) j).1)
 (fun (j : Nat) =>
 Prod.fst
 ((S.at' (S.mkl nl fun (j : Nat) => (tl (j + al), vl (j + al), gl (j + al))) j).2))
 (fun (j : Nat) =>
 Prod.snd
 ((S.at' (S.mkl nl fun (j : Nat) => (tl (j + al), vl (j + al), gl (j + al))) j).2))
 ov re fz f0 t0)) ≤
 List.length
 (Prod.snd
 (S.winR ca af (List.length (S.mkl nl fun (j : Nat) => (tl (j + al), vl (j + al), gl (j + al))))
 (fun (j : Nat) =>
 (S.at' (S.mkl nl fun (j : Nat) => (tl (j + al), vl (j + al), gl (j + al))) j).1)
 (fun (j : Nat) =>
 Prod.fst
 ((S.at' (S.mkl nl fun (j : Nat) => (tl (j + al), vl (j + al), gl (j + al))) j).2))
 (fun (j : Nat) =>
 Prod.snd
 ((S.at' (S.mkl nl fun (j : Nat) => (tl (j + al), vl (j + al), gl (j + al))) j).2))
 ov re fz f0 t0))))
 (test (true)
 (test (true)
 (test (true)
 (test (decide
 (0 +
 List.length
 (Prod.snd
 (S.winR ca af (List.length (S.mkl nl fun (j : Nat) => (tl (j + al), vl (j + al), gl (j + al))))
 (fun (j : Nat) =>
 (S.at' (S.mkl nl fun (j : Nat) => (tl (j + al), vl (j + al), gl (j + al))) j).1)
 (fun (j : Nat) =>
 Prod.fst
 ((S.at' (S.mkl nl fun (j : Nat) => (tl (j + al), vl (j + al), gl (j + al))) j).2))
 (fun (j : Nat) =>
 Prod.snd
 ((S.at' (S.mkl nl fun (j : Nat) => (tl (j + al), vl (j + al), gl (j + al))) j).2))
 ov re fz f0 t0)) +
 List.length
 (Prod.snd
 (S.winR ca af nl (fun (j : Nat) => tl (j + al)) (fun (j : Nat) => vl (j + al))
 (fun (j : Nat) => gl (j + al)) ov re fz t0 e0)) ≤
 1000000))
 (test (decide
 (0 +
 List.length
 (Prod.snd
 (S.winR ca af (List.length (S.mkl nl fun (j : Nat) => (tl (j + al), vl (j + al), gl (j + al))))
 (fun (j : Nat) =>
 (S.at' (S.mkl nl fun (j : Nat) => (tl (j + al), vl (j + al), gl (j + al))) j).1)
 (fun (j : Nat) =>
 Prod.fst
 ((S.at' (S.mkl nl fun (j : Nat) => (tl (j + al), vl (j + al), gl (j + al))) j).2))
 (fun (j : Nat) =>
 Prod.snd
 ((S.at' (S.mkl nl fun (j : Nat) => (tl (j + al), vl (j + al), gl (j + al))) j).2))
 ov re fz f0 t0)) ≤
 0 +
 List.length
 (Prod.snd
 (S.winR ca af (List.length (S.mkl nl fun (j : Nat) => (tl (j + al), vl (j + al), gl (j + al))))
 (fun (j : Nat) =>
 (S.at' (S.mkl nl fun (j : Nat) => (tl (j + al), vl (j + al), gl (j + al))) j).1)
 (fun (j : Nat) =>
 Prod.fst
 ((S.at' (S.mkl nl fun (j : Nat) => (tl (j + al), vl (j + al), gl (j + al))) j).2))
 (fun (j : Nat) =>
 Prod.snd
 ((S.at' (S.mkl nl fun (j : Nat) => (tl (j + al), vl (j + al), gl (j + al))) j).2))
 ov re fz f0 t0))))
 (test (decide
 (0 +
 List.length
 (Prod.snd
 (S.winR ca af nl (fun (j : Nat) => tl (j + al)) (fun (j : Nat) => vl (j + al))
 (fun (j : Nat) => gl (j + al)) ov re fz t0 e0)) ≤
 List.length
 (Prod.snd
 (S.winR ca af nl (fun (j : Nat) => tl (j + al)) (fun (j : Nat) => vl (j + al))
 (fun (j : Nat) => gl (j + al)) ov re fz t0 e0))))
 (test (true)
 (test (false)
 (test (false)
 (False)
 (False))
 (test (decide
 (0 +
 List.length
 (Prod.snd
 (S.winR ca af nl (fun (j : Nat) => tl (j + al)) (fun (j : Nat) => vl (j + al))
 (fun (j : Nat) => gl (j + al)) ov re fz f0 e0)) ≤
 List.length
 (Prod.snd
 (S.winR ca af nl (fun (j : Nat) => tl (j + al)) (fun (j : Nat) => vl (j + al))
 (fun (j : Nat) => gl (j + al)) ov re fz f0 e0)) ∧
 List.length
 (Prod.snd
 (S.winR ca af nl (fun (j : Nat) => tl (j + al)) (fun (j : Nat) => vl (j + al))
 (fun (j : Nat) => gl (j + al)) ov re fz f0 e0)) ≤
 1000000 ∧
 0 +
 (0 +
 List.length
 (Prod.snd
 (S.winR ca af
 (List.length (S.mkl nl fun (j : Nat) => (tl (j + al), vl (j + al), gl (j + al))))
 (fun (j : Nat) =>
 Prod.fst
 (S.at' (S.mkl nl fun (j : Nat) => (tl (j + al), vl (j + al), gl (j + al))) j))
 (fun (j : Nat) =>
 Prod.fst
 (Prod.snd
 (S.at' (S.mkl nl fun (j : Nat) => (tl (j + al), vl (j + al), gl (j + al))) j)))
 (fun (j : Nat) =>
 Prod.snd
 (Prod.snd
 (S.at' (S.mkl nl fun (j : Nat) => (tl (j + al), vl (j + al), gl (j + al))) j)))
 ov re fz f0 t0)) +
 List.length
 (Prod.snd
 (S.winR ca af nl (fun (j : Nat) => tl (j + al)) (fun (j : Nat) => vl (j + al))
 (fun (j : Nat) => gl (j + al)) ov re fz t0 e0))) ≤
 0 +
 List.length
 (Prod.snd
 (S.winR ca af
 (List.length (S.mkl nl fun (j : Nat) => (tl (j + al), vl (j + al), gl (j + al))))
 (fun (j : Nat) =>
 Prod.fst
 (S.at' (S.mkl nl fun (j : Nat) => (tl (j + al), vl (j + al), gl (j + al))) j))
 (fun (j : Nat) =>
 Prod.fst
 (Prod.snd
 (S.at' (S.mkl nl fun (j : Nat) => (tl (j + al), vl (j + al), gl (j + al))) j)))
 (fun (j : Nat) =>
 Prod.snd
 (Prod.snd
 (S.at' (S.mkl nl fun (j : Nat) => (tl (j + al), vl (j + al), gl (j + al))) j)))
 ov re fz f0 t0)) +
 List.length
 (Prod.snd
 (S.winR ca af nl (fun (j : Nat) => tl (j + al)) (fun (j : Nat) => vl (j + al))
 (fun (j : Nat) => gl (j + al)) ov re fz t0 e0)) ∧
 0 +
 List.length
 (Prod.snd
 (S.winR ca af
 (List.length (S.mkl nl fun (j : Nat) => (tl (j + al), vl (j + al), gl (j + al))))
 (fun (j : Nat) =>
 Prod.fst
 (S.at' (S.mkl nl fun (j : Nat) => (tl (j + al), vl (j + al), gl (j + al))) j))
 (fun (j : Nat) =>
 Prod.fst
 (Prod.snd
 (S.at' (S.mkl nl fun (j : Nat) => (tl (j + al), vl (j + al), gl (j + al))) j)))
 (fun (j : Nat) =>
 Prod.snd
 (Prod.snd
 (S.at' (S.mkl nl fun (j : Nat) => (tl (j + al), vl (j + al), gl (j + al))) j)))
 ov re fz f0 t0)) +
 List.length
 (Prod.snd
 (S.winR ca af nl (fun (j : Nat) => tl (j + al)) (fun (j : Nat) => vl (j + al))
 (fun (j : Nat) => gl (j + al)) ov re fz t0 e0)) ≤
 1000000))
 (test (decide
 ((S.mkl
 (List.length
 (Prod.snd
 (S.winR ca af nl (fun (j : Nat) => tl (j + al)) (fun (j : Nat) => vl (j + al))
 (fun (j : Nat) => gl (j + al)) ov re fz f0 e0)))
 fun (j : Nat) =>
 (Prod.fst
 (S.at'
 (Prod.snd
 (S.winR ca af nl (fun (j : Nat) => tl (j + al)) (fun (j : Nat) => vl (j + al))
 (fun (j : Nat) => gl (j + al)) ov re fz f0 e0))
 j),
 Prod.fst
 (Prod.snd
 (S.at'
 (Prod.snd
 (S.winR ca af nl (fun (j : Nat) => tl (j + al)) (fun (j : Nat) => vl (j + al))
 (fun (j : Nat) => gl (j + al)) ov re fz f0 e0))
 j)),
 Prod.snd
 (Prod.snd
 (S.at'
 (Prod.snd
 (S.winR ca af nl (fun (j : Nat) => tl (j + al)) (fun (j : Nat) => vl (j + al))
 (fun (j : Nat) => gl (j + al)) ov re fz f0 e0))
 j)))) =
 S.mkl
 (0 +
 List.length
 (Prod.snd
 (S.winR ca af
 (List.length (S.mkl nl fun (j : Nat) => (tl (j + al), vl (j + al), gl (j + al))))
 (fun (j : Nat) =>
 (S.at' (S.mkl nl fun (j : Nat) => (tl (j + al), vl (j + al), gl (j + al))) j).1)
 (fun (j : Nat) =>
 Prod.fst
 (Prod.snd
 (S.at' (S.mkl nl fun (j : Nat) => (tl (j + al), vl (j + al), gl (j + al))) j)))
 (fun (j : Nat) =>
 Prod.snd
 (Prod.snd
 (S.at' (S.mkl nl fun (j : Nat) => (tl (j + al), vl (j + al), gl (j + al))) j)))
 ov re fz f0 t0)) +
 List.length
 (Prod.snd
 (S.winR ca af nl (fun (j : Nat) => tl (j + al)) (fun (j : Nat) => vl (j + al))
 (fun (j : Nat) => gl (j + al)) ov re fz t0 e0)))
 fun (j : Nat) =>
 (bif
 Nat.blt j
 (0 +
 List.length
 (Prod.snd
 (S.winR ca af
 (List.length (S.mkl nl fun (j : Nat) => (tl (j + al), vl (j + al), gl (j + al))))
 (fun (j : Nat) =>
 Prod.fst
 (S.at' (S.mkl nl fun (j : Nat) => (tl (j + al), vl (j + al), gl (j + al))) j))
 (fun (j : Nat) =>
 Prod.fst
 (Prod.snd
 (S.at' (S.mkl nl fun (j : Nat) => (tl (j + al), vl (j + al), gl (j + al))) j)))
 (fun (j : Nat) =>
 Prod.snd
 (Prod.snd
 (S.at' (S.mkl nl fun (j : Nat) => (tl (j + al), vl (j + al), gl (j + al))) j)))
 ov re fz f0 t0))) then
 Prod.fst
 (S.at'
 (Prod.snd
 (S.winR ca af
 (List.length (S.mkl nl fun (j : Nat) => (tl (j + al), vl (j + al), gl (j + al))))
 (fun (j : Nat) =>
 (S.at' (S.mkl nl fun (j : Nat) => (tl (j + al), vl (j + al), gl (j + al))) j).1)
 (fun (j : Nat) =>
 Prod.fst
 (Prod.snd
 (S.at' (S.mkl nl fun (j : Nat) => (tl (j + al), vl (j + al), gl (j + al))) j)))
 (fun (j : Nat) =>
 Prod.snd
 (Prod.snd
 (S.at' (S.mkl nl fun (j : Nat) => (tl (j + al), vl (j + al), gl (j + al))) j)))
 ov re fz f0 t0))
 j)
 else
 Prod.fst
 (S.at'
 (Prod.snd
 (S.winR ca af nl (fun (j : Nat) => tl (j + al)) (fun (j : Nat) => vl (j + al))
 (fun (j : Nat) => gl (j + al)) ov re fz t0 e0))
 (j -
 (0 +
 List.length
 (Prod.snd
 (S.winR ca af
 (List.length (S.mkl nl fun (j : Nat) => (tl (j + al), vl (j + al), gl (j + al))))
 (fun (j : Nat) =>
 Prod.fst
 (S.at' (S.mkl nl fun (j : Nat) => (tl (j + al), vl (j + al), gl (j + al))) j))
 (fun (j : Nat) =>
 Prod.fst
 (Prod.snd
 (S.at' (S.mkl nl fun (j : Nat) => (tl (j + al), vl (j + al), gl (j + al)))
 j)))
 (fun (j : Nat) =>
 Prod.snd
 (Prod.snd
 (S.at' (S.mkl nl fun (j : Nat) => (tl (j + al), vl (j + al), gl (j + al)))
 j)))
 ov re fz f0 t0))))),
 bif
 Nat.blt j
 (0 +
 List.length
 (Prod.snd
 (S.winR ca af
 (List.length (S.mkl nl fun (j : Nat) => (tl (j + al), vl (j + al), gl (j + al))))
 (fun (j : Nat) =>
 Prod.fst
 (S.at' (S.mkl nl fun (j : Nat) => (tl (j + al), vl (j + al), gl (j + al))) j))
 (fun (j : Nat) =>
 Prod.fst
 (Prod.snd
 (S.at' (S.mkl nl fun (j : Nat) => (tl (j + al), vl (j + al), gl (j + al))) j)))
 (fun (j : Nat) =>
 Prod.snd
 (Prod.snd
 (S.at' (S.mkl nl fun (j : Nat) => (tl (j + al), vl (j + al), gl (j + al))) j)))
 ov re fz f0 t0))) then
 Prod.fst
 (Prod.snd
 (S.at'
 (Prod.snd
 (S.winR ca af
 (List.length (S.mkl nl fun (j : Nat) => (tl (j + al), vl (j + al), gl (j + al))))
 (fun (j : Nat) =>
 Prod.fst
 (S.at' (S.mkl nl fun (j : Nat) => (tl (j + al), vl (j + al), gl (j + al))) j))
 (fun (j : Nat) =>
 Prod.fst
 (Prod.snd
 (S.at' (S.mkl nl fun (j : Nat) => (tl (j + al), vl (j + al), gl (j + al))) j)))
 (fun (j : Nat) =>
 Prod.snd
 (Prod.snd
 (S.at' (S.mkl nl fun (j : Nat) => (tl (j + al), vl (j + al), gl (j + al))) j)))
 ov re fz f0 t0))
 j))
 else
 Prod.fst
 (Prod.snd
 (S.at'
 (Prod.snd
 (S.winR ca af nl (fun (j : Nat) => tl (j + al)) (fun (j : Nat) => vl (j + al))
 (fun (j : Nat) => gl (j + al)) ov re fz t0 e0))
 (j -
 (0 +
 List.length
 (Prod.snd
 (S.winR ca af
 (List.length (S.mkl nl fun (j : Nat) => (tl (j + al), vl (j + al), gl (j + al))))
 (fun (j : Nat) =>
 Prod.fst
 (S.at' (S.mkl nl fun (j : Nat) => (tl (j + al), vl (j + al), gl (j + al))) j))
 (fun (j : Nat) =>
 Prod.fst
 (Prod.snd
 (S.at' (S.mkl nl fun (j : Nat) => (tl (j + al), vl (j + al), gl (j + al)))
 j)))
 (fun (j : Nat) =>
 Prod.snd
 (Prod.snd
 (S.at' (S.mkl nl fun (j : Nat) => (tl (j + al), vl (j + al), gl (j + al)))
 j)))
 ov re fz f0 t0)))))),
 bif
 Nat.blt j
 (0 +
 List.length
 (Prod.snd
 (S.winR ca af
 (List.length (S.mkl nl fun (j : Nat) => (tl (j + al), vl (j + al), gl (j + al))))
 (fun (j : Nat) =>
 Prod.fst
 (S.at' (S.mkl nl fun (j : Nat) => (tl (j + al), vl (j + al), gl (j + al))) j))
 (fun (j : Nat) =>
 Prod.fst
 (Prod.snd
 (S.at' (S.mkl nl fun (j : Nat) => (tl (j + al), vl (j + al), gl (j + al))) j)))
 (fun (j : Nat) =>
 Prod.snd
 (Prod.snd
 (S.at' (S.mkl nl fun (j : Nat) => (tl (j + al), vl (j + al), gl (j + al))) j)))
 ov re fz f0 t0))) then
 Prod.snd
 (Prod.snd
 (S.at'
 (Prod.snd
 (S.winR ca af
 (List.length (S.mkl nl fun (j : Nat) => (tl (j + al), vl (j + al), gl (j + al))))
 (fun (j : Nat) =>
 Prod.fst
 (S.at' (S.mkl nl fun (j : Nat) => (tl (j + al), vl (j + al), gl (j + al))) j))
 (fun (j : Nat) =>
 Prod.fst
 (Prod.snd
 (S.at' (S.mkl nl fun (j : Nat) => (tl (j + al), vl (j + al), gl (j + al))) j)))
 (fun (j : Nat) =>
 Prod.snd
 (Prod.snd
 (S.at' (S.mkl nl fun (j : Nat) => (tl (j + al), vl (j + al), gl (j + al))) j)))
 ov re fz f0 t0))
 j))
 else
 Prod.snd
 (Prod.snd
 (S.at'
 (Prod.snd
 (S.winR ca af nl (fun (j : Nat) => tl (j + al)) (fun (j : Nat) => vl (j + al))
 (fun (j : Nat) => gl (j + al)) ov re fz t0 e0))
 (j -
 (0 +
 List.length
 (Prod.snd
 (S.winR ca af
 (List.length (S.mkl nl fun (j : Nat) => (tl (j + al), vl (j + al), gl (j + al))))
 (fun (j : Nat) =>
 Prod.fst
 (S.at' (S.mkl nl fun (j : Nat) => (tl (j + al), vl (j + al), gl (j + al))) j))
 (fun (j : Nat) =>
 Prod.fst
 (Prod.snd
 (S.at' (S.mkl nl fun (j : Nat) => (tl (j + al), vl (j + al), gl (j + al)))
 j)))
 (fun (j : Nat) =>
 Prod.snd
 (Prod.snd
 (S.at' (S.mkl nl fun (j : Nat) => (tl (j + al), vl (j + al), gl (j + al)))
 j)))
 ov re fz f0 t0)))))))))
 (Kret (PV.tf true) ([[(0, false,
 Blk.cols ml [Col.int IntKind.i64 tl, Col.int IntKind.i64 vl, Col.bool gl])]]) (19))
 (Kret (PV.tf false) ([[(0, false,
 Blk.cols ml [Col.int IntKind.i64 tl, Col.int IntKind.i64 vl, Col.bool gl])]]) (19)))
 (False)))
 (False))
 (False))
 (False))
 (False))
 (False))
 (test (decide
 (0 +
 List.length
 (Prod.snd
 (S.winR ca af nl (fun (j : Nat) => tl (j + al)) (fun (j : Nat) => vl (j + al))
 (fun (j : Nat) => gl (j + al)) ov re fz f0 e0)) ≤
 List.length
 (Prod.snd
 (S.winR ca af nl (fun (j : Nat) => tl (j + al)) (fun (j : Nat) => vl (j + al))
 (fun (j : Nat) => gl (j + al)) ov re fz f0 e0)) ∧
 List.length
 (Prod.snd
 (S.winR ca af nl (fun (j : Nat) => tl (j + al)) (fun (j : Nat) => vl (j + al))
 (fun (j : Nat) => gl (j + al)) ov re fz f0 e0)) ≤
 1000000 ∧
 0 +
 (0 +
 List.length
 (Prod.snd
 (S.winR ca af
 (List.length (S.mkl nl fun (j : Nat) => (tl (j + al), vl (j + al), gl (j + al))))
 (fun (j : Nat) =>
 Prod.fst
 (S.at' (S.mkl nl fun (j : Nat) => (tl (j + al), vl (j + al), gl (j + al))) j))
 (fun (j : Nat) =>
 Prod.fst
 (Prod.snd
 (S.at' (S.mkl nl fun (j : Nat) => (tl (j + al), vl (j + al), gl (j + al))) j)))
 (fun (j : Nat) =>
 Prod.snd
 (Prod.snd
 (S.at' (S.mkl nl fun (j : Nat) => (tl (j + al), vl (j + al), gl (j + al))) j)))
 ov re fz f0 t0))) ≤
 0 +
 List.length
 (Prod.snd
 (S.winR ca af
 (List.length (S.mkl nl fun (j : Nat) => (tl (j + al), vl (j + al), gl (j + al))))
 (fun (j : Nat) =>
 (S.at' (S.mkl nl fun (j : Nat) => (tl (j + al), vl (j + al), gl (j + al))) j).1)
 (fun (j : Nat) =>
 Prod.fst
 (Prod.snd
 (S.at' (S.mkl nl fun (j : Nat) => (tl (j + al), vl (j + al), gl (j + al))) j)))
 (fun (j : Nat) =>
 Prod.snd
 (Prod.snd
 (S.at' (S.mkl nl fun (j : Nat) => (tl (j + al), vl (j + al), gl (j + al))) j)))
 ov re fz f0 t0)) ∧
 0 +
 List.length
 (Prod.snd
 (S.winR ca af
 (List.length (S.mkl nl fun (j : Nat) => (tl (j + al), vl (j + al), gl (j + al))))
 (fun (j : Nat) =>
 (S.at' (S.mkl nl fun (j : Nat) => (tl (j + al), vl (j + al), gl (j + al))) j).1)
 (fun (j : Nat) =>
 Prod.fst
 (Prod.snd
 (S.at' (S.mkl nl fun (j : Nat) => (tl (j + al), vl (j + al), gl (j + al))) j)))
 (fun (j : Nat) =>
 Prod.snd
 (Prod.snd
 (S.at' (S.mkl nl fun (j : Nat) => (tl (j + al), vl (j + al), gl (j + al))) j)))
 ov re fz f0 t0)) ≤
 1000000))
 (test (decide
 ((S.mkl
 (List.length
 (Prod.snd
 (S.winR ca af nl (fun (j : Nat) => tl (j + al)) (fun (j : Nat) => vl (j + al))
 (fun (j : Nat) => gl (j + al)) ov re fz f0 e0)))
 fun (j : Nat) =>
 (Prod.fst
 (S.at'
 (Prod.snd
 (S.winR ca af nl (fun (j : Nat) => tl (j + al)) (fun (j : Nat) => vl (j + al))
 (fun (j : Nat) => gl (j + al)) ov re fz f0 e0))
 j),
 Prod.fst
 (Prod.snd
 (S.at'
 (Prod.snd
 (S.winR ca af nl (fun (j : Nat) => tl (j + al)) (fun (j : Nat) => vl (j + al))
 (fun (j : Nat) => gl (j + al)) ov re fz f0 e0))
 j)),
 Prod.snd
 (Prod.snd
 (S.at'
 (Prod.snd
 (S.winR ca af nl (fun (j : Nat) => tl (j + al)) (fun (j : Nat) => vl (j + al))
 (fun (j : Nat) => gl (j + al)) ov re fz f0 e0))
 j)))) =
 S.mkl
 (0 +
 List.length
 (Prod.snd
 (S.winR ca af (List.length (S.mkl nl fun (j : Nat) => (tl (j + al), vl (j + al), gl (j + al))))
 (fun (j : Nat) =>
 (S.at' (S.mkl nl fun (j : Nat) => (tl (j + al), vl (j + al), gl (j + al))) j).1)
 (fun (j : Nat) =>
 Prod.fst
 ((S.at' (S.mkl nl fun (j : Nat) => (tl (j + al), vl (j + al), gl (j + al))) j).2))
 (fun (j : Nat) =>
 Prod.snd
 ((S.at' (S.mkl nl fun (j : Nat) => (tl (j + al), vl (j + al), gl (j + al))) j).2))
 ov re fz f0 t0)))
 fun (j : Nat) =>
 (Prod.fst
 (S.at'
 (Prod.snd
 (S.winR ca af
 (List.length (S.mkl nl fun (j : Nat) => (tl (j + al), vl (j + al), gl (j + al))))
 (fun (j : Nat) =>
 (S.at' (S.mkl nl fun (j : Nat) => (tl (j + al), vl (j + al), gl (j + al))) j).1)
 (fun (j : Nat) =>
 Prod.fst
 (Prod.snd
 (S.at' (S.mkl nl fun (j : Nat) => (tl (j + al), vl (j + al), gl (j + al))) j)))
 (fun (j : Nat) =>
 Prod.snd
 (Prod.snd
 (S.at' (S.mkl nl fun (j : Nat) => (tl (j + al), vl (j + al), gl (j + al))) j)))
 ov re fz f0 t0))
 j),
 Prod.fst
 (Prod.snd
 (S.at'
 (Prod.snd
 (S.winR ca af
 (List.length (S.mkl nl fun (j : Nat) => (tl (j + al), vl (j + al), gl (j + al))))
 (fun (j : Nat) =>
 (S.at' (S.mkl nl fun (j : Nat) => (tl (j + al), vl (j + al), gl (j + al))) j).1)
 (fun (j : Nat) =>
 Prod.fst
 (Prod.snd
 (S.at' (S.mkl nl fun (j : Nat) => (tl (j + al), vl (j + al), gl (j + al))) j)))
 (fun (j : Nat) =>
 Prod.snd
 (Prod.snd
 (S.at' (S.mkl nl fun (j : Nat) => (tl (j + al), vl (j + al), gl (j + al))) j)))
 ov re fz f0 t0))
 j)),
 Prod.snd
 (Prod.snd
 (S.at'
 (Prod.snd
 (S.winR ca af
 (List.length (S.mkl nl fun (j : Nat) => (tl (j + al), vl (j + al), gl (j + al))))
 (fun (j : Nat) =>
 (S.at' (S.mkl nl fun (j : Nat) => (tl (j + al), vl (j + al), gl (j + al))) j).1)
 (fun (j : Nat) =>
 Prod.fst
 (Prod.snd
 (S.at' (S.mkl nl fun (j : Nat) => (tl (j + al), vl (j + al), gl (j + al))) j)))
 (fun (j : Nat) =>
 Prod.snd
 (Prod.snd
 (S.at' (S.mkl nl fun (j : Nat) => (tl (j + al), vl (j + al), gl (j + al))) j)))
 ov re fz f0 t0))
 j)))))
 (Kret (PV.tf true) ([[(0, false,
 Blk.cols ml [Col.int IntKind.i64 tl, Col.int IntKind.i64 vl, Col.bool gl])]]) (18))
 (Kret (PV.tf false) ([[(0, false,
 Blk.cols ml [Col.int IntKind.i64 tl, Col.int IntKind.i64 vl, Col.bool gl])]]) (18)))
 (False)))
 (False))
 (False))
 (False))
 (False))
 (False))
 (test (decide
 (0 +
 List.length
 (Prod.snd
 (S.winR ca af nl (fun (j : Nat) => tl (j + al)) (fun (j : Nat) => vl (j + al))
 (fun (j : Nat) => gl (j + al)) ov re fz f0 e0)) ≤
 List.length
 (Prod.snd
 (S.winR ca af nl (fun (j : Nat) => tl (j + al)) (fun (j : Nat) => vl (j + al))
 (fun (j : Nat) => gl (j + al)) ov re fz f0 e0)) ∧
 List.length
 (Prod.snd
 (S.winR ca af nl (fun (j : Nat) => tl (j + al)) (fun (j : Nat) => vl (j + al))
 (fun (j : Nat) => gl (j + al)) ov re fz f0 e0)) ≤
 1000000 ∧
 0 ≤ 0 ∧ 0 ≤ 1000000))
 (test (decide
 ((S.mkl
 (List.length
 (Prod.snd
 (S.winR ca af nl (fun (j : Nat) => tl (j + al)) (fun (j : Nat) => vl (j + al))
 (fun (j : Nat) => gl (j + al)) ov re fz f0 e0)))
 fun (j : Nat) =>
 (Prod.fst
 (S.at'
 (Prod.snd
 (S.winR ca af nl (fun (j : Nat) => tl (j + al)) (fun (j : Nat) => vl (j + al))
 (fun (j : Nat) => gl (j + al)) ov re fz f0 e0))
 j),
 Prod.fst
 (Prod.snd
 (S.at'
 (Prod.snd
 (S.winR ca af nl (fun (j : Nat) => tl (j + al)) (fun (j : Nat) => vl (j + al))
 (fun (j : Nat) => gl (j + al)) ov re fz f0 e0))
 j)),
 Prod.snd
 (Prod.snd
 (S.at'
 (Prod.snd
 (S.winR ca af nl (fun (j : Nat) => tl (j + al)) (fun (j : Nat) => vl (j + al))
 (fun (j : Nat) => gl (j + al)) ov re fz f0 e0))
 j)))) =
 S.mkl (0) fun (j : Nat) => ((0 : Int), (0 : Int), false)))
 (Kret (PV.tf true) ([[(0, false,
 Blk.cols ml [Col.int IntKind.i64 tl, Col.int IntKind.i64 vl, Col.bool gl])]]) (17))
 (Kret (PV.tf false) ([[(0, false,
 Blk.cols ml [Col.int IntKind.i64 tl, Col.int IntKind.i64 vl, Col.bool gl])]]) (17)))
 (False))))
 (False))
 (False))))
 (False)))
 (False))
 (False))
 (test (decide
 ((0 : Int) +
 (↑(List.length
 (Prod.snd
 (S.winR ca af
 (List.length (S.mkl nl fun (j : Nat) => (tl (j + al), vl (j + al), gl (j + al))))
 (fun (j : Nat) =>
 (S.at' (S.mkl nl fun (j : Nat) => (tl (j + al), vl (j + al), gl (j + al))) j).1)
 (fun (j : Nat) =>
 Prod.fst
 (Prod.snd
 (S.at' (S.mkl nl fun (j : Nat) => (tl (j + al), vl (j + al), gl (j + al))) j)))
 (fun (j : Nat) =>
 Prod.snd
 (Prod.snd
 (S.at' (S.mkl nl fun (j : Nat) => (tl (j + al), vl (j + al), gl (j + al))) j)))
 ov re fz f0 t0))) :
 Int) <
 (0 : Int)))
 (False)
 (test (true)
 (test (lim IntKind.i64
 ((0 : Int) +
 (↑(List.length
 (Prod.snd
 (S.winR ca af
 (List.length (S.mkl nl fun (j : Nat) => (tl (j + al), vl (j + al), gl (j + al))))
 (fun (j : Nat) =>
 (S.at' (S.mkl nl fun (j : Nat) => (tl (j + al), vl (j + al), gl (j + al))) j).1)
 (fun (j : Nat) =>
 Prod.fst
 (Prod.snd
 (S.at' (S.mkl nl fun (j : Nat) => (tl (j + al), vl (j + al), gl (j + al))) j)))
 (fun (j : Nat) =>
 Prod.snd
 (Prod.snd
 (S.at' (S.mkl nl fun (j : Nat) => (tl (j + al), vl (j + al), gl (j + al))) j)))
 ov re fz f0 t0))) :
 Int) -
 (0 : Int)))
 (test (decide
 ((0 : Int) +
 (↑(List.length
 (Prod.snd
 (S.winR ca af
 (List.length (S.mkl nl fun (j : Nat) => (tl (j + al), vl (j + al), gl (j + al))))
 (fun (j : Nat) =>
 (S.at' (S.mkl nl fun (j : Nat) => (tl (j + al), vl (j + al), gl (j + al))) j).1)
 (fun (j : Nat) =>
 Prod.fst
 (Prod.snd
 (S.at' (S.mkl nl fun (j : Nat) => (tl (j + al), vl (j + al), gl (j + al))) j)))
 (fun (j : Nat) =>
 Prod.snd
 (Prod.snd
 (S.at' (S.mkl nl fun (j : Nat) => (tl (j + al), vl (j + al), gl (j + al))) j)))
 ov re fz f0 t0))) :
 Int) -
 (0 : Int) >
 (0 : Int)))
 (test (true)
 (test (decide
 ((0 : Int) ≤
 (0 : Int) +
 (↑(List.length
 (Prod.snd
 (S.winR ca af
 (List.length (S.mkl nl fun (j : Nat) => (tl (j + al), vl (j + al), gl (j + al))))
 (fun (j : Nat) =>
 Prod.fst
 (S.at' (S.mkl nl fun (j : Nat) => (tl (j + al), vl (j + al), gl (j + al))) j))
 (fun (j : Nat) =>
 Prod.fst
 (Prod.snd
 (S.at' (S.mkl nl fun (j : Nat) => (tl (j + al), vl (j + al), gl (j + al))) j)))
 (fun (j : Nat) =>
 Prod.snd
 (Prod.snd
 (S.at' (S.mkl nl fun (j : Nat) => (tl (j + al), vl (j + al), gl (j + al))) j)))
 ov re fz f0 t0))) :
 Int) -
 (0 : Int) ∧
 (0 : Int) +
 (↑(List.length
 (Prod.snd
 (S.winR ca af
 (List.length (S.mkl nl fun (j : Nat) => (tl (j + al), vl (j + al), gl (j + al))))
 (fun (j : Nat) =>
 Prod.fst
 (S.at' (S.mkl nl fun (j : Nat) => (tl (j + al), vl (j + al), gl (j + al))) j))
 (fun (j : Nat) =>
 Prod.fst
 (Prod.snd
 (S.at' (S.mkl nl fun (j : Nat) => (tl (j + al), vl (j + al), gl (j + al))) j)))
 (fun (j : Nat) =>
 Prod.snd
 (Prod.snd
 (S.at' (S.mkl nl fun (j : Nat) => (tl (j + al), vl (j + al), gl (j + al))) j)))
 ov re fz f0 t0))) :
 Int) -
 (0 : Int) ≤
 (1000000 : Int)))
 (test (decide
 ((0 : Int) ≤ (0 : Int) ∧
 (0 : Int) ≤
 (↑(Int.toNat
 ((0 : Int) +
 (↑(List.length
 (Prod.snd
 (S.winR ca af
 (List.length (S.mkl nl fun (j : Nat) => (tl (j + al), vl (j + al), gl (j + al))))
 (fun (j : Nat) =>
 Prod.fst
 (S.at' (S.mkl nl fun (j : Nat) => (tl (j + al), vl (j + al), gl (j + al))) j))
 (fun (j : Nat) =>
 Prod.fst
 (Prod.snd
 (S.at' (S.mkl nl fun (j : Nat) => (tl (j + al), vl (j + al), gl (j + al)))
 j)))
 (fun (j : Nat) =>
 Prod.snd
 (Prod.snd
 (S.at' (S.mkl nl fun (j : Nat) => (tl (j + al), vl (j + al), gl (j + al)))
 j)))
 ov re fz f0 t0))) :
 Int) -
 (0 : Int))) :
 Int)))
 (test (true)
 (test (true)
 (test (decide
 (0 +
 List.length
 (Prod.snd
 (S.winR ca af (List.length (S.mkl nl fun (j : Nat) => (tl (j + al), vl (j + al), gl (j + al))))
 (fun (j : Nat) =>
 (S.at' (S.mkl nl fun (j : Nat) => (tl (j + al), vl (j + al), gl (j + al))) j).1)
 (fun (j : Nat) =>
 Prod.fst
 ((S.at' (S.mkl nl fun (j : Nat) => (tl (j + al), vl (j + al), gl (j + al))) j).2))
 (fun (j : Nat) =>
 Prod.snd
 ((S.at' (S.mkl nl fun (j : Nat) => (tl (j + al), vl (j + al), gl (j + al))) j).2))
 ov re fz f0 t0)) ≤
 1000000))
 (test (decide
 (0 ≤
 Int.toNat
 ((0 : Int) +
 (↑(List.length
 (Prod.snd
 (S.winR ca af
 (List.length (S.mkl nl fun (j : Nat) => (tl (j + al), vl (j + al), gl (j + al))))
 (fun (j : Nat) =>
 Prod.fst
 (S.at' (S.mkl nl fun (j : Nat) => (tl (j + al), vl (j + al), gl (j + al))) j))
 (fun (j : Nat) =>
 Prod.fst
 (Prod.snd
 (S.at' (S.mkl nl fun (j : Nat) => (tl (j + al), vl (j + al), gl (j + al))) j)))
 (fun (j : Nat) =>
 Prod.snd
 (Prod.snd
 (S.at' (S.mkl nl fun (j : Nat) => (tl (j + al), vl (j + al), gl (j + al))) j)))
 ov re fz f0 t0))) :
 Int) -
 (0 : Int))))
 (test (decide
 (0 +
 List.length
 (Prod.snd
 (S.winR ca af (List.length (S.mkl nl fun (j : Nat) => (tl (j + al), vl (j + al), gl (j + al))))
 (fun (j : Nat) =>
 (S.at' (S.mkl nl fun (j : Nat) => (tl (j + al), vl (j + al), gl (j + al))) j).1)
 (fun (j : Nat) =>
 Prod.fst
 ((S.at' (S.mkl nl fun (j : Nat) => (tl (j + al), vl (j + al), gl (j + al))) j).2))
 (fun (j : Nat) =>
 Prod.snd
 ((S.at' (S.mkl nl fun (j : Nat) => (tl (j + al), vl (j + al), gl (j + al))) j).2))
 ov re fz f0 t0)) ≤
 List.length
 (Prod.snd
 (S.winR ca af (List.length (S.mkl nl fun (j : Nat) => (tl (j + al), vl (j + al), gl (j + al))))
 (fun (j : Nat) =>
 (S.at' (S.mkl nl fun (j : Nat) => (tl (j + al), vl (j + al), gl (j + al))) j).1)
 (fun (j : Nat) =>
 Prod.fst
 ((S.at' (S.mkl nl fun (j : Nat) => (tl (j + al), vl (j + al), gl (j + al))) j).2))
 (fun (j : Nat) =>
 Prod.snd
 ((S.at' (S.mkl nl fun (j : Nat) => (tl (j + al), vl (j + al), gl (j + al))) j).2))
 ov re fz f0 t0))))
 (test (true)
 (test (true)
 (test (true)
 (test (decide
 (0 +
 List.length
 (Prod.snd
 (S.winR ca af (List.length (S.mkl nl fun (j : Nat) => (tl (j + al), vl (j + al), gl (j + al))))
 (fun (j : Nat) =>
 (S.at' (S.mkl nl fun (j : Nat) => (tl (j + al), vl (j + al), gl (j + al))) j).1)
 (fun (j : Nat) =>
 Prod.fst
 ((S.at' (S.mkl nl fun (j : Nat) => (tl (j + al), vl (j + al), gl (j + al))) j).2))
 (fun (j : Nat) =>
 Prod.snd
 ((S.at' (S.mkl nl fun (j : Nat) => (tl (j + al), vl (j + al), gl (j + al))) j).2))
 ov re fz f0 t0)) +
 List.length
 (Prod.snd
 (S.winR ca af nl (fun (j : Nat) => tl (j + al)) (fun (j : Nat) => vl (j + al))
 (fun (j : Nat) => gl (j + al)) ov re fz t0 e0)) ≤
 1000000))
 (test (decide
 (0 +
 List.length
 (Prod.snd
 (S.winR ca af (List.length (S.mkl nl fun (j : Nat) => (tl (j + al), vl (j + al), gl (j + al))))
 (fun (j : Nat) =>
 (S.at' (S.mkl nl fun (j : Nat) => (tl (j + al), vl (j + al), gl (j + al))) j).1)
 (fun (j : Nat) =>
 Prod.fst
 ((S.at' (S.mkl nl fun (j : Nat) => (tl (j + al), vl (j + al), gl (j + al))) j).2))
 (fun (j : Nat) =>
 Prod.snd
 ((S.at' (S.mkl nl fun (j : Nat) => (tl (j + al), vl (j + al), gl (j + al))) j).2))
 ov re fz f0 t0)) ≤
 0 +
 List.length
 (Prod.snd
 (S.winR ca af (List.length (S.mkl nl fun (j : Nat) => (tl (j + al), vl (j + al), gl (j + al))))
 (fun (j : Nat) =>
 (S.at' (S.mkl nl fun (j : Nat) => (tl (j + al), vl (j + al), gl (j + al))) j).1)
 (fun (j : Nat) =>
 Prod.fst
 ((S.at' (S.mkl nl fun (j : Nat) => (tl (j + al), vl (j + al), gl (j + al))) j).2))
 (fun (j : Nat) =>
 Prod.snd
 ((S.at' (S.mkl nl fun (j : Nat) => (tl (j + al), vl (j + al), gl (j + al))) j).2))
 ov re fz f0 t0))))
 (test (decide
 (0 +
 List.length
 (Prod.snd
 (S.winR ca af nl (fun (j : Nat) => tl (j + al)) (fun (j : Nat) => vl (j + al))
 (fun (j : Nat) => gl (j + al)) ov re fz t0 e0)) ≤
 List.length
 (Prod.snd
 (S.winR ca af nl (fun (j : Nat) => tl (j + al)) (fun (j : Nat) => vl (j + al))
 (fun (j : Nat) => gl (j + al)) ov re fz t0 e0))))
 (test (true)
 (test (false)
 (test (false)
 (False)
 (False))
 (test (decide
 (0 +
 List.length
 (Prod.snd
 (S.winR ca af nl (fun (j : Nat) => tl (j + al)) (fun (j : Nat) => vl (j + al))
 (fun (j : Nat) => gl (j + al)) ov re fz f0 e0)) ≤
 List.length
 (Prod.snd
 (S.winR ca af nl (fun (j : Nat) => tl (j + al)) (fun (j : Nat) => vl (j + al))
 (fun (j : Nat) => gl (j + al)) ov re fz f0 e0)) ∧
 List.length
 (Prod.snd
 (S.winR ca af nl (fun (j : Nat) => tl (j + al)) (fun (j : Nat) => vl (j + al))
 (fun (j : Nat) => gl (j + al)) ov re fz f0 e0)) ≤
 1000000 ∧
 0 +
 (0 +
 List.length
 (Prod.snd
 (S.winR ca af
 (List.length (S.mkl nl fun (j : Nat) => (tl (j + al), vl (j + al), gl (j + al))))
 (fun (j : Nat) =>
 Prod.fst
 (S.at' (S.mkl nl fun (j : Nat) => (tl (j + al), vl (j + al), gl (j + al))) j))
 (fun (j : Nat) =>
 Prod.fst
 (Prod.snd
 (S.at' (S.mkl nl fun (j : Nat) => (tl (j + al), vl (j + al), gl (j + al))) j)))
 (fun (j : Nat) =>
 Prod.snd
 (Prod.snd
 (S.at' (S.mkl nl fun (j : Nat) => (tl (j + al), vl (j + al), gl (j + al))) j)))
 ov re fz f0 t0)) +
 List.length
 (Prod.snd
 (S.winR ca af nl (fun (j : Nat) => tl (j + al)) (fun (j : Nat) => vl (j + al))
 (fun (j : Nat) => gl (j + al)) ov re fz t0 e0))) ≤
 0 +
 List.length
 (Prod.snd
 (S.winR ca af
 (List.length (S.mkl nl fun (j : Nat) => (tl (j + al), vl (j + al), gl (j + al))))
 (fun (j : Nat) =>
 Prod.fst
 (S.at' (S.mkl nl fun (j : Nat) => (tl (j + al), vl (j + al), gl (j + al))) j))
 (fun (j : Nat) =>
 Prod.fst
 (Prod.snd
 (S.at' (S.mkl nl fun (j : Nat) => (tl (j + al), vl (j + al), gl (j + al))) j)))
 (fun (j : Nat) =>
 Prod.snd
 (Prod.snd
 (S.at' (S.mkl nl fun (j : Nat) => (tl (j + al), vl (j + al), gl (j + al))) j)))
 ov re fz f0 t0)) +
 List.length
 (Prod.snd
 (S.winR ca af nl (fun (j : Nat) => tl (j + al)) (fun (j : Nat) => vl (j + al))
 (fun (j : Nat) => gl (j + al)) ov re fz t0 e0)) ∧
 0 +
 List.length
 (Prod.snd
 (S.winR ca af
 (List.length (S.mkl nl fun (j : Nat) => (tl (j + al), vl (j + al), gl (j + al))))
 (fun (j : Nat) =>
 Prod.fst
 (S.at' (S.mkl nl fun (j : Nat) => (tl (j + al), vl (j + al), gl (j + al))) j))
 (fun (j : Nat) =>
 Prod.fst
 (Prod.snd
 (S.at' (S.mkl nl fun (j : Nat) => (tl (j + al), vl (j + al), gl (j + al))) j)))
 (fun (j : Nat) =>
 Prod.snd
 (Prod.snd
 (S.at' (S.mkl nl fun (j : Nat) => (tl (j + al), vl (j + al), gl (j + al))) j)))
 ov re fz f0 t0)) +
 List.length
 (Prod.snd
 (S.winR ca af nl (fun (j : Nat) => tl (j + al)) (fun (j : Nat) => vl (j + al))
 (fun (j : Nat) => gl (j + al)) ov re fz t0 e0)) ≤
 1000000))
 (test (decide
 ((S.mkl
 (List.length
 (Prod.snd
 (S.winR ca af nl (fun (j : Nat) => tl (j + al)) (fun (j : Nat) => vl (j + al))
 (fun (j : Nat) => gl (j + al)) ov re fz f0 e0)))
 fun (j : Nat) =>
 (Prod.fst
 (S.at'
 (Prod.snd
 (S.winR ca af nl (fun (j : Nat) => tl (j + al)) (fun (j : Nat) => vl (j + al))
 (fun (j : Nat) => gl (j + al)) ov re fz f0 e0))
 j),
 Prod.fst
 (Prod.snd
 (S.at'
 (Prod.snd
 (S.winR ca af nl (fun (j : Nat) => tl (j + al)) (fun (j : Nat) => vl (j + al))
 (fun (j : Nat) => gl (j + al)) ov re fz f0 e0))
 j)),
 Prod.snd
 (Prod.snd
 (S.at'
 (Prod.snd
 (S.winR ca af nl (fun (j : Nat) => tl (j + al)) (fun (j : Nat) => vl (j + al))
 (fun (j : Nat) => gl (j + al)) ov re fz f0 e0))
 j)))) =
 S.mkl
 (0 +
 List.length
 (Prod.snd
 (S.winR ca af
 (List.length (S.mkl nl fun (j : Nat) => (tl (j + al), vl (j + al), gl (j + al))))
 (fun (j : Nat) =>
 (S.at' (S.mkl nl fun (j : Nat) => (tl (j + al), vl (j + al), gl (j + al))) j).1)
 (fun (j : Nat) =>
 Prod.fst
 (Prod.snd
 (S.at' (S.mkl nl fun (j : Nat) => (tl (j + al), vl (j + al), gl (j + al))) j)))
 (fun (j : Nat) =>
 Prod.snd
 (Prod.snd
 (S.at' (S.mkl nl fun (j : Nat) => (tl (j + al), vl (j + al), gl (j + al))) j)))
 ov re fz f0 t0)) +
 List.length
 (Prod.snd
 (S.winR ca af nl (fun (j : Nat) => tl (j + al)) (fun (j : Nat) => vl (j + al))
 (fun (j : Nat) => gl (j + al)) ov re fz t0 e0)))
 fun (j : Nat) =>
 (bif
 Nat.blt j
 (0 +
 List.length
 (Prod.snd
 (S.winR ca af
 (List.length (S.mkl nl fun (j : Nat) => (tl (j + al), vl (j + al), gl (j + al))))
 (fun (j : Nat) =>
 Prod.fst
 (S.at' (S.mkl nl fun (j : Nat) => (tl (j + al), vl (j + al), gl (j + al))) j))
 (fun (j : Nat) =>
 Prod.fst
 (Prod.snd
 (S.at' (S.mkl nl fun (j : Nat) => (tl (j + al), vl (j + al), gl (j + al))) j)))
 (fun (j : Nat) =>
 Prod.snd
 (Prod.snd
 (S.at' (S.mkl nl fun (j : Nat) => (tl (j + al), vl (j + al), gl (j + al))) j)))
 ov re fz f0 t0))) then
 bif Nat.blt j (0) then (0 : Int)
 else
 Prod.fst
 (S.at'
 (Prod.snd
 (S.winR ca af
 (List.length (S.mkl nl fun (j : Nat) => (tl (j + al), vl (j + al), gl (j + al))))
 (fun (j : Nat) =>
 Prod.fst
 (S.at' (S.mkl nl fun (j : Nat) => (tl (j + al), vl (j + al), gl (j + al))) j))
 (fun (j : Nat) =>
 Prod.fst
 (Prod.snd
 (S.at' (S.mkl nl fun (j : Nat) => (tl (j + al), vl (j + al), gl (j + al))) j)))
 (fun (j : Nat) =>
 Prod.snd
 (Prod.snd
 (S.at' (S.mkl nl fun (j : Nat) => (tl (j + al), vl (j + al), gl (j + al))) j)))
 ov re fz f0 t0))
 j)
 else
 Prod.fst
 (S.at'
 (Prod.snd
 (S.winR ca af nl (fun (j : Nat) => tl (j + al)) (fun (j : Nat) => vl (j + al))
 (fun (j : Nat) => gl (j + al)) ov re fz t0 e0))
 (j -
 (0 +
 List.length
 (Prod.snd
 (S.winR ca af
 (List.length (S.mkl nl fun (j : Nat) => (tl (j + al), vl (j + al), gl (j + al))))
 (fun (j : Nat) =>
 Prod.fst
 (S.at' (S.mkl nl fun (j : Nat) => (tl (j + al), vl (j + al), gl (j + al))) j))
 (fun (j : Nat) =>
 Prod.fst
 (Prod.snd
 (S.at' (S.mkl nl fun (j : Nat) => (tl (j + al), vl (j + al), gl (j + al)))
 j)))
 (fun (j : Nat) =>
 Prod.snd
 (Prod.snd
 (S.at' (S.mkl nl fun (j : Nat) => (tl (j + al), vl (j + al), gl (j + al)))
 j)))
 ov re fz f0 t0))))),
 bif
 Nat.blt j
 (0 +
 List.length
 (Prod.snd
 (S.winR ca af
 (List.length (S.mkl nl fun (j : Nat) => (tl (j + al), vl (j + al), gl (j + al))))
 (fun (j : Nat) =>
 Prod.fst
 (S.at' (S.mkl nl fun (j : Nat) => (tl (j + al), vl (j + al), gl (j + al))) j))
 (fun (j : Nat) =>
 Prod.fst
 (Prod.snd
 (S.at' (S.mkl nl fun (j : Nat) => (tl (j + al), vl (j + al), gl (j + al))) j)))
 (fun (j : Nat) =>
 Prod.snd
 (Prod.snd
 (S.at' (S.mkl nl fun (j : Nat) => (tl (j + al), vl (j + al), gl (j + al))) j)))
 ov re fz f0 t0))) then
 bif Nat.blt j (0) then (0 : Int)
 else
 Prod.fst
 (Prod.snd
 (S.at'
 (Prod.snd
 (S.winR ca af
 (List.length (S.mkl nl fun (j : Nat) => (tl (j + al), vl (j + al), gl (j + al))))
 (fun (j : Nat) =>
 Prod.fst
 (S.at' (S.mkl nl fun (j : Nat) => (tl (j + al), vl (j + al), gl (j + al))) j))
 (fun (j : Nat) =>
 Prod.fst
 (Prod.snd
 (S.at' (S.mkl nl fun (j : Nat) => (tl (j + al), vl (j + al), gl (j + al))) j)))
 (fun (j : Nat) =>
 Prod.snd
 (Prod.snd
 (S.at' (S.mkl nl fun (j : Nat) => (tl (j + al), vl (j + al), gl (j + al))) j)))
 ov re fz f0 t0))
 j))
 else
 Prod.fst
 (Prod.snd
 (S.at'
 (Prod.snd
 (S.winR ca af nl (fun (j : Nat) => tl (j + al)) (fun (j : Nat) => vl (j + al))
 (fun (j : Nat) => gl (j + al)) ov re fz t0 e0))
 (j -
 (0 +
 List.length
 (Prod.snd
 (S.winR ca af
 (List.length (S.mkl nl fun (j : Nat) => (tl (j + al), vl (j + al), gl (j + al))))
 (fun (j : Nat) =>
 Prod.fst
 (S.at' (S.mkl nl fun (j : Nat) => (tl (j + al), vl (j + al), gl (j + al))) j))
 (fun (j : Nat) =>
 Prod.fst
 (Prod.snd
 (S.at' (S.mkl nl fun (j : Nat) => (tl (j + al), vl (j + al), gl (j + al)))
 j)))
 (fun (j : Nat) =>
 Prod.snd
 (Prod.snd
 (S.at' (S.mkl nl fun (j : Nat) => (tl (j + al), vl (j + al), gl (j + al)))
 j)))
 ov re fz f0 t0)))))),
 bif
 Nat.blt j
 (0 +
 List.length
 (Prod.snd
 (S.winR ca af
 (List.length (S.mkl nl fun (j : Nat) => (tl (j + al), vl (j + al), gl (j + al))))
 (fun (j : Nat) =>
 Prod.fst
 (S.at' (S.mkl nl fun (j : Nat) => (tl (j + al), vl (j + al), gl (j + al))) j))
 (fun (j : Nat) =>
 Prod.fst
 (Prod.snd
 (S.at' (S.mkl nl fun (j : Nat) => (tl (j + al), vl (j + al), gl (j + al))) j)))
 (fun (j : Nat) =>
 Prod.snd
 (Prod.snd
 (S.at' (S.mkl nl fun (j : Nat) => (tl (j + al), vl (j + al), gl (j + al))) j)))
 ov re fz f0 t0))) then
 bif Nat.blt j (0) then false
 else
 Prod.snd
 (Prod.snd
 (S.at'
 (Prod.snd
 (S.winR ca af
 (List.length (S.mkl nl fun (j : Nat) => (tl (j + al), vl (j + al), gl (j + al))))
 (fun (j : Nat) =>
 Prod.fst
 (S.at' (S.mkl nl fun (j : Nat) => (tl (j + al), vl (j + al), gl (j + al))) j))
 (fun (j : Nat) =>
 Prod.fst
 (Prod.snd
 (S.at' (S.mkl nl fun (j : Nat) => (tl (j + al), vl (j + al), gl (j + al))) j)))
 (fun (j : Nat) =>
 Prod.snd
 (Prod.snd
 (S.at' (S.mkl nl fun (j : Nat) => (tl (j + al), vl (j + al), gl (j + al))) j)))
 ov re fz f0 t0))
 j))
 else
 Prod.snd
 (Prod.snd
 (S.at'
 (Prod.snd
 (S.winR ca af nl (fun (j : Nat) => tl (j + al)) (fun (j : Nat) => vl (j + al))
 (fun (j : Nat) => gl (j + al)) ov re fz t0 e0))
 (j -
 (0 +
 List.length
 (Prod.snd
 (S.winR ca af
 (List.length (S.mkl nl fun (j : Nat) => (tl (j + al), vl (j + al), gl (j + al))))
 (fun (j : Nat) =>
 Prod.fst
 (S.at' (S.mkl nl fun (j : Nat) => (tl (j + al), vl (j + al), gl (j + al))) j))
 (fun (j : Nat) =>
 Prod.fst
 (Prod.snd
 (S.at' (S.mkl nl fun (j : Nat) => (tl (j + al), vl (j + al), gl (j + al)))
 j)))
 (fun (j : Nat) =>
 Prod.snd
 (Prod.snd
 (S.at' (S.mkl nl fun (j : Nat) => (tl (j + al), vl (j + al), gl (j + al)))
 j)))
 ov re fz f0 t0)))))))))
 (Kret (PV.tf true) ([[(0, false,
 Blk.cols ml [Col.int IntKind.i64 tl, Col.int IntKind.i64 vl, Col.bool gl])]]) (20))
 (Kret (PV.tf false) ([[(0, false,
 Blk.cols ml [Col.int IntKind.i64 tl, Col.int IntKind.i64 vl, Col.bool gl])]]) (20)))
 (False)))
 (False))
 (False))
 (False))
 (False))
 (False))
 (test (decide
 (0 +
 List.length
 (Prod.snd
 (S.winR ca af nl (fun (j : Nat) => tl (j + al)) (fun (j : Nat) => vl (j + al))
 (fun (j : Nat) => gl (j + al)) ov re fz f0 e0)) ≤
 List.length
 (Prod.snd
 (S.winR ca af nl (fun (j : Nat) => tl (j + al)) (fun (j : Nat) => vl (j + al))
 (fun (j : Nat) => gl (j + al)) ov re fz f0 e0)) ∧
 List.length
 (Prod.snd
 (S.winR ca af nl (fun (j : Nat) => tl (j + al)) (fun (j : Nat) => vl (j + al))
 (fun (j : Nat) => gl (j + al)) ov re fz f0 e0)) ≤
 1000000 ∧
 0 +
 (0 +
 List.length
 (Prod.snd
 (S.winR ca af
 (List.length (S.mkl nl fun (j : Nat) => (tl (j + al), vl (j + al), gl (j + al))))
 (fun (j : Nat) =>
 Prod.fst
 (S.at' (S.mkl nl fun (j : Nat) => (tl (j + al), vl (j + al), gl (j + al))) j))
 (fun (j : Nat) =>
 Prod.fst
 (Prod.snd
 (S.at' (S.mkl nl fun (j : Nat) => (tl (j + al), vl (j + al), gl (j + al))) j)))
 (fun (j : Nat) =>
 Prod.snd
 (Prod.snd
 (S.at' (S.mkl nl fun (j : Nat) => (tl (j + al), vl (j + al), gl (j + al))) j)))
 ov re fz f0 t0))) ≤
 0 +
 List.length
 (Prod.snd
 (S.winR ca af
 (List.length (S.mkl nl fun (j : Nat) => (tl (j + al), vl (j + al), gl (j + al))))
 (fun (j : Nat) =>
 (S.at' (S.mkl nl fun (j : Nat) => (tl (j + al), vl (j + al), gl (j + al))) j).1)
 (fun (j : Nat) =>
 Prod.fst
 (Prod.snd
 (S.at' (S.mkl nl fun (j : Nat) => (tl (j + al), vl (j + al), gl (j + al))) j)))
 (fun (j : Nat) =>
 Prod.snd
 (Prod.snd
 (S.at' (S.mkl nl fun (j : Nat) => (tl (j + al), vl (j + al), gl (j + al))) j)))
 ov re fz f0 t0)) ∧
 0 +
 List.length
 (Prod.snd
 (S.winR ca af
 (List.length (S.mkl nl fun (j : Nat) => (tl (j + al), vl (j + al), gl (j + al))))
 (fun (j : Nat) =>
 (S.at' (S.mkl nl fun (j : Nat) => (tl (j + al), vl (j + al), gl (j + al))) j).1)
 (fun (j : Nat) =>
 Prod.fst
 (Prod.snd
 (S.at' (S.mkl nl fun (j : Nat) => (tl (j + al), vl (j + al), gl (j + al))) j)))
 (fun (j : Nat) =>
 Prod.snd
 (Prod.snd
 (S.at' (S.mkl nl fun (j : Nat) => (tl (j + al), vl (j + al), gl (j + al))) j)))
 ov re fz f0 t0)) ≤
 1000000))
 (test (decide
 ((S.mkl
 (List.length
 (Prod.snd
 (S.winR ca af nl (fun (j : Nat) => tl (j + al)) (fun (j : Nat) => vl (j + al))
 (fun (j : Nat) => gl (j + al)) ov re fz f0 e0)))
 fun (j : Nat) =>
 (Prod.fst
 (S.at'
 (Prod.snd
 (S.winR ca af nl (fun (j : Nat) => tl (j + al)) (fun (j : Nat) => vl (j + al))
 (fun (j : Nat) => gl (j + al)) ov re fz f0 e0))
 j),
 Prod.fst
 (Prod.snd
 (S.at'
 (Prod.snd
 (S.winR ca af nl (fun (j : Nat) => tl (j + al)) (fun (j : Nat) => vl (j + al))
 (fun (j : Nat) => gl (j + al)) ov re fz f0 e0))
 j)),
 Prod.snd
 (Prod.snd
 (S.at'
 (Prod.snd
 (S.winR ca af nl (fun (j : Nat) => tl (j + al)) (fun (j : Nat) => vl (j + al))
 (fun (j : Nat) => gl (j + al)) ov re fz f0 e0))
 j)))) =
 S.mkl
 (0 +
 List.length
 (Prod.snd
 (S.winR ca af (List.length (S.mkl nl fun (j : Nat) => (tl (j + al), vl (j + al), gl (j + al))))
 (fun (j : Nat) =>
 (S.at' (S.mkl nl fun (j : Nat) => (tl (j + al), vl (j + al), gl (j + al))) j).1)
 (fun (j : Nat) =>
 Prod.fst
 ((S.at' (S.mkl nl fun (j : Nat) => (tl (j + al), vl (j + al), gl (j + al))) j).2))
 (fun (j : Nat) =>
 Prod.snd
 ((S.at' (S.mkl nl fun (j : Nat) => (tl (j + al), vl (j + al), gl (j + al))) j).2))
 ov re fz f0 t0)))
 fun (j : Nat) =>
 (bif Nat.blt j (0) then (0 : Int)
 else
 Prod.fst
 (S.at'
 (Prod.snd
 (S.winR ca af
 (List.length (S.mkl nl fun (j : Nat) => (tl (j + al), vl (j + al), gl (j + al))))
 (fun (j : Nat) =>
 (S.at' (S.mkl nl fun (j : Nat) => (tl (j + al), vl (j + al), gl (j + al))) j).1)
 (fun (j : Nat) =>
 Prod.fst
 (Prod.snd
 (S.at' (S.mkl nl fun (j : Nat) => (tl (j + al), vl (j + al), gl (j + al))) j)))
 (fun (j : Nat) =>
 Prod.snd
 (Prod.snd
 (S.at' (S.mkl nl fun (j : Nat) => (tl (j + al), vl (j + al), gl (j + al))) j)))
 ov re fz f0 t0))
 j),
 bif Nat.blt j (0) then (0 : Int)
 else
 Prod.fst
 (Prod.snd
 (S.at'
 (Prod.snd
 (S.winR ca af
 (List.length (S.mkl nl fun (j : Nat) => (tl (j + al), vl (j + al), gl (j + al))))
 (fun (j : Nat) =>
 Prod.fst
 (S.at' (S.mkl nl fun (j : Nat) => (tl (j + al), vl (j + al), gl (j + al))) j))
 (fun (j : Nat) =>
 Prod.fst
 (Prod.snd
 (S.at' (S.mkl nl fun (j : Nat) => (tl (j + al), vl (j + al), gl (j + al))) j)))
 (fun (j : Nat) =>
 Prod.snd
 (Prod.snd
 (S.at' (S.mkl nl fun (j : Nat) => (tl (j + al), vl (j + al), gl (j + al))) j)))
 ov re fz f0 t0))
 j)),
 bif Nat.blt j (0) then false
 else
 Prod.snd
 (Prod.snd
 (S.at'
 (Prod.snd
 (S.winR ca af
 (List.length (S.mkl nl fun (j : Nat) => (tl (j + al), vl (j + al), gl (j + al))))
 (fun (j : Nat) =>
 Prod.fst
 (S.at' (S.mkl nl fun (j : Nat) => (tl (j + al), vl (j + al), gl (j + al))) j))
 (fun (j : Nat) =>
 Prod.fst
 (Prod.snd
 (S.at' (S.mkl nl fun (j : Nat) => (tl (j + al), vl (j + al), gl (j + al))) j)))
 (fun (j : Nat) =>
 Prod.snd
 (Prod.snd
 (S.at' (S.mkl nl fun (j : Nat) => (tl (j + al), vl (j + al), gl (j + al))) j)))
 ov re fz f0 t0))
 j)))))
 (Kret (PV.tf true) ([[(0, false,
 Blk.cols ml [Col.int IntKind.i64 tl, Col.int IntKind.i64 vl, Col.bool gl])]]) (19))
 (Kret (PV.tf false) ([[(0, false,
 Blk.cols ml [Col.int IntKind.i64 tl, Col.int IntKind.i64 vl, Col.bool gl])]]) (19)))
 (False)))
 (False))
 (False))
 (False))
 (False))
 (False))
 (test (decide
 (0 +
 List.length
 (Prod.snd
 (S.winR ca af nl (fun (j : Nat) => tl (j + al)) (fun (j : Nat) => vl (j + al))
 (fun (j : Nat) => gl (j + al)) ov re fz f0 e0)) ≤
 List.length
 (Prod.snd
 (S.winR ca af nl (fun (j : Nat) => tl (j + al)) (fun (j : Nat) => vl (j + al))
 (fun (j : Nat) => gl (j + al)) ov re fz f0 e0)) ∧
 List.length
 (Prod.snd
 (S.winR ca af nl (fun (j : Nat) => tl (j + al)) (fun (j : Nat) => vl (j + al))
 (fun (j : Nat) => gl (j + al)) ov re fz f0 e0)) ≤
 1000000 ∧
 0 ≤
 Int.toNat
 ((0 : Int) +
 (↑(List.length
 (Prod.snd
 (S.winR ca af
 (List.length (S.mkl nl fun (j : Nat) => (tl (j + al), vl (j + al), gl (j + al))))
 (fun (j : Nat) =>
 Prod.fst
 (S.at' (S.mkl nl fun (j : Nat) => (tl (j + al), vl (j + al), gl (j + al))) j))
 (fun (j : Nat) =>
 Prod.fst
 (Prod.snd
 (S.at' (S.mkl nl fun (j : Nat) => (tl (j + al), vl (j + al), gl (j + al)))
 j)))
 (fun (j : Nat) =>
 Prod.snd
 (Prod.snd
 (S.at' (S.mkl nl fun (j : Nat) => (tl (j + al), vl (j + al), gl (j + al)))
 j)))
 ov re fz f0 t0))) :
 Int) -
 (0 : Int)) ∧
 0 ≤ 1000000))
 (test (decide
 ((S.mkl
 (List.length
 (Prod.snd
 (S.winR ca af nl (fun (j : Nat) => tl (j + al)) (fun (j : Nat) => vl (j + al))
 (fun (j : Nat) => gl (j + al)) ov re fz f0 e0)))
 fun (j : Nat) =>
 (Prod.fst
 (S.at'
 (Prod.snd
 (S.winR ca af nl (fun (j : Nat) => tl (j + al)) (fun (j : Nat) => vl (j + al))
 (fun (j : Nat) => gl (j + al)) ov re fz f0 e0))
 j),
 Prod.fst
 (Prod.snd
 (S.at'
 (Prod.snd
 (S.winR ca af nl (fun (j : Nat) => tl (j + al)) (fun (j : Nat) => vl (j + al))
 (fun (j : Nat) => gl (j + al)) ov re fz f0 e0))
 j)),
 Prod.snd
 (Prod.snd
 (S.at'
 (Prod.snd
 (S.winR ca af nl (fun (j : Nat) => tl (j + al)) (fun (j : Nat) => vl (j + al))
 (fun (j : Nat) => gl (j + al)) ov re fz f0 e0))
 j)))) =
 S.mkl (0) fun (j : Nat) => ((0 : Int), (0 : Int), false)))
 (Kret (PV.tf true) ([[(0, false,
 Blk.cols ml [Col.int IntKind.i64 tl, Col.int IntKind.i64 vl, Col.bool gl])]]) (18))
 (Kret (PV.tf false) ([[(0, false,
 Blk.cols ml [Col.int IntKind.i64 tl, Col.int IntKind.i64 vl, Col.bool gl])]]) (18)))
 (False)))
 (False))
 (False))
 (False))
 (test (true)
 (test (true)
 (test (decide
 (0 +
 List.length
 (Prod.snd
 (S.winR ca af (List.length (S.mkl nl fun (j : Nat) => (tl (j + al), vl (j + al), gl (j + al))))
 (fun (j : Nat) =>
 (S.at' (S.mkl nl fun (j : Nat) => (tl (j + al), vl (j + al), gl (j + al))) j).1)
 (fun (j : Nat) =>
 Prod.fst
 ((S.at' (S.mkl nl fun (j : Nat) => (tl (j + al), vl (j + al), gl (j + al))) j).2))
 (fun (j : Nat) =>
 Prod.snd
 ((S.at' (S.mkl nl fun (j : Nat) => (tl (j + al), vl (j + al), gl (j + al))) j).2))
 ov re fz f0 t0)) ≤
 1000000))
 (test (true)
 (test (decide
 (0 +
 List.length
 (Prod.snd
 (S.winR ca af (List.length (S.mkl nl fun (j : Nat) => (tl (j + al), vl (j + al), gl (j + al))))
 (fun (j : Nat) =>
 (S.at' (S.mkl nl fun (j : Nat) => (tl (j + al), vl (j + al), gl (j + al))) j).1)
 (fun (j : Nat) =>
 Prod.fst
 ((S.at' (S.mkl nl fun (j : Nat) => (tl (j + al), vl (j + al), gl (j + al))) j).2))
 (fun (j : Nat) =>
 Prod.snd
 ((S.at' (S.mkl nl fun (j : Nat) => (tl (j + al), vl (j + al), gl (j + al))) j).2))
 ov re fz f0 t0)) ≤
 List.length
 (Prod.snd
 (S.winR ca af (List.length (S.mkl nl fun (j : Nat) => (tl (j + al), vl (j + al), gl (j + al))))
 (fun (j : Nat) =>
 (S.at' (S.mkl nl fun (j : Nat) => (tl (j + al), vl (j + al), gl (j + al))) j).1)
 (fun (j : Nat) =>
 Prod.fst
 ((S.at' (S.mkl nl fun (j : Nat) => (tl (j + al), vl (j + al), gl (j + al))) j).2))
 (fun (j : Nat) =>
 Prod.snd
 ((S.at' (S.mkl nl fun (j : Nat) => (tl (j + al), vl (j + al), gl (j + al))) j).2))
 ov re fz f0 t0))))
 (test (true)
 (test (true)
 (test (true)
 (test (decide
 (0 +
 List.length
 (Prod.snd
 (S.winR ca af (List.length (S.mkl nl fun (j : Nat) => (tl (j + al), vl (j + al), gl (j + al))))
 (fun (j : Nat) =>
 (S.at' (S.mkl nl fun (j : Nat) => (tl (j + al), vl (j + al), gl (j + al))) j).1)
 (fun (j : Nat) =>
 Prod.fst
 ((S.at' (S.mkl nl fun (j : Nat) => (tl (j + al), vl (j + al), gl (j + al))) j).2))
 (fun (j : Nat) =>
 Prod.snd
 ((S.at' (S.mkl nl fun (j : Nat) => (tl (j + al), vl (j + al), gl (j + al))) j).2))
 ov re fz f0 t0)) +
 List.length
 (Prod.snd
 (S.winR ca af nl (fun (j : Nat) => tl (j + al)) (fun (j : Nat) => vl (j + al))
 (fun (j : Nat) => gl (j + al)) ov re fz t0 e0)) ≤
 1000000))
 (test (decide
 (0 +
 List.length
 (Prod.snd
 (S.winR ca af (List.length (S.mkl nl fun (j : Nat) => (tl (j + al), vl (j + al), gl (j + al))))
 (fun (j : Nat) =>
 (S.at' (S.mkl nl fun (j : Nat) => (tl (j + al), vl (j + al), gl (j + al))) j).1)
 (fun (j : Nat) =>
 Prod.fst
 ((S.at' (S.mkl nl fun (j : Nat) => (tl (j + al), vl (j + al), gl (j + al))) j).2))
 (fun (j : Nat) =>
 Prod.snd
 ((S.at' (S.mkl nl fun (j : Nat) => (tl (j + al), vl (j + al), gl (j + al))) j).2))
 ov re fz f0 t0)) ≤
 0 +
 List.length
 (Prod.snd
 (S.winR ca af (List.length (S.mkl nl fun (j : Nat) => (tl (j + al), vl (j + al), gl (j + al))))
 (fun (j : Nat) =>
 (S.at' (S.mkl nl fun (j : Nat) => (tl (j + al), vl (j + al), gl (j + al))) j).1)
 (fun (j : Nat) =>
 Prod.fst
 ((S.at' (S.mkl nl fun (j : Nat) => (tl (j + al), vl (j + al), gl (j + al))) j).2))
 (fun (j : Nat) =>
 Prod.snd
 ((S.at' (S.mkl nl fun (j : Nat) => (tl (j + al), vl (j + al), gl (j + al))) j).2))
 ov re fz f0 t0))))
 (test (decide
 (0 +
 List.length
 (Prod.snd
 (S.winR ca af nl (fun (j : Nat) => tl (j + al)) (fun (j : Nat) => vl (j + al))
 (fun (j : Nat) => gl (j + al)) ov re fz t0 e0)) ≤
 List.length
 (Prod.snd
 (S.winR ca af nl (fun (j : Nat) => tl (j + al)) (fun (j : Nat) => vl (j + al))
 (fun (j : Nat) => gl (j + al)) ov re fz t0 e0))))
 (test (true)
 (test (false)
 (test (false)
 (False)
 (False))
 (test (decide
 (0 +
 List.length
 (Prod.snd
 (S.winR ca af nl (fun (j : Nat) => tl (j + al)) (fun (j : Nat) => vl (j + al))
 (fun (j : Nat) => gl (j + al)) ov re fz f0 e0)) ≤
 List.length
 (Prod.snd
 (S.winR ca af nl (fun (j : Nat) => tl (j + al)) (fun (j : Nat) => vl (j + al))
 (fun (j : Nat) => gl (j + al)) ov re fz f0 e0)) ∧
 List.length
 (Prod.snd
 (S.winR ca af nl (fun (j : Nat) => tl (j + al)) (fun (j : Nat) => vl (j + al))
 (fun (j : Nat) => gl (j + al)) ov re fz f0 e0)) ≤
 1000000 ∧
 0 +
 (0 +
 List.length
 (Prod.snd
 (S.winR ca af
 (List.length (S.mkl nl fun (j : Nat) => (tl (j + al), vl (j + al), gl (j + al))))
 (fun (j : Nat) =>
 Prod.fst
 (S.at' (S.mkl nl fun (j : Nat) => (tl (j + al), vl (j + al), gl (j + al))) j))
 (fun (j : Nat) =>
 Prod.fst
 (Prod.snd
 (S.at' (S.mkl nl fun (j : Nat) => (tl (j + al), vl (j + al), gl (j + al))) j)))
 (fun (j : Nat) =>
 Prod.snd
 (Prod.snd
 (S.at' (S.mkl nl fun (j : Nat) => (tl (j + al), vl (j + al), gl (j + al))) j)))
 ov re fz f0 t0)) +
 List.length
 (Prod.snd
 (S.winR ca af nl (fun (j : Nat) => tl (j + al)) (fun (j : Nat) => vl (j + al))
 (fun (j : Nat) => gl (j + al)) ov re fz t0 e0))) ≤
 0 +
 List.length
 (Prod.snd
 (S.winR ca af
 (List.length (S.mkl nl fun (j : Nat) => (tl (j + al), vl (j + al), gl (j + al))))
 (fun (j : Nat) =>
 Prod.fst
 (S.at' (S.mkl nl fun (j : Nat) => (tl (j + al), vl (j + al), gl (j + al))) j))
 (fun (j : Nat) =>
 Prod.fst
 (Prod.snd
 (S.at' (S.mkl nl fun (j : Nat) => (tl (j + al), vl (j + al), gl (j + al))) j)))
 (fun (j : Nat) =>
 Prod.snd
 (Prod.snd
 (S.at' (S.mkl nl fun (j : Nat) => (tl (j + al), vl (j + al), gl (j + al))) j)))
 ov re fz f0 t0)) +
 List.length
 (Prod.snd
 (S.winR ca af nl (fun (j : Nat) => tl (j + al)) (fun (j : Nat) => vl (j + al))
 (fun (j : Nat) => gl (j + al)) ov re fz t0 e0)) ∧
 0 +
 List.length
 (Prod.snd
 (S.winR ca af
 (List.length (S.mkl nl fun (j : Nat) => (tl (j + al), vl (j + al), gl (j + al))))
 (fun (j : Nat) =>
 Prod.fst
 (S.at' (S.mkl nl fun (j : Nat) => (tl (j + al), vl (j + al), gl (j + al))) j))
 (fun (j : Nat) =>
 Prod.fst
 (Prod.snd
 (S.at' (S.mkl nl fun (j : Nat) => (tl (j + al), vl (j + al), gl (j + al))) j)))
 (fun (j : Nat) =>
 Prod.snd
 (Prod.snd
 (S.at' (S.mkl nl fun (j : Nat) => (tl (j + al), vl (j + al), gl (j + al))) j)))
 ov re fz f0 t0)) +
 List.length
 (Prod.snd
 (S.winR ca af nl (fun (j : Nat) => tl (j + al)) (fun (j : Nat) => vl (j + al))
 (fun (j : Nat) => gl (j + al)) ov re fz t0 e0)) ≤
 1000000))
 (test (decide
 ((S.mkl
 (List.length
 (Prod.snd
 (S.winR ca af nl (fun (j : Nat) => tl (j + al)) (fun (j : Nat) => vl (j + al))
 (fun (j : Nat) => gl (j + al)) ov re fz f0 e0)))
 fun (j : Nat) =>
 (Prod.fst
 (S.at'
 (Prod.snd
 (S.winR ca af nl (fun (j : Nat) => tl (j + al)) (fun (j : Nat) => vl (j + al))
 (fun (j : Nat) => gl (j + al)) ov re fz f0 e0))
 j),
 Prod.fst
 (Prod.snd
 (S.at'
 (Prod.snd
 (S.winR ca af nl (fun (j : Nat) => tl (j + al)) (fun (j : Nat) => vl (j + al))
 (fun (j : Nat) => gl (j + al)) ov re fz f0 e0))
 j)),
 Prod.snd
 (Prod.snd
 (S.at'
 (Prod.snd
 (S.winR ca af nl (fun (j : Nat) => tl (j + al)) (fun (j : Nat) => vl (j + al))
 (fun (j : Nat) => gl (j + al)) ov re fz f0 e0))
 j)))) =
 S.mkl
 (0 +
 List.length
 (Prod.snd
 (S.winR ca af
 (List.length (S.mkl nl fun (j : Nat) => (tl (j + al), vl (j + al), gl (j + al))))
 (fun (j : Nat) =>
 (S.at' (S.mkl nl fun (j : Nat) => (tl (j + al), vl (j + al), gl (j + al))) j).1)
 (fun (j : Nat) =>
 Prod.fst
 (Prod.snd
 (S.at' (S.mkl nl fun (j : Nat) => (tl (j + al), vl (j + al), gl (j + al))) j)))
 (fun (j : Nat) =>
 Prod.snd
 (Prod.snd
 (S.at' (S.mkl nl fun (j : Nat) => (tl (j + al), vl (j + al), gl (j + al))) j)))
 ov re fz f0 t0)) +
 List.length
 (Prod.snd
 (S.winR ca af nl (fun (j : Nat) => tl (j + al)) (fun (j : Nat) => vl (j + al))
 (fun (j : Nat) => gl (j + al)) ov re fz t0 e0)))
 fun (j : Nat) =>
 (bif
 Nat.blt j
 (0 +
 List.length
 (Prod.snd
 (S.winR ca af
 (List.length (S.mkl nl fun (j : Nat) => (tl (j + al), vl (j + al), gl (j + al))))
 (fun (j : Nat) =>
 Prod.fst
 (S.at' (S.mkl nl fun (j : Nat) => (tl (j + al), vl (j + al), gl (j + al))) j))
 (fun (j : Nat) =>
 Prod.fst
 (Prod.snd
 (S.at' (S.mkl nl fun (j : Nat) => (tl (j + al), vl (j + al), gl (j + al))) j)))
 (fun (j : Nat) =>
 Prod.snd
 (Prod.snd
 (S.at' (S.mkl nl fun (j : Nat) => (tl (j + al), vl (j + al), gl (j + al))) j)))
 ov re fz f0 t0))) then
 Prod.fst
 (S.at'
 (Prod.snd
 (S.winR ca af
 (List.length (S.mkl nl fun (j : Nat) => (tl (j + al), vl (j + al), gl (j + al))))
 (fun (j : Nat) =>
 (S.at' (S.mkl nl fun (j : Nat) => (tl (j + al), vl (j + al), gl (j + al))) j).1)
 (fun (j : Nat) =>
 Prod.fst
 (Prod.snd
 (S.at' (S.mkl nl fun (j : Nat) => (tl (j + al), vl (j + al), gl (j + al))) j)))
 (fun (j : Nat) =>
 Prod.snd
 (Prod.snd
 (S.at' (S.mkl nl fun (j : Nat) => (tl (j + al), vl (j + al), gl (j + al))) j)))
 ov re fz f0 t0))
 j)
 else
 Prod.fst
 (S.at'
 (Prod.snd
 (S.winR ca af nl (fun (j : Nat) => tl (j + al)) (fun (j : Nat) => vl (j + al))
 (fun (j : Nat) => gl (j + al)) ov re fz t0 e0))
 (j -
 (0 +
 List.length
 (Prod.snd
 (S.winR ca af
 (List.length (S.mkl nl fun (j : Nat) => (tl (j + al), vl (j + al), gl (j + al))))
 (fun (j : Nat) =>
 Prod.fst
 (S.at' (S.mkl nl fun (j : Nat) => (tl (j + al), vl (j + al), gl (j + al))) j))
 (fun (j : Nat) =>
 Prod.fst
 (Prod.snd
 (S.at' (S.mkl nl fun (j : Nat) => (tl (j + al), vl (j + al), gl (j + al)))
 j)))
 (fun (j : Nat) =>
 Prod.snd
 (Prod.snd
 (S.at' (S.mkl nl fun (j : Nat) => (tl (j + al), vl (j + al), gl (j + al)))
 j)))
 ov re fz f0 t0))))),
 bif
 Nat.blt j
 (0 +
 List.length
 (Prod.snd
 (S.winR ca af
 (List.length (S.mkl nl fun (j : Nat) => (tl (j + al), vl (j + al), gl (j + al))))
 (fun (j : Nat) =>
 Prod.fst
 (S.at' (S.mkl nl fun (j : Nat) => (tl (j + al), vl (j + al), gl (j + al))) j))
 (fun (j : Nat) =>
 Prod.fst
 (Prod.snd
 (S.at' (S.mkl nl fun (j : Nat) => (tl (j + al), vl (j + al), gl (j + al))) j)))
 (fun (j : Nat) =>
 Prod.snd
 (Prod.snd
 (S.at' (S.mkl nl fun (j : Nat) => (tl (j + al), vl (j + al), gl (j + al))) j)))
 ov re fz f0 t0))) then
 Prod.fst
 (Prod.snd
 (S.at'
 (Prod.snd
 (S.winR ca af
 (List.length (S.mkl nl fun (j : Nat) => (tl (j + al), vl (j + al), gl (j + al))))
 (fun (j : Nat) =>
 Prod.fst
 (S.at' (S.mkl nl fun (j : Nat) => (tl (j + al), vl (j + al), gl (j + al))) j))
 (fun (j : Nat) =>
 Prod.fst
 (Prod.snd
 (S.at' (S.mkl nl fun (j : Nat) => (tl (j + al), vl (j + al), gl (j + al))) j)))
 (fun (j : Nat) =>
 Prod.snd
 (Prod.snd
 (S.at' (S.mkl nl fun (j : Nat) => (tl (j + al), vl (j + al), gl (j + al))) j)))
 ov re fz f0 t0))
 j))
 else
 Prod.fst
 (Prod.snd
 (S.at'
 (Prod.snd
 (S.winR ca af nl (fun (j : Nat) => tl (j + al)) (fun (j : Nat) => vl (j + al))
 (fun (j : Nat) => gl (j + al)) ov re fz t0 e0))
 (j -
 (0 +
 List.length
 (Prod.snd
 (S.winR ca af
 (List.length (S.mkl nl fun (j : Nat) => (tl (j + al), vl (j + al), gl (j + al))))
 (fun (j : Nat) =>
 Prod.fst
 (S.at' (S.mkl nl fun (j : Nat) => (tl (j + al), vl (j + al), gl (j + al))) j))
 (fun (j : Nat) =>
 Prod.fst
 (Prod.snd
 (S.at' (S.mkl nl fun (j : Nat) => (tl (j + al), vl (j + al), gl (j + al)))
 j)))
 (fun (j : Nat) =>
 Prod.snd
 (Prod.snd
 (S.at' (S.mkl nl fun (j : Nat) => (tl (j + al), vl (j + al), gl (j + al)))
 j)))
 ov re fz f0 t0)))))),
 bif
 Nat.blt j
 (0 +
 List.length
 (Prod.snd
 (S.winR ca af
 (List.length (S.mkl nl fun (j : Nat) => (tl (j + al), vl (j + al), gl (j + al))))
 (fun (j : Nat) =>
 Prod.fst
 (S.at' (S.mkl nl fun (j : Nat) => (tl (j + al), vl (j + al), gl (j + al))) j))
 (fun (j : Nat) =>
 Prod.fst
 (Prod.snd
 (S.at' (S.mkl nl fun (j : Nat) => (tl (j + al), vl (j + al), gl (j + al))) j)))
 (fun (j : Nat) =>
 Prod.snd
 (Prod.snd
 (S.at' (S.mkl nl fun (j : Nat) => (tl (j + al), vl (j + al), gl (j + al))) j)))
 ov re fz f0 t0))) then
 Prod.snd
 (Prod.snd
 (S.at'
 (Prod.snd
 (S.winR ca af
 (List.length (S.mkl nl fun (j : Nat) => (tl (j + al), vl (j + al), gl (j + al))))
 (fun (j : Nat) =>
 Prod.fst
 (S.at' (S.mkl nl fun (j : Nat) => (tl (j + al), vl (j + al), gl (j + al))) j))
 (fun (j : Nat) =>
 Prod.fst
 (Prod.snd
 (S.at' (S.mkl nl fun (j : Nat) => (tl (j + al), vl (j + al), gl (j + al))) j)))
 (fun (j : Nat) =>
 Prod.snd
 (Prod.snd
 (S.at' (S.mkl nl fun (j : Nat) => (tl (j + al), vl (j + al), gl (j + al))) j)))
 ov re fz f0 t0))
 j))
 else
 Prod.snd
 (Prod.snd
 (S.at'
 (Prod.snd
 (S.winR ca af nl (fun (j : Nat) => tl (j + al)) (fun (j : Nat) => vl (j + al))
 (fun (j : Nat) => gl (j + al)) ov re fz t0 e0))
 (j -
 (0 +
 List.length
 (Prod.snd
 (S.winR ca af
 (List.length (S.mkl nl fun (j : Nat) => (tl (j + al), vl (j + al), gl (j + al))))
 (fun (j : Nat) =>
 Prod.fst
 (S.at' (S.mkl nl fun (j : Nat) => (tl (j + al), vl (j + al), gl (j + al))) j))
 (fun (j : Nat) =>
 Prod.fst
 (Prod.snd
 (S.at' (S.mkl nl fun (j : Nat) => (tl (j + al), vl (j + al), gl (j + al)))
 j)))
 (fun (j : Nat) =>
 Prod.snd
 (Prod.snd
 (S.at' (S.mkl nl fun (j : Nat) => (tl (j + al), vl (j + al), gl (j + al)))
 j)))
 ov re fz f0 t0)))))))))
 (Kret (PV.tf true) ([[(0, false,
 Blk.cols ml [Col.int IntKind.i64 tl, Col.int IntKind.i64 vl, Col.bool gl])]]) (19))
 (Kret (PV.tf false) ([[(0, false,
 Blk.cols ml [Col.int IntKind.i64 tl, Col.int IntKind.i64 vl, Col.bool gl])]]) (19)))
 (False)))
 (False))
 (False))
 (False))
 (False))
 (False))
 (test (decide
 (0 +
 List.length
 (Prod.snd
 (S.winR ca af nl (fun (j : Nat) => tl (j + al)) (fun (j : Nat) => vl (j + al))
 (fun (j : Nat) => gl (j + al)) ov re fz f0 e0)) ≤
 List.length
 (Prod.snd
 (S.winR ca af nl (fun (j : Nat) => tl (j + al)) (fun (j : Nat) => vl (j + al))
 (fun (j : Nat) => gl (j + al)) ov re fz f0 e0)) ∧
 List.length
 (Prod.snd
 (S.winR ca af nl (fun (j : Nat) => tl (j + al)) (fun (j : Nat) => vl (j + al))
 (fun (j : Nat) => gl (j + al)) ov re fz f0 e0)) ≤
 1000000 ∧
 0 +
 (0 +
 List.length
 (Prod.snd
 (S.winR ca af
 (List.length (S.mkl nl fun (j : Nat) => (tl (j + al), vl (j + al), gl (j + al))))
 (fun (j : Nat) =>
 Prod.fst
 (S.at' (S.mkl nl fun (j : Nat) => (tl (j + al), vl (j + al), gl (j + al))) j))
 (fun (j : Nat) =>
 Prod.fst
 (Prod.snd
 (S.at' (S.mkl nl fun (j : Nat) => (tl (j + al), vl (j + al), gl (j + al))) j)))
 (fun (j : Nat) =>
 Prod.snd
 (Prod.snd
 (S.at' (S.mkl nl fun (j : Nat) => (tl (j + al), vl (j + al), gl (j + al))) j)))
 ov re fz f0 t0))) ≤
 0 +
 List.length
 (Prod.snd
 (S.winR ca af
 (List.length (S.mkl nl fun (j : Nat) => (tl (j + al), vl (j + al), gl (j + al))))
 (fun (j : Nat) =>
 (S.at' (S.mkl nl fun (j : Nat) => (tl (j + al), vl (j + al), gl (j + al))) j).1)
 (fun (j : Nat) =>
 Prod.fst
 (Prod.snd
 (S.at' (S.mkl nl fun (j : Nat) => (tl (j + al), vl (j + al), gl (j + al))) j)))
 (fun (j : Nat) =>
 Prod.snd
 (Prod.snd
 (S.at' (S.mkl nl fun (j : Nat) => (tl (j + al), vl (j + al), gl (j + al))) j)))
 ov re fz f0 t0)) ∧
 0 +
 List.length
 (Prod.snd
 (S.winR ca af
 (List.length (S.mkl nl fun (j : Nat) => (tl (j + al), vl (j + al), gl (j + al))))
 (fun (j : Nat) =>
 (S.at' (S.mkl nl fun (j : Nat) => (tl (j + al), vl (j + al), gl (j + al))) j).1)
 (fun (j : Nat) =>
 Prod.fst
 (Prod.snd
 (S.at' (S.mkl nl fun (j : Nat) => (tl (j + al), vl (j + al), gl (j + al))) j)))
 (fun (j : Nat) =>
 Prod.snd
 (Prod.snd
 (S.at' (S.mkl nl fun (j : Nat) => (tl (j + al), vl (j + al), gl (j + al))) j)))
 ov re fz f0 t0)) ≤
 1000000))
 (test (decide
 ((S.mkl
 (List.length
 (Prod.snd
 (S.winR ca af nl (fun (j : Nat) => tl (j + al)) (fun (j : Nat) => vl (j + al))
 (fun (j : Nat) => gl (j + al)) ov re fz f0 e0)))
 fun (j : Nat) =>
 (Prod.fst
 (S.at'
 (Prod.snd
 (S.winR ca af nl (fun (j : Nat) => tl (j + al)) (fun (j : Nat) => vl (j + al))
 (fun (j : Nat) => gl (j + al)) ov re fz f0 e0))
 j),
 Prod.fst
 (Prod.snd
 (S.at'
 (Prod.snd
 (S.winR ca af nl (fun (j : Nat) => tl (j + al)) (fun (j : Nat) => vl (j + al))
 (fun (j : Nat) => gl (j + al)) ov re fz f0 e0))
 j)),
 Prod.snd
 (Prod.snd
 (S.at'
 (Prod.snd
 (S.winR ca af nl (fun (j : Nat) => tl (j + al)) (fun (j : Nat) => vl (j + al))
 (fun (j : Nat) => gl (j + al)) ov re fz f0 e0))
 j)))) =
 S.mkl
 (0 +
 List.length
 (Prod.snd
 (S.winR ca af (List.length (S.mkl nl fun (j : Nat) => (tl (j + al), vl (j + al), gl (j + al))))
 (fun (j : Nat) =>
 (S.at' (S.mkl nl fun (j : Nat) => (tl (j + al), vl (j + al), gl (j + al))) j).1)
 (fun (j : Nat) =>
 Prod.fst
 ((S.at' (S.mkl nl fun (j : Nat) => (tl (j + al), vl (j + al), gl (j + al))) j).2))
 (fun (j : Nat) =>
 Prod.snd
 ((S.at' (S.mkl nl fun (j : Nat) => (tl (j + al), vl (j + al), gl (j + al))) j).2))
 ov re fz f0 t0)))
 fun (j : Nat) =>
 (Prod.fst
 (S.at'
 (Prod.snd
 (S.winR ca af
 (List.length (S.mkl nl fun (j : Nat) => (tl (j + al), vl (j + al), gl (j + al))))
 (fun (j : Nat) =>
 (S.at' (S.mkl nl fun (j : Nat) => (tl (j + al), vl (j + al), gl (j + al))) j).1)
 (fun (j : Nat) =>
 Prod.fst
 (Prod.snd
 (S.at' (S.mkl nl fun (j : Nat) => (tl (j + al), vl (j + al), gl (j + al))) j)))
 (fun (j : Nat) =>
 Prod.snd
 (Prod.snd
 (S.at' (S.mkl nl fun (j : Nat) => (tl (j + al), vl (j + al), gl (j + al))) j)))
 ov re fz f0 t0))
 j),
 Prod.fst
 (Prod.snd
 (S.at'
 (Prod.snd
 (S.winR ca af
 (List.length (S.mkl nl fun (j : Nat) => (tl (j + al), vl (j + al), gl (j + al))))
 (fun (j : Nat) =>
 (S.at' (S.mkl nl fun (j : Nat) => (tl (j + al), vl (j + al), gl (j + al))) j).1)
 (fun (j : Nat) =>
 Prod.fst
 (Prod.snd
 (S.at' (S.mkl nl fun (j : Nat) => (tl (j + al), vl (j + al), gl (j + al))) j)))
 (fun (j : Nat) =>
 Prod.snd
 (Prod.snd
 (S.at' (S.mkl nl fun (j : Nat) => (tl (j + al), vl (j + al), gl (j + al))) j)))
 ov re fz f0 t0))
 j)),
 Prod.snd
 (Prod.snd
 (S.at'
 (Prod.snd
 (S.winR ca af
 (List.length (S.mkl nl fun (j : Nat) => (tl (j + al), vl (j + al), gl (j + al))))
 (fun (j : Nat) =>
 (S.at' (S.mkl nl fun (j : Nat) => (tl (j + al), vl (j + al), gl (j + al))) j).1)
 (fun (j : Nat) =>
 Prod.fst
 (Prod.snd
 (S.at' (S.mkl nl fun (j : Nat) => (tl (j + al), vl (j + al), gl (j + al))) j)))
 (fun (j : Nat) =>
 Prod.snd
 (Prod.snd
 (S.at' (S.mkl nl fun (j : Nat) => (tl (j + al), vl (j + al), gl (j + al))) j)))
 ov re fz f0 t0))
 j)))))
 (Kret (PV.tf true) ([[(0, false,
 Blk.cols ml [Col.int IntKind.i64 tl, Col.int IntKind.i64 vl, Col.bool gl])]]) (18))
 (Kret (PV.tf false) ([[(0, false,
 Blk.cols ml [Col.int IntKind.i64 tl, Col.int IntKind.i64 vl, Col.bool gl])]]) (18)))
 (False)))
 (False))
 (False))
 (False))
 (False))
 (False))
 (test (decide
 (0 +
 List.length
 (Prod.snd
 (S.winR ca af nl (fun (j : Nat) => tl (j + al)) (fun (j : Nat) => vl (j + al))
 (fun (j : Nat) => gl (j + al)) ov re fz f0 e0)) ≤
 List.length
 (Prod.snd
 (S.winR ca af nl (fun (j : Nat) => tl (j + al)) (fun (j : Nat) => vl (j + al))
 (fun (j : Nat) => gl (j + al)) ov re fz f0 e0)) ∧
 List.length
 (Prod.snd
 (S.winR ca af nl (fun (j : Nat) => tl (j + al)) (fun (j : Nat) => vl (j + al))
 (fun (j : Nat) => gl (j + al)) ov re fz f0 e0)) ≤
 1000000 ∧
 0 ≤ 0 ∧ 0 ≤ 1000000))
 (test (decide
 ((S.mkl
 (List.length
 (Prod.snd
 (S.winR ca af nl (fun (j : Nat) => tl (j + al)) (fun (j : Nat) => vl (j + al))
 (fun (j : Nat) => gl (j + al)) ov re fz f0 e0)))
 fun (j : Nat) =>
 (Prod.fst
 (S.at'
 (Prod.snd
 (S.winR ca af nl (fun (j : Nat) => tl (j + al)) (fun (j : Nat) => vl (j + al))
 (fun (j : Nat) => gl (j + al)) ov re fz f0 e0))
 j),
 Prod.fst
 (Prod.snd
 (S.at'
 (Prod.snd
 (S.winR ca af nl (fun (j : Nat) => tl (j + al)) (fun (j : Nat) => vl (j + al))
 (fun (j : Nat) => gl (j + al)) ov re fz f0 e0))
 j)),
 Prod.snd
 (Prod.snd
 (S.at'
 (Prod.snd
 (S.winR ca af nl (fun (j : Nat) => tl (j + al)) (fun (j : Nat) => vl (j + al))
 (fun (j : Nat) => gl (j + al)) ov re fz f0 e0))
 j)))) =
 S.mkl (0) fun (j : Nat) => ((0 : Int), (0 : Int), false)))
 (Kret (PV.tf true) ([[(0, false,
 Blk.cols ml [Col.int IntKind.i64 tl, Col.int IntKind.i64 vl, Col.bool gl])]]) (17))
 (Kret (PV.tf false) ([[(0, false,
 Blk.cols ml [Col.int IntKind.i64 tl, Col.int IntKind.i64 vl, Col.bool gl])]]) (17)))
 (False))))
 (False))
 (False))))
 (False)))
 (False))
 (False))
 (test (false)
 (False)
 (test (true)
 (test (true)
 (test (false)
 (test (true)
 (test (true)
 (test (true)
 (test (true)
 (test (true)
 (test (decide
 (0 +
 List.length
 (Prod.snd
 (S.winR ca af (List.length (S.mkl nl fun (j : Nat) => (tl (j + al), vl (j + al), gl (j + al))))
 (fun (j : Nat) =>
 (S.at' (S.mkl nl fun (j : Nat) => (tl (j + al), vl (j + al), gl (j + al))) j).1)
 (fun (j : Nat) =>
 Prod.fst
 ((S.at' (S.mkl nl fun (j : Nat) => (tl (j + al), vl (j + al), gl (j + al))) j).2))
 (fun (j : Nat) =>
 Prod.snd
 ((S.at' (S.mkl nl fun (j : Nat) => (tl (j + al), vl (j + al), gl (j + al))) j).2))
 ov re fz f0 t0)) ≤
 1000000))
 (test (true)
 (test (decide
 (0 +
 List.length
 (Prod.snd
 (S.winR ca af (List.length (S.mkl nl fun (j : Nat) => (tl (j + al), vl (j + al), gl (j + al))))
 (fun (j : Nat) =>
 (S.at' (S.mkl nl fun (j : Nat) => (tl (j + al), vl (j + al), gl (j + al))) j).1)
 (fun (j : Nat) =>
 Prod.fst
 ((S.at' (S.mkl nl fun (j : Nat) => (tl (j + al), vl (j + al), gl (j + al))) j).2))
 (fun (j : Nat) =>
 Prod.snd
 ((S.at' (S.mkl nl fun (j : Nat) => (tl (j + al), vl (j + al), gl (j + al))) j).2))
 ov re fz f0 t0)) ≤
 List.length
 (Prod.snd
 (S.winR ca af (List.length (S.mkl nl fun (j : Nat) => (tl (j + al), vl (j + al), gl (j + al))))
 (fun (j : Nat) =>
 (S.at' (S.mkl nl fun (j : Nat) => (tl (j + al), vl (j + al), gl (j + al))) j).1)
 (fun (j : Nat) =>
 Prod.fst
 ((S.at' (S.mkl nl fun (j : Nat) => (tl (j + al), vl (j + al), gl (j + al))) j).2))
 (fun (j : Nat) =>
 Prod.snd
 ((S.at' (S.mkl nl fun (j : Nat) => (tl (j + al), vl (j + al), gl (j + al))) j).2))
 ov re fz f0 t0))))
 (test (true)
 (test (true)
 (test (true)
 (test (decide
 (0 +
 List.length
 (Prod.snd
 (S.winR ca af (List.length (S.mkl nl fun (j : Nat) => (tl (j + al), vl (j + al), gl (j + al))))
 (fun (j : Nat) =>
 (S.at' (S.mkl nl fun (j : Nat) => (tl (j + al), vl (j + al), gl (j + al))) j).1)
 (fun (j : Nat) =>
 Prod.fst
 ((S.at' (S.mkl nl fun (j : Nat) => (tl (j + al), vl (j + al), gl (j + al))) j).2))
 (fun (j : Nat) =>
 Prod.snd
 ((S.at' (S.mkl nl fun (j : Nat) => (tl (j + al), vl (j + al), gl (j + al))) j).2))
 ov re fz f0 t0)) +
 List.length
 (Prod.snd
 (S.winR ca af nl (fun (j : Nat) => tl (j + al)) (fun (j : Nat) => vl (j + al))
 (fun (j : Nat) => gl (j + al)) ov re fz t0 e0)) ≤
 1000000))
 (test (decide
 (0 +
 List.length
 (Prod.snd
 (S.winR ca af (List.length (S.mkl nl fun (j : Nat) => (tl (j + al), vl (j + al), gl (j + al))))
 (fun (j : Nat) =>
 (S.at' (S.mkl nl fun (j : Nat) => (tl (j + al), vl (j + al), gl (j + al))) j).1)
 (fun (j : Nat) =>
 Prod.fst
 ((S.at' (S.mkl nl fun (j : Nat) => (tl (j + al), vl (j + al), gl (j + al))) j).2))
 (fun (j : Nat) =>
 Prod.snd
 ((S.at' (S.mkl nl fun (j : Nat) => (tl (j + al), vl (j + al), gl (j + al))) j).2))
 ov re fz f0 t0)) ≤
 0 +
 List.length
 (Prod.snd
 (S.winR ca af (List.length (S.mkl nl fun (j : Nat) => (tl (j + al), vl (j + al), gl (j + al))))
 (fun (j : Nat) =>
 (S.at' (S.mkl nl fun (j : Nat) => (tl (j + al), vl (j + al), gl (j + al))) j).1)
 (fun (j : Nat) =>
 Prod.fst
 ((S.at' (S.mkl nl fun (j : Nat) => (tl (j + al), vl (j + al), gl (j + al))) j).2))
 (fun (j : Nat) =>
 Prod.snd
 ((S.at' (S.mkl nl fun (j : Nat) => (tl (j + al), vl (j + al), gl (j + al))) j).2))
 ov re fz f0 t0))))
 (test (decide
 (0 +
 List.length
 (Prod.snd
 (S.winR ca af nl (fun (j : Nat) => tl (j + al)) (fun (j : Nat) => vl (j + al))
 (fun (j : Nat) => gl (j + al)) ov re fz t0 e0)) ≤
 List.length
 (Prod.snd
 (S.winR ca af nl (fun (j : Nat) => tl (j + al)) (fun (j : Nat) => vl (j + al))
 (fun (j : Nat) => gl (j + al)) ov re fz t0 e0))))
 (test (true)
 (test (false)
 (test (false)
 (False)
 (False))
 (test (decide
 (0 +
 List.length
 (Prod.snd
 (S.winR ca af nl (fun (j : Nat) => tl (j + al)) (fun (j : Nat) => vl (j + al))
 (fun (j : Nat) => gl (j + al)) ov re fz f0 e0)) ≤
 List.length
 (Prod.snd
 (S.winR ca af nl (fun (j : Nat) => tl (j + al)) (fun (j : Nat) => vl (j + al))
 (fun (j : Nat) => gl (j + al)) ov re fz f0 e0)) ∧
 List.length
 (Prod.snd
 (S.winR ca af nl (fun (j : Nat) => tl (j + al)) (fun (j : Nat) => vl (j + al))
 (fun (j : Nat) => gl (j + al)) ov re fz f0 e0)) ≤
 1000000 ∧
 0 +
 (0 +
 List.length
 (Prod.snd
 (S.winR ca af
 (List.length (S.mkl nl fun (j : Nat) => (tl (j + al), vl (j + al), gl (j + al))))
 (fun (j : Nat) =>
 Prod.fst
 (S.at' (S.mkl nl fun (j : Nat) => (tl (j + al), vl (j + al), gl (j + al))) j))
 (fun (j : Nat) =>
 Prod.fst
 (Prod.snd
 (S.at' (S.mkl nl fun (j : Nat) => (tl (j + al), vl (j + al), gl (j + al))) j)))
 (fun (j : Nat) =>
 Prod.snd
 (Prod.snd
 (S.at' (S.mkl nl fun (j : Nat) => (tl (j + al), vl (j + al), gl (j + al))) j)))
 ov re fz f0 t0)) +
 List.length
 (Prod.snd
 (S.winR ca af nl (fun (j : Nat) => tl (j + al)) (fun (j : Nat) => vl (j + al))
 (fun (j : Nat) => gl (j + al)) ov re fz t0 e0))) ≤
 0 +
 List.length
 (Prod.snd
 (S.winR ca af
 (List.length (S.mkl nl fun (j : Nat) => (tl (j + al), vl (j + al), gl (j + al))))
 (fun (j : Nat) =>
 Prod.fst
 (S.at' (S.mkl nl fun (j : Nat) => (tl (j + al), vl (j + al), gl (j + al))) j))
 (fun (j : Nat) =>
 Prod.fst
 (Prod.snd
 (S.at' (S.mkl nl fun (j : Nat) => (tl (j + al), vl (j + al), gl (j + al))) j)))
 (fun (j : Nat) =>
 Prod.snd
 (Prod.snd
 (S.at' (S.mkl nl fun (j : Nat) => (tl (j + al), vl (j + al), gl (j + al))) j)))
 ov re fz f0 t0)) +
 List.length
 (Prod.snd
 (S.winR ca af nl (fun (j : Nat) => tl (j + al)) (fun (j : Nat) => vl (j + al))
 (fun (j : Nat) => gl (j + al)) ov re fz t0 e0)) ∧
 0 +
 List.length
 (Prod.snd
 (S.winR ca af
 (List.length (S.mkl nl fun (j : Nat) => (tl (j + al), vl (j + al), gl (j + al))))
 (fun (j : Nat) =>
 Prod.fst
 (S.at' (S.mkl nl fun (j : Nat) => (tl (j + al), vl (j + al), gl (j + al))) j))
 (fun (j : Nat) =>
 Prod.fst
 (Prod.snd
 (S.at' (S.mkl nl fun (j : Nat) => (tl (j + al), vl (j + al), gl (j + al))) j)))
 (fun (j : Nat) =>
 Prod.snd
 (Prod.snd
 (S.at' (S.mkl nl fun (j : Nat) => (tl (j + al), vl (j + al), gl (j + al))) j)))
 ov re fz f0 t0)) +
 List.length
 (Prod.snd
 (S.winR ca af nl (fun (j : Nat) => tl (j + al)) (fun (j : Nat) => vl (j + al))
 (fun (j : Nat) => gl (j + al)) ov re fz t0 e0)) ≤
 1000000))
 (test (decide
 ((S.mkl
 (List.length
 (Prod.snd
 (S.winR ca af nl (fun (j : Nat) => tl (j + al)) (fun (j : Nat) => vl (j + al))
 (fun (j : Nat) => gl (j + al)) ov re fz f0 e0)))
 fun (j : Nat) =>
 (Prod.fst
 (S.at'
 (Prod.snd
 (S.winR ca af nl (fun (j : Nat) => tl (j + al)) (fun (j : Nat) => vl (j + al))
 (fun (j : Nat) => gl (j + al)) ov re fz f0 e0))
 j),
 Prod.fst
 (Prod.snd
 (S.at'
 (Prod.snd
 (S.winR ca af nl (fun (j : Nat) => tl (j + al)) (fun (j : Nat) => vl (j + al))
 (fun (j : Nat) => gl (j + al)) ov re fz f0 e0))
 j)),
 Prod.snd
 (Prod.snd
 (S.at'
 (Prod.snd
 (S.winR ca af nl (fun (j : Nat) => tl (j + al)) (fun (j : Nat) => vl (j + al))
 (fun (j : Nat) => gl (j + al)) ov re fz f0 e0))
 j)))) =
 S.mkl
 (0 +
 List.length
 (Prod.snd
 (S.winR ca af
 (List.length (S.mkl nl fun (j : Nat) => (tl (j + al), vl (j + al), gl (j + al))))
 (fun (j : Nat) =>
 (S.at' (S.mkl nl fun (j : Nat) => (tl (j + al), vl (j + al), gl (j + al))) j).1)
 (fun (j : Nat) =>
 Prod.fst
 (Prod.snd
 (S.at' (S.mkl nl fun (j : Nat) => (tl (j + al), vl (j + al), gl (j + al))) j)))
 (fun (j : Nat) =>
 Prod.snd
 (Prod.snd
 (S.at' (S.mkl nl fun (j : Nat) => (tl (j + al), vl (j + al), gl (j + al))) j)))
 ov re fz f0 t0)) +
 List.length
 (Prod.snd
 (S.winR ca af nl (fun (j : Nat) => tl (j + al)) (fun (j : Nat) => vl (j + al))
 (fun (j : Nat) => gl (j + al)) ov re fz t0 e0)))
 fun (j : Nat) =>
 (bif
 Nat.blt j
 (0 +
 List.length
 (Prod.snd
 (S.winR ca af
 (List.length (S.mkl nl fun (j : Nat) => (tl (j + al), vl (j + al), gl (j + al))))
 (fun (j : Nat) =>
 Prod.fst
 (S.at' (S.mkl nl fun (j : Nat) => (tl (j + al), vl (j + al), gl (j + al))) j))
 (fun (j : Nat) =>
 Prod.fst
 (Prod.snd
 (S.at' (S.mkl nl fun (j : Nat) => (tl (j + al), vl (j + al), gl (j + al))) j)))
 (fun (j : Nat) =>
 Prod.snd
 (Prod.snd
 (S.at' (S.mkl nl fun (j : Nat) => (tl (j + al), vl (j + al), gl (j + al))) j)))
 ov re fz f0 t0))) then
 bif Nat.blt j (0) then (0 : Int)
 else
 Prod.fst
 (S.at'
 (Prod.snd
 (S.winR ca af
 (List.length (S.mkl nl fun (j : Nat) => (tl (j + al), vl (j + al), gl (j + al))))
 (fun (j : Nat) =>
 Prod.fst
 (S.at' (S.mkl nl fun (j : Nat) => (tl (j + al), vl (j + al), gl (j + al))) j))
 (fun (j : Nat) =>
 Prod.fst
 (Prod.snd
 (S.at' (S.mkl nl fun (j : Nat) => (tl (j + al), vl (j + al), gl (j + al))) j)))
 (fun (j : Nat) =>
 Prod.snd
 (Prod.snd
 (S.at' (S.mkl nl fun (j : Nat) => (tl (j + al), vl (j + al), gl (j + al))) j)))
 ov re fz f0 t0))
 j)
 else
 Prod.fst
 (S.at'
 (Prod.snd
 (S.winR ca af nl (fun (j : Nat) => tl (j + al)) (fun (j : Nat) => vl (j + al))
 (fun (j : Nat) => gl (j + al)) ov re fz t0 e0))
 (j -
 (0 +
 List.length
 (Prod.snd
 (S.winR ca af
 (List.length (S.mkl nl fun (j : Nat) => (tl (j + al), vl (j + al), gl (j + al))))
 (fun (j : Nat) =>
 Prod.fst
 (S.at' (S.mkl nl fun (j : Nat) => (tl (j + al), vl (j + al), gl (j + al))) j))
 (fun (j : Nat) =>
 Prod.fst
 (Prod.snd
 (S.at' (S.mkl nl fun (j : Nat) => (tl (j + al), vl (j + al), gl (j + al)))
 j)))
 (fun (j : Nat) =>
 Prod.snd
 (Prod.snd
 (S.at' (S.mkl nl fun (j : Nat) => (tl (j + al), vl (j + al), gl (j + al)))
 j)))
 ov re fz f0 t0))))),
 bif
 Nat.blt j
 (0 +
 List.length
 (Prod.snd
 (S.winR ca af
 (List.length (S.mkl nl fun (j : Nat) => (tl (j + al), vl (j + al), gl (j + al))))
 (fun (j : Nat) =>
 Prod.fst
 (S.at' (S.mkl nl fun (j : Nat) => (tl (j + al), vl (j + al), gl (j + al))) j))
 (fun (j : Nat) =>
 Prod.fst
 (Prod.snd
 (S.at' (S.mkl nl fun (j : Nat) => (tl (j + al), vl (j + al), gl (j + al))) j)))
 (fun (j : Nat) =>
 Prod.snd
 (Prod.snd
 (S.at' (S.mkl nl fun (j : Nat) => (tl (j + al), vl (j + al), gl (j + al))) j)))
 ov re fz f0 t0))) then
 bif Nat.blt j (0) then (0 : Int)
 else
 Prod.fst
 (Prod.snd
 (S.at'
 (Prod.snd
 (S.winR ca af
 (List.length (S.mkl nl fun (j : Nat) => (tl (j + al), vl (j + al), gl (j + al))))
 (fun (j : Nat) =>
 Prod.fst
 (S.at' (S.mkl nl fun (j : Nat) => (tl (j + al), vl (j + al), gl (j + al))) j))
 (fun (j : Nat) =>
 Prod.fst
 (Prod.snd
 (S.at' (S.mkl nl fun (j : Nat) => (tl (j + al), vl (j + al), gl (j + al))) j)))
 (fun (j : Nat) =>
 Prod.snd
 (Prod.snd
 (S.at' (S.mkl nl fun (j : Nat) => (tl (j + al), vl (j + al), gl (j + al))) j)))
 ov re fz f0 t0))
 j))
 else
 Prod.fst
 (Prod.snd
 (S.at'
 (Prod.snd
 (S.winR ca af nl (fun (j : Nat) => tl (j + al)) (fun (j : Nat) => vl (j + al))
 (fun (j : Nat) => gl (j + al)) ov re fz t0 e0))
 (j -
 (0 +
 List.length
 (Prod.snd
 (S.winR ca af
 (List.length (S.mkl nl fun (j : Nat) => (tl (j + al), vl (j + al), gl (j + al))))
 (fun (j : Nat) =>
 Prod.fst
 (S.at' (S.mkl nl fun (j : Nat) => (tl (j + al), vl (j + al), gl (j + al))) j))
 (fun (j : Nat) =>
 Prod.fst
 (Prod.snd
 (S.at' (S.mkl nl fun (j : Nat) => (tl (j + al), vl (j + al), gl (j + al)))
 j)))
 (fun (j : Nat) =>
 Prod.snd
 (Prod.snd
 (S.at' (S.mkl nl fun (j : Nat) => (tl (j + al), vl (j + al), gl (j + al)))
 j)))
 ov re fz f0 t0)))))),
 bif
 Nat.blt j
 (0 +
 List.length
 (Prod.snd
 (S.winR ca af
 (List.length (S.mkl nl fun (j : Nat) => (tl (j + al), vl (j + al), gl (j + al))))
 (fun (j : Nat) =>
 Prod.fst
 (S.at' (S.mkl nl fun (j : Nat) => (tl (j + al), vl (j + al), gl (j + al))) j))
 (fun (j : Nat) =>
 Prod.fst
 (Prod.snd
 (S.at' (S.mkl nl fun (j : Nat) => (tl (j + al), vl (j + al), gl (j + al))) j)))
 (fun (j : Nat) =>
 Prod.snd
 (Prod.snd
 (S.at' (S.mkl nl fun (j : Nat) => (tl (j + al), vl (j + al), gl (j + al))) j)))
 ov re fz f0 t0))) then
 bif Nat.blt j (0) then false
 else
 Prod.snd
 (Prod.snd
 (S.at'
 (Prod.snd
 (S.winR ca af
 (List.length (S.mkl nl fun (j : Nat) => (tl (j + al), vl (j + al), gl (j + al))))
 (fun (j : Nat) =>
 Prod.fst
 (S.at' (S.mkl nl fun (j : Nat) => (tl (j + al), vl (j + al), gl (j + al))) j))
 (fun (j : Nat) =>
 Prod.fst
 (Prod.snd
 (S.at' (S.mkl nl fun (j : Nat) => (tl (j + al), vl (j + al), gl (j + al))) j)))
 (fun (j : Nat) =>
 Prod.snd
 (Prod.snd
 (S.at' (S.mkl nl fun (j : Nat) => (tl (j + al), vl (j + al), gl (j + al))) j)))
 ov re fz f0 t0))
 j))
 else
 Prod.snd
 (Prod.snd
 (S.at'
 (Prod.snd
 (S.winR ca af nl (fun (j : Nat) => tl (j + al)) (fun (j : Nat) => vl (j + al))
 (fun (j : Nat) => gl (j + al)) ov re fz t0 e0))
 (j -
 (0 +
 List.length
 (Prod.snd
 (S.winR ca af
 (List.length (S.mkl nl fun (j : Nat) => (tl (j + al), vl (j + al), gl (j + al))))
 (fun (j : Nat) =>
 Prod.fst
 (S.at' (S.mkl nl fun (j : Nat) => (tl (j + al), vl (j + al), gl (j + al))) j))
 (fun (j : Nat) =>
 Prod.fst
 (Prod.snd
 (S.at' (S.mkl nl fun (j : Nat) => (tl (j + al), vl (j + al), gl (j + al)))
 j)))
 (fun (j : Nat) =>
 Prod.snd
 (Prod.snd
 (S.at' (S.mkl nl fun (j : Nat) => (tl (j + al), vl (j + al), gl (j + al)))
 j)))
 ov re fz f0 t0)))))))))
 (Kret (PV.tf true) ([[(0, false,
 Blk.cols ml [Col.int IntKind.i64 tl, Col.int IntKind.i64 vl, Col.bool gl])]]) (20))
 (Kret (PV.tf false) ([[(0, false,
 Blk.cols ml [Col.int IntKind.i64 tl, Col.int IntKind.i64 vl, Col.bool gl])]]) (20)))
 (False)))
 (False))
 (False))
 (False))
 (False))
 (False))
 (test (decide
 (0 +
 List.length
 (Prod.snd
 (S.winR ca af nl (fun (j : Nat) => tl (j + al)) (fun (j : Nat) => vl (j + al))
 (fun (j : Nat) => gl (j + al)) ov re fz f0 e0)) ≤
 List.length
 (Prod.snd
 (S.winR ca af nl (fun (j : Nat) => tl (j + al)) (fun (j : Nat) => vl (j + al))
 (fun (j : Nat) => gl (j + al)) ov re fz f0 e0)) ∧
 List.length
 (Prod.snd
 (S.winR ca af nl (fun (j : Nat) => tl (j + al)) (fun (j : Nat) => vl (j + al))
 (fun (j : Nat) => gl (j + al)) ov re fz f0 e0)) ≤
 1000000 ∧
 0 +
 (0 +
 List.length
 (Prod.snd
 (S.winR ca af
 (List.length (S.mkl nl fun (j : Nat) => (tl (j + al), vl (j + al), gl (j + al))))
 (fun (j : Nat) =>
 Prod.fst
 (S.at' (S.mkl nl fun (j : Nat) => (tl (j + al), vl (j + al), gl (j + al))) j))
 (fun (j : Nat) =>
 Prod.fst
 (Prod.snd
 (S.at' (S.mkl nl fun (j : Nat) => (tl (j + al), vl (j + al), gl (j + al))) j)))
 (fun (j : Nat) =>
 Prod.snd
 (Prod.snd
 (S.at' (S.mkl nl fun (j : Nat) => (tl (j + al), vl (j + al), gl (j + al))) j)))
 ov re fz f0 t0))) ≤
 0 +
 List.length
 (Prod.snd
 (S.winR ca af
 (List.length (S.mkl nl fun (j : Nat) => (tl (j + al), vl (j + al), gl (j + al))))
 (fun (j : Nat) =>
 (S.at' (S.mkl nl fun (j : Nat) => (tl (j + al), vl (j + al), gl (j + al))) j).1)
 (fun (j : Nat) =>
 Prod.fst
 (Prod.snd
 (S.at' (S.mkl nl fun (j : Nat) => (tl (j + al), vl (j + al), gl (j + al))) j)))
 (fun (j : Nat) =>
 Prod.snd
 (Prod.snd
 (S.at' (S.mkl nl fun (j : Nat) => (tl (j + al), vl (j + al), gl (j + al))) j)))
 ov re fz f0 t0)) ∧
 0 +
 List.length
 (Prod.snd
 (S.winR ca af
 (List.length (S.mkl nl fun (j : Nat) => (tl (j + al), vl (j + al), gl (j + al))))
 (fun (j : Nat) =>
 (S.at' (S.mkl nl fun (j : Nat) => (tl (j + al), vl (j + al), gl (j + al))) j).1)
 (fun (j : Nat) =>
 Prod.fst
 (Prod.snd
 (S.at' (S.mkl nl fun (j : Nat) => (tl (j + al), vl (j + al), gl (j + al))) j)))
 (fun (j : Nat) =>
 Prod.snd
 (Prod.snd
 (S.at' (S.mkl nl fun (j : Nat) => (tl (j + al), vl (j + al), gl (j + al))) j)))
 ov re fz f0 t0)) ≤
 1000000))
 (test (decide
 ((S.mkl
 (List.length
 (Prod.snd
 (S.winR ca af nl (fun (j : Nat) => tl (j + al)) (fun (j : Nat) => vl (j + al))
 (fun (j : Nat) => gl (j + al)) ov re fz f0 e0)))
 fun (j : Nat) =>
 (Prod.fst
 (S.at'
 (Prod.snd
 (S.winR ca af nl (fun (j : Nat) => tl (j + al)) (fun (j : Nat) => vl (j + al))
 (fun (j : Nat) => gl (j + al)) ov re fz f0 e0))
 j),
 Prod.fst
 (Prod.snd
 (S.at'
 (Prod.snd
 (S.winR ca af nl (fun (j : Nat) => tl (j + al)) (fun (j : Nat) => vl (j + al))
 (fun (j : Nat) => gl (j + al)) ov re fz f0 e0))
 j)),
 Prod.snd
 (Prod.snd
 (S.at'
 (Prod.snd
 (S.winR ca af nl (fun (j : Nat) => tl (j + al)) (fun (j : Nat) => vl (j + al))
 (fun (j : Nat) => gl (j + al)) ov re fz f0 e0))
 j)))) =
 S.mkl
 (0 +
 List.length
 (Prod.snd
 (S.winR ca af (List.length (S.mkl nl fun (j : Nat) => (tl (j + al), vl (j + al), gl (j + al))))
 (fun (j : Nat) =>
 (S.at' (S.mkl nl fun (j : Nat) => (tl (j + al), vl (j + al), gl (j + al))) j).1)
 (fun (j : Nat) =>
 Prod.fst
 ((S.at' (S.mkl nl fun (j : Nat) => (tl (j + al), vl (j + al), gl (j + al))) j).2))
 (fun (j : Nat) =>
 Prod.snd
 ((S.at' (S.mkl nl fun (j : Nat) => (tl (j + al), vl (j + al), gl (j + al))) j).2))
 ov re fz f0 t0)))
 fun (j : Nat) =>
 (bif Nat.blt j (0) then (0 : Int)
 else
 Prod.fst
 (S.at'
 (Prod.snd
 (S.winR ca af
 (List.length (S.mkl nl fun (j : Nat) => (tl (j + al), vl (j + al), gl (j + al))))
 (fun (j : Nat) =>
 (S.at' (S.mkl nl fun (j : Nat) => (tl (j + al), vl (j + al), gl (j + al))) j).1)
 (fun (j : Nat) =>
 Prod.fst
 (Prod.snd
 (S.at' (S.mkl nl fun (j : Nat) => (tl (j + al), vl (j + al), gl (j + al))) j)))
 (fun (j : Nat) =>
 Prod.snd
 (Prod.snd
 (S.at' (S.mkl nl fun (j : Nat) => (tl (j + al), vl (j + al), gl (j + al))) j)))
 ov re fz f0 t0))
 j),
 bif Nat.blt j (0) then (0 : Int)
 else
 Prod.fst
 (Prod.snd
 (S.at'
 (Prod.snd
 (S.winR ca af
 (List.length (S.mkl nl fun (j : Nat) => (tl (j + al), vl (j + al), gl (j + al))))
 (fun (j : Nat) =>
 Prod.fst
 (S.at' (S.mkl nl fun (j : Nat) => (tl (j + al), vl (j + al), gl (j + al))) j))
 (fun (j : Nat) =>
 Prod.fst
 (Prod.snd
 (S.at' (S.mkl nl fun (j : Nat) => (tl (j + al), vl (j + al), gl (j + al))) j)))
 (fun (j : Nat) =>
 Prod.snd
 (Prod.snd
 (S.at' (S.mkl nl fun (j : Nat) => (tl (j + al), vl (j + al), gl (j + al))) j)))
 ov re fz f0 t0))
 j)),
 bif Nat.blt j (0) then false
 else
 Prod.snd
 (Prod.snd
 (S.at'
 (Prod.snd
 (S.winR ca af
 (List.length (S.mkl nl fun (j : Nat) => (tl (j + al), vl (j + al), gl (j + al))))
 (fun (j : Nat) =>
 Prod.fst
 (S.at' (S.mkl nl fun (j : Nat) => (tl (j + al), vl (j + al), gl (j + al))) j))
 (fun (j : Nat) =>
 Prod.fst
 (Prod.snd
 (S.at' (S.mkl nl fun (j : Nat) => (tl (j + al), vl (j + al), gl (j + al))) j)))
 (fun (j : Nat) =>
 Prod.snd
 (Prod.snd
 (S.at' (S.mkl nl fun (j : Nat) => (tl (j + al), vl (j + al), gl (j + al))) j)))
 ov re fz f0 t0))
 j)))))
 (Kret (PV.tf true) ([[(0, false,
 Blk.cols ml [Col.int IntKind.i64 tl, Col.int IntKind.i64 vl, Col.bool gl])]]) (19))
 (Kret (PV.tf false) ([[(0, false,
 Blk.cols ml [Col.int IntKind.i64 tl, Col.int IntKind.i64 vl, Col.bool gl])]]) (19)))
 (False)))
 (False))
 (False))
 (False))
 (False))
 (False))
 (test (decide
 (0 +
 List.length
 (Prod.snd
 (S.winR ca af nl (fun (j : Nat) => tl (j + al)) (fun (j : Nat) => vl (j + al))
 (fun (j : Nat) => gl (j + al)) ov re fz f0 e0)) ≤
 List.length
 (Prod.snd
 (S.winR ca af nl (fun (j : Nat) => tl (j + al)) (fun (j : Nat) => vl (j + al))
 (fun (j : Nat) => gl (j + al)) ov re fz f0 e0)) ∧
 List.length
 (Prod.snd
 (S.winR ca af nl (fun (j : Nat) => tl (j + al)) (fun (j : Nat) => vl (j + al))
 (fun (j : Nat) => gl (j + al)) ov re fz f0 e0)) ≤
 1000000 ∧
 0 ≤ 0 ∧ 0 ≤ 1000000))
 (test (decide
 ((S.mkl
 (List.length
 (Prod.snd
 (S.winR ca af nl (fun (j : Nat) => tl (j + al)) (fun (j : Nat) => vl (j + al))
 (fun (j : Nat) => gl (j + al)) ov re fz f0 e0)))
 fun (j : Nat) =>
 (Prod.fst
 (S.at'
 (Prod.snd
 (S.winR ca af nl (fun (j : Nat) => tl (j + al)) (fun (j : Nat) => vl (j + al))
 (fun (j : Nat) => gl (j + al)) ov re fz f0 e0))
 j),
 Prod.fst
 (Prod.snd
 (S.at'
 (Prod.snd
 (S.winR ca af nl (fun (j : Nat) => tl (j + al)) (fun (j : Nat) => vl (j + al))
 (fun (j : Nat) => gl (j + al)) ov re fz f0 e0))
 j)),
 Prod.snd
 (Prod.snd
 (S.at'
 (Prod.snd
 (S.winR ca af nl (fun (j : Nat) => tl (j + al)) (fun (j : Nat) => vl (j + al))
 (fun (j : Nat) => gl (j + al)) ov re fz f0 e0))
 j)))) =
 S.mkl (0) fun (j : Nat) => ((0 : Int), (0 : Int), false)))
 (Kret (PV.tf true) ([[(0, false,
 Blk.cols ml [Col.int IntKind.i64 tl, Col.int IntKind.i64 vl, Col.bool gl])]]) (18))
 (Kret (PV.tf false) ([[(0, false,
 Blk.cols ml [Col.int IntKind.i64 tl, Col.int IntKind.i64 vl, Col.bool gl])]]) (18)))
 (False)))
 (False))
 (False))
 (False))
 (test (true)
 (test (true)
 (test (decide
 (0 +
 List.length
 (Prod.snd
 (S.winR ca af (List.length (S.mkl nl fun (j : Nat) => (tl (j + al), vl (j + al), gl (j + al))))
 (fun (j : Nat) =>
 (S.at' (S.mkl nl fun (j : Nat) => (tl (j + al), vl (j + al), gl (j + al))) j).1)
 (fun (j : Nat) =>
 Prod.fst
 ((S.at' (S.mkl nl fun (j : Nat) => (tl (j + al), vl (j + al), gl (j + al))) j).2))
 (fun (j : Nat) =>
 Prod.snd
 ((S.at' (S.mkl nl fun (j : Nat) => (tl (j + al), vl (j + al), gl (j + al))) j).2))
 ov re fz f0 t0)) ≤
 1000000))
 (test (true)
 (test (decide
 (0 +
 List.length
 (Prod.snd
 (S.winR ca af (List.length (S.mkl nl fun (j : Nat) => (tl (j + al), vl (j + al), gl (j + al))))
 (fun (j : Nat) =>
 (S.at' (S.mkl nl fun (j : Nat) => (tl (j + al), vl (j + al), gl (j + al))) j).1)
 (fun (j : Nat) =>
 Prod.fst
 ((S.at' (S.mkl nl fun (j : Nat) => (tl (j + al), vl (j + al), gl (j + al))) j).2))
 (fun (j : Nat) =>
 Prod.snd
 ((S.at' (S.mkl nl fun (j : Nat) => (tl (j + al), vl (j + al), gl (j + al))) j).2))
 ov re fz f0 t0)) ≤
 List.length
 (Prod.snd
 (S.winR ca af (List.length (S.mkl nl fun (j : Nat) => (tl (j + al), vl (j + al), gl (j + al))))
 (fun (j : Nat) =>
 (S.at' (S.mkl nl fun (j : Nat) => (tl (j + al), vl (j + al), gl (j + al))) j).1)
 (fun (j : Nat) =>
 Prod.fst
 ((S.at' (S.mkl nl fun (j : Nat) => (tl (j + al), vl (j + al), gl (j + al))) j).2))
 (fun (j : Nat) =>
 Prod.snd
 ((S.at' (S.mkl nl fun (j : Nat) => (tl (j + al), vl (j + al), gl (j + al))) j).2))
 ov re fz f0 t0))))
 (test (true)
 (test (true)
 (test (true)
 (test (decide
 (0 +
 List.length
 (Prod.snd
 (S.winR ca af (List.length (S.mkl nl fun (j : Nat) => (tl (j + al), vl (j + al), gl (j + al))))
 (fun (j : Nat) =>
 (S.at' (S.mkl nl fun (j : Nat) => (tl (j + al), vl (j + al), gl (j + al))) j).1)
 (fun (j : Nat) =>
 Prod.fst
 ((S.at' (S.mkl nl fun (j : Nat) => (tl (j + al), vl (j + al), gl (j + al))) j).2))
 (fun (j : Nat) =>
 Prod.snd
 ((S.at' (S.mkl nl fun (j : Nat) => (tl (j + al), vl (j + al), gl (j + al))) j).2))
 ov re fz f0 t0)) +
 List.length
 (Prod.snd
 (S.winR ca af nl (fun (j : Nat) => tl (j + al)) (fun (j : Nat) => vl (j + al))
 (fun (j : Nat) => gl (j + al)) ov re fz t0 e0)) ≤
 1000000))
 (test (decide
 (0 +
 List.length
 (Prod.snd
 (S.winR ca af (List.length (S.mkl nl fun (j : Nat) => (tl (j + al), vl (j + al), gl (j + al))))
 (fun (j : Nat) =>
 (S.at' (S.mkl nl fun (j : Nat) => (tl (j + al), vl (j + al), gl (j + al))) j).1)
 (fun (j : Nat) =>
 Prod.fst
 ((S.at' (S.mkl nl fun (j : Nat) => (tl (j + al), vl (j + al), gl (j + al))) j).2))
 (fun (j : Nat) =>
 Prod.snd
 ((S.at' (S.mkl nl fun (j : Nat) => (tl (j + al), vl (j + al), gl (j + al))) j).2))
 ov re fz f0 t0)) ≤
 0 +
 List.length
 (Prod.snd
 (S.winR ca af (List.length (S.mkl nl fun (j : Nat) => (tl (j + al), vl (j + al), gl (j + al))))
 (fun (j : Nat) =>
 (S.at' (S.mkl nl fun (j : Nat) => (tl (j + al), vl (j + al), gl (j + al))) j).1)
 (fun (j : Nat) =>
 Prod.fst
 ((S.at' (S.mkl nl fun (j : Nat) => (tl (j + al), vl (j + al), gl (j + al))) j).2))
 (fun (j : Nat) =>
 Prod.snd
 ((S.at' (S.mkl nl fun (j : Nat) => (tl (j + al), vl (j + al), gl (j + al))) j).2))
 ov re fz f0 t0))))
 (test (decide
 (0 +
 List.length
 (Prod.snd
 (S.winR ca af nl (fun (j : Nat) => tl (j + al)) (fun (j : Nat) => vl (j + al))
 (fun (j : Nat) => gl (j + al)) ov re fz t0 e0)) ≤
 List.length
 (Prod.snd
 (S.winR ca af nl (fun (j : Nat) => tl (j + al)) (fun (j : Nat) => vl (j + al))
 (fun (j : Nat) => gl (j + al)) ov re fz t0 e0))))
 (test (true)
 (test (false)
 (test (false)
 (False)
 (False))
 (test (decide
 (0 +
 List.length
 (Prod.snd
 (S.winR ca af nl (fun (j : Nat) => tl (j + al)) (fun (j : Nat) => vl (j + al))
 (fun (j : Nat) => gl (j + al)) ov re fz f0 e0)) ≤
 List.length
 (Prod.snd
 (S.winR ca af nl (fun (j : Nat) => tl (j + al)) (fun (j : Nat) => vl (j + al))
 (fun (j : Nat) => gl (j + al)) ov re fz f0 e0)) ∧
 List.length
 (Prod.snd
 (S.winR ca af nl (fun (j : Nat) => tl (j + al)) (fun (j : Nat) => vl (j + al))
 (fun (j : Nat) => gl (j + al)) ov re fz f0 e0)) ≤
 1000000 ∧
 0 +
 (0 +
 List.length
 (Prod.snd
 (S.winR ca af
 (List.length (S.mkl nl fun (j : Nat) => (tl (j + al), vl (j + al), gl (j + al))))
 (fun (j : Nat) =>
 Prod.fst
 (S.at' (S.mkl nl fun (j : Nat) => (tl (j + al), vl (j + al), gl (j + al))) j))
 (fun (j : Nat) =>
 Prod.fst
 (Prod.snd
 (S.at' (S.mkl nl fun (j : Nat) => (tl (j + al), vl (j + al), gl (j + al))) j)))
 (fun (j : Nat) =>
 Prod.snd
 (Prod.snd
 (S.at' (S.mkl nl fun (j : Nat) => (tl (j + al), vl (j + al), gl (j + al))) j)))
 ov re fz f0 t0)) +
 List.length
 (Prod.snd
 (S.winR ca af nl (fun (j : Nat) => tl (j + al)) (fun (j : Nat) => vl (j + al))
 (fun (j : Nat) => gl (j + al)) ov re fz t0 e0))) ≤
 0 +
 List.length
 (Prod.snd
 (S.winR ca af
 (List.length (S.mkl nl fun (j : Nat) => (tl (j + al), vl (j + al), gl (j + al))))
 (fun (j : Nat) =>
 Prod.fst
 (S.at' (S.mkl nl fun (j : Nat) => (tl (j + al), vl (j + al), gl (j + al))) j))
 (fun (j : Nat) =>
 Prod.fst
 (Prod.snd
 (S.at' (S.mkl nl fun (j : Nat) => (tl (j + al), vl (j + al), gl (j + al))) j)))
 (fun (j : Nat) =>
 Prod.snd
 (Prod.snd
 (S.at' (S.mkl nl fun (j : Nat) => (tl (j + al), vl (j + al), gl (j + al))) j)))
 ov re fz f0 t0)) +
 List.length
 (Prod.snd
 (S.winR ca af nl (fun (j : Nat) => tl (j + al)) (fun (j : Nat) => vl (j + al))
 (fun (j : Nat) => gl (j + al)) ov re fz t0 e0)) ∧
 0 +
 List.length
 (Prod.snd
 (S.winR ca af
 (List.length (S.mkl nl fun (j : Nat) => (tl (j + al), vl (j + al), gl (j + al))))
 (fun (j : Nat) =>
 Prod.fst
 (S.at' (S.mkl nl fun (j : Nat) => (tl (j + al), vl (j + al), gl (j + al))) j))
 (fun (j : Nat) =>
 Prod.fst
 (Prod.snd
 (S.at' (S.mkl nl fun (j : Nat) => (tl (j + al), vl (j + al), gl (j + al))) j)))
 (fun (j : Nat) =>
 Prod.snd
 (Prod.snd
 (S.at' (S.mkl nl fun (j : Nat) => (tl (j + al), vl (j + al), gl (j + al))) j)))
 ov re fz f0 t0)) +
 List.length
 (Prod.snd
 (S.winR ca af nl (fun (j : Nat) => tl (j + al)) (fun (j : Nat) => vl (j + al))
 (fun (j : Nat) => gl (j + al)) ov re fz t0 e0)) ≤
 1000000))
 (test (decide
 ((S.mkl
 (List.length
 (Prod.snd
 (S.winR ca af nl (fun (j : Nat) => tl (j + al)) (fun (j : Nat) => vl (j + al))
 (fun (j : Nat) => gl (j + al)) ov re fz f0 e0)))
 fun (j : Nat) =>
 (Prod.fst
 (S.at'
 (Prod.snd
 (S.winR ca af nl (fun (j : Nat) => tl (j + al)) (fun (j : Nat) => vl (j + al))
 (fun (j : Nat) => gl (j + al)) ov re fz f0 e0))
 j),
 Prod.fst
 (Prod.snd
 (S.at'
 (Prod.snd
 (S.winR ca af nl (fun (j : Nat) => tl (j + al)) (fun (j : Nat) => vl (j + al))
 (fun (j : Nat) => gl (j + al)) ov re fz f0 e0))
 j)),
 Prod.snd
 (Prod.snd
 (S.at'
 (Prod.snd
 (S.winR ca af nl (fun (j : Nat) => tl (j + al)) (fun (j : Nat) => vl (j + al))
 (fun (j : Nat) => gl (j + al)) ov re fz f0 e0))
 j)))) =
 S.mkl
 (0 +
 List.length
 (Prod.snd
 (S.winR ca af
 (List.length (S.mkl nl fun (j : Nat) => (tl (j + al), vl (j + al), gl (j + al))))
 (fun (j : Nat) =>
 (S.at' (S.mkl nl fun (j : Nat) => (tl (j + al), vl (j + al), gl (j + al))) j).1)
 (fun (j : Nat) =>
 Prod.fst
 (Prod.snd
 (S.at' (S.mkl nl fun (j : Nat) => (tl (j + al), vl (j + al), gl (j + al))) j)))
 (fun (j : Nat) =>
 Prod.snd
 (Prod.snd
 (S.at' (S.mkl nl fun (j : Nat) => (tl (j + al), vl (j + al), gl (j + al))) j)))
 ov re fz f0 t0)) +
 List.length
 (Prod.snd
 (S.winR ca af nl (fun (j : Nat) => tl (j + al)) (fun (j : Nat) => vl (j + al))
 (fun (j : Nat) => gl (j + al)) ov re fz t0 e0)))
 fun (j : Nat) =>
 (bif
 Nat.blt j
 (0 +
 List.length
 (Prod.snd
 (S.winR ca af
 (List.length (S.mkl nl fun (j : Nat) => (tl (j + al), vl (j + al), gl (j + al))))
 (fun (j : Nat) =>
 Prod.fst
 (S.at' (S.mkl nl fun (j : Nat) => (tl (j + al), vl (j + al), gl (j + al))) j))
 (fun (j : Nat) =>
 Prod.fst
 (Prod.snd
 (S.at' (S.mkl nl fun (j : Nat) => (tl (j + al), vl (j + al), gl (j + al))) j)))
 (fun (j : Nat) =>
 Prod.snd
 (Prod.snd
 (S.at' (S.mkl nl fun (j : Nat) => (tl (j + al), vl (j + al), gl (j + al))) j)))
 ov re fz f0 t0))) then
 Prod.fst
 (S.at'
 (Prod.snd
 (S.winR ca af
 (List.length (S.mkl nl fun (j : Nat) => (tl (j + al), vl (j + al), gl (j + al))))
 (fun (j : Nat) =>
 (S.at' (S.mkl nl fun (j : Nat) => (tl (j + al), vl (j + al), gl (j + al))) j).1)
 (fun (j : Nat) =>
 Prod.fst
 (Prod.snd
 (S.at' (S.mkl nl fun (j : Nat) => (tl (j + al), vl (j + al), gl (j + al))) j)))
 (fun (j : Nat) =>
 Prod.snd
 (Prod.snd
 (S.at' (S.mkl nl fun (j : Nat) => (tl (j + al), vl (j + al), gl (j + al))) j)))
 ov re fz f0 t0))
 j)
 else
 Prod.fst
 (S.at'
 (Prod.snd
 (S.winR ca af nl (fun (j : Nat) => tl (j + al)) (fun (j : Nat) => vl (j + al))
 (fun (j : Nat) => gl (j + al)) ov re fz t0 e0))
 (j -
 (0 +
 List.length
 (Prod.snd
 (S.winR ca af
 (List.length (S.mkl nl fun (j : Nat) => (tl (j + al), vl (j + al), gl (j + al))))
 (fun (j : Nat) =>
 Prod.fst
 (S.at' (S.mkl nl fun (j : Nat) => (tl (j + al), vl (j + al), gl (j + al))) j))
 (fun (j : Nat) =>
 Prod.fst
 (Prod.snd
 (S.at' (S.mkl nl fun (j : Nat) => (tl (j + al), vl (j + al), gl (j + al)))
 j)))
 (fun (j : Nat) =>
 Prod.snd
 (Prod.snd
 (S.at' (S.mkl nl fun (j : Nat) => (tl (j + al), vl (j + al), gl (j + al)))
 j)))
 ov re fz f0 t0))))),
 bif
 Nat.blt j
 (0 +
 List.length
 (Prod.snd
 (S.winR ca af
 (List.length (S.mkl nl fun (j : Nat) => (tl (j + al), vl (j + al), gl (j + al))))
 (fun (j : Nat) =>
 Prod.fst
 (S.at' (S.mkl nl fun (j : Nat) => (tl (j + al), vl (j + al), gl (j + al))) j))
 (fun (j : Nat) =>
 Prod.fst
 (Prod.snd
 (S.at' (S.mkl nl fun (j : Nat) => (tl (j + al), vl (j + al), gl (j + al))) j)))
 (fun (j : Nat) =>
 Prod.snd
 (Prod.snd
 (S.at' (S.mkl nl fun (j : Nat) => (tl (j + al), vl (j + al), gl (j + al))) j)))
 ov re fz f0 t0))) then
 Prod.fst
 (Prod.snd
 (S.at'
 (Prod.snd
 (S.winR ca af
 (List.length (S.mkl nl fun (j : Nat) => (tl (j + al), vl (j + al), gl (j + al))))
 (fun (j : Nat) =>
 Prod.fst
 (S.at' (S.mkl nl fun (j : Nat) => (tl (j + al), vl (j + al), gl (j + al))) j))
 (fun (j : Nat) =>
 Prod.fst
 (Prod.snd
 (S.at' (S.mkl nl fun (j : Nat) => (tl (j + al), vl (j + al), gl (j + al))) j)))
 (fun (j : Nat) =>
 Prod.snd
 (Prod.snd
 (S.at' (S.mkl nl fun (j : Nat) => (tl (j + al), vl (j + al), gl (j + al))) j)))
 ov re fz f0 t0))
 j))
 else
 Prod.fst
 (Prod.snd
 (S.at'
 (Prod.snd
 (S.winR ca af nl (fun (j : Nat) => tl (j + al)) (fun (j : Nat) => vl (j + al))
 (fun (j : Nat) => gl (j + al)) ov re fz t0 e0))
 (j -
 (0 +
 List.length
 (Prod.snd
 (S.winR ca af
 (List.length (S.mkl nl fun (j : Nat) => (tl (j + al), vl (j + al), gl (j + al))))
 (fun (j : Nat) =>
 Prod.fst
 (S.at' (S.mkl nl fun (j : Nat) => (tl (j + al), vl (j + al), gl (j + al))) j))
 (fun (j : Nat) =>
 Prod.fst
 (Prod.snd
 (S.at' (S.mkl nl fun (j : Nat) => (tl (j + al), vl (j + al), gl (j + al)))
 j)))
 (fun (j : Nat) =>
 Prod.snd
 (Prod.snd
 (S.at' (S.mkl nl fun (j : Nat) => (tl (j + al), vl (j + al), gl (j + al)))
 j)))
 ov re fz f0 t0)))))),
 bif
 Nat.blt j
 (0 +
 List.length
 (Prod.snd
 (S.winR ca af
 (List.length (S.mkl nl fun (j : Nat) => (tl (j + al), vl (j + al), gl (j + al))))
 (fun (j : Nat) =>
 Prod.fst
 (S.at' (S.mkl nl fun (j : Nat) => (tl (j + al), vl (j + al), gl (j + al))) j))
 (fun (j : Nat) =>
 Prod.fst
 (Prod.snd
 (S.at' (S.mkl nl fun (j : Nat) => (tl (j + al), vl (j + al), gl (j + al))) j)))
 (fun (j : Nat) =>
 Prod.snd
 (Prod.snd
 (S.at' (S.mkl nl fun (j : Nat) => (tl (j + al), vl (j + al), gl (j + al))) j)))
 ov re fz f0 t0))) then
 Prod.snd
 (Prod.snd
 (S.at'
 (Prod.snd
 (S.winR ca af
 (List.length (S.mkl nl fun (j : Nat) => (tl (j + al), vl (j + al), gl (j + al))))
 (fun (j : Nat) =>
 Prod.fst
 (S.at' (S.mkl nl fun (j : Nat) => (tl (j + al), vl (j + al), gl (j + al))) j))
 (fun (j : Nat) =>
 Prod.fst
 (Prod.snd
 (S.at' (S.mkl nl fun (j : Nat) => (tl (j + al), vl (j + al), gl (j + al))) j)))
 (fun (j : Nat) =>
 Prod.snd
 (Prod.snd
 (S.at' (S.mkl nl fun (j : Nat) => (tl (j + al), vl (j + al), gl (j + al))) j)))
 ov re fz f0 t0))
 j))
 else
 Prod.snd
 (Prod.snd
 (S.at'
 (Prod.snd
 (S.winR ca af nl (fun (j : Nat) => tl (j + al)) (fun (j : Nat) => vl (j + al))
 (fun (j : Nat) => gl (j + al)) ov re fz t0 e0))
 (j -
 (0 +
 List.length
 (Prod.snd
 (S.winR ca af
 (List.length (S.mkl nl fun (j : Nat) => (tl (j + al), vl (j + al), gl (j + al))))
 (fun (j : Nat) =>
 Prod.fst
 (S.at' (S.mkl nl fun (j : Nat) => (tl (j + al), vl (j + al), gl (j + al))) j))
 (fun (j : Nat) =>
 Prod.fst
 (Prod.snd
 (S.at' (S.mkl nl fun (j : Nat) => (tl (j + al), vl (j + al), gl (j + al)))
 j)))
 (fun (j : Nat) =>
 Prod.snd
 (Prod.snd
 (S.at' (S.mkl nl fun (j : Nat) => (tl (j + al), vl (j + al), gl (j + al)))
 j)))
 ov re fz f0 t0)))))))))
 (Kret (PV.tf true) ([[(0, false,
 Blk.cols ml [Col.int IntKind.i64 tl, Col.int IntKind.i64 vl, Col.bool gl])]]) (19))
 (Kret (PV.tf false) ([[(0, false,
 Blk.cols ml [Col.int IntKind.i64 tl, Col.int IntKind.i64 vl, Col.bool gl])]]) (19)))
 (False)))
 (False))
 (False))
 (False))
 (False))
 (False))
 (test (decide
 (0 +
 List.length
 (Prod.snd
 (S.winR ca af nl (fun (j : Nat) => tl (j + al)) (fun (j : Nat) => vl (j + al))
 (fun (j : Nat) => gl (j + al)) ov re fz f0 e0)) ≤
 List.length
 (Prod.snd
 (S.winR ca af nl (fun (j : Nat) => tl (j + al)) (fun (j : Nat) => vl (j + al))
 (fun (j : Nat) => gl (j + al)) ov re fz f0 e0)) ∧
 List.length
 (Prod.snd
 (S.winR ca af nl (fun (j : Nat) => tl (j + al)) (fun (j : Nat) => vl (j + al))
 (fun (j : Nat) => gl (j + al)) ov re fz f0 e0)) ≤
 1000000 ∧
 0 +
 (0 +
 List.length
 (Prod.snd
 (S.winR ca af
 (List.length (S.mkl nl fun (j : Nat) => (tl (j + al), vl (j + al), gl (j + al))))
 (fun (j : Nat) =>
 Prod.fst
 (S.at' (S.mkl nl fun (j : Nat) => (tl (j + al), vl (j + al), gl (j + al))) j))
 (fun (j : Nat) =>
 Prod.fst
 (Prod.snd
 (S.at' (S.mkl nl fun (j : Nat) => (tl (j + al), vl (j + al), gl (j + al))) j)))
 (fun (j : Nat) =>
 Prod.snd
 (Prod.snd
 (S.at' (S.mkl nl fun (j : Nat) => (tl (j + al), vl (j + al), gl (j + al))) j)))
 ov re fz f0 t0))) ≤
 0 +
 List.length
 (Prod.snd
 (S.winR ca af
 (List.length (S.mkl nl fun (j : Nat) => (tl (j + al), vl (j + al), gl (j + al))))
 (fun (j : Nat) =>
 (S.at' (S.mkl nl fun (j : Nat) => (tl (j + al), vl (j + al), gl (j + al))) j).1)
 (fun (j : Nat) =>
 Prod.fst
 (Prod.snd
 (S.at' (S.mkl nl fun (j : Nat) => (tl (j + al), vl (j + al), gl (j + al))) j)))
 (fun (j : Nat) =>
 Prod.snd
 (Prod.snd
 (S.at' (S.mkl nl fun (j : Nat) => (tl (j + al), vl (j + al), gl (j + al))) j)))
 ov re fz f0 t0)) ∧
 0 +
 List.length
 (Prod.snd
 (S.winR ca af
 (List.length (S.mkl nl fun (j : Nat) => (tl (j + al), vl (j + al), gl (j + al))))
 (fun (j : Nat) =>
 (S.at' (S.mkl nl fun (j : Nat) => (tl (j + al), vl (j + al), gl (j + al))) j).1)
 (fun (j : Nat) =>
 Prod.fst
 (Prod.snd
 (S.at' (S.mkl nl fun (j : Nat) => (tl (j + al), vl (j + al), gl (j + al))) j)))
 (fun (j : Nat) =>
 Prod.snd
 (Prod.snd
 (S.at' (S.mkl nl fun (j : Nat) => (tl (j + al), vl (j + al), gl (j + al))) j)))
 ov re fz f0 t0)) ≤
 1000000))
 (test (decide
 ((S.mkl
 (List.length
 (Prod.snd
 (S.winR ca af nl (fun (j : Nat) => tl (j + al)) (fun (j : Nat) => vl (j + al))
 (fun (j : Nat) => gl (j + al)) ov re fz f0 e0)))
 fun (j : Nat) =>
 (Prod.fst
 (S.at'
 (Prod.snd
 (S.winR ca af nl (fun (j : Nat) => tl (j + al)) (fun (j : Nat) => vl (j + al))
 (fun (j : Nat) => gl (j + al)) ov re fz f0 e0))
 j),
 Prod.fst
 (Prod.snd
 (S.at'
 (Prod.snd
 (S.winR ca af nl (fun (j : Nat) => tl (j + al)) (fun (j : Nat) => vl (j + al))
 (fun (j : Nat) => gl (j + al)) ov re fz f0 e0))
 j)),
 Prod.snd
 (Prod.snd
 (S.at'
 (Prod.snd
 (S.winR ca af nl (fun (j : Nat) => tl (j + al)) (fun (j : Nat) => vl (j + al))
 (fun (j : Nat) => gl (j + al)) ov re fz f0 e0))
 j)))) =
 S.mkl
 (0 +
 List.length
 (Prod.snd
 (S.winR ca af (List.length (S.mkl nl fun (j : Nat) => (tl (j + al), vl (j + al), gl (j + al))))
 (fun (j : Nat) =>
 (S.at' (S.mkl nl fun (j : Nat) => (tl (j + al), vl (j + al), gl (j + al))) j).1)
 (fun (j : Nat) =>
 Prod.fst
 ((S.at' (S.mkl nl fun (j : Nat) => (tl (j + al), vl (j + al), gl (j + al))) j).2))
 (fun (j : Nat) =>
 Prod.snd
 ((S.at' (S.mkl nl fun (j : Nat) => (tl (j + al), vl (j + al), gl (j + al))) j).2))
 ov re fz f0 t0)))
 fun (j : Nat) =>
 (Prod.fst
 (S.at'
 (Prod.snd
 (S.winR ca af
 (List.length (S.mkl nl fun (j : Nat) => (tl (j + al), vl (j + al), gl (j + al))))
 (fun (j : Nat) =>
 (S.at' (S.mkl nl fun (j : Nat) => (tl (j + al), vl (j + al), gl (j + al))) j).1)
 (fun (j : Nat) =>
 Prod.fst
 (Prod.snd
 (S.at' (S.mkl nl fun (j : Nat) => (tl (j + al), vl (j + al), gl (j + al))) j)))
 (fun (j : Nat) =>
 Prod.snd
 (Prod.snd
 (S.at' (S.mkl nl fun (j : Nat) => (tl (j + al), vl (j + al), gl (j + al))) j)))
 ov re fz f0 t0))
 j),
 Prod.fst
 (Prod.snd
 (S.at'
 (Prod.snd
 (S.winR ca af
 (List.length (S.mkl nl fun (j : Nat) => (tl (j + al), vl (j + al), gl (j + al))))
 (fun (j : Nat) =>
 (S.at' (S.mkl nl fun (j : Nat) => (tl (j + al), vl (j + al), gl (j + al))) j).1)
 (fun (j : Nat) =>
 Prod.fst
 (Prod.snd
 (S.at' (S.mkl nl fun (j : Nat) => (tl (j + al), vl (j + al), gl (j + al))) j)))
 (fun (j : Nat) =>
 Prod.snd
 (Prod.snd
 (S.at' (S.mkl nl fun (j : Nat) => (tl (j + al), vl (j + al), gl (j + al))) j)))
 ov re fz f0 t0))
 j)),
 Prod.snd
 (Prod.snd
 (S.at'
 (Prod.snd
 (S.winR ca af
 (List.length (S.mkl nl fun (j : Nat) => (tl (j + al), vl (j + al), gl (j + al))))
 (fun (j : Nat) =>
 (S.at' (S.mkl nl fun (j : Nat) => (tl (j + al), vl (j + al), gl (j + al))) j).1)
 (fun (j : Nat) =>
 Prod.fst
 (Prod.snd
 (S.at' (S.mkl nl fun (j : Nat) => (tl (j + al), vl (j + al), gl (j + al))) j)))
 (fun (j : Nat) =>
 Prod.snd
 (Prod.snd
 (S.at' (S.mkl nl fun (j : Nat) => (tl (j + al), vl (j + al), gl (j + al))) j)))
 ov re fz f0 t0))
 j)))))
 (Kret (PV.tf true) ([[(0, false,
 Blk.cols ml [Col.int IntKind.i64 tl, Col.int IntKind.i64 vl, Col.bool gl])]]) (18))
 (Kret (PV.tf false) ([[(0, false,
 Blk.cols ml [Col.int IntKind.i64 tl, Col.int IntKind.i64 vl, Col.bool gl])]]) (18)))
 (False)))
 (False))
 (False))
 (False))
 (False))
 (False))
 (test (decide
 (0 +
 List.length
 (Prod.snd
 (S.winR ca af nl (fun (j : Nat) => tl (j + al)) (fun (j : Nat) => vl (j + al))
 (fun (j : Nat) => gl (j + al)) ov re fz f0 e0)) ≤
 List.length
 (Prod.snd
 (S.winR ca af nl (fun (j : Nat) => tl (j + al)) (fun (j : Nat) => vl (j + al))
 (fun (j : Nat) => gl (j + al)) ov re fz f0 e0)) ∧
 List.length
 (Prod.snd
 (S.winR ca af nl (fun (j : Nat) => tl (j + al)) (fun (j : Nat) => vl (j + al))
 (fun (j : Nat) => gl (j + al)) ov re fz f0 e0)) ≤
 1000000 ∧
 0 ≤ 0 ∧ 0 ≤ 1000000))
 (test (decide
 ((S.mkl
 (List.length
 (Prod.snd
 (S.winR ca af nl (fun (j : Nat) => tl (j + al)) (fun (j : Nat) => vl (j + al))
 (fun (j : Nat) => gl (j + al)) ov re fz f0 e0)))
 fun (j : Nat) =>
 (Prod.fst
 (S.at'
 (Prod.snd
 (S.winR ca af nl (fun (j : Nat) => tl (j + al)) (fun (j : Nat) => vl (j + al))
 (fun (j : Nat) => gl (j + al)) ov re fz f0 e0))
 j),
 Prod.fst
 (Prod.snd
 (S.at'
 (Prod.snd
 (S.winR ca af nl (fun (j : Nat) => tl (j + al)) (fun (j : Nat) => vl (j + al))
 (fun (j : Nat) => gl (j + al)) ov re fz f0 e0))
 j)),
 Prod.snd
 (Prod.snd
 (S.at'
 (Prod.snd
 (S.winR ca af nl (fun (j : Nat) => tl (j + al)) (fun (j : Nat) => vl (j + al))
 (fun (j : Nat) => gl (j + al)) ov re fz f0 e0))
 j)))) =
 S.mkl (0) fun (j : Nat) => ((0 : Int), (0 : Int), false)))
 (Kret (PV.tf true) ([[(0, false,
 Blk.cols ml [Col.int IntKind.i64 tl, Col.int IntKind.i64 vl, Col.bool gl])]]) (17))
 (Kret (PV.tf false) ([[(0, false,
 Blk.cols ml [Col.int IntKind.i64 tl, Col.int IntKind.i64 vl, Col.bool gl])]]) (17)))
 (False))))
 (False))
 (False))))
 (Kret (PV.tf false) ([[(0, false,
 Blk.cols ml [Col.int IntKind.i64 tl, Col.int IntKind.i64 vl, Col.bool gl])]]) (15))))
 (False))
 (False)))
 (test (Prod.fst
 (S.winR ca af (List.length (S.mkl nl fun (j : Nat) => (tl (j + al), vl (j + al), gl (j + al))))
 (fun (j : Nat) =>
 (S.at' (S.mkl nl fun (j : Nat) => (tl (j + al), vl (j + al), gl (j + al))) j).1)
 (fun (j : Nat) =>
 (S.at' (S.mkl nl fun (j : Nat) => (tl (j + al), vl (j + al), gl (j + al))) j).2.1)
 (fun (j : Nat) =>
 (S.at' (S.mkl nl fun (j : Nat) => (tl (j + al), vl (j + al), gl (j + al))) j).2.2)
 ov re fz f0 t0) ==
 Prod.fst
 (S.winR ca af nl (fun (j : Nat) => tl (j + al)) (fun (j : Nat) => vl (j + al)) (fun (j : Nat) => gl (j + al))
 ov re fz f0 t0))
 (test (decide
 (0 +
 List.length
 (Prod.snd
 (S.winR ca af (List.length (S.mkl nl fun (j : Nat) => (tl (j + al), vl (j + al), gl (j + al))))
 (fun (j : Nat) =>
 (S.at' (S.mkl nl fun (j : Nat) => (tl (j + al), vl (j + al), gl (j + al))) j).1)
 (fun (j : Nat) =>
 Prod.fst
 ((S.at' (S.mkl nl fun (j : Nat) => (tl (j + al), vl (j + al), gl (j + al))) j).2))
 (fun (j : Nat) =>
 Prod.snd
 ((S.at' (S.mkl nl fun (j : Nat) => (tl (j + al), vl (j + al), gl (j + al))) j).2))
 ov re fz f0 t0)) ≤
 List.length
 (Prod.snd
 (S.winR ca af (List.length (S.mkl nl fun (j : Nat) => (tl (j + al), vl (j + al), gl (j + al))))
 (fun (j : Nat) =>
 (S.at' (S.mkl nl fun (j : Nat) => (tl (j + al), vl (j + al), gl (j + al))) j).1)
 (fun (j : Nat) =>
 Prod.fst
 ((S.at' (S.mkl nl fun (j : Nat) => (tl (j + al), vl (j + al), gl (j + al))) j).2))
 (fun (j : Nat) =>
 Prod.snd
 ((S.at' (S.mkl nl fun (j : Nat) => (tl (j + al), vl (j + al), gl (j + al))) j).2))
 ov re fz f0 t0)) ∧
 List.length
 (Prod.snd
 (S.winR ca af (List.length (S.mkl nl fun (j : Nat) => (tl (j + al), vl (j + al), gl (j + al))))
 (fun (j : Nat) =>
 (S.at' (S.mkl nl fun (j : Nat) => (tl (j + al), vl (j + al), gl (j + al))) j).1)
 (fun (j : Nat) =>
 Prod.fst
 ((S.at' (S.mkl nl fun (j : Nat) => (tl (j + al), vl (j + al), gl (j + al))) j).2))
 (fun (j : Nat) =>
 Prod.snd
 ((S.at' (S.mkl nl fun (j : Nat) => (tl (j + al), vl (j + al), gl (j + al))) j).2))
 ov re fz f0 t0)) ≤
 1000000 ∧
 0 +
 List.length
 (Prod.snd
 (S.winR ca af nl (fun (j : Nat) => tl (j + al)) (fun (j : Nat) => vl (j + al))
 (fun (j : Nat) => gl (j + al)) ov re fz f0 t0)) ≤
 List.length
 (Prod.snd
 (S.winR ca af nl (fun (j : Nat) => tl (j + al)) (fun (j : Nat) => vl (j + al))
 (fun (j : Nat) => gl (j + al)) ov re fz f0 t0)) ∧
 List.length
 (Prod.snd
 (S.winR ca af nl (fun (j : Nat) => tl (j + al)) (fun (j : Nat) => vl (j + al))
 (fun (j : Nat) => gl (j + al)) ov re fz f0 t0)) ≤
 1000000))
 (test (decide
 ((S.mkl
 (List.length
 (Prod.snd
 (S.winR ca af (List.length (S.mkl nl fun (j : Nat) => (tl (j + al), vl (j + al), gl (j + al))))
 (fun (j : Nat) =>
 (S.at' (S.mkl nl fun (j : Nat) => (tl (j + al), vl (j + al), gl (j + al))) j).1)
 (fun (j : Nat) =>
 Prod.fst
 ((S.at' (S.mkl nl fun (j : Nat) => (tl (j + al), vl (j + al), gl (j + al))) j).2))
 (fun (j : Nat) =>
 Prod.snd
 ((S.at' (S.mkl nl fun (j : Nat) => (tl (j + al), vl (j + al), gl (j + al))) j).2))
 ov re fz f0 t0)))
 fun (j : Nat) =>
 (Prod.fst
 (S.at'
 (Prod.snd
 (S.winR ca af
 (List.length (S.mkl nl fun (j : Nat) => (tl (j + al), vl (j + al), gl (j + al))))
 (fun (j : Nat) =>
 (S.at' (S.mkl nl fun (j : Nat) => (tl (j + al), vl (j + al), gl (j + al))) j).1)
 (fun (j : Nat) =>
 Prod.fst
 (Prod.snd
 (S.at' (S.mkl nl fun (j : Nat) => (tl (j + al), vl (j + al), gl (j + al))) j)))
 (fun (j : Nat) =>
 Prod.snd
 (Prod.snd
 (S.at' (S.mkl nl fun (j : Nat) => (tl (j + al), vl (j + al), gl (j + al))) j)))
 ov re fz f0 t0))
 j),
 Prod.fst
 (Prod.snd
 (S.at'
 (Prod.snd
 (S.winR ca af
 (List.length (S.mkl nl fun (j : Nat) => (tl (j + al), vl (j + al), gl (j + al))))
 (fun (j : Nat) =>
 (S.at' (S.mkl nl fun (j : Nat) => (tl (j + al), vl (j + al), gl (j + al))) j).1)
 (fun (j : Nat) =>
 Prod.fst
 (Prod.snd
 (S.at' (S.mkl nl fun (j : Nat) => (tl (j + al), vl (j + al), gl (j + al))) j)))
 (fun (j : Nat) =>
 Prod.snd
 (Prod.snd
 (S.at' (S.mkl nl fun (j : Nat) => (tl (j + al), vl (j + al), gl (j + al))) j)))
 ov re fz f0 t0))
 j)),
 Prod.snd
 (Prod.snd
 (S.at'
 (Prod.snd
 (S.winR ca af
 (List.length (S.mkl nl fun (j : Nat) => (tl (j + al), vl (j + al), gl (j + al))))
 (fun (j : Nat) =>
 (S.at' (S.mkl nl fun (j : Nat) => (tl (j + al), vl (j + al), gl (j + al))) j).1)
 (fun (j : Nat) =>
 Prod.fst
 (Prod.snd
 (S.at' (S.mkl nl fun (j : Nat) => (tl (j + al), vl (j + al), gl (j + al))) j)))
 (fun (j : Nat) =>
 Prod.snd
 (Prod.snd
 (S.at' (S.mkl nl fun (j : Nat) => (tl (j + al), vl (j + al), gl (j + al))) j)))
 ov re fz f0 t0))
 j)))) =
 S.mkl
 (List.length
 (Prod.snd
 (S.winR ca af nl (fun (j : Nat) => tl (j + al)) (fun (j : Nat) => vl (j + al))
 (fun (j : Nat) => gl (j + al)) ov re fz f0 t0)))
 fun (j : Nat) =>
 (Prod.fst
 (S.at'
 (Prod.snd
 (S.winR ca af nl (fun (j : Nat) => tl (j + al)) (fun (j : Nat) => vl (j + al))
 (fun (j : Nat) => gl (j + al)) ov re fz f0 t0))
 j),
 Prod.fst
 (Prod.snd
 (S.at'
 (Prod.snd
 (S.winR ca af nl (fun (j : Nat) => tl (j + al)) (fun (j : Nat) => vl (j + al))
 (fun (j : Nat) => gl (j + al)) ov re fz f0 t0))
 j)),
 Prod.snd
 (Prod.snd
 (S.at'
 (Prod.snd
 (S.winR ca af nl (fun (j : Nat) => tl (j + al)) (fun (j : Nat) => vl (j + al))
 (fun (j : Nat) => gl (j + al)) ov re fz f0 t0))
 j)))))
 (Kret (PV.tf true) ([[(0, false,
 Blk.cols ml [Col.int IntKind.i64 tl, Col.int IntKind.i64 vl, Col.bool gl])]]) (12))
 (Kret (PV.tf false) ([[(0, false,
 Blk.cols ml [Col.int IntKind.i64 tl, Col.int IntKind.i64 vl, Col.bool gl])]]) (12)))
 (False))
 (Kret (PV.tf false) ([[(0, false,
 Blk.cols ml [Col.int IntKind.i64 tl, Col.int IntKind.i64 vl, Col.bool gl])]]) (11))))
 (False)))
 (False))
 (False))
 (False)))
 (test (true)
 (test (true)
 (Kret (PV.tf true) ([[(0, false,
 Blk.cols ml [Col.int IntKind.i64 tl, Col.int IntKind.i64 vl, Col.bool gl])]]) (5))
 (Kret (PV.tf false) ([[(0, false,
 Blk.cols ml [Col.int IntKind.i64 tl, Col.int IntKind.i64 vl, Col.bool gl])]]) (5)))
 (False)))
 (False)
set_option maxRecDepth 100000 in
theorem te5 (test : Bool → Prop → Prop → Prop) (Kst : KS) (Kret : KR) (ca : Int) (af : Int) (al nl ml : Nat) (tl : Nat → Int) (vl : Nat → Int) (gl : Nat → Bool) (ov : Int) (re : Int) (fz : Bool) (f0 : Int) (t0 : Int) (e0 : Int) : run test Try.env true (xH test) true 400 ⟨5, [.cd (mkFn Try.f5).body], argT 0 [.agg [.int .i64 ca, .int .i64 af, .loose ⟨0, 3, al, 0⟩ nl, .int .i64 ov, .int .i64 re, .bool fz], .agg [.int .i64 f0, .int .i64 t0, .int .i64 e0]], [[], [(0, (false, .cols ml [.int .i64 tl, .int .i64 vl, .bool gl]))]], 1⟩ (proj 1 [] Kst Kret) =
  Te5 test Kst Kret ca af al nl ml tl vl gl ov re fz f0 t0 e0 := by kernel_rfl
set_option maxRecDepth 100000 in
theorem be5 (ca : Int) (af : Int) (al nl ml : Nat) (tl : Nat → Int) (vl : Nat → Int) (gl : Nat → Bool) (ov : Int) (re : Int) (fz : Bool) (f0 : Int) (t0 : Int) (e0 : Int) (Kst : KS) (Kret : KR) (x : St5 ⊕ Rt5) (hS : HS 1 400 ((I5 ca af al nl ml tl vl gl ov re fz f0 t0 e0)) Kst x) (hR : HR 1 400 ((V5 ca af al nl ml tl vl gl ov re fz f0 t0 e0)) (fun r => [newL (1 + 1) ((N5 ca af al nl ml tl vl gl ov re fz f0 t0 e0) r) ++ [(0, (false, .cols ml [.int .i64 tl, .int .i64 vl, .bool gl]))]]) Kret x) (h : (bif (decide ((↑nl : Int) > (210 : Int)))
 then (some (.inr (true)))
 else (bif (decide (al + nl ≤ ml ∧ nl ≤ 1000000))
 then (bif (decide
 (0 + List.length (S.mkl nl fun (j : Nat) => (tl (j + al), vl (j + al), gl (j + al))) ≤
 List.length (S.mkl nl fun (j : Nat) => (tl (j + al), vl (j + al), gl (j + al))) ∧
 List.length (S.mkl nl fun (j : Nat) => (tl (j + al), vl (j + al), gl (j + al))) ≤ 999999))
 then (bif (decide (al + nl ≤ ml ∧ nl ≤ 999999))
 then (bif (Prod.fst
 (S.winR ca af (List.length (S.mkl nl fun (j : Nat) => (tl (j + al), vl (j + al), gl (j + al))))
 (fun (j : Nat) =>
 (S.at' (S.mkl nl fun (j : Nat) => (tl (j + al), vl (j + al), gl (j + al))) j).1)
 (fun (j : Nat) =>
 (S.at' (S.mkl nl fun (j : Nat) => (tl (j + al), vl (j + al), gl (j + al))) j).2.1)
 (fun (j : Nat) =>
 (S.at' (S.mkl nl fun (j : Nat) => (tl (j + al), vl (j + al), gl (j + al))) j).2.2)
 ov re fz f0 t0) !=
 Prod.fst
 (S.winR ca af nl (fun (j : Nat) => tl (j + al)) (fun (j : Nat) => vl (j + al)) (fun (j : Nat) => gl (j + al))
 ov re fz f0 t0))
 then (bif (Prod.fst
 (S.winR ca af (List.length (S.mkl nl fun (j : Nat) => (tl (j + al), vl (j + al), gl (j + al))))
 (fun (j : Nat) =>
 (S.at' (S.mkl nl fun (j : Nat) => (tl (j + al), vl (j + al), gl (j + al))) j).1)
 (fun (j : Nat) =>
 (S.at' (S.mkl nl fun (j : Nat) => (tl (j + al), vl (j + al), gl (j + al))) j).2.1)
 (fun (j : Nat) =>
 (S.at' (S.mkl nl fun (j : Nat) => (tl (j + al), vl (j + al), gl (j + al))) j).2.2)
 ov re fz f0 t0) ==
 Prod.fst
 (S.winR ca af nl (fun (j : Nat) => tl (j + al)) (fun (j : Nat) => vl (j + al)) (fun (j : Nat) => gl (j + al))
 ov re fz f0 t0))
 then (bif (decide
 (0 +
 List.length
 (Prod.snd
 (S.winR ca af (List.length (S.mkl nl fun (j : Nat) => (tl (j + al), vl (j + al), gl (j + al))))
 (fun (j : Nat) =>
 (S.at' (S.mkl nl fun (j : Nat) => (tl (j + al), vl (j + al), gl (j + al))) j).1)
 (fun (j : Nat) =>
 Prod.fst
 ((S.at' (S.mkl nl fun (j : Nat) => (tl (j + al), vl (j + al), gl (j + al))) j).2))
 (fun (j : Nat) =>
 Prod.snd
 ((S.at' (S.mkl nl fun (j : Nat) => (tl (j + al), vl (j + al), gl (j + al))) j).2))
 ov re fz f0 t0)) ≤
 List.length
 (Prod.snd
 (S.winR ca af (List.length (S.mkl nl fun (j : Nat) => (tl (j + al), vl (j + al), gl (j + al))))
 (fun (j : Nat) =>
 (S.at' (S.mkl nl fun (j : Nat) => (tl (j + al), vl (j + al), gl (j + al))) j).1)
 (fun (j : Nat) =>
 Prod.fst
 ((S.at' (S.mkl nl fun (j : Nat) => (tl (j + al), vl (j + al), gl (j + al))) j).2))
 (fun (j : Nat) =>
 Prod.snd
 ((S.at' (S.mkl nl fun (j : Nat) => (tl (j + al), vl (j + al), gl (j + al))) j).2))
 ov re fz f0 t0)) ∧
 List.length
 (Prod.snd
 (S.winR ca af (List.length (S.mkl nl fun (j : Nat) => (tl (j + al), vl (j + al), gl (j + al))))
 (fun (j : Nat) =>
 (S.at' (S.mkl nl fun (j : Nat) => (tl (j + al), vl (j + al), gl (j + al))) j).1)
 (fun (j : Nat) =>
 Prod.fst
 ((S.at' (S.mkl nl fun (j : Nat) => (tl (j + al), vl (j + al), gl (j + al))) j).2))
 (fun (j : Nat) =>
 Prod.snd
 ((S.at' (S.mkl nl fun (j : Nat) => (tl (j + al), vl (j + al), gl (j + al))) j).2))
 ov re fz f0 t0)) ≤
 1000000 ∧
 0 +
 List.length
 (Prod.snd
 (S.winR ca af nl (fun (j : Nat) => tl (j + al)) (fun (j : Nat) => vl (j + al))
 (fun (j : Nat) => gl (j + al)) ov re fz f0 t0)) ≤
 List.length
 (Prod.snd
 (S.winR ca af nl (fun (j : Nat) => tl (j + al)) (fun (j : Nat) => vl (j + al))
 (fun (j : Nat) => gl (j + al)) ov re fz f0 t0)) ∧
 List.length
 (Prod.snd
 (S.winR ca af nl (fun (j : Nat) => tl (j + al)) (fun (j : Nat) => vl (j + al))
 (fun (j : Nat) => gl (j + al)) ov re fz f0 t0)) ≤
 1000000))
 then (bif (decide
 ((S.mkl
 (List.length
 (Prod.snd
 (S.winR ca af (List.length (S.mkl nl fun (j : Nat) => (tl (j + al), vl (j + al), gl (j + al))))
 (fun (j : Nat) =>
 (S.at' (S.mkl nl fun (j : Nat) => (tl (j + al), vl (j + al), gl (j + al))) j).1)
 (fun (j : Nat) =>
 Prod.fst
 ((S.at' (S.mkl nl fun (j : Nat) => (tl (j + al), vl (j + al), gl (j + al))) j).2))
 (fun (j : Nat) =>
 Prod.snd
 ((S.at' (S.mkl nl fun (j : Nat) => (tl (j + al), vl (j + al), gl (j + al))) j).2))
 ov re fz f0 t0)))
 fun (j : Nat) =>
 (Prod.fst
 (S.at'
 (Prod.snd
 (S.winR ca af
 (List.length (S.mkl nl fun (j : Nat) => (tl (j + al), vl (j + al), gl (j + al))))
 (fun (j : Nat) =>
 (S.at' (S.mkl nl fun (j : Nat) => (tl (j + al), vl (j + al), gl (j + al))) j).1)
 (fun (j : Nat) =>
 Prod.fst
 (Prod.snd
 (S.at' (S.mkl nl fun (j : Nat) => (tl (j + al), vl (j + al), gl (j + al))) j)))
 (fun (j : Nat) =>
 Prod.snd
 (Prod.snd
 (S.at' (S.mkl nl fun (j : Nat) => (tl (j + al), vl (j + al), gl (j + al))) j)))
 ov re fz f0 t0))
 j),
 Prod.fst
 (Prod.snd
 (S.at'
 (Prod.snd
 (S.winR ca af
 (List.length (S.mkl nl fun (j : Nat) => (tl (j + al), vl (j + al), gl (j + al))))
 (fun (j : Nat) =>
 (S.at' (S.mkl nl fun (j : Nat) => (tl (j + al), vl (j + al), gl (j + al))) j).1)
 (fun (j : Nat) =>
 Prod.fst
 (Prod.snd
 (S.at' (S.mkl nl fun (j : Nat) => (tl (j + al), vl (j + al), gl (j + al))) j)))
 (fun (j : Nat) =>
 Prod.snd
 (Prod.snd
 (S.at' (S.mkl nl fun (j : Nat) => (tl (j + al), vl (j + al), gl (j + al))) j)))
 ov re fz f0 t0))
 j)),
 Prod.snd
 (Prod.snd
 (S.at'
 (Prod.snd
 (S.winR ca af
 (List.length (S.mkl nl fun (j : Nat) => (tl (j + al), vl (j + al), gl (j + al))))
 (fun (j : Nat) =>
 (S.at' (S.mkl nl fun (j : Nat) => (tl (j + al), vl (j + al), gl (j + al))) j).1)
 (fun (j : Nat) =>
 Prod.fst
 (Prod.snd
 (S.at' (S.mkl nl fun (j : Nat) => (tl (j + al), vl (j + al), gl (j + al))) j)))
 (fun (j : Nat) =>
 Prod.snd
 (Prod.snd
 (S.at' (S.mkl nl fun (j : Nat) => (tl (j + al), vl (j + al), gl (j + al))) j)))
 ov re fz f0 t0))
 j)))) =
 S.mkl
 (List.length
 (Prod.snd
 (S.winR ca af nl (fun (j : Nat) => tl (j + al)) (fun (j : Nat) => vl (j + al))
 (fun (j : Nat) => gl (j + al)) ov re fz f0 t0)))
 fun (j : Nat) =>
 (Prod.fst
 (S.at'
 (Prod.snd
 (S.winR ca af nl (fun (j : Nat) => tl (j + al)) (fun (j : Nat) => vl (j + al))
 (fun (j : Nat) => gl (j + al)) ov re fz f0 t0))
 j),
 Prod.fst
 (Prod.snd
 (S.at'
 (Prod.snd
 (S.winR ca af nl (fun (j : Nat) => tl (j + al)) (fun (j : Nat) => vl (j + al))
 (fun (j : Nat) => gl (j + al)) ov re fz f0 t0))
 j)),
 Prod.snd
 (Prod.snd
 (S.at'
 (Prod.snd
 (S.winR ca af nl (fun (j : Nat) => tl (j + al)) (fun (j : Nat) => vl (j + al))
 (fun (j : Nat) => gl (j + al)) ov re fz f0 t0))
 j)))))
 then (some (.inr (true)))
 else (some (.inr (false))))
 else (none))
 else (some (.inr (false))))
 else (bif (decide
 (0 +
 List.length
 (Prod.snd
 (S.winR ca af (List.length (S.mkl nl fun (j : Nat) => (tl (j + al), vl (j + al), gl (j + al))))
 (fun (j : Nat) =>
 (S.at' (S.mkl nl fun (j : Nat) => (tl (j + al), vl (j + al), gl (j + al))) j).1)
 (fun (j : Nat) =>
 Prod.fst
 ((S.at' (S.mkl nl fun (j : Nat) => (tl (j + al), vl (j + al), gl (j + al))) j).2))
 (fun (j : Nat) =>
 Prod.snd
 ((S.at' (S.mkl nl fun (j : Nat) => (tl (j + al), vl (j + al), gl (j + al))) j).2))
 ov re fz f0 t0)) ≤
 List.length
 (Prod.snd
 (S.winR ca af (List.length (S.mkl nl fun (j : Nat) => (tl (j + al), vl (j + al), gl (j + al))))
 (fun (j : Nat) =>
 (S.at' (S.mkl nl fun (j : Nat) => (tl (j + al), vl (j + al), gl (j + al))) j).1)
 (fun (j : Nat) =>
 Prod.fst
 ((S.at' (S.mkl nl fun (j : Nat) => (tl (j + al), vl (j + al), gl (j + al))) j).2))
 (fun (j : Nat) =>
 Prod.snd
 ((S.at' (S.mkl nl fun (j : Nat) => (tl (j + al), vl (j + al), gl (j + al))) j).2))
 ov re fz f0 t0)) ∧
 List.length
 (Prod.snd
 (S.winR ca af (List.length (S.mkl nl fun (j : Nat) => (tl (j + al), vl (j + al), gl (j + al))))
 (fun (j : Nat) =>
 (S.at' (S.mkl nl fun (j : Nat) => (tl (j + al), vl (j + al), gl (j + al))) j).1)
 (fun (j : Nat) =>
 Prod.fst
 ((S.at' (S.mkl nl fun (j : Nat) => (tl (j + al), vl (j + al), gl (j + al))) j).2))
 (fun (j : Nat) =>
 Prod.snd
 ((S.at' (S.mkl nl fun (j : Nat) => (tl (j + al), vl (j + al), gl (j + al))) j).2))
 ov re fz f0 t0)) ≤
 1000000 ∧
 0 +
 List.length
 (Prod.snd
 (S.winR ca af nl (fun (j : Nat) => tl (j + al)) (fun (j : Nat) => vl (j + al))
 (fun (j : Nat) => gl (j + al)) ov re fz f0 t0)) ≤
 List.length
 (Prod.snd
 (S.winR ca af nl (fun (j : Nat) => tl (j + al)) (fun (j : Nat) => vl (j + al))
 (fun (j : Nat) => gl (j + al)) ov re fz f0 t0)) ∧
 List.length
 (Prod.snd
 (S.winR ca af nl (fun (j : Nat) => tl (j + al)) (fun (j : Nat) => vl (j + al))
 (fun (j : Nat) => gl (j + al)) ov re fz f0 t0)) ≤
 1000000))
 then (bif (decide
 ((S.mkl
 (List.length
 (Prod.snd
 (S.winR ca af (List.length (S.mkl nl fun (j : Nat) => (tl (j + al), vl (j + al), gl (j + al))))
 (fun (j : Nat) =>
 (S.at' (S.mkl nl fun (j : Nat) => (tl (j + al), vl (j + al), gl (j + al))) j).1)
 (fun (j : Nat) =>
 Prod.fst
 ((S.at' (S.mkl nl fun (j : Nat) => (tl (j + al), vl (j + al), gl (j + al))) j).2))
 (fun (j : Nat) =>
 Prod.snd
 ((S.at' (S.mkl nl fun (j : Nat) => (tl (j + al), vl (j + al), gl (j + al))) j).2))
 ov re fz f0 t0)))
 fun (j : Nat) =>
 (Prod.fst
 (S.at'
 (Prod.snd
 (S.winR ca af
 (List.length (S.mkl nl fun (j : Nat) => (tl (j + al), vl (j + al), gl (j + al))))
 (fun (j : Nat) =>
 (S.at' (S.mkl nl fun (j : Nat) => (tl (j + al), vl (j + al), gl (j + al))) j).1)
 (fun (j : Nat) =>
 Prod.fst
 (Prod.snd
 (S.at' (S.mkl nl fun (j : Nat) => (tl (j + al), vl (j + al), gl (j + al))) j)))
 (fun (j : Nat) =>
 Prod.snd
 (Prod.snd
 (S.at' (S.mkl nl fun (j : Nat) => (tl (j + al), vl (j + al), gl (j + al))) j)))
 ov re fz f0 t0))
 j),
 Prod.fst
 (Prod.snd
 (S.at'
 (Prod.snd
 (S.winR ca af
 (List.length (S.mkl nl fun (j : Nat) => (tl (j + al), vl (j + al), gl (j + al))))
 (fun (j : Nat) =>
 (S.at' (S.mkl nl fun (j : Nat) => (tl (j + al), vl (j + al), gl (j + al))) j).1)
 (fun (j : Nat) =>
 Prod.fst
 (Prod.snd
 (S.at' (S.mkl nl fun (j : Nat) => (tl (j + al), vl (j + al), gl (j + al))) j)))
 (fun (j : Nat) =>
 Prod.snd
 (Prod.snd
 (S.at' (S.mkl nl fun (j : Nat) => (tl (j + al), vl (j + al), gl (j + al))) j)))
 ov re fz f0 t0))
 j)),
 Prod.snd
 (Prod.snd
 (S.at'
 (Prod.snd
 (S.winR ca af
 (List.length (S.mkl nl fun (j : Nat) => (tl (j + al), vl (j + al), gl (j + al))))
 (fun (j : Nat) =>
 (S.at' (S.mkl nl fun (j : Nat) => (tl (j + al), vl (j + al), gl (j + al))) j).1)
 (fun (j : Nat) =>
 Prod.fst
 (Prod.snd
 (S.at' (S.mkl nl fun (j : Nat) => (tl (j + al), vl (j + al), gl (j + al))) j)))
 (fun (j : Nat) =>
 Prod.snd
 (Prod.snd
 (S.at' (S.mkl nl fun (j : Nat) => (tl (j + al), vl (j + al), gl (j + al))) j)))
 ov re fz f0 t0))
 j)))) =
 S.mkl
 (List.length
 (Prod.snd
 (S.winR ca af nl (fun (j : Nat) => tl (j + al)) (fun (j : Nat) => vl (j + al))
 (fun (j : Nat) => gl (j + al)) ov re fz f0 t0)))
 fun (j : Nat) =>
 (Prod.fst
 (S.at'
 (Prod.snd
 (S.winR ca af nl (fun (j : Nat) => tl (j + al)) (fun (j : Nat) => vl (j + al))
 (fun (j : Nat) => gl (j + al)) ov re fz f0 t0))
 j),
 Prod.fst
 (Prod.snd
 (S.at'
 (Prod.snd
 (S.winR ca af nl (fun (j : Nat) => tl (j + al)) (fun (j : Nat) => vl (j + al))
 (fun (j : Nat) => gl (j + al)) ov re fz f0 t0))
 j)),
 Prod.snd
 (Prod.snd
 (S.at'
 (Prod.snd
 (S.winR ca af nl (fun (j : Nat) => tl (j + al)) (fun (j : Nat) => vl (j + al))
 (fun (j : Nat) => gl (j + al)) ov re fz f0 t0))
 j)))))
 then (bif (Prod.fst
 (S.winR ca af (List.length (S.mkl nl fun (j : Nat) => (tl (j + al), vl (j + al), gl (j + al))))
 (fun (j : Nat) =>
 (S.at' (S.mkl nl fun (j : Nat) => (tl (j + al), vl (j + al), gl (j + al))) j).1)
 (fun (j : Nat) =>
 (S.at' (S.mkl nl fun (j : Nat) => (tl (j + al), vl (j + al), gl (j + al))) j).2.1)
 (fun (j : Nat) =>
 (S.at' (S.mkl nl fun (j : Nat) => (tl (j + al), vl (j + al), gl (j + al))) j).2.2)
 ov re fz f0 t0) !=
 (0 : Int))
 then (bif (Prod.fst
 (S.winR ca af (List.length (S.mkl nl fun (j : Nat) => (tl (j + al), vl (j + al), gl (j + al))))
 (fun (j : Nat) =>
 (S.at' (S.mkl nl fun (j : Nat) => (tl (j + al), vl (j + al), gl (j + al))) j).1)
 (fun (j : Nat) =>
 (S.at' (S.mkl nl fun (j : Nat) => (tl (j + al), vl (j + al), gl (j + al))) j).2.1)
 (fun (j : Nat) =>
 (S.at' (S.mkl nl fun (j : Nat) => (tl (j + al), vl (j + al), gl (j + al))) j).2.2)
 ov re fz f0 t0) ==
 Prod.fst
 (S.winR ca af nl (fun (j : Nat) => tl (j + al)) (fun (j : Nat) => vl (j + al)) (fun (j : Nat) => gl (j + al))
 ov re fz f0 t0))
 then (some (.inr (true)))
 else (some (.inr (false))))
 else (bif (Prod.fst
 (S.winR ca af nl (fun (j : Nat) => tl (j + al)) (fun (j : Nat) => vl (j + al)) (fun (j : Nat) => gl (j + al))
 ov re fz t0 e0) !=
 (0 : Int))
 then (some (.inr (true)))
 else (bif (Prod.fst
 (S.winR ca af nl (fun (j : Nat) => tl (j + al)) (fun (j : Nat) => vl (j + al)) (fun (j : Nat) => gl (j + al))
 ov re fz f0 e0) ==
 (0 : Int))
 then (bif (lim IntKind.i64
 ((0 : Int) +
 (↑(List.length
 (Prod.snd
 (S.winR ca af (List.length (S.mkl nl fun (j : Nat) => (tl (j + al), vl (j + al), gl (j + al))))
 (fun (j : Nat) =>
 (S.at' (S.mkl nl fun (j : Nat) => (tl (j + al), vl (j + al), gl (j + al))) j).1)
 (fun (j : Nat) =>
 Prod.fst
 ((S.at' (S.mkl nl fun (j : Nat) => (tl (j + al), vl (j + al), gl (j + al))) j).2))
 (fun (j : Nat) =>
 Prod.snd
 ((S.at' (S.mkl nl fun (j : Nat) => (tl (j + al), vl (j + al), gl (j + al))) j).2))
 ov re fz f0 t0))) :
 Int)))
 then (bif (decide
 ((0 : Int) +
 (↑(List.length
 (Prod.snd
 (S.winR ca af
 (List.length (S.mkl nl fun (j : Nat) => (tl (j + al), vl (j + al), gl (j + al))))
 (fun (j : Nat) =>
 (S.at' (S.mkl nl fun (j : Nat) => (tl (j + al), vl (j + al), gl (j + al))) j).1)
 (fun (j : Nat) =>
 Prod.fst
 (Prod.snd
 (S.at' (S.mkl nl fun (j : Nat) => (tl (j + al), vl (j + al), gl (j + al))) j)))
 (fun (j : Nat) =>
 Prod.snd
 (Prod.snd
 (S.at' (S.mkl nl fun (j : Nat) => (tl (j + al), vl (j + al), gl (j + al))) j)))
 ov re fz f0 t0))) :
 Int) <
 (0 : Int)))
 then (none)
 else (bif (lim IntKind.i64
 ((0 : Int) +
 (↑(List.length
 (Prod.snd
 (S.winR ca af
 (List.length (S.mkl nl fun (j : Nat) => (tl (j + al), vl (j + al), gl (j + al))))
 (fun (j : Nat) =>
 (S.at' (S.mkl nl fun (j : Nat) => (tl (j + al), vl (j + al), gl (j + al))) j).1)
 (fun (j : Nat) =>
 Prod.fst
 (Prod.snd
 (S.at' (S.mkl nl fun (j : Nat) => (tl (j + al), vl (j + al), gl (j + al))) j)))
 (fun (j : Nat) =>
 Prod.snd
 (Prod.snd
 (S.at' (S.mkl nl fun (j : Nat) => (tl (j + al), vl (j + al), gl (j + al))) j)))
 ov re fz f0 t0))) :
 Int) +
 (↑(List.length
 (Prod.snd
 (S.winR ca af nl (fun (j : Nat) => tl (j + al)) (fun (j : Nat) => vl (j + al))
 (fun (j : Nat) => gl (j + al)) ov re fz t0 e0))) :
 Int)))
 then (bif (decide
 ((0 : Int) +
 (↑(List.length
 (Prod.snd
 (S.winR ca af
 (List.length (S.mkl nl fun (j : Nat) => (tl (j + al), vl (j + al), gl (j + al))))
 (fun (j : Nat) =>
 (S.at' (S.mkl nl fun (j : Nat) => (tl (j + al), vl (j + al), gl (j + al))) j).1)
 (fun (j : Nat) =>
 Prod.fst
 (Prod.snd
 (S.at' (S.mkl nl fun (j : Nat) => (tl (j + al), vl (j + al), gl (j + al))) j)))
 (fun (j : Nat) =>
 Prod.snd
 (Prod.snd
 (S.at' (S.mkl nl fun (j : Nat) => (tl (j + al), vl (j + al), gl (j + al))) j)))
 ov re fz f0 t0))) :
 Int) +
 (↑(List.length
 (Prod.snd
 (S.winR ca af nl (fun (j : Nat) => tl (j + al)) (fun (j : Nat) => vl (j + al))
 (fun (j : Nat) => gl (j + al)) ov re fz t0 e0))) :
 Int) <
 (0 : Int)))
 then (none)
 else (bif (lim IntKind.i64
 ((0 : Int) +
 (↑(List.length
 (Prod.snd
 (S.winR ca af
 (List.length (S.mkl nl fun (j : Nat) => (tl (j + al), vl (j + al), gl (j + al))))
 (fun (j : Nat) =>
 (S.at' (S.mkl nl fun (j : Nat) => (tl (j + al), vl (j + al), gl (j + al))) j).1)
 (fun (j : Nat) =>
 Prod.fst
 (Prod.snd
 (S.at' (S.mkl nl fun (j : Nat) => (tl (j + al), vl (j + al), gl (j + al))) j)))
 (fun (j : Nat) =>
 Prod.snd
 (Prod.snd
 (S.at' (S.mkl nl fun (j : Nat) => (tl (j + al), vl (j + al), gl (j + al))) j)))
 ov re fz f0 t0))) :
 Int) +
 (↑(List.length
 (Prod.snd
 (S.winR ca af nl (fun (j : Nat) => tl (j + al)) (fun (j : Nat) => vl (j + al))
 (fun (j : Nat) => gl (j + al)) ov re fz t0 e0))) :
 Int) -
 (0 : Int)))
 then (bif (decide
 ((0 : Int) +
 (↑(List.length
 (Prod.snd
 (S.winR ca af
 (List.length (S.mkl nl fun (j : Nat) => (tl (j + al), vl (j + al), gl (j + al))))
 (fun (j : Nat) =>
 Prod.fst
 (S.at' (S.mkl nl fun (j : Nat) => (tl (j + al), vl (j + al), gl (j + al))) j))
 (fun (j : Nat) =>
 Prod.fst
 (Prod.snd
 (S.at' (S.mkl nl fun (j : Nat) => (tl (j + al), vl (j + al), gl (j + al))) j)))
 (fun (j : Nat) =>
 Prod.snd
 (Prod.snd
 (S.at' (S.mkl nl fun (j : Nat) => (tl (j + al), vl (j + al), gl (j + al))) j)))
 ov re fz f0 t0))) :
 Int) +
 (↑(List.length
 (Prod.snd
 (S.winR ca af nl (fun (j : Nat) => tl (j + al)) (fun (j : Nat) => vl (j + al))
 (fun (j : Nat) => gl (j + al)) ov re fz t0 e0))) :
 Int) -
 (0 : Int) >
 (0 : Int)))
 then (bif (decide
 ((0 : Int) ≤
 (0 : Int) +
 (↑(List.length
 (Prod.snd
 (S.winR ca af
 (List.length (S.mkl nl fun (j : Nat) => (tl (j + al), vl (j + al), gl (j + al))))
 (fun (j : Nat) =>
 Prod.fst
 (S.at' (S.mkl nl fun (j : Nat) => (tl (j + al), vl (j + al), gl (j + al))) j))
 (fun (j : Nat) =>
 Prod.fst
 (Prod.snd
 (S.at' (S.mkl nl fun (j : Nat) => (tl (j + al), vl (j + al), gl (j + al))) j)))
 (fun (j : Nat) =>
 Prod.snd
 (Prod.snd
 (S.at' (S.mkl nl fun (j : Nat) => (tl (j + al), vl (j + al), gl (j + al))) j)))
 ov re fz f0 t0))) :
 Int) +
 (↑(List.length
 (Prod.snd
 (S.winR ca af nl (fun (j : Nat) => tl (j + al)) (fun (j : Nat) => vl (j + al))
 (fun (j : Nat) => gl (j + al)) ov re fz t0 e0))) :
 Int) -
 (0 : Int) ∧
 (0 : Int) +
 (↑(List.length
 (Prod.snd
 (S.winR ca af
 (List.length (S.mkl nl fun (j : Nat) => (tl (j + al), vl (j + al), gl (j + al))))
 (fun (j : Nat) =>
 Prod.fst
 (S.at' (S.mkl nl fun (j : Nat) => (tl (j + al), vl (j + al), gl (j + al))) j))
 (fun (j : Nat) =>
 Prod.fst
 (Prod.snd
 (S.at' (S.mkl nl fun (j : Nat) => (tl (j + al), vl (j + al), gl (j + al))) j)))
 (fun (j : Nat) =>
 Prod.snd
 (Prod.snd
 (S.at' (S.mkl nl fun (j : Nat) => (tl (j + al), vl (j + al), gl (j + al))) j)))
 ov re fz f0 t0))) :
 Int) +
 (↑(List.length
 (Prod.snd
 (S.winR ca af nl (fun (j : Nat) => tl (j + al)) (fun (j : Nat) => vl (j + al))
 (fun (j : Nat) => gl (j + al)) ov re fz t0 e0))) :
 Int) -
 (0 : Int) ≤
 (1000000 : Int)))
 then (bif (decide
 ((0 : Int) ≤ (0 : Int) ∧
 (0 : Int) ≤
 (↑(Int.toNat
 ((0 : Int) +
 (↑(List.length
 (Prod.snd
 (S.winR ca af
 (List.length (S.mkl nl fun (j : Nat) => (tl (j + al), vl (j + al), gl (j + al))))
 (fun (j : Nat) =>
 Prod.fst
 (S.at' (S.mkl nl fun (j : Nat) => (tl (j + al), vl (j + al), gl (j + al)))
 j))
 (fun (j : Nat) =>
 Prod.fst
 (Prod.snd
 (S.at' (S.mkl nl fun (j : Nat) => (tl (j + al), vl (j + al), gl (j + al)))
 j)))
 (fun (j : Nat) =>
 Prod.snd
 (Prod.snd
 (S.at' (S.mkl nl fun (j : Nat) => (tl (j + al), vl (j + al), gl (j + al)))
 j)))
 ov re fz f0 t0))) :
 Int) +
 (↑(List.length
 (Prod.snd
 (S.winR ca af nl (fun (j : Nat) => tl (j + al)) (fun (j : Nat) => vl (j + al))
 (fun (j : Nat) => gl (j + al)) ov re fz t0 e0))) :
 Int) -
 (0 : Int))) :
 Int)))
 then (bif (decide
 (0 +
 List.length
 (Prod.snd
 (S.winR ca af (List.length (S.mkl nl fun (j : Nat) => (tl (j + al), vl (j + al), gl (j + al))))
 (fun (j : Nat) =>
 (S.at' (S.mkl nl fun (j : Nat) => (tl (j + al), vl (j + al), gl (j + al))) j).1)
 (fun (j : Nat) =>
 Prod.fst
 ((S.at' (S.mkl nl fun (j : Nat) => (tl (j + al), vl (j + al), gl (j + al))) j).2))
 (fun (j : Nat) =>
 Prod.snd
 ((S.at' (S.mkl nl fun (j : Nat) => (tl (j + al), vl (j + al), gl (j + al))) j).2))
 ov re fz f0 t0)) ≤
 1000000))
 then (bif (decide
 (0 ≤
 Int.toNat
 ((0 : Int) +
 (↑(List.length
 (Prod.snd
 (S.winR ca af
 (List.length (S.mkl nl fun (j : Nat) => (tl (j + al), vl (j + al), gl (j + al))))
 (fun (j : Nat) =>
 Prod.fst
 (S.at' (S.mkl nl fun (j : Nat) => (tl (j + al), vl (j + al), gl (j + al))) j))
 (fun (j : Nat) =>
 Prod.fst
 (Prod.snd
 (S.at' (S.mkl nl fun (j : Nat) => (tl (j + al), vl (j + al), gl (j + al))) j)))
 (fun (j : Nat) =>
 Prod.snd
 (Prod.snd
 (S.at' (S.mkl nl fun (j : Nat) => (tl (j + al), vl (j + al), gl (j + al))) j)))
 ov re fz f0 t0))) :
 Int) +
 (↑(List.length
 (Prod.snd
 (S.winR ca af nl (fun (j : Nat) => tl (j + al)) (fun (j : Nat) => vl (j + al))
 (fun (j : Nat) => gl (j + al)) ov re fz t0 e0))) :
 Int) -
 (0 : Int))))
 then (bif (decide
 (0 +
 List.length
 (Prod.snd
 (S.winR ca af (List.length (S.mkl nl fun (j : Nat) => (tl (j + al), vl (j + al), gl (j + al))))
 (fun (j : Nat) =>
 (S.at' (S.mkl nl fun (j : Nat) => (tl (j + al), vl (j + al), gl (j + al))) j).1)
 (fun (j : Nat) =>
 Prod.fst
 ((S.at' (S.mkl nl fun (j : Nat) => (tl (j + al), vl (j + al), gl (j + al))) j).2))
 (fun (j : Nat) =>
 Prod.snd
 ((S.at' (S.mkl nl fun (j : Nat) => (tl (j + al), vl (j + al), gl (j + al))) j).2))
 ov re fz f0 t0)) ≤
 List.length
 (Prod.snd
 (S.winR ca af (List.length (S.mkl nl fun (j : Nat) => (tl (j + al), vl (j + al), gl (j + al))))
 (fun (j : Nat) =>
 (S.at' (S.mkl nl fun (j : Nat) => (tl (j + al), vl (j + al), gl (j + al))) j).1)
 (fun (j : Nat) =>
 Prod.fst
 ((S.at' (S.mkl nl fun (j : Nat) => (tl (j + al), vl (j + al), gl (j + al))) j).2))
 (fun (j : Nat) =>
 Prod.snd
 ((S.at' (S.mkl nl fun (j : Nat) => (tl (j + al), vl (j + al), gl (j + al))) j).2))
 ov re fz f0 t0))))
 then (bif (decide
 (0 +
 List.length
 (Prod.snd
 (S.winR ca af (List.length (S.mkl nl fun (j : Nat) => (tl (j + al), vl (j + al), gl (j + al))))
 (fun (j : Nat) =>
 (S.at' (S.mkl nl fun (j : Nat) => (tl (j + al), vl (j + al), gl (j + al))) j).1)
 (fun (j : Nat) =>
 Prod.fst
 ((S.at' (S.mkl nl fun (j : Nat) => (tl (j + al), vl (j + al), gl (j + al))) j).2))
 (fun (j : Nat) =>
 Prod.snd
 ((S.at' (S.mkl nl fun (j : Nat) => (tl (j + al), vl (j + al), gl (j + al))) j).2))
 ov re fz f0 t0)) +
 List.length
 (Prod.snd
 (S.winR ca af nl (fun (j : Nat) => tl (j + al)) (fun (j : Nat) => vl (j + al))
 (fun (j : Nat) => gl (j + al)) ov re fz t0 e0)) ≤
 1000000))
 then (bif (decide
 (0 +
 List.length
 (Prod.snd
 (S.winR ca af (List.length (S.mkl nl fun (j : Nat) => (tl (j + al), vl (j + al), gl (j + al))))
 (fun (j : Nat) =>
 (S.at' (S.mkl nl fun (j : Nat) => (tl (j + al), vl (j + al), gl (j + al))) j).1)
 (fun (j : Nat) =>
 Prod.fst
 ((S.at' (S.mkl nl fun (j : Nat) => (tl (j + al), vl (j + al), gl (j + al))) j).2))
 (fun (j : Nat) =>
 Prod.snd
 ((S.at' (S.mkl nl fun (j : Nat) => (tl (j + al), vl (j + al), gl (j + al))) j).2))
 ov re fz f0 t0)) ≤
 0 +
 List.length
 (Prod.snd
 (S.winR ca af (List.length (S.mkl nl fun (j : Nat) => (tl (j + al), vl (j + al), gl (j + al))))
 (fun (j : Nat) =>
 (S.at' (S.mkl nl fun (j : Nat) => (tl (j + al), vl (j + al), gl (j + al))) j).1)
 (fun (j : Nat) =>
 Prod.fst
 ((S.at' (S.mkl nl fun (j : Nat) => (tl (j + al), vl (j + al), gl (j + al))) j).2))
 (fun (j : Nat) =>
 Prod.snd
 ((S.at' (S.mkl nl fun (j : Nat) => (tl (j + al), vl (j + al), gl (j + al))) j).2))
 ov re fz f0 t0))))
 then (bif (decide
 (0 +
 List.length
 (Prod.snd
 (S.winR ca af nl (fun (j : Nat) => tl (j + al)) (fun (j : Nat) => vl (j + al))
 (fun (j : Nat) => gl (j + al)) ov re fz t0 e0)) ≤
 List.length
 (Prod.snd
 (S.winR ca af nl (fun (j : Nat) => tl (j + al)) (fun (j : Nat) => vl (j + al))
 (fun (j : Nat) => gl (j + al)) ov re fz t0 e0))))
 then (bif (decide
 (0 +
 List.length
 (Prod.snd
 (S.winR ca af nl (fun (j : Nat) => tl (j + al)) (fun (j : Nat) => vl (j + al))
 (fun (j : Nat) => gl (j + al)) ov re fz f0 e0)) ≤
 List.length
 (Prod.snd
 (S.winR ca af nl (fun (j : Nat) => tl (j + al)) (fun (j : Nat) => vl (j + al))
 (fun (j : Nat) => gl (j + al)) ov re fz f0 e0)) ∧
 List.length
 (Prod.snd
 (S.winR ca af nl (fun (j : Nat) => tl (j + al)) (fun (j : Nat) => vl (j + al))
 (fun (j : Nat) => gl (j + al)) ov re fz f0 e0)) ≤
 1000000 ∧
 0 +
 (0 +
 List.length
 (Prod.snd
 (S.winR ca af
 (List.length (S.mkl nl fun (j : Nat) => (tl (j + al), vl (j + al), gl (j + al))))
 (fun (j : Nat) =>
 Prod.fst
 (S.at' (S.mkl nl fun (j : Nat) => (tl (j + al), vl (j + al), gl (j + al))) j))
 (fun (j : Nat) =>
 Prod.fst
 (Prod.snd
 (S.at' (S.mkl nl fun (j : Nat) => (tl (j + al), vl (j + al), gl (j + al))) j)))
 (fun (j : Nat) =>
 Prod.snd
 (Prod.snd
 (S.at' (S.mkl nl fun (j : Nat) => (tl (j + al), vl (j + al), gl (j + al))) j)))
 ov re fz f0 t0)) +
 List.length
 (Prod.snd
 (S.winR ca af nl (fun (j : Nat) => tl (j + al)) (fun (j : Nat) => vl (j + al))
 (fun (j : Nat) => gl (j + al)) ov re fz t0 e0))) ≤
 0 +
 List.length
 (Prod.snd
 (S.winR ca af
 (List.length (S.mkl nl fun (j : Nat) => (tl (j + al), vl (j + al), gl (j + al))))
 (fun (j : Nat) =>
 Prod.fst
 (S.at' (S.mkl nl fun (j : Nat) => (tl (j + al), vl (j + al), gl (j + al))) j))
 (fun (j : Nat) =>
 Prod.fst
 (Prod.snd
 (S.at' (S.mkl nl fun (j : Nat) => (tl (j + al), vl (j + al), gl (j + al))) j)))
 (fun (j : Nat) =>
 Prod.snd
 (Prod.snd
 (S.at' (S.mkl nl fun (j : Nat) => (tl (j + al), vl (j + al), gl (j + al))) j)))
 ov re fz f0 t0)) +
 List.length
 (Prod.snd
 (S.winR ca af nl (fun (j : Nat) => tl (j + al)) (fun (j : Nat) => vl (j + al))
 (fun (j : Nat) => gl (j + al)) ov re fz t0 e0)) ∧
 0 +
 List.length
 (Prod.snd
 (S.winR ca af
 (List.length (S.mkl nl fun (j : Nat) => (tl (j + al), vl (j + al), gl (j + al))))
 (fun (j : Nat) =>
 Prod.fst
 (S.at' (S.mkl nl fun (j : Nat) => (tl (j + al), vl (j + al), gl (j + al))) j))
 (fun (j : Nat) =>
 Prod.fst
 (Prod.snd
 (S.at' (S.mkl nl fun (j : Nat) => (tl (j + al), vl (j + al), gl (j + al))) j)))
 (fun (j : Nat) =>
 Prod.snd
 (Prod.snd
 (S.at' (S.mkl nl fun (j : Nat) => (tl (j + al), vl (j + al), gl (j + al))) j)))
 ov re fz f0 t0)) +
 List.length
 (Prod.snd
 (S.winR ca af nl (fun (j : Nat) => tl (j + al)) (fun (j : Nat) => vl (j + al))
 (fun (j : Nat) => gl (j + al)) ov re fz t0 e0)) ≤
 1000000))
 then (bif (decide
 ((S.mkl
 (List.length
 (Prod.snd
 (S.winR ca af nl (fun (j : Nat) => tl (j + al)) (fun (j : Nat) => vl (j + al))
 (fun (j : Nat) => gl (j + al)) ov re fz f0 e0)))
 fun (j : Nat) =>
 (Prod.fst
 (S.at'
 (Prod.snd
 (S.winR ca af nl (fun (j : Nat) => tl (j + al)) (fun (j : Nat) => vl (j + al))
 (fun (j : Nat) => gl (j + al)) ov re fz f0 e0))
 j),
 Prod.fst
 (Prod.snd
 (S.at'
 (Prod.snd
 (S.winR ca af nl (fun (j : Nat) => tl (j + al)) (fun (j : Nat) => vl (j + al))
 (fun (j : Nat) => gl (j + al)) ov re fz f0 e0))
 j)),
 Prod.snd
 (Prod.snd
 (S.at'
 (Prod.snd
 (S.winR ca af nl (fun (j : Nat) => tl (j + al)) (fun (j : Nat) => vl (j + al))
 (fun (j : Nat) => gl (j + al)) ov re fz f0 e0))
 j)))) =
 S.mkl
 (0 +
 List.length
 (Prod.snd
 (S.winR ca af
 (List.length (S.mkl nl fun (j : Nat) => (tl (j + al), vl (j + al), gl (j + al))))
 (fun (j : Nat) =>
 (S.at' (S.mkl nl fun (j : Nat) => (tl (j + al), vl (j + al), gl (j + al))) j).1)
 (fun (j : Nat) =>
 Prod.fst
 (Prod.snd
 (S.at' (S.mkl nl fun (j : Nat) => (tl (j + al), vl (j + al), gl (j + al))) j)))
 (fun (j : Nat) =>
 Prod.snd
 (Prod.snd
 (S.at' (S.mkl nl fun (j : Nat) => (tl (j + al), vl (j + al), gl (j + al))) j)))
 ov re fz f0 t0)) +
 List.length
 (Prod.snd
 (S.winR ca af nl (fun (j : Nat) => tl (j + al)) (fun (j : Nat) => vl (j + al))
 (fun (j : Nat) => gl (j + al)) ov re fz t0 e0)))
 fun (j : Nat) =>
 (bif
 Nat.blt j
 (0 +
 List.length
 (Prod.snd
 (S.winR ca af
 (List.length (S.mkl nl fun (j : Nat) => (tl (j + al), vl (j + al), gl (j + al))))
 (fun (j : Nat) =>
 Prod.fst
 (S.at' (S.mkl nl fun (j : Nat) => (tl (j + al), vl (j + al), gl (j + al))) j))
 (fun (j : Nat) =>
 Prod.fst
 (Prod.snd
 (S.at' (S.mkl nl fun (j : Nat) => (tl (j + al), vl (j + al), gl (j + al))) j)))
 (fun (j : Nat) =>
 Prod.snd
 (Prod.snd
 (S.at' (S.mkl nl fun (j : Nat) => (tl (j + al), vl (j + al), gl (j + al))) j)))
 ov re fz f0 t0))) then
 bif Nat.blt j (0) then (0 : Int)
 else
 Prod.fst
 (S.at'
 (Prod.snd
 (S.winR ca af
 (List.length (S.mkl nl fun (j : Nat) => (tl (j + al), vl (j + al), gl (j + al))))
 (fun (j : Nat) =>
 Prod.fst
 (S.at' (S.mkl nl fun (j : Nat) => (tl (j + al), vl (j + al), gl (j + al))) j))
 (fun (j : Nat) =>
 Prod.fst
 (Prod.snd
 (S.at' (S.mkl nl fun (j : Nat) => (tl (j + al), vl (j + al), gl (j + al))) j)))
 (fun (j : Nat) =>
 Prod.snd
 (Prod.snd
 (S.at' (S.mkl nl fun (j : Nat) => (tl (j + al), vl (j + al), gl (j + al))) j)))
 ov re fz f0 t0))
 j)
 else
 Prod.fst
 (S.at'
 (Prod.snd
 (S.winR ca af nl (fun (j : Nat) => tl (j + al)) (fun (j : Nat) => vl (j + al))
 (fun (j : Nat) => gl (j + al)) ov re fz t0 e0))
 (j -
 (0 +
 List.length
 (Prod.snd
 (S.winR ca af
 (List.length (S.mkl nl fun (j : Nat) => (tl (j + al), vl (j + al), gl (j + al))))
 (fun (j : Nat) =>
 Prod.fst
 (S.at' (S.mkl nl fun (j : Nat) => (tl (j + al), vl (j + al), gl (j + al))) j))
 (fun (j : Nat) =>
 Prod.fst
 (Prod.snd
 (S.at' (S.mkl nl fun (j : Nat) => (tl (j + al), vl (j + al), gl (j + al)))
 j)))
 (fun (j : Nat) =>
 Prod.snd
 (Prod.snd
 (S.at' (S.mkl nl fun (j : Nat) => (tl (j + al), vl (j + al), gl (j + al)))
 j)))
 ov re fz f0 t0))))),
 bif
 Nat.blt j
 (0 +
 List.length
 (Prod.snd
 (S.winR ca af
 (List.length (S.mkl nl fun (j : Nat) => (tl (j + al), vl (j + al), gl (j + al))))
 (fun (j : Nat) =>
 Prod.fst
 (S.at' (S.mkl nl fun (j : Nat) => (tl (j + al), vl (j + al), gl (j + al))) j))
 (fun (j : Nat) =>
 Prod.fst
 (Prod.snd
 (S.at' (S.mkl nl fun (j : Nat) => (tl (j + al), vl (j + al), gl (j + al))) j)))
 (fun (j : Nat) =>
 Prod.snd
 (Prod.snd
 (S.at' (S.mkl nl fun (j : Nat) => (tl (j + al), vl (j + al), gl (j + al))) j)))
 ov re fz f0 t0))) then
 bif Nat.blt j (0) then (0 : Int)
 else
 Prod.fst
 (Prod.snd
 (S.at'
 (Prod.snd
 (S.winR ca af
 (List.length (S.mkl nl fun (j : Nat) => (tl (j + al), vl (j + al), gl (j + al))))
 (fun (j : Nat) =>
 Prod.fst
 (S.at' (S.mkl nl fun (j : Nat) => (tl (j + al), vl (j + al), gl (j + al))) j))
 (fun (j : Nat) =>
 Prod.fst
 (Prod.snd
 (S.at' (S.mkl nl fun (j : Nat) => (tl (j + al), vl (j + al), gl (j + al))) j)))
 (fun (j : Nat) =>
 Prod.snd
 (Prod.snd
 (S.at' (S.mkl nl fun (j : Nat) => (tl (j + al), vl (j + al), gl (j + al))) j)))
 ov re fz f0 t0))
 j))
 else
 Prod.fst
 (Prod.snd
 (S.at'
 (Prod.snd
 (S.winR ca af nl (fun (j : Nat) => tl (j + al)) (fun (j : Nat) => vl (j + al))
 (fun (j : Nat) => gl (j + al)) ov re fz t0 e0))
 (j -
 (0 +
 List.length
 (Prod.snd
 (S.winR ca af
 (List.length (S.mkl nl fun (j : Nat) => (tl (j + al), vl (j + al), gl (j + al))))
 (fun (j : Nat) =>
 Prod.fst
 (S.at' (S.mkl nl fun (j : Nat) => (tl (j + al), vl (j + al), gl (j + al))) j))
 (fun (j : Nat) =>
 Prod.fst
 (Prod.snd
 (S.at' (S.mkl nl fun (j : Nat) => (tl (j + al), vl (j + al), gl (j + al)))
 j)))
 (fun (j : Nat) =>
 Prod.snd
 (Prod.snd
 (S.at' (S.mkl nl fun (j : Nat) => (tl (j + al), vl (j + al), gl (j + al)))
 j)))
 ov re fz f0 t0)))))),
 bif
 Nat.blt j
 (0 +
 List.length
 (Prod.snd
 (S.winR ca af
 (List.length (S.mkl nl fun (j : Nat) => (tl (j + al), vl (j + al), gl (j + al))))
 (fun (j : Nat) =>
 Prod.fst
 (S.at' (S.mkl nl fun (j : Nat) => (tl (j + al), vl (j + al), gl (j + al))) j))
 (fun (j : Nat) =>
 Prod.fst
 (Prod.snd
 (S.at' (S.mkl nl fun (j : Nat) => (tl (j + al), vl (j + al), gl (j + al))) j)))
 (fun (j : Nat) =>
 Prod.snd
 (Prod.snd
 (S.at' (S.mkl nl fun (j : Nat) => (tl (j + al), vl (j + al), gl (j + al))) j)))
 ov re fz f0 t0))) then
 bif Nat.blt j (0) then false
 else
 Prod.snd
 (Prod.snd
 (S.at'
 (Prod.snd
 (S.winR ca af
 (List.length (S.mkl nl fun (j : Nat) => (tl (j + al), vl (j + al), gl (j + al))))
 (fun (j : Nat) =>
 Prod.fst
 (S.at' (S.mkl nl fun (j : Nat) => (tl (j + al), vl (j + al), gl (j + al))) j))
 (fun (j : Nat) =>
 Prod.fst
 (Prod.snd
 (S.at' (S.mkl nl fun (j : Nat) => (tl (j + al), vl (j + al), gl (j + al))) j)))
 (fun (j : Nat) =>
 Prod.snd
 (Prod.snd
 (S.at' (S.mkl nl fun (j : Nat) => (tl (j + al), vl (j + al), gl (j + al))) j)))
 ov re fz f0 t0))
 j))
 else
 Prod.snd
 (Prod.snd
 (S.at'
 (Prod.snd
 (S.winR ca af nl (fun (j : Nat) => tl (j + al)) (fun (j : Nat) => vl (j + al))
 (fun (j : Nat) => gl (j + al)) ov re fz t0 e0))
 (j -
 (0 +
 List.length
 (Prod.snd
 (S.winR ca af
 (List.length (S.mkl nl fun (j : Nat) => (tl (j + al), vl (j + al), gl (j + al))))
 (fun (j : Nat) =>
 Prod.fst
 (S.at' (S.mkl nl fun (j : Nat) => (tl (j + al), vl (j + al), gl (j + al))) j))
 (fun (j : Nat) =>
 Prod.fst
 (Prod.snd
 (S.at' (S.mkl nl fun (j : Nat) => (tl (j + al), vl (j + al), gl (j + al)))
 j)))
 (fun (j : Nat) =>
 Prod.snd
 (Prod.snd
 (S.at' (S.mkl nl fun (j : Nat) => (tl (j + al), vl (j + al), gl (j + al)))
 j)))
 ov re fz f0 t0)))))))))
 then (some (.inr (true)))
 else (some (.inr (false))))
 else (none))
 else (none))
 else (none))
 else (none))
 else (none))
 else (none))
 else (none))
 else (none))
 else (none))
 else (bif (decide
 (0 +
 List.length
 (Prod.snd
 (S.winR ca af (List.length (S.mkl nl fun (j : Nat) => (tl (j + al), vl (j + al), gl (j + al))))
 (fun (j : Nat) =>
 (S.at' (S.mkl nl fun (j : Nat) => (tl (j + al), vl (j + al), gl (j + al))) j).1)
 (fun (j : Nat) =>
 Prod.fst
 ((S.at' (S.mkl nl fun (j : Nat) => (tl (j + al), vl (j + al), gl (j + al))) j).2))
 (fun (j : Nat) =>
 Prod.snd
 ((S.at' (S.mkl nl fun (j : Nat) => (tl (j + al), vl (j + al), gl (j + al))) j).2))
 ov re fz f0 t0)) ≤
 1000000))
 then (bif (decide
 (0 +
 List.length
 (Prod.snd
 (S.winR ca af (List.length (S.mkl nl fun (j : Nat) => (tl (j + al), vl (j + al), gl (j + al))))
 (fun (j : Nat) =>
 (S.at' (S.mkl nl fun (j : Nat) => (tl (j + al), vl (j + al), gl (j + al))) j).1)
 (fun (j : Nat) =>
 Prod.fst
 ((S.at' (S.mkl nl fun (j : Nat) => (tl (j + al), vl (j + al), gl (j + al))) j).2))
 (fun (j : Nat) =>
 Prod.snd
 ((S.at' (S.mkl nl fun (j : Nat) => (tl (j + al), vl (j + al), gl (j + al))) j).2))
 ov re fz f0 t0)) ≤
 List.length
 (Prod.snd
 (S.winR ca af (List.length (S.mkl nl fun (j : Nat) => (tl (j + al), vl (j + al), gl (j + al))))
 (fun (j : Nat) =>
 (S.at' (S.mkl nl fun (j : Nat) => (tl (j + al), vl (j + al), gl (j + al))) j).1)
 (fun (j : Nat) =>
 Prod.fst
 ((S.at' (S.mkl nl fun (j : Nat) => (tl (j + al), vl (j + al), gl (j + al))) j).2))
 (fun (j : Nat) =>
 Prod.snd
 ((S.at' (S.mkl nl fun (j : Nat) => (tl (j + al), vl (j + al), gl (j + al))) j).2))
 ov re fz f0 t0))))
 then (bif (decide
 (0 +
 List.length
 (Prod.snd
 (S.winR ca af (List.length (S.mkl nl fun (j : Nat) => (tl (j + al), vl (j + al), gl (j + al))))
 (fun (j : Nat) =>
 (S.at' (S.mkl nl fun (j : Nat) => (tl (j + al), vl (j + al), gl (j + al))) j).1)
 (fun (j : Nat) =>
 Prod.fst
 ((S.at' (S.mkl nl fun (j : Nat) => (tl (j + al), vl (j + al), gl (j + al))) j).2))
 (fun (j : Nat) =>
 Prod.snd
 ((S.at' (S.mkl nl fun (j : Nat) => (tl (j + al), vl (j + al), gl (j + al))) j).2))
 ov re fz f0 t0)) +
 List.length
 (Prod.snd
 (S.winR ca af nl (fun (j : Nat) => tl (j + al)) (fun (j : Nat) => vl (j + al))
 (fun (j : Nat) => gl (j + al)) ov re fz t0 e0)) ≤
 1000000))
 then (bif (decide
 (0 +
 List.length
 (Prod.snd
 (S.winR ca af (List.length (S.mkl nl fun (j : Nat) => (tl (j + al), vl (j + al), gl (j + al))))
 (fun (j : Nat) =>
 (S.at' (S.mkl nl fun (j : Nat) => (tl (j + al), vl (j + al), gl (j + al))) j).1)
 (fun (j : Nat) =>
 Prod.fst
 ((S.at' (S.mkl nl fun (j : Nat) => (tl (j + al), vl (j + al), gl (j + al))) j).2))
 (fun (j : Nat) =>
 Prod.snd
 ((S.at' (S.mkl nl fun (j : Nat) => (tl (j + al), vl (j + al), gl (j + al))) j).2))
 ov re fz f0 t0)) ≤
 0 +
 List.length
 (Prod.snd
 (S.winR ca af (List.length (S.mkl nl fun (j : Nat) => (tl (j + al), vl (j + al), gl (j + al))))
 (fun (j : Nat) =>
 (S.at' (S.mkl nl fun (j : Nat) => (tl (j + al), vl (j + al), gl (j + al))) j).1)
 (fun (j : Nat) =>
 Prod.fst
 ((S.at' (S.mkl nl fun (j : Nat) => (tl (j + al), vl (j + al), gl (j + al))) j).2))
 (fun (j : Nat) =>
 Prod.snd
 ((S.at' (S.mkl nl fun (j : Nat) => (tl (j + al), vl (j + al), gl (j + al))) j).2))
 ov re fz f0 t0))))
 then (bif (decide
 (0 +
 List.length
 (Prod.snd
 (S.winR ca af nl (fun (j : Nat) => tl (j + al)) (fun (j : Nat) => vl (j + al))
 (fun (j : Nat) => gl (j + al)) ov re fz t0 e0)) ≤
 List.length
 (Prod.snd
 (S.winR ca af nl (fun (j : Nat) => tl (j + al)) (fun (j : Nat) => vl (j + al))
 (fun (j : Nat) => gl (j + al)) ov re fz t0 e0))))
 then (bif (decide
 (0 +
 List.length
 (Prod.snd
 (S.winR ca af nl (fun (j : Nat) => tl (j + al)) (fun (j : Nat) => vl (j + al))
 (fun (j : Nat) => gl (j + al)) ov re fz f0 e0)) ≤
 List.length
 (Prod.snd
 (S.winR ca af nl (fun (j : Nat) => tl (j + al)) (fun (j : Nat) => vl (j + al))
 (fun (j : Nat) => gl (j + al)) ov re fz f0 e0)) ∧
 List.length
 (Prod.snd
 (S.winR ca af nl (fun (j : Nat) => tl (j + al)) (fun (j : Nat) => vl (j + al))
 (fun (j : Nat) => gl (j + al)) ov re fz f0 e0)) ≤
 1000000 ∧
 0 +
 (0 +
 List.length
 (Prod.snd
 (S.winR ca af
 (List.length (S.mkl nl fun (j : Nat) => (tl (j + al), vl (j + al), gl (j + al))))
 (fun (j : Nat) =>
 Prod.fst
 (S.at' (S.mkl nl fun (j : Nat) => (tl (j + al), vl (j + al), gl (j + al))) j))
 (fun (j : Nat) =>
 Prod.fst
 (Prod.snd
 (S.at' (S.mkl nl fun (j : Nat) => (tl (j + al), vl (j + al), gl (j + al))) j)))
 (fun (j : Nat) =>
 Prod.snd
 (Prod.snd
 (S.at' (S.mkl nl fun (j : Nat) => (tl (j + al), vl (j + al), gl (j + al))) j)))
 ov re fz f0 t0)) +
 List.length
 (Prod.snd
 (S.winR ca af nl (fun (j : Nat) => tl (j + al)) (fun (j : Nat) => vl (j + al))
 (fun (j : Nat) => gl (j + al)) ov re fz t0 e0))) ≤
 0 +
 List.length
 (Prod.snd
 (S.winR ca af
 (List.length (S.mkl nl fun (j : Nat) => (tl (j + al), vl (j + al), gl (j + al))))
 (fun (j : Nat) =>
 Prod.fst
 (S.at' (S.mkl nl fun (j : Nat) => (tl (j + al), vl (j + al), gl (j + al))) j))
 (fun (j : Nat) =>
 Prod.fst
 (Prod.snd
 (S.at' (S.mkl nl fun (j : Nat) => (tl (j + al), vl (j + al), gl (j + al))) j)))
 (fun (j : Nat) =>
 Prod.snd
 (Prod.snd
 (S.at' (S.mkl nl fun (j : Nat) => (tl (j + al), vl (j + al), gl (j + al))) j)))
 ov re fz f0 t0)) +
 List.length
 (Prod.snd
 (S.winR ca af nl (fun (j : Nat) => tl (j + al)) (fun (j : Nat) => vl (j + al))
 (fun (j : Nat) => gl (j + al)) ov re fz t0 e0)) ∧
 0 +
 List.length
 (Prod.snd
 (S.winR ca af
 (List.length (S.mkl nl fun (j : Nat) => (tl (j + al), vl (j + al), gl (j + al))))
 (fun (j : Nat) =>
 Prod.fst
 (S.at' (S.mkl nl fun (j : Nat) => (tl (j + al), vl (j + al), gl (j + al))) j))
 (fun (j : Nat) =>
 Prod.fst
 (Prod.snd
 (S.at' (S.mkl nl fun (j : Nat) => (tl (j + al), vl (j + al), gl (j + al))) j)))
 (fun (j : Nat) =>
 Prod.snd
 (Prod.snd
 (S.at' (S.mkl nl fun (j : Nat) => (tl (j + al), vl (j + al), gl (j + al))) j)))
 ov re fz f0 t0)) +
 List.length
 (Prod.snd
 (S.winR ca af nl (fun (j : Nat) => tl (j + al)) (fun (j : Nat) => vl (j + al))
 (fun (j : Nat) => gl (j + al)) ov re fz t0 e0)) ≤
 1000000))
 then (bif (decide
 ((S.mkl
 (List.length
 (Prod.snd
 (S.winR ca af nl (fun (j : Nat) => tl (j + al)) (fun (j : Nat) => vl (j + al))
 (fun (j : Nat) => gl (j + al)) ov re fz f0 e0)))
 fun (j : Nat) =>
 (Prod.fst
 (S.at'
 (Prod.snd
 (S.winR ca af nl (fun (j : Nat) => tl (j + al)) (fun (j : Nat) => vl (j + al))
 (fun (j : Nat) => gl (j + al)) ov re fz f0 e0))
 j),
 Prod.fst
 (Prod.snd
 (S.at'
 (Prod.snd
 (S.winR ca af nl (fun (j : Nat) => tl (j + al)) (fun (j : Nat) => vl (j + al))
 (fun (j : Nat) => gl (j + al)) ov re fz f0 e0))
 j)),
 Prod.snd
 (Prod.snd
 (S.at'
 (Prod.snd
 (S.winR ca af nl (fun (j : Nat) => tl (j + al)) (fun (j : Nat) => vl (j + al))
 (fun (j : Nat) => gl (j + al)) ov re fz f0 e0))
 j)))) =
 S.mkl
 (0 +
 List.length
 (Prod.snd
 (S.winR ca af
 (List.length (S.mkl nl fun (j : Nat) => (tl (j + al), vl (j + al), gl (j + al))))
 (fun (j : Nat) =>
 (S.at' (S.mkl nl fun (j : Nat) => (tl (j + al), vl (j + al), gl (j + al))) j).1)
 (fun (j : Nat) =>
 Prod.fst
 (Prod.snd
 (S.at' (S.mkl nl fun (j : Nat) => (tl (j + al), vl (j + al), gl (j + al))) j)))
 (fun (j : Nat) =>
 Prod.snd
 (Prod.snd
 (S.at' (S.mkl nl fun (j : Nat) => (tl (j + al), vl (j + al), gl (j + al))) j)))
 ov re fz f0 t0)) +
 List.length
 (Prod.snd
 (S.winR ca af nl (fun (j : Nat) => tl (j + al)) (fun (j : Nat) => vl (j + al))
 (fun (j : Nat) => gl (j + al)) ov re fz t0 e0)))
 fun (j : Nat) =>
 (bif
 Nat.blt j
 (0 +
 List.length
 (Prod.snd
 (S.winR ca af
 (List.length (S.mkl nl fun (j : Nat) => (tl (j + al), vl (j + al), gl (j + al))))
 (fun (j : Nat) =>
 Prod.fst
 (S.at' (S.mkl nl fun (j : Nat) => (tl (j + al), vl (j + al), gl (j + al))) j))
 (fun (j : Nat) =>
 Prod.fst
 (Prod.snd
 (S.at' (S.mkl nl fun (j : Nat) => (tl (j + al), vl (j + al), gl (j + al))) j)))
 (fun (j : Nat) =>
 Prod.snd
 (Prod.snd
 (S.at' (S.mkl nl fun (j : Nat) => (tl (j + al), vl (j + al), gl (j + al))) j)))
 ov re fz f0 t0))) then
 Prod.fst
 (S.at'
 (Prod.snd
 (S.winR ca af
 (List.length (S.mkl nl fun (j : Nat) => (tl (j + al), vl (j + al), gl (j + al))))
 (fun (j : Nat) =>
 (S.at' (S.mkl nl fun (j : Nat) => (tl (j + al), vl (j + al), gl (j + al))) j).1)
 (fun (j : Nat) =>
 Prod.fst
 (Prod.snd
 (S.at' (S.mkl nl fun (j : Nat) => (tl (j + al), vl (j + al), gl (j + al))) j)))
 (fun (j : Nat) =>
 Prod.snd
 (Prod.snd
 (S.at' (S.mkl nl fun (j : Nat) => (tl (j + al), vl (j + al), gl (j + al))) j)))
 ov re fz f0 t0))
 j)
 else
 Prod.fst
 (S.at'
 (Prod.snd
 (S.winR ca af nl (fun (j : Nat) => tl (j + al)) (fun (j : Nat) => vl (j + al))
 (fun (j : Nat) => gl (j + al)) ov re fz t0 e0))
 (j -
 (0 +
 List.length
 (Prod.snd
 (S.winR ca af
 (List.length (S.mkl nl fun (j : Nat) => (tl (j + al), vl (j + al), gl (j + al))))
 (fun (j : Nat) =>
 Prod.fst
 (S.at' (S.mkl nl fun (j : Nat) => (tl (j + al), vl (j + al), gl (j + al))) j))
 (fun (j : Nat) =>
 Prod.fst
 (Prod.snd
 (S.at' (S.mkl nl fun (j : Nat) => (tl (j + al), vl (j + al), gl (j + al)))
 j)))
 (fun (j : Nat) =>
 Prod.snd
 (Prod.snd
 (S.at' (S.mkl nl fun (j : Nat) => (tl (j + al), vl (j + al), gl (j + al)))
 j)))
 ov re fz f0 t0))))),
 bif
 Nat.blt j
 (0 +
 List.length
 (Prod.snd
 (S.winR ca af
 (List.length (S.mkl nl fun (j : Nat) => (tl (j + al), vl (j + al), gl (j + al))))
 (fun (j : Nat) =>
 Prod.fst
 (S.at' (S.mkl nl fun (j : Nat) => (tl (j + al), vl (j + al), gl (j + al))) j))
 (fun (j : Nat) =>
 Prod.fst
 (Prod.snd
 (S.at' (S.mkl nl fun (j : Nat) => (tl (j + al), vl (j + al), gl (j + al))) j)))
 (fun (j : Nat) =>
 Prod.snd
 (Prod.snd
 (S.at' (S.mkl nl fun (j : Nat) => (tl (j + al), vl (j + al), gl (j + al))) j)))
 ov re fz f0 t0))) then
 Prod.fst
 (Prod.snd
 (S.at'
 (Prod.snd
 (S.winR ca af
 (List.length (S.mkl nl fun (j : Nat) => (tl (j + al), vl (j + al), gl (j + al))))
 (fun (j : Nat) =>
 Prod.fst
 (S.at' (S.mkl nl fun (j : Nat) => (tl (j + al), vl (j + al), gl (j + al))) j))
 (fun (j : Nat) =>
 Prod.fst
 (Prod.snd
 (S.at' (S.mkl nl fun (j : Nat) => (tl (j + al), vl (j + al), gl (j + al))) j)))
 (fun (j : Nat) =>
 Prod.snd
 (Prod.snd
 (S.at' (S.mkl nl fun (j : Nat) => (tl (j + al), vl (j + al), gl (j + al))) j)))
 ov re fz f0 t0))
 j))
 else
 Prod.fst
 (Prod.snd
 (S.at'
 (Prod.snd
 (S.winR ca af nl (fun (j : Nat) => tl (j + al)) (fun (j : Nat) => vl (j + al))
 (fun (j : Nat) => gl (j + al)) ov re fz t0 e0))
 (j -
 (0 +
 List.length
 (Prod.snd
 (S.winR ca af
 (List.length (S.mkl nl fun (j : Nat) => (tl (j + al), vl (j + al), gl (j + al))))
 (fun (j : Nat) =>
 Prod.fst
 (S.at' (S.mkl nl fun (j : Nat) => (tl (j + al), vl (j + al), gl (j + al))) j))
 (fun (j : Nat) =>
 Prod.fst
 (Prod.snd
 (S.at' (S.mkl nl fun (j : Nat) => (tl (j + al), vl (j + al), gl (j + al)))
 j)))
 (fun (j : Nat) =>
 Prod.snd
 (Prod.snd
 (S.at' (S.mkl nl fun (j : Nat) => (tl (j + al), vl (j + al), gl (j + al)))
 j)))
 ov re fz f0 t0)))))),
 bif
 Nat.blt j
 (0 +
 List.length
 (Prod.snd
 (S.winR ca af
 (List.length (S.mkl nl fun (j : Nat) => (tl (j + al), vl (j + al), gl (j + al))))
 (fun (j : Nat) =>
 Prod.fst
 (S.at' (S.mkl nl fun (j : Nat) => (tl (j + al), vl (j + al), gl (j + al))) j))
 (fun (j : Nat) =>
 Prod.fst
 (Prod.snd
 (S.at' (S.mkl nl fun (j : Nat) => (tl (j + al), vl (j + al), gl (j + al))) j)))
 (fun (j : Nat) =>
 Prod.snd
 (Prod.snd
 (S.at' (S.mkl nl fun (j : Nat) => (tl (j + al), vl (j + al), gl (j + al))) j)))
 ov re fz f0 t0))) then
 Prod.snd
 (Prod.snd
 (S.at'
 (Prod.snd
 (S.winR ca af
 (List.length (S.mkl nl fun (j : Nat) => (tl (j + al), vl (j + al), gl (j + al))))
 (fun (j : Nat) =>
 Prod.fst
 (S.at' (S.mkl nl fun (j : Nat) => (tl (j + al), vl (j + al), gl (j + al))) j))
 (fun (j : Nat) =>
 Prod.fst
 (Prod.snd
 (S.at' (S.mkl nl fun (j : Nat) => (tl (j + al), vl (j + al), gl (j + al))) j)))
 (fun (j : Nat) =>
 Prod.snd
 (Prod.snd
 (S.at' (S.mkl nl fun (j : Nat) => (tl (j + al), vl (j + al), gl (j + al))) j)))
 ov re fz f0 t0))
 j))
 else
 Prod.snd
 (Prod.snd
 (S.at'
 (Prod.snd
 (S.winR ca af nl (fun (j : Nat) => tl (j + al)) (fun (j : Nat) => vl (j + al))
 (fun (j : Nat) => gl (j + al)) ov re fz t0 e0))
 (j -
 (0 +
 List.length
 (Prod.snd
 (S.winR ca af
 (List.length (S.mkl nl fun (j : Nat) => (tl (j + al), vl (j + al), gl (j + al))))
 (fun (j : Nat) =>
 Prod.fst
 (S.at' (S.mkl nl fun (j : Nat) => (tl (j + al), vl (j + al), gl (j + al))) j))
 (fun (j : Nat) =>
 Prod.fst
 (Prod.snd
 (S.at' (S.mkl nl fun (j : Nat) => (tl (j + al), vl (j + al), gl (j + al)))
 j)))
 (fun (j : Nat) =>
 Prod.snd
 (Prod.snd
 (S.at' (S.mkl nl fun (j : Nat) => (tl (j + al), vl (j + al), gl (j + al)))
 j)))
 ov re fz f0 t0)))))))))
 then (some (.inr (true)))
 else (some (.inr (false))))
 else (none))
 else (none))
 else (none))
 else (none))
 else (none))
 else (none)))
 else (none)))
 else (none)))
 else (none))
 else (some (.inr (false))))))
 else (bif (Prod.fst
 (S.winR ca af (List.length (S.mkl nl fun (j : Nat) => (tl (j + al), vl (j + al), gl (j + al))))
 (fun (j : Nat) =>
 (S.at' (S.mkl nl fun (j : Nat) => (tl (j + al), vl (j + al), gl (j + al))) j).1)
 (fun (j : Nat) =>
 (S.at' (S.mkl nl fun (j : Nat) => (tl (j + al), vl (j + al), gl (j + al))) j).2.1)
 (fun (j : Nat) =>
 (S.at' (S.mkl nl fun (j : Nat) => (tl (j + al), vl (j + al), gl (j + al))) j).2.2)
 ov re fz f0 t0) ==
 Prod.fst
 (S.winR ca af nl (fun (j : Nat) => tl (j + al)) (fun (j : Nat) => vl (j + al)) (fun (j : Nat) => gl (j + al))
 ov re fz f0 t0))
 then (some (.inr (false)))
 else (some (.inr (false)))))
 else (none)))
 else (none))
 else (none))
 else (none)) : Option (St5 ⊕ Rt5)) = some x) : Te5 cond Kst Kret ca af al nl ml tl vl gl ov re fz f0 t0 e0 := by
  unfold Te5
  exact cond_yes rfl (cond_yes rfl (bif_split h
   (fun c0 h => cond_yes rfl (cond_yes rfl (ret_at hR _ h (fun n => n) rfl rfl rfl (rn_bool_tf rfl) rfl (entl_bor (use_lo rfl) rfl rfl entl_nil))))
   (fun c0 h => bif_split h
   (fun c1 h => bif_split h
   (fun c2 h => bif_split h
   (fun c3 h => bif_split h
   (fun c4 h => bif_split h
   (fun c5 h => bif_split h
   (fun c6 h => bif_split h
   (fun c7 h => ret_at hR _ h (fun n => n) rfl rfl rfl (rn_bool_tf rfl) rfl (entl_bor (use_lo rfl) rfl rfl entl_nil))
   (fun c7 h => ret_at hR _ h (fun n => n) rfl rfl rfl (rn_bool_tf rfl) rfl (entl_bor (use_lo rfl) rfl rfl entl_nil)))
   (fun c6 h => no_some h))
   (fun c5 h => ret_at hR _ h (fun n => n) rfl rfl rfl (rn_bool_tf rfl) rfl (entl_bor (use_lo rfl) rfl rfl entl_nil)))
   (fun c4 h => bif_split h
   (fun c5 h => bif_split h
   (fun c6 h => bif_split h
   (fun c7 h => bif_split h
   (fun c8 h => cond_yes c5 (cond_yes c6 (ret_at hR _ h (fun n => n) rfl rfl rfl (rn_bool_tf rfl) rfl (entl_bor (use_lo rfl) rfl rfl entl_nil))))
   (fun c8 h => ret_at hR _ h (fun n => n) rfl rfl rfl (rn_bool_tf rfl) rfl (entl_bor (use_lo rfl) rfl rfl entl_nil)))
   (fun c7 h => cond_yes c3 (cond_yes c3 (bif_split h
   (fun c8 h => ret_at hR _ h (fun n => n) rfl rfl rfl (rn_bool_tf rfl) rfl (entl_bor (use_lo rfl) rfl rfl entl_nil))
   (fun c8 h => bif_split h
   (fun c9 h => cond_yes rfl (cond_yes rfl (bif_split h
   (fun c10 h => bif_split h
   (fun c11 h => no_some h)
   (fun c11 h => cond_yes rfl (cond_yes rfl (cond_yes rfl (bif_split h
   (fun c12 h => bif_split h
   (fun c13 h => no_some h)
   (fun c13 h => cond_yes rfl (cond_no rfl (cond_no c13 (cond_yes rfl (bif_split h
   (fun c14 h => bif_split h
   (fun c15 h => cond_yes rfl (bif_split h
   (fun c16 h => bif_split h
   (fun c17 h => cond_yes rfl (cond_yes rfl (bif_split h
   (fun c18 h => bif_split h
   (fun c19 h => bif_split h
   (fun c20 h => cond_yes rfl (cond_yes rfl (cond_yes rfl (bif_split h
   (fun c21 h => bif_split h
   (fun c22 h => bif_split h
   (fun c23 h => cond_yes rfl (cond_no rfl (bif_split h
   (fun c24 h => bif_split h
   (fun c25 h => ret_at hR _ h (fun n => n) rfl rfl rfl (rn_bool_tf rfl) rfl (entl_bor (use_lo rfl) rfl rfl entl_nil))
   (fun c25 h => ret_at hR _ h (fun n => n) rfl rfl rfl (rn_bool_tf rfl) rfl (entl_bor (use_lo rfl) rfl rfl entl_nil)))
   (fun c24 h => no_some h))))
   (fun c23 h => no_some h))
   (fun c22 h => no_some h))
   (fun c21 h => no_some h)))))
   (fun c20 h => no_some h))
   (fun c19 h => no_some h))
   (fun c18 h => no_some h))))
   (fun c17 h => no_some h))
   (fun c16 h => no_some h)))
   (fun c15 h => cond_yes rfl (cond_yes rfl (bif_split h
   (fun c16 h => cond_yes rfl (bif_split h
   (fun c17 h => cond_yes rfl (cond_yes rfl (cond_yes rfl (bif_split h
   (fun c18 h => bif_split h
   (fun c19 h => bif_split h
   (fun c20 h => cond_yes rfl (cond_no rfl (bif_split h
   (fun c21 h => bif_split h
   (fun c22 h => ret_at hR _ h (fun n => n) rfl rfl rfl (rn_bool_tf rfl) rfl (entl_bor (use_lo rfl) rfl rfl entl_nil))
   (fun c22 h => ret_at hR _ h (fun n => n) rfl rfl rfl (rn_bool_tf rfl) rfl (entl_bor (use_lo rfl) rfl rfl entl_nil)))
   (fun c21 h => no_some h))))
   (fun c20 h => no_some h))
   (fun c19 h => no_some h))
   (fun c18 h => no_some h)))))
   (fun c17 h => no_some h)))
   (fun c16 h => no_some h)))))
   (fun c14 h => no_some h)))))))
   (fun c12 h => no_some h))))))
   (fun c10 h => no_some h))))
   (fun c9 h => ret_at hR _ h (fun n => n) rfl rfl rfl (rn_bool_tf rfl) rfl (entl_bor (use_lo rfl) rfl rfl entl_nil)))))))
   (fun c6 h => bif_split h
   (fun c7 h => cond_yes c5 (cond_no c6 (ret_at hR _ h (fun n => n) rfl rfl rfl (rn_bool_tf rfl) rfl (entl_bor (use_lo rfl) rfl rfl entl_nil))))
   (fun c7 h => ret_at hR _ h (fun n => n) rfl rfl rfl (rn_bool_tf rfl) rfl (entl_bor (use_lo rfl) rfl rfl entl_nil))))
   (fun c5 h => no_some h)))
   (fun c3 h => no_some h))
   (fun c2 h => no_some h))
   (fun c1 h => no_some h))))
theorem a5 (ca : Int) (af : Int) (al nl ml : Nat) (tl : Nat → Int) (vl : Nat → Int) (gl : Nat → Bool) (ov : Int) (re : Int) (fz : Bool) (f0 : Int) (t0 : Int) (e0 : Int) {r : Rt5} (h : Goes ((q5 ca af al nl ml tl vl gl ov re fz f0 t0 e0)) ((p5 ca af al nl ml tl vl gl ov re fz f0 t0 e0)) r) : CallR Try.prog 5 [.agg [.int .i64 ca, .int .i64 af, .loose ⟨0, 3, al, 0⟩ nl, .int .i64 ov, .int .i64 re, .bool fz], .agg [.int .i64 f0, .int .i64 t0, .int .i64 e0]] [[(0, (false, .cols ml [.int .i64 tl, .int .i64 vl, .bool gl]))]] 1 ((V5 ca af al nl ml tl vl gl ov re fz f0 t0 e0) r) ((fun r => [newL (1 + 1) ((N5 ca af al nl ml tl vl gl ov re fz f0 t0 e0) r) ++ [(0, (false, .cols ml [.int .i64 tl, .int .i64 vl, .bool gl]))]]) r) 400 ∧ ∃ F, Try.prog.funcs[5]? = some F ∧ F.body.isSome = true ∧ (F.name == "runtime.NumGoroutine") = false := by
  refine dec_calls (f := 5) (lo := 1) (hi := 400) (H := [[(0, (false, .cols ml [.int .i64 tl, .int .i64 vl, .bool gl]))]]) (args := [.agg [.int .i64 ca, .int .i64 af, .loose ⟨0, 3, al, 0⟩ nl, .int .i64 ov, .int .i64 re, .bool fz], .agg [.int .i64 f0, .int .i64 t0, .int .i64 e0]]) Try.envOk Try.mixed xH_ok ((I5 ca af al nl ml tl vl gl ov re fz f0 t0 e0)) ((V5 ca af al nl ml tl vl gl ov re fz f0 t0 e0)) (fun r => [newL (1 + 1) ((N5 ca af al nl ml tl vl gl ov re fz f0 t0 e0) r) ++ [(0, (false, .cols ml [.int .i64 tl, .int .i64 vl, .bool gl]))]]) (fn := mkFn Try.f5) (ts := []) (n := 400) rfl (by decide) (by simp) (names_of rfl) ?_ ?_ ?_ h
  · intro s; exact s.elim
  · intro Kst Kret x hS hR h
    exact Holds.eq (te5 cond Kst Kret ca af al nl ml tl vl gl ov re fz f0 t0 e0) (be5 ca af al nl ml tl vl gl ov re fz f0 t0 e0 Kst Kret x hS hR h)
  · intro Kst Kret x hS hR s h; exact s.elim
noncomputable def k5 : Con := ⟨5, [.agg [.plain (.int .i64), .plain (.int .i64), .list [.int .i64, .int .i64, .bool], .plain (.int .i64), .plain (.int .i64), .plain (.bool)], .agg [.plain (.int .i64), .plain (.int .i64), .plain (.int .i64)]], fun (x : (Int × Int × (Nat × Nat × Nat × (Nat → Int) × (Nat → Int) × (Nat → Bool) × Unit) × Int × Int × Bool × Unit) × (Int × Int × Int × Unit) × Unit) => (fun (ca : Int) (af : Int) (al nl ml : Nat) (tl : Nat → Int) (vl : Nat → Int) (gl : Nat → Bool) (ov : Int) (re : Int) (fz : Bool) (f0 : Int) (t0 : Int) (e0 : Int) => decide (al + nl ≤ ml)) x.1.1 x.1.2.1 x.1.2.2.1.1 x.1.2.2.1.2.1 x.1.2.2.1.2.2.1 x.1.2.2.1.2.2.2.1 x.1.2.2.1.2.2.2.2.1 x.1.2.2.1.2.2.2.2.2.1 x.1.2.2.2.1 x.1.2.2.2.2.1 x.1.2.2.2.2.2.1 x.2.1.1 x.2.1.2.1 x.2.1.2.2.1, fun (x : (Int × Int × (Nat × Nat × Nat × (Nat → Int) × (Nat → Int) × (Nat → Bool) × Unit) × Int × Int × Bool × Unit) × (Int × Int × Int × Unit) × Unit) => (fun (ca : Int) (af : Int) (al nl ml : Nat) (tl : Nat → Int) (vl : Nat → Int) (gl : Nat → Bool) (ov : Int) (re : Int) (fz : Bool) (f0 : Int) (t0 : Int) (e0 : Int) => (V5 ca af al nl ml tl vl gl ov re fz f0 t0 e0) (true)) x.1.1 x.1.2.1 x.1.2.2.1.1 x.1.2.2.1.2.1 x.1.2.2.1.2.2.1 x.1.2.2.1.2.2.2.1 x.1.2.2.1.2.2.2.2.1 x.1.2.2.1.2.2.2.2.2.1 x.1.2.2.2.1 x.1.2.2.2.2.1 x.1.2.2.2.2.2.1 x.2.1.1 x.2.1.2.1 x.2.1.2.2.1, fun (x : (Int × Int × (Nat × Nat × Nat × (Nat → Int) × (Nat → Int) × (Nat → Bool) × Unit) × Int × Int × Bool × Unit) × (Int × Int × Int × Unit) × Unit) => (fun (ca : Int) (af : Int) (al nl ml : Nat) (tl : Nat → Int) (vl : Nat → Int) (gl : Nat → Bool) (ov : Int) (re : Int) (fz : Bool) (f0 : Int) (t0 : Int) (e0 : Int) => (N5 ca af al nl ml tl vl gl ov re fz f0 t0 e0) (true)) x.1.1 x.1.2.1 x.1.2.2.1.1 x.1.2.2.1.2.1 x.1.2.2.1.2.2.1 x.1.2.2.1.2.2.2.1 x.1.2.2.1.2.2.2.2.1 x.1.2.2.1.2.2.2.2.2.1 x.1.2.2.2.1 x.1.2.2.2.2.1 x.1.2.2.2.2.2.1 x.2.1.1 x.2.1.2.1 x.2.1.2.2.1, fun _ _ => .dead⟩
theorem s5 (ca : Int) (af : Int) (al nl ml : Nat) (tl : Nat → Int) (vl : Nat → Int) (gl : Nat → Bool) (ov : Int) (re : Int) (fz : Bool) (f0 : Int) (t0 : Int) (e0 : Int) (hp : al + nl ≤ ml) : Goes ((q5 ca af al nl ml tl vl gl ov re fz f0 t0 e0)) ((p5 ca af al nl ml tl vl gl ov re fz f0 t0 e0)) (true) := by
  unfold p5
  simp only [winR_mkl, mkl3_at]
  simp only [mkl_len]
  have l1 : (S.winR ca af nl (fun j => tl (j + al)) (fun j => vl (j + al)) (fun j => gl (j + al)) ov re fz f0 t0).2.length ≤ nl := winR_len
  have l2 : (S.winR ca af nl (fun j => tl (j + al)) (fun j => vl (j + al)) (fun j => gl (j + al)) ov re fz t0 e0).2.length ≤ nl := winR_len
  have l3 : (S.winR ca af nl (fun j => tl (j + al)) (fun j => vl (j + al)) (fun j => gl (j + al)) ov re fz f0 e0).2.length ≤ nl := winR_len
  have h2 := @winR_two ca af ov re f0 t0 fz nl (fun j => tl (j + al)) (fun j => vl (j + al)) (fun j => gl (j + al)) e0
  generalize S.winR ca af nl (fun j => tl (j + al)) (fun j => vl (j + al)) (fun j => gl (j + al)) ov re fz f0 t0 = P at l1 h2 ⊢
  generalize S.winR ca af nl (fun j => tl (j + al)) (fun j => vl (j + al)) (fun j => gl (j + al)) ov re fz t0 e0 = Q at l2 h2 ⊢
  generalize S.winR ca af nl (fun j => tl (j + al)) (fun j => vl (j + al)) (fun j => gl (j + al)) ov re fz f0 e0 = R at l3 h2 ⊢
  repeat' first
    | with_reducible exact goes_inr.mpr rfl
    | with_reducible refine goes_if (fun h => ?_) (fun h => ?_) <;> (try simp only [lim64, decide_eq_true_eq, decide_eq_false_iff_not, Int.toNat_natCast, toNat_pred, toNat_succ, Option.getD_some, Option.getD_none, Bool.not_eq_true', Bool.not_eq_false', Bool.and_eq_true, Bool.or_eq_true, Bool.and_eq_false_iff, Bool.or_eq_false_iff, bne_iff_ne, beq_iff_eq, bne_eq_false_iff_eq, beq_eq_false_iff_ne, ne_eq, not_and, Int.not_le, Int.not_lt, ge_iff_le, gt_iff_lt, Nat.not_lt, Nat.not_le, Bool.not_eq_true, Bool.not_eq_false, Bool.true_eq_false, Bool.false_eq_true, not_false_eq_true, not_true_eq_false] at h)
    | exact goes_none.mpr (by omega)
  all_goals first
    | exact goes_inr.mpr rfl
    | (exfalso; omega)
    | (exfalso
       have h3 := h2 (by assumption) (by assumption)
       first
         | (exact h (cat_eq h3.2 (fun j hj => by
            have hz : Nat.blt j 0 = false := rfl
            by_cases hl : j < P.2.length
            · simp only [blt_yes hl, hz, cond_true, cond_false, if_pos hl]
            · simp only [blt_no hl, cond_false, if_neg hl]; simp only [Nat.zero_add])))
         | (simp_all; done))
    | (exfalso; simp_all; done)
    | trace_state

theorem k5_ok : k5.ok Try.prog := by
  intro x hx
  obtain ⟨⟨ca, af, ⟨al, nl, ml, tl, vl, gl, _⟩, ov, re, fz, _⟩, ⟨f0, t0, e0, _⟩, _⟩ := x
  obtain ⟨h1, h2⟩ := a5 ca af al nl ml tl vl gl ov re fz f0 t0 e0 (s5 ca af al nl ml tl vl gl ov re fz f0 t0 e0 (of_dec hx rfl))
  exact ⟨⟨400, (by decide : 1 + 1 + 0 ≤ 400), h1⟩, h2⟩

end Go.Ev
