/-
  The law of Extremes.
-/
import Derived.Test.YtedbjnojogjnkaaX3
namespace Go.Ev
open Go.Proofs
set_option linter.unusedVariables false
set_option linter.unusedSimpArgs false
inductive St6 where
  | h0 (x0 : Int) (x1 : Int) (x2 : Int) (x3 : List (Int × Int × Bool))
  | h1 (x0 : Int) (x1 : Int) (x2 : Int) (x3 : Int) (x4 : Int)
abbrev Rt6 := Bool
noncomputable def V6 (al nl ml : Nat) (tl : Nat → Int) (vl : Nat → Int) (gl : Nat → Bool) (k : Int) (r : Rt6) : PV := PV.bool r
noncomputable def N6 (al nl ml : Nat) (tl : Nat → Int) (vl : Nat → Int) (gl : Nat → Bool) (k : Int) (r : Rt6) : List Blk := []
noncomputable def I6 (al nl ml : Nat) (tl : Nat → Int) (vl : Nat → Int) (gl : Nat → Bool) (k : Int) : St6 → Hd
  | .h0 x0 x1 x2 x3 => ⟨hd Try.f6 0, [PV.loose (PA.mk (0) (3) al (0)) nl, PV.int IntKind.i64 x0,
 PV.int IntKind.i64 x1, PV.int IntKind.i64 (vl (0 + al)),
 PV.int IntKind.i64 (vl (0 + al)), PV.own (1) (3) (List.length x3),
 PV.int IntKind.i64
 (↑(List.length
 (Prod.snd
 (S.extR nl (fun (j : Nat) => tl (j + al)) (fun (j : Nat) => vl (j + al))
 (fun (j : Nat) => gl (j + al)) k))) :
 Int),
 PV.int IntKind.i64 x2, PV.unk, PV.unk, PV.unk], [[(1, (true, Blk.cols (List.length x3)
 [Col.int IntKind.i64 fun (j : Nat) => (S.at' x3 j).1,
 Col.int IntKind.i64 fun (j : Nat) => (S.at' x3 j).2.1,
 Col.bool fun (j : Nat) => (S.at' x3 j).2.2]))], [(0, (false, .cols ml [.int .i64 tl, .int .i64 vl, .bool gl]))]], 2⟩
  | .h1 x0 x1 x2 x3 x4 => ⟨hd Try.f6 1, [PV.unk, PV.int IntKind.i64 x0, PV.int IntKind.i64 x1, PV.int IntKind.i64 x2,
 PV.int IntKind.i64 x3, PV.unk, PV.unk, PV.unk,
 PV.loose (PA.mk (0) (3) al (0)) nl, PV.int IntKind.i64 (↑nl : Int),
 PV.int IntKind.i64 x4], [[], [(0, (false, .cols ml [.int .i64 tl, .int .i64 vl, .bool gl]))]], 1⟩
noncomputable def q6 (al nl ml : Nat) (tl : Nat → Int) (vl : Nat → Int) (gl : Nat → Bool) (k : Int) : St6 → Option (St6 ⊕ Rt6)
  | .h0 x0 x1 x2 x3 => bif (decide
 (x2 <
 (↑(List.length
 (Prod.snd
 (S.extR nl (fun (j : Nat) => tl (j + al)) (fun (j : Nat) => vl (j + al))
 (fun (j : Nat) => gl (j + al)) k))) :
 Int)))
 then (bif (decide ((0 : Int) ≤ x2 ∧ x2 < (↑(List.length x3) : Int)))
 then (bif (decide (Int.toNat x2 < List.length x3))
 then (bif (lim IntKind.i64 (x2 + (1 : Int)))
 then (some (.inl (.h0 (Min.min x0 ((S.at' x3 (Int.toNat x2)).2.1)) (Max.max x1 ((S.at' x3 (Int.toNat x2)).2.1)) (x2 + (1 : Int)) (x3))))
 else (none))
 else (none))
 else (none))
 else (some (.inl (.h1 (x0) (x1) (vl (0 + al)) (vl (0 + al)) ((0 : Int)))))
  | .h1 x0 x1 x2 x3 x4 => bif (decide (x4 < (↑nl : Int)))
 then (bif (decide ((0 : Int) ≤ x4 ∧ x4 < (↑nl : Int)))
 then (bif (decide (Int.toNat x4 + al < ml))
 then (bif (lim IntKind.i64 (x4 + (1 : Int)))
 then (some (.inl (.h1 (x0) (x1) (Min.min x2 (vl (Int.toNat x4 + al))) (Max.max x3 (vl (Int.toNat x4 + al))) (x4 + (1 : Int)))))
 else (none))
 else (none))
 else (none))
 else (bif (x0 == x2)
 then (bif (x1 == x3)
 then (some (.inr (true)))
 else (some (.inr (false))))
 else (some (.inr (false))))
noncomputable def p6 (al nl ml : Nat) (tl : Nat → Int) (vl : Nat → Int) (gl : Nat → Bool) (k : Int) : Option (St6 ⊕ Rt6) := bif (decide ((↑nl : Int) > (100 : Int)))
 then (bif (decide ((↑nl : Int) ≤ (400 : Int)))
 then (some (.inr (true)))
 else (bif (decide ((↑nl : Int) > (410 : Int)))
 then (some (.inr (true)))
 else (bif (decide (al + nl ≤ ml ∧ nl ≤ 1000000))
 then (bif (decide (0 + nl ≤ nl ∧ nl ≤ 1000000))
 then (bif (Prod.fst
 (S.extR nl (fun (j : Nat) => tl (j + al)) (fun (j : Nat) => vl (j + al)) (fun (j : Nat) => gl (j + al)) k) !=
 Prod.fst
 (S.extR nl (fun (j : Nat) => tl (j + al)) (fun (j : Nat) => vl (j + al)) (fun (j : Nat) => gl (j + al)) k))
 then (bif (Prod.fst
 (S.extR nl (fun (j : Nat) => tl (j + al)) (fun (j : Nat) => vl (j + al)) (fun (j : Nat) => gl (j + al)) k) ==
 Prod.fst
 (S.extR nl (fun (j : Nat) => tl (j + al)) (fun (j : Nat) => vl (j + al)) (fun (j : Nat) => gl (j + al)) k))
 then (bif (decide
 (0 +
 List.length
 (Prod.snd
 (S.extR nl (fun (j : Nat) => tl (j + al)) (fun (j : Nat) => vl (j + al))
 (fun (j : Nat) => gl (j + al)) k)) ≤
 List.length
 (Prod.snd
 (S.extR nl (fun (j : Nat) => tl (j + al)) (fun (j : Nat) => vl (j + al)) (fun (j : Nat) => gl (j + al))
 k)) ∧
 List.length
 (Prod.snd
 (S.extR nl (fun (j : Nat) => tl (j + al)) (fun (j : Nat) => vl (j + al))
 (fun (j : Nat) => gl (j + al)) k)) ≤
 1000000 ∧
 0 +
 List.length
 (Prod.snd
 (S.extR nl (fun (j : Nat) => tl (j + al)) (fun (j : Nat) => vl (j + al))
 (fun (j : Nat) => gl (j + al)) k)) ≤
 List.length
 (Prod.snd
 (S.extR nl (fun (j : Nat) => tl (j + al)) (fun (j : Nat) => vl (j + al))
 (fun (j : Nat) => gl (j + al)) k)) ∧
 List.length
 (Prod.snd
 (S.extR nl (fun (j : Nat) => tl (j + al)) (fun (j : Nat) => vl (j + al))
 (fun (j : Nat) => gl (j + al)) k)) ≤
 1000000))
 then (bif (decide
 ((S.mkl
 (List.length
 (Prod.snd
 (S.extR nl (fun (j : Nat) => tl (j + al)) (fun (j : Nat) => vl (j + al)) (fun (j : Nat) => gl (j + al))
 k)))
 fun (j : Nat) =>
 (Prod.fst
 (S.at'
 (Prod.snd
 (S.extR nl (fun (j : Nat) => tl (j + al)) (fun (j : Nat) => vl (j + al))
 (fun (j : Nat) => gl (j + al)) k))
 j),
 Prod.fst
 (Prod.snd
 (S.at'
 (Prod.snd
 (S.extR nl (fun (j : Nat) => tl (j + al)) (fun (j : Nat) => vl (j + al))
 (fun (j : Nat) => gl (j + al)) k))
 j)),
 Prod.snd
 (Prod.snd
 (S.at'
 (Prod.snd
 (S.extR nl (fun (j : Nat) => tl (j + al)) (fun (j : Nat) => vl (j + al))
 (fun (j : Nat) => gl (j + al)) k))
 j)))) =
 S.mkl
 (List.length
 (Prod.snd
 (S.extR nl (fun (j : Nat) => tl (j + al)) (fun (j : Nat) => vl (j + al)) (fun (j : Nat) => gl (j + al))
 k)))
 fun (j : Nat) =>
 (Prod.fst
 (S.at'
 (Prod.snd
 (S.extR nl (fun (j : Nat) => tl (j + al)) (fun (j : Nat) => vl (j + al))
 (fun (j : Nat) => gl (j + al)) k))
 j),
 Prod.fst
 (Prod.snd
 (S.at'
 (Prod.snd
 (S.extR nl (fun (j : Nat) => tl (j + al)) (fun (j : Nat) => vl (j + al))
 (fun (j : Nat) => gl (j + al)) k))
 j)),
 Prod.snd
 (Prod.snd
 (S.at'
 (Prod.snd
 (S.extR nl (fun (j : Nat) => tl (j + al)) (fun (j : Nat) => vl (j + al))
 (fun (j : Nat) => gl (j + al)) k))
 j)))))
 then (some (.inr (true)))
 else (some (.inr (false))))
 else (none))
 else (some (.inr (false))))
 else (bif (decide
 (0 +
 List.length
 (Prod.snd
 (S.extR nl (fun (j : Nat) => tl (j + al)) (fun (j : Nat) => vl (j + al))
 (fun (j : Nat) => gl (j + al)) k)) ≤
 List.length
 (Prod.snd
 (S.extR nl (fun (j : Nat) => tl (j + al)) (fun (j : Nat) => vl (j + al)) (fun (j : Nat) => gl (j + al))
 k)) ∧
 List.length
 (Prod.snd
 (S.extR nl (fun (j : Nat) => tl (j + al)) (fun (j : Nat) => vl (j + al))
 (fun (j : Nat) => gl (j + al)) k)) ≤
 1000000 ∧
 0 +
 List.length
 (Prod.snd
 (S.extR nl (fun (j : Nat) => tl (j + al)) (fun (j : Nat) => vl (j + al))
 (fun (j : Nat) => gl (j + al)) k)) ≤
 List.length
 (Prod.snd
 (S.extR nl (fun (j : Nat) => tl (j + al)) (fun (j : Nat) => vl (j + al))
 (fun (j : Nat) => gl (j + al)) k)) ∧
 List.length
 (Prod.snd
 (S.extR nl (fun (j : Nat) => tl (j + al)) (fun (j : Nat) => vl (j + al))
 (fun (j : Nat) => gl (j + al)) k)) ≤
 1000000))
 then (bif (decide
 ((S.mkl
 (List.length
 (Prod.snd
 (S.extR nl (fun (j : Nat) => tl (j + al)) (fun (j : Nat) => vl (j + al)) (fun (j : Nat) => gl (j + al))
 k)))
 fun (j : Nat) =>
 (Prod.fst
 (S.at'
 (Prod.snd
 (S.extR nl (fun (j : Nat) => tl (j + al)) (fun (j : Nat) => vl (j + al))
 (fun (j : Nat) => gl (j + al)) k))
 j),
 Prod.fst
 (Prod.snd
 (S.at'
 (Prod.snd
 (S.extR nl (fun (j : Nat) => tl (j + al)) (fun (j : Nat) => vl (j + al))
 (fun (j : Nat) => gl (j + al)) k))
 j)),
 Prod.snd
 (Prod.snd
 (S.at'
 (Prod.snd
 (S.extR nl (fun (j : Nat) => tl (j + al)) (fun (j : Nat) => vl (j + al))
 (fun (j : Nat) => gl (j + al)) k))
 j)))) =
 S.mkl
 (List.length
 (Prod.snd
 (S.extR nl (fun (j : Nat) => tl (j + al)) (fun (j : Nat) => vl (j + al)) (fun (j : Nat) => gl (j + al))
 k)))
 fun (j : Nat) =>
 (Prod.fst
 (S.at'
 (Prod.snd
 (S.extR nl (fun (j : Nat) => tl (j + al)) (fun (j : Nat) => vl (j + al))
 (fun (j : Nat) => gl (j + al)) k))
 j),
 Prod.fst
 (Prod.snd
 (S.at'
 (Prod.snd
 (S.extR nl (fun (j : Nat) => tl (j + al)) (fun (j : Nat) => vl (j + al))
 (fun (j : Nat) => gl (j + al)) k))
 j)),
 Prod.snd
 (Prod.snd
 (S.at'
 (Prod.snd
 (S.extR nl (fun (j : Nat) => tl (j + al)) (fun (j : Nat) => vl (j + al))
 (fun (j : Nat) => gl (j + al)) k))
 j)))))
 then (bif (Prod.fst
 (S.extR nl (fun (j : Nat) => tl (j + al)) (fun (j : Nat) => vl (j + al)) (fun (j : Nat) => gl (j + al)) k) !=
 (0 : Int))
 then (bif (Prod.fst
 (S.extR nl (fun (j : Nat) => tl (j + al)) (fun (j : Nat) => vl (j + al)) (fun (j : Nat) => gl (j + al)) k) ==
 Prod.fst
 (S.extR nl (fun (j : Nat) => tl (j + al)) (fun (j : Nat) => vl (j + al)) (fun (j : Nat) => gl (j + al)) k))
 then (some (.inr (true)))
 else (some (.inr (false))))
 else (bif ((↑nl : Int) == (0 : Int))
 then (bif (Prod.fst
 (S.extR nl (fun (j : Nat) => tl (j + al)) (fun (j : Nat) => vl (j + al)) (fun (j : Nat) => gl (j + al)) k) ==
 Prod.fst
 (S.extR nl (fun (j : Nat) => tl (j + al)) (fun (j : Nat) => vl (j + al)) (fun (j : Nat) => gl (j + al)) k))
 then (some (.inr (true)))
 else (some (.inr (false))))
 else (bif ((↑(List.length
 (Prod.snd
 (S.extR nl (fun (j : Nat) => tl (j + al)) (fun (j : Nat) => vl (j + al)) (fun (j : Nat) => gl (j + al))
 k))) :
 Int) ==
 (0 : Int))
 then (some (.inr (false)))
 else (bif (decide
 ((0 : Int) ≤ (0 : Int) ∧
 (0 : Int) <
 (↑(List.length
 (Prod.snd
 (S.extR nl (fun (j : Nat) => tl (j + al)) (fun (j : Nat) => vl (j + al))
 (fun (j : Nat) => gl (j + al)) k))) :
 Int)))
 then (bif (decide
 (0 <
 List.length
 (Prod.snd
 (S.extR nl (fun (j : Nat) => tl (j + al)) (fun (j : Nat) => vl (j + al)) (fun (j : Nat) => gl (j + al))
 k))))
 then (bif (decide ((0 : Int) ≤ (0 : Int) ∧ (0 : Int) < (↑nl : Int)))
 then (bif (decide (0 + al < ml))
 then (some (.inl (.h0 (Prod.fst
 (Prod.snd
 (S.at'
 (Prod.snd
 (S.extR nl (fun (j : Nat) => tl (j + al)) (fun (j : Nat) => vl (j + al)) (fun (j : Nat) => gl (j + al))
 k))
 (0)))) (Prod.fst
 (Prod.snd
 (S.at'
 (Prod.snd
 (S.extR nl (fun (j : Nat) => tl (j + al)) (fun (j : Nat) => vl (j + al)) (fun (j : Nat) => gl (j + al))
 k))
 (0)))) ((0 : Int)) (Prod.snd
 (S.extR nl (fun (j : Nat) => tl (j + al)) (fun (j : Nat) => vl (j + al)) (fun (j : Nat) => gl (j + al)) k)))))
 else (none))
 else (none))
 else (none))
 else (none)))))
 else (bif (Prod.fst
 (S.extR nl (fun (j : Nat) => tl (j + al)) (fun (j : Nat) => vl (j + al)) (fun (j : Nat) => gl (j + al)) k) ==
 Prod.fst
 (S.extR nl (fun (j : Nat) => tl (j + al)) (fun (j : Nat) => vl (j + al)) (fun (j : Nat) => gl (j + al)) k))
 then (some (.inr (false)))
 else (some (.inr (false)))))
 else (none)))
 else (none))
 else (none))))
 else (bif (decide ((↑nl : Int) > (410 : Int)))
 then (some (.inr (true)))
 else (bif (decide (al + nl ≤ ml ∧ nl ≤ 1000000))
 then (bif (decide (0 + nl ≤ nl ∧ nl ≤ 1000000))
 then (bif (Prod.fst
 (S.extR nl (fun (j : Nat) => tl (j + al)) (fun (j : Nat) => vl (j + al)) (fun (j : Nat) => gl (j + al)) k) !=
 Prod.fst
 (S.extR nl (fun (j : Nat) => tl (j + al)) (fun (j : Nat) => vl (j + al)) (fun (j : Nat) => gl (j + al)) k))
 then (bif (Prod.fst
 (S.extR nl (fun (j : Nat) => tl (j + al)) (fun (j : Nat) => vl (j + al)) (fun (j : Nat) => gl (j + al)) k) ==
 Prod.fst
 (S.extR nl (fun (j : Nat) => tl (j + al)) (fun (j : Nat) => vl (j + al)) (fun (j : Nat) => gl (j + al)) k))
 then (bif (decide
 (0 +
 List.length
 (Prod.snd
 (S.extR nl (fun (j : Nat) => tl (j + al)) (fun (j : Nat) => vl (j + al))
 (fun (j : Nat) => gl (j + al)) k)) ≤
 List.length
 (Prod.snd
 (S.extR nl (fun (j : Nat) => tl (j + al)) (fun (j : Nat) => vl (j + al)) (fun (j : Nat) => gl (j + al))
 k)) ∧
 List.length
 (Prod.snd
 (S.extR nl (fun (j : Nat) => tl (j + al)) (fun (j : Nat) => vl (j + al))
 (fun (j : Nat) => gl (j + al)) k)) ≤
 1000000 ∧
 0 +
 List.length
 (Prod.snd
 (S.extR nl (fun (j : Nat) => tl (j + al)) (fun (j : Nat) => vl (j + al))
 (fun (j : Nat) => gl (j + al)) k)) ≤
 List.length
 (Prod.snd
 (S.extR nl (fun (j : Nat) => tl (j + al)) (fun (j : Nat) => vl (j + al))
 (fun (j : Nat) => gl (j + al)) k)) ∧
 List.length
 (Prod.snd
 (S.extR nl (fun (j : Nat) => tl (j + al)) (fun (j : Nat) => vl (j + al))
 (fun (j : Nat) => gl (j + al)) k)) ≤
 1000000))
 then (bif (decide
 ((S.mkl
 (List.length
 (Prod.snd
 (S.extR nl (fun (j : Nat) => tl (j + al)) (fun (j : Nat) => vl (j + al)) (fun (j : Nat) => gl (j + al))
 k)))
 fun (j : Nat) =>
 (Prod.fst
 (S.at'
 (Prod.snd
 (S.extR nl (fun (j : Nat) => tl (j + al)) (fun (j : Nat) => vl (j + al))
 (fun (j : Nat) => gl (j + al)) k))
 j),
 Prod.fst
 (Prod.snd
 (S.at'
 (Prod.snd
 (S.extR nl (fun (j : Nat) => tl (j + al)) (fun (j : Nat) => vl (j + al))
 (fun (j : Nat) => gl (j + al)) k))
 j)),
 Prod.snd
 (Prod.snd
 (S.at'
 (Prod.snd
 (S.extR nl (fun (j : Nat) => tl (j + al)) (fun (j : Nat) => vl (j + al))
 (fun (j : Nat) => gl (j + al)) k))
 j)))) =
 S.mkl
 (List.length
 (Prod.snd
 (S.extR nl (fun (j : Nat) => tl (j + al)) (fun (j : Nat) => vl (j + al)) (fun (j : Nat) => gl (j + al))
 k)))
 fun (j : Nat) =>
 (Prod.fst
 (S.at'
 (Prod.snd
 (S.extR nl (fun (j : Nat) => tl (j + al)) (fun (j : Nat) => vl (j + al))
 (fun (j : Nat) => gl (j + al)) k))
 j),
 Prod.fst
 (Prod.snd
 (S.at'
 (Prod.snd
 (S.extR nl (fun (j : Nat) => tl (j + al)) (fun (j : Nat) => vl (j + al))
 (fun (j : Nat) => gl (j + al)) k))
 j)),
 Prod.snd
 (Prod.snd
 (S.at'
 (Prod.snd
 (S.extR nl (fun (j : Nat) => tl (j + al)) (fun (j : Nat) => vl (j + al))
 (fun (j : Nat) => gl (j + al)) k))
 j)))))
 then (some (.inr (true)))
 else (some (.inr (false))))
 else (none))
 else (some (.inr (false))))
 else (bif (decide
 (0 +
 List.length
 (Prod.snd
 (S.extR nl (fun (j : Nat) => tl (j + al)) (fun (j : Nat) => vl (j + al))
 (fun (j : Nat) => gl (j + al)) k)) ≤
 List.length
 (Prod.snd
 (S.extR nl (fun (j : Nat) => tl (j + al)) (fun (j : Nat) => vl (j + al)) (fun (j : Nat) => gl (j + al))
 k)) ∧
 List.length
 (Prod.snd
 (S.extR nl (fun (j : Nat) => tl (j + al)) (fun (j : Nat) => vl (j + al))
 (fun (j : Nat) => gl (j + al)) k)) ≤
 1000000 ∧
 0 +
 List.length
 (Prod.snd
 (S.extR nl (fun (j : Nat) => tl (j + al)) (fun (j : Nat) => vl (j + al))
 (fun (j : Nat) => gl (j + al)) k)) ≤
 List.length
 (Prod.snd
 (S.extR nl (fun (j : Nat) => tl (j + al)) (fun (j : Nat) => vl (j + al))
 (fun (j : Nat) => gl (j + al)) k)) ∧
 List.length
 (Prod.snd
 (S.extR nl (fun (j : Nat) => tl (j + al)) (fun (j : Nat) => vl (j + al))
 (fun (j : Nat) => gl (j + al)) k)) ≤
 1000000))
 then (bif (decide
 ((S.mkl
 (List.length
 (Prod.snd
 (S.extR nl (fun (j : Nat) => tl (j + al)) (fun (j : Nat) => vl (j + al)) (fun (j : Nat) => gl (j + al))
 k)))
 fun (j : Nat) =>
 (Prod.fst
 (S.at'
 (Prod.snd
 (S.extR nl (fun (j : Nat) => tl (j + al)) (fun (j : Nat) => vl (j + al))
 (fun (j : Nat) => gl (j + al)) k))
 j),
 Prod.fst
 (Prod.snd
 (S.at'
 (Prod.snd
 (S.extR nl (fun (j : Nat) => tl (j + al)) (fun (j : Nat) => vl (j + al))
 (fun (j : Nat) => gl (j + al)) k))
 j)),
 Prod.snd
 (Prod.snd
 (S.at'
 (Prod.snd
 (S.extR nl (fun (j : Nat) => tl (j + al)) (fun (j : Nat) => vl (j + al))
 (fun (j : Nat) => gl (j + al)) k))
 j)))) =
 S.mkl
 (List.length
 (Prod.snd
 (S.extR nl (fun (j : Nat) => tl (j + al)) (fun (j : Nat) => vl (j + al)) (fun (j : Nat) => gl (j + al))
 k)))
 fun (j : Nat) =>
 (Prod.fst
 (S.at'
 (Prod.snd
 (S.extR nl (fun (j : Nat) => tl (j + al)) (fun (j : Nat) => vl (j + al))
 (fun (j : Nat) => gl (j + al)) k))
 j),
 Prod.fst
 (Prod.snd
 (S.at'
 (Prod.snd
 (S.extR nl (fun (j : Nat) => tl (j + al)) (fun (j : Nat) => vl (j + al))
 (fun (j : Nat) => gl (j + al)) k))
 j)),
 Prod.snd
 (Prod.snd
 (S.at'
 (Prod.snd
 (S.extR nl (fun (j : Nat) => tl (j + al)) (fun (j : Nat) => vl (j + al))
 (fun (j : Nat) => gl (j + al)) k))
 j)))))
 then (bif (Prod.fst
 (S.extR nl (fun (j : Nat) => tl (j + al)) (fun (j : Nat) => vl (j + al)) (fun (j : Nat) => gl (j + al)) k) !=
 (0 : Int))
 then (bif (Prod.fst
 (S.extR nl (fun (j : Nat) => tl (j + al)) (fun (j : Nat) => vl (j + al)) (fun (j : Nat) => gl (j + al)) k) ==
 Prod.fst
 (S.extR nl (fun (j : Nat) => tl (j + al)) (fun (j : Nat) => vl (j + al)) (fun (j : Nat) => gl (j + al)) k))
 then (some (.inr (true)))
 else (some (.inr (false))))
 else (bif ((↑nl : Int) == (0 : Int))
 then (bif (Prod.fst
 (S.extR nl (fun (j : Nat) => tl (j + al)) (fun (j : Nat) => vl (j + al)) (fun (j : Nat) => gl (j + al)) k) ==
 Prod.fst
 (S.extR nl (fun (j : Nat) => tl (j + al)) (fun (j : Nat) => vl (j + al)) (fun (j : Nat) => gl (j + al)) k))
 then (some (.inr (true)))
 else (some (.inr (false))))
 else (bif ((↑(List.length
 (Prod.snd
 (S.extR nl (fun (j : Nat) => tl (j + al)) (fun (j : Nat) => vl (j + al)) (fun (j : Nat) => gl (j + al))
 k))) :
 Int) ==
 (0 : Int))
 then (some (.inr (false)))
 else (bif (decide
 ((0 : Int) ≤ (0 : Int) ∧
 (0 : Int) <
 (↑(List.length
 (Prod.snd
 (S.extR nl (fun (j : Nat) => tl (j + al)) (fun (j : Nat) => vl (j + al))
 (fun (j : Nat) => gl (j + al)) k))) :
 Int)))
 then (bif (decide
 (0 <
 List.length
 (Prod.snd
 (S.extR nl (fun (j : Nat) => tl (j + al)) (fun (j : Nat) => vl (j + al)) (fun (j : Nat) => gl (j + al))
 k))))
 then (bif (decide ((0 : Int) ≤ (0 : Int) ∧ (0 : Int) < (↑nl : Int)))
 then (bif (decide (0 + al < ml))
 then (some (.inl (.h0 (Prod.fst
 (Prod.snd
 (S.at'
 (Prod.snd
 (S.extR nl (fun (j : Nat) => tl (j + al)) (fun (j : Nat) => vl (j + al)) (fun (j : Nat) => gl (j + al))
 k))
 (0)))) (Prod.fst
 (Prod.snd
 (S.at'
 (Prod.snd
 (S.extR nl (fun (j : Nat) => tl (j + al)) (fun (j : Nat) => vl (j + al)) (fun (j : Nat) => gl (j + al))
 k))
 (0)))) ((0 : Int)) (Prod.snd
 (S.extR nl (fun (j : Nat) => tl (j + al)) (fun (j : Nat) => vl (j + al)) (fun (j : Nat) => gl (j + al)) k)))))
 else (none))
 else (none))
 else (none))
 else (none)))))
 else (bif (Prod.fst
 (S.extR nl (fun (j : Nat) => tl (j + al)) (fun (j : Nat) => vl (j + al)) (fun (j : Nat) => gl (j + al)) k) ==
 Prod.fst
 (S.extR nl (fun (j : Nat) => tl (j + al)) (fun (j : Nat) => vl (j + al)) (fun (j : Nat) => gl (j + al)) k))
 then (some (.inr (false)))
 else (some (.inr (false)))))
 else (none)))
 else (none))
 else (none)))
noncomputable def Te6 (test : Bool → Prop → Prop → Prop) (Kst : KS) (Kret : KR) (al nl ml : Nat) (tl : Nat → Int) (vl : Nat → Int) (gl : Nat → Bool) (k : Int) : Prop :=
  test (true)
 (test (true)
 (test (decide ((↑nl : Int) > (100 : Int)))
 (test (decide ((↑nl : Int) ≤ (400 : Int)))
 (test (true)
 (test (true)
 (Kret (PV.tf true) ([[(0, false,
 Blk.cols ml [Col.int IntKind.i64 tl, Col.int IntKind.i64 vl, Col.bool gl])]]) (3))
 (Kret (PV.tf false) ([[(0, false,
 Blk.cols ml [Col.int IntKind.i64 tl, Col.int IntKind.i64 vl, Col.bool gl])]]) (3)))
 (False))
 (test (decide ((↑nl : Int) > (410 : Int)))
 (test (true)
 (test (true)
 (Kret (PV.tf true) ([[(0, false,
 Blk.cols ml [Col.int IntKind.i64 tl, Col.int IntKind.i64 vl, Col.bool gl])]]) (3))
 (Kret (PV.tf false) ([[(0, false,
 Blk.cols ml [Col.int IntKind.i64 tl, Col.int IntKind.i64 vl, Col.bool gl])]]) (3)))
 (False))
 (test (decide (al + nl ≤ ml ∧ nl ≤ 1000000))
 (test (decide (0 + nl ≤ nl ∧ nl ≤ 1000000))
 (test (decide (al + nl ≤ ml ∧ nl ≤ 1000000))
 (test (Prod.fst
 (S.extR nl (fun (j : Nat) => tl (j + al)) (fun (j : Nat) => vl (j + al)) (fun (j : Nat) => gl (j + al)) k) !=
 Prod.fst
 (S.extR nl (fun (j : Nat) => tl (j + al)) (fun (j : Nat) => vl (j + al)) (fun (j : Nat) => gl (j + al)) k))
 (test (Prod.fst
 (S.extR nl (fun (j : Nat) => tl (j + al)) (fun (j : Nat) => vl (j + al)) (fun (j : Nat) => gl (j + al)) k) ==
 Prod.fst
 (S.extR nl (fun (j : Nat) => tl (j + al)) (fun (j : Nat) => vl (j + al)) (fun (j : Nat) => gl (j + al)) k))
 (test (decide
 (0 +
 List.length
 (Prod.snd
 (S.extR nl (fun (j : Nat) => tl (j + al)) (fun (j : Nat) => vl (j + al))
 (fun (j : Nat) => gl (j + al)) k)) ≤
 List.length
 (Prod.snd
 (S.extR nl (fun (j : Nat) => tl (j + al)) (fun (j : Nat) => vl (j + al)) (fun (j : Nat) => gl (j + al))
 k)) ∧
 List.length
 (Prod.snd
 (S.extR nl (fun (j : Nat) => tl (j + al)) (fun (j : Nat) => vl (j + al))
 (fun (j : Nat) => gl (j + al)) k)) ≤
 1000000 ∧
 0 +
 List.length
 (Prod.snd
 (S.extR nl (fun (j : Nat) => tl (j + al)) (fun (j : Nat) => vl (j + al))
 (fun (j : Nat) => gl (j + al)) k)) ≤
 List.length
 (Prod.snd
 (S.extR nl (fun (j : Nat) => tl (j + al)) (fun (j : Nat) => vl (j + al))
 (fun (j : Nat) => gl (j + al)) k)) ∧
 List.length
 (Prod.snd
 (S.extR nl (fun (j : Nat) => tl (j + al)) (fun (j : Nat) => vl (j + al))
 (fun (j : Nat) => gl (j + al)) k)) ≤
 1000000))
 (test (decide
 ((S.mkl
 (List.length
 (Prod.snd
 (S.extR nl (fun (j : Nat) => tl (j + al)) (fun (j : Nat) => vl (j + al)) (fun (j : Nat) => gl (j + al))
 k)))
 fun (j : Nat) =>
 (Prod.fst
 (S.at'
 (Prod.snd
 (S.extR nl (fun (j : Nat) => tl (j + al)) (fun (j : Nat) => vl (j + al))
 (fun (j : Nat) => gl (j + al)) k))
 j),
 Prod.fst
 (Prod.snd
 (S.at'
 (Prod.snd
 (S.extR nl (fun (j : Nat) => tl (j + al)) (fun (j : Nat) => vl (j + al))
 (fun (j : Nat) => gl (j + al)) k))
 j)),
 Prod.snd
 (Prod.snd
 (S.at'
 (Prod.snd
 (S.extR nl (fun (j : Nat) => tl (j + al)) (fun (j : Nat) => vl (j + al))
 (fun (j : Nat) => gl (j + al)) k))
 j)))) =
 S.mkl
 (List.length
 (Prod.snd
 (S.extR nl (fun (j : Nat) => tl (j + al)) (fun (j : Nat) => vl (j + al)) (fun (j : Nat) => gl (j + al))
 k)))
 fun (j : Nat) =>
 (Prod.fst
 (S.at'
 (Prod.snd
 (S.extR nl (fun (j : Nat) => tl (j + al)) (fun (j : Nat) => vl (j + al))
 (fun (j : Nat) => gl (j + al)) k))
 j),
 Prod.fst
 (Prod.snd
 (S.at'
 (Prod.snd
 (S.extR nl (fun (j : Nat) => tl (j + al)) (fun (j : Nat) => vl (j + al))
 (fun (j : Nat) => gl (j + al)) k))
 j)),
 Prod.snd
 (Prod.snd
 (S.at'
 (Prod.snd
 (S.extR nl (fun (j : Nat) => tl (j + al)) (fun (j : Nat) => vl (j + al))
 (fun (j : Nat) => gl (j + al)) k))
 j)))))
 (Kret (PV.tf true) ([[(0, false,
 Blk.cols ml [Col.int IntKind.i64 tl, Col.int IntKind.i64 vl, Col.bool gl])]]) (9))
 (Kret (PV.tf false) ([[(0, false,
 Blk.cols ml [Col.int IntKind.i64 tl, Col.int IntKind.i64 vl, Col.bool gl])]]) (9)))
 (False))
 (Kret (PV.tf false) ([[(0, false,
 Blk.cols ml [Col.int IntKind.i64 tl, Col.int IntKind.i64 vl, Col.bool gl])]]) (8)))
 (test (decide
 (0 +
 List.length
 (Prod.snd
 (S.extR nl (fun (j : Nat) => tl (j + al)) (fun (j : Nat) => vl (j + al))
 (fun (j : Nat) => gl (j + al)) k)) ≤
 List.length
 (Prod.snd
 (S.extR nl (fun (j : Nat) => tl (j + al)) (fun (j : Nat) => vl (j + al)) (fun (j : Nat) => gl (j + al))
 k)) ∧
 List.length
 (Prod.snd
 (S.extR nl (fun (j : Nat) => tl (j + al)) (fun (j : Nat) => vl (j + al))
 (fun (j : Nat) => gl (j + al)) k)) ≤
 1000000 ∧
 0 +
 List.length
 (Prod.snd
 (S.extR nl (fun (j : Nat) => tl (j + al)) (fun (j : Nat) => vl (j + al))
 (fun (j : Nat) => gl (j + al)) k)) ≤
 List.length
 (Prod.snd
 (S.extR nl (fun (j : Nat) => tl (j + al)) (fun (j : Nat) => vl (j + al))
 (fun (j : Nat) => gl (j + al)) k)) ∧
 List.length
 (Prod.snd
 (S.extR nl (fun (j : Nat) => tl (j + al)) (fun (j : Nat) => vl (j + al))
 (fun (j : Nat) => gl (j + al)) k)) ≤
 1000000))
 (test (decide
 ((S.mkl
 (List.length
 (Prod.snd
 (S.extR nl (fun (j : Nat) => tl (j + al)) (fun (j : Nat) => vl (j + al)) (fun (j : Nat) => gl (j + al))
 k)))
 fun (j : Nat) =>
 (Prod.fst
 (S.at'
 (Prod.snd
 (S.extR nl (fun (j : Nat) => tl (j + al)) (fun (j : Nat) => vl (j + al))
 (fun (j : Nat) => gl (j + al)) k))
 j),
 Prod.fst
 (Prod.snd
 (S.at'
 (Prod.snd
 (S.extR nl (fun (j : Nat) => tl (j + al)) (fun (j : Nat) => vl (j + al))
 (fun (j : Nat) => gl (j + al)) k))
 j)),
 Prod.snd
 (Prod.snd
 (S.at'
 (Prod.snd
 (S.extR nl (fun (j : Nat) => tl (j + al)) (fun (j : Nat) => vl (j + al))
 (fun (j : Nat) => gl (j + al)) k))
 j)))) =
 S.mkl
 (List.length
 (Prod.snd
 (S.extR nl (fun (j : Nat) => tl (j + al)) (fun (j : Nat) => vl (j + al)) (fun (j : Nat) => gl (j + al))
 k)))
 fun (j : Nat) =>
 (Prod.fst
 (S.at'
 (Prod.snd
 (S.extR nl (fun (j : Nat) => tl (j + al)) (fun (j : Nat) => vl (j + al))
 (fun (j : Nat) => gl (j + al)) k))
 j),
 Prod.fst
 (Prod.snd
 (S.at'
 (Prod.snd
 (S.extR nl (fun (j : Nat) => tl (j + al)) (fun (j : Nat) => vl (j + al))
 (fun (j : Nat) => gl (j + al)) k))
 j)),
 Prod.snd
 (Prod.snd
 (S.at'
 (Prod.snd
 (S.extR nl (fun (j : Nat) => tl (j + al)) (fun (j : Nat) => vl (j + al))
 (fun (j : Nat) => gl (j + al)) k))
 j)))))
 (test (Prod.fst
 (S.extR nl (fun (j : Nat) => tl (j + al)) (fun (j : Nat) => vl (j + al)) (fun (j : Nat) => gl (j + al)) k) !=
 (0 : Int))
 (test (Prod.fst
 (S.extR nl (fun (j : Nat) => tl (j + al)) (fun (j : Nat) => vl (j + al)) (fun (j : Nat) => gl (j + al)) k) ==
 Prod.fst
 (S.extR nl (fun (j : Nat) => tl (j + al)) (fun (j : Nat) => vl (j + al)) (fun (j : Nat) => gl (j + al)) k))
 (test (decide
 (0 +
 List.length
 (Prod.snd
 (S.extR nl (fun (j : Nat) => tl (j + al)) (fun (j : Nat) => vl (j + al))
 (fun (j : Nat) => gl (j + al)) k)) ≤
 List.length
 (Prod.snd
 (S.extR nl (fun (j : Nat) => tl (j + al)) (fun (j : Nat) => vl (j + al)) (fun (j : Nat) => gl (j + al))
 k)) ∧
 List.length
 (Prod.snd
 (S.extR nl (fun (j : Nat) => tl (j + al)) (fun (j : Nat) => vl (j + al))
 (fun (j : Nat) => gl (j + al)) k)) ≤
 1000000 ∧
 0 +
 List.length
 (Prod.snd
 (S.extR nl (fun (j : Nat) => tl (j + al)) (fun (j : Nat) => vl (j + al))
 (fun (j : Nat) => gl (j + al)) k)) ≤
 List.length
 (Prod.snd
 (S.extR nl (fun (j : Nat) => tl (j + al)) (fun (j : Nat) => vl (j + al))
 (fun (j : Nat) => gl (j + al)) k)) ∧
 List.length
 (Prod.snd
 (S.extR nl (fun (j : Nat) => tl (j + al)) (fun (j : Nat) => vl (j + al))
 (fun (j : Nat) => gl (j + al)) k)) ≤
 1000000))
 (test (decide
 ((S.mkl
 (List.length
 (Prod.snd
 (S.extR nl (fun (j : Nat) => tl (j + al)) (fun (j : Nat) => vl (j + al)) (fun (j : Nat) => gl (j + al))
 k)))
 fun (j : Nat) =>
 (Prod.fst
 (S.at'
 (Prod.snd
 (S.extR nl (fun (j : Nat) => tl (j + al)) (fun (j : Nat) => vl (j + al))
 (fun (j : Nat) => gl (j + al)) k))
 j),
 Prod.fst
 (Prod.snd
 (S.at'
 (Prod.snd
 (S.extR nl (fun (j : Nat) => tl (j + al)) (fun (j : Nat) => vl (j + al))
 (fun (j : Nat) => gl (j + al)) k))
 j)),
 Prod.snd
 (Prod.snd
 (S.at'
 (Prod.snd
 (S.extR nl (fun (j : Nat) => tl (j + al)) (fun (j : Nat) => vl (j + al))
 (fun (j : Nat) => gl (j + al)) k))
 j)))) =
 S.mkl
 (List.length
 (Prod.snd
 (S.extR nl (fun (j : Nat) => tl (j + al)) (fun (j : Nat) => vl (j + al)) (fun (j : Nat) => gl (j + al))
 k)))
 fun (j : Nat) =>
 (Prod.fst
 (S.at'
 (Prod.snd
 (S.extR nl (fun (j : Nat) => tl (j + al)) (fun (j : Nat) => vl (j + al))
 (fun (j : Nat) => gl (j + al)) k))
 j),
 Prod.fst
 (Prod.snd
 (S.at'
 (Prod.snd
 (S.extR nl (fun (j : Nat) => tl (j + al)) (fun (j : Nat) => vl (j + al))
 (fun (j : Nat) => gl (j + al)) k))
 j)),
 Prod.snd
 (Prod.snd
 (S.at'
 (Prod.snd
 (S.extR nl (fun (j : Nat) => tl (j + al)) (fun (j : Nat) => vl (j + al))
 (fun (j : Nat) => gl (j + al)) k))
 j)))))
 (Kret (PV.tf true) ([[(0, false,
 Blk.cols ml [Col.int IntKind.i64 tl, Col.int IntKind.i64 vl, Col.bool gl])]]) (10))
 (Kret (PV.tf false) ([[(0, false,
 Blk.cols ml [Col.int IntKind.i64 tl, Col.int IntKind.i64 vl, Col.bool gl])]]) (10)))
 (False))
 (Kret (PV.tf false) ([[(0, false,
 Blk.cols ml [Col.int IntKind.i64 tl, Col.int IntKind.i64 vl, Col.bool gl])]]) (9)))
 (test ((↑nl : Int) == (0 : Int))
 (test (Prod.fst
 (S.extR nl (fun (j : Nat) => tl (j + al)) (fun (j : Nat) => vl (j + al)) (fun (j : Nat) => gl (j + al)) k) ==
 Prod.fst
 (S.extR nl (fun (j : Nat) => tl (j + al)) (fun (j : Nat) => vl (j + al)) (fun (j : Nat) => gl (j + al)) k))
 (test (decide
 (0 +
 List.length
 (Prod.snd
 (S.extR nl (fun (j : Nat) => tl (j + al)) (fun (j : Nat) => vl (j + al))
 (fun (j : Nat) => gl (j + al)) k)) ≤
 List.length
 (Prod.snd
 (S.extR nl (fun (j : Nat) => tl (j + al)) (fun (j : Nat) => vl (j + al)) (fun (j : Nat) => gl (j + al))
 k)) ∧
 List.length
 (Prod.snd
 (S.extR nl (fun (j : Nat) => tl (j + al)) (fun (j : Nat) => vl (j + al))
 (fun (j : Nat) => gl (j + al)) k)) ≤
 1000000 ∧
 0 +
 List.length
 (Prod.snd
 (S.extR nl (fun (j : Nat) => tl (j + al)) (fun (j : Nat) => vl (j + al))
 (fun (j : Nat) => gl (j + al)) k)) ≤
 List.length
 (Prod.snd
 (S.extR nl (fun (j : Nat) => tl (j + al)) (fun (j : Nat) => vl (j + al))
 (fun (j : Nat) => gl (j + al)) k)) ∧
 List.length
 (Prod.snd
 (S.extR nl (fun (j : Nat) => tl (j + al)) (fun (j : Nat) => vl (j + al))
 (fun (j : Nat) => gl (j + al)) k)) ≤
 1000000))
 (test (decide
 ((S.mkl
 (List.length
 (Prod.snd
 (S.extR nl (fun (j : Nat) => tl (j + al)) (fun (j : Nat) => vl (j + al)) (fun (j : Nat) => gl (j + al))
 k)))
 fun (j : Nat) =>
 (Prod.fst
 (S.at'
 (Prod.snd
 (S.extR nl (fun (j : Nat) => tl (j + al)) (fun (j : Nat) => vl (j + al))
 (fun (j : Nat) => gl (j + al)) k))
 j),
 Prod.fst
 (Prod.snd
 (S.at'
 (Prod.snd
 (S.extR nl (fun (j : Nat) => tl (j + al)) (fun (j : Nat) => vl (j + al))
 (fun (j : Nat) => gl (j + al)) k))
 j)),
 Prod.snd
 (Prod.snd
 (S.at'
 (Prod.snd
 (S.extR nl (fun (j : Nat) => tl (j + al)) (fun (j : Nat) => vl (j + al))
 (fun (j : Nat) => gl (j + al)) k))
 j)))) =
 S.mkl
 (List.length
 (Prod.snd
 (S.extR nl (fun (j : Nat) => tl (j + al)) (fun (j : Nat) => vl (j + al)) (fun (j : Nat) => gl (j + al))
 k)))
 fun (j : Nat) =>
 (Prod.fst
 (S.at'
 (Prod.snd
 (S.extR nl (fun (j : Nat) => tl (j + al)) (fun (j : Nat) => vl (j + al))
 (fun (j : Nat) => gl (j + al)) k))
 j),
 Prod.fst
 (Prod.snd
 (S.at'
 (Prod.snd
 (S.extR nl (fun (j : Nat) => tl (j + al)) (fun (j : Nat) => vl (j + al))
 (fun (j : Nat) => gl (j + al)) k))
 j)),
 Prod.snd
 (Prod.snd
 (S.at'
 (Prod.snd
 (S.extR nl (fun (j : Nat) => tl (j + al)) (fun (j : Nat) => vl (j + al))
 (fun (j : Nat) => gl (j + al)) k))
 j)))))
 (Kret (PV.tf true) ([[(0, false,
 Blk.cols ml [Col.int IntKind.i64 tl, Col.int IntKind.i64 vl, Col.bool gl])]]) (10))
 (Kret (PV.tf false) ([[(0, false,
 Blk.cols ml [Col.int IntKind.i64 tl, Col.int IntKind.i64 vl, Col.bool gl])]]) (10)))
 (False))
 (Kret (PV.tf false) ([[(0, false,
 Blk.cols ml [Col.int IntKind.i64 tl, Col.int IntKind.i64 vl, Col.bool gl])]]) (9)))
 (test ((↑(List.length
 (Prod.snd
 (S.extR nl (fun (j : Nat) => tl (j + al)) (fun (j : Nat) => vl (j + al)) (fun (j : Nat) => gl (j + al))
 k))) :
 Int) ==
 (0 : Int))
 (Kret (PV.tf false) ([[(0, false,
 Blk.cols ml [Col.int IntKind.i64 tl, Col.int IntKind.i64 vl, Col.bool gl])]]) (9))
 (test (decide
 ((0 : Int) ≤ (0 : Int) ∧
 (0 : Int) <
 (↑(List.length
 (Prod.snd
 (S.extR nl (fun (j : Nat) => tl (j + al)) (fun (j : Nat) => vl (j + al))
 (fun (j : Nat) => gl (j + al)) k))) :
 Int)))
 (test (decide
 (0 <
 List.length
 (Prod.snd
 (S.extR nl (fun (j : Nat) => tl (j + al)) (fun (j : Nat) => vl (j + al)) (fun (j : Nat) => gl (j + al))
 k))))
 (test (decide
 ((0 : Int) ≤ (0 : Int) ∧
 (0 : Int) <
 (↑(List.length
 (Prod.snd
 (S.extR nl (fun (j : Nat) => tl (j + al)) (fun (j : Nat) => vl (j + al))
 (fun (j : Nat) => gl (j + al)) k))) :
 Int)))
 (test (decide
 (0 <
 List.length
 (Prod.snd
 (S.extR nl (fun (j : Nat) => tl (j + al)) (fun (j : Nat) => vl (j + al)) (fun (j : Nat) => gl (j + al))
 k))))
 (test (decide ((0 : Int) ≤ (0 : Int) ∧ (0 : Int) < (↑nl : Int)))
 (test (decide (0 + al < ml))
 (test (decide ((0 : Int) ≤ (0 : Int) ∧ (0 : Int) < (↑nl : Int)))
 (test (decide (0 + al < ml))
 (Kst (hd Try.f6 0) ([PV.loose (PA.mk (0) (3) al (0)) nl,
 PV.int IntKind.i64
 (Prod.fst
 (Prod.snd
 (S.at'
 (Prod.snd
 (S.extR nl (fun (j : Nat) => tl (j + al)) (fun (j : Nat) => vl (j + al))
 (fun (j : Nat) => gl (j + al)) k))
 (0)))),
 PV.int IntKind.i64
 (Prod.fst
 (Prod.snd
 (S.at'
 (Prod.snd
 (S.extR nl (fun (j : Nat) => tl (j + al)) (fun (j : Nat) => vl (j + al))
 (fun (j : Nat) => gl (j + al)) k))
 (0)))),
 PV.int IntKind.i64 (vl (0 + al)), PV.int IntKind.i64 (vl (0 + al)),
 PV.own (5) (3)
 (List.length
 (Prod.snd
 (S.extR nl (fun (j : Nat) => tl (j + al)) (fun (j : Nat) => vl (j + al)) (fun (j : Nat) => gl (j + al))
 k))),
 PV.int IntKind.i64
 (↑(List.length
 (Prod.snd
 (S.extR nl (fun (j : Nat) => tl (j + al)) (fun (j : Nat) => vl (j + al))
 (fun (j : Nat) => gl (j + al)) k))) :
 Int),
 PV.int IntKind.i64 (0 : Int), PV.unk, PV.unk, PV.unk]) ([[(0, false,
 Blk.cols ml [Col.int IntKind.i64 tl, Col.int IntKind.i64 vl, Col.bool gl]),
 (5, true,
 Blk.cols
 (List.length
 (Prod.snd
 (S.extR nl (fun (j : Nat) => tl (j + al)) (fun (j : Nat) => vl (j + al))
 (fun (j : Nat) => gl (j + al)) k)))
 [Col.int IntKind.i64 fun (j : Nat) =>
 Prod.fst
 (S.at'
 (Prod.snd
 (S.extR nl (fun (j : Nat) => tl (j + al)) (fun (j : Nat) => vl (j + al))
 (fun (j : Nat) => gl (j + al)) k))
 j),
 Col.int IntKind.i64 fun (j : Nat) =>
 Prod.fst
 (Prod.snd
 (S.at'
 (Prod.snd
 (S.extR nl (fun (j : Nat) => tl (j + al)) (fun (j : Nat) => vl (j + al))
 (fun (j : Nat) => gl (j + al)) k))
 j)),
 Col.bool fun (j : Nat) =>
 Prod.snd
 (Prod.snd
 (S.at'
 (Prod.snd
 (S.extR nl (fun (j : Nat) => tl (j + al)) (fun (j : Nat) => vl (j + al))
 (fun (j : Nat) => gl (j + al)) k))
 j))])]]) (9))
 (False))
 (False))
 (False))
 (False))
 (False))
 (False))
 (False))
 (False)))))
 (test (Prod.fst
 (S.extR nl (fun (j : Nat) => tl (j + al)) (fun (j : Nat) => vl (j + al)) (fun (j : Nat) => gl (j + al)) k) ==
 Prod.fst
 (S.extR nl (fun (j : Nat) => tl (j + al)) (fun (j : Nat) => vl (j + al)) (fun (j : Nat) => gl (j + al)) k))
 (test (decide
 (0 +
 List.length
 (Prod.snd
 (S.extR nl (fun (j : Nat) => tl (j + al)) (fun (j : Nat) => vl (j + al))
 (fun (j : Nat) => gl (j + al)) k)) ≤
 List.length
 (Prod.snd
 (S.extR nl (fun (j : Nat) => tl (j + al)) (fun (j : Nat) => vl (j + al)) (fun (j : Nat) => gl (j + al))
 k)) ∧
 List.length
 (Prod.snd
 (S.extR nl (fun (j : Nat) => tl (j + al)) (fun (j : Nat) => vl (j + al))
 (fun (j : Nat) => gl (j + al)) k)) ≤
 1000000 ∧
 0 +
 List.length
 (Prod.snd
 (S.extR nl (fun (j : Nat) => tl (j + al)) (fun (j : Nat) => vl (j + al))
 (fun (j : Nat) => gl (j + al)) k)) ≤
 List.length
 (Prod.snd
 (S.extR nl (fun (j : Nat) => tl (j + al)) (fun (j : Nat) => vl (j + al))
 (fun (j : Nat) => gl (j + al)) k)) ∧
 List.length
 (Prod.snd
 (S.extR nl (fun (j : Nat) => tl (j + al)) (fun (j : Nat) => vl (j + al))
 (fun (j : Nat) => gl (j + al)) k)) ≤
 1000000))
 (test (decide
 ((S.mkl
 (List.length
 (Prod.snd
 (S.extR nl (fun (j : Nat) => tl (j + al)) (fun (j : Nat) => vl (j + al)) (fun (j : Nat) => gl (j + al))
 k)))
 fun (j : Nat) =>
 (Prod.fst
 (S.at'
 (Prod.snd
 (S.extR nl (fun (j : Nat) => tl (j + al)) (fun (j : Nat) => vl (j + al))
 (fun (j : Nat) => gl (j + al)) k))
 j),
 Prod.fst
 (Prod.snd
 (S.at'
 (Prod.snd
 (S.extR nl (fun (j : Nat) => tl (j + al)) (fun (j : Nat) => vl (j + al))
 (fun (j : Nat) => gl (j + al)) k))
 j)),
 Prod.snd
 (Prod.snd
 (S.at'
 (Prod.snd
 (S.extR nl (fun (j : Nat) => tl (j + al)) (fun (j : Nat) => vl (j + al))
 (fun (j : Nat) => gl (j + al)) k))
 j)))) =
 S.mkl
 (List.length
 (Prod.snd
 (S.extR nl (fun (j : Nat) => tl (j + al)) (fun (j : Nat) => vl (j + al)) (fun (j : Nat) => gl (j + al))
 k)))
 fun (j : Nat) =>
 (Prod.fst
 (S.at'
 (Prod.snd
 (S.extR nl (fun (j : Nat) => tl (j + al)) (fun (j : Nat) => vl (j + al))
 (fun (j : Nat) => gl (j + al)) k))
 j),
 Prod.fst
 (Prod.snd
 (S.at'
 (Prod.snd
 (S.extR nl (fun (j : Nat) => tl (j + al)) (fun (j : Nat) => vl (j + al))
 (fun (j : Nat) => gl (j + al)) k))
 j)),
 Prod.snd
 (Prod.snd
 (S.at'
 (Prod.snd
 (S.extR nl (fun (j : Nat) => tl (j + al)) (fun (j : Nat) => vl (j + al))
 (fun (j : Nat) => gl (j + al)) k))
 j)))))
 (Kret (PV.tf true) ([[(0, false,
 Blk.cols ml [Col.int IntKind.i64 tl, Col.int IntKind.i64 vl, Col.bool gl])]]) (10))
 (Kret (PV.tf false) ([[(0, false,
 Blk.cols ml [Col.int IntKind.i64 tl, Col.int IntKind.i64 vl, Col.bool gl])]]) (10)))
 (False))
 (Kret (PV.tf false) ([[(0, false,
 Blk.cols ml [Col.int IntKind.i64 tl, Col.int IntKind.i64 vl, Col.bool gl])]]) (9))))
 (False)))
 (False))
 (False))
 (False))))
 (test (decide ((↑nl : Int) > (410 : Int)))
 (test (true)
 (test (true)
 (Kret (PV.tf true) ([[(0, false,
 Blk.cols ml [Col.int IntKind.i64 tl, Col.int IntKind.i64 vl, Col.bool gl])]]) (3))
 (Kret (PV.tf false) ([[(0, false,
 Blk.cols ml [Col.int IntKind.i64 tl, Col.int IntKind.i64 vl, Col.bool gl])]]) (3)))
 (False))
 (test (decide (al + nl ≤ ml ∧ nl ≤ 1000000))
 (test (decide (0 + nl ≤ nl ∧ nl ≤ 1000000))
 (test (decide (al + nl ≤ ml ∧ nl ≤ 1000000))
 (test (Prod.fst
 (S.extR nl (fun (j : Nat) => tl (j + al)) (fun (j : Nat) => vl (j + al)) (fun (j : Nat) => gl (j + al)) k) !=
 Prod.fst
 (S.extR nl (fun (j : Nat) => tl (j + al)) (fun (j : Nat) => vl (j + al)) (fun (j : Nat) => gl (j + al)) k))
 (test (Prod.fst
 (S.extR nl (fun (j : Nat) => tl (j + al)) (fun (j : Nat) => vl (j + al)) (fun (j : Nat) => gl (j + al)) k) ==
 Prod.fst
 (S.extR nl (fun (j : Nat) => tl (j + al)) (fun (j : Nat) => vl (j + al)) (fun (j : Nat) => gl (j + al)) k))
 (test (decide
 (0 +
 List.length
 (Prod.snd
 (S.extR nl (fun (j : Nat) => tl (j + al)) (fun (j : Nat) => vl (j + al))
 (fun (j : Nat) => gl (j + al)) k)) ≤
 List.length
 (Prod.snd
 (S.extR nl (fun (j : Nat) => tl (j + al)) (fun (j : Nat) => vl (j + al)) (fun (j : Nat) => gl (j + al))
 k)) ∧
 List.length
 (Prod.snd
 (S.extR nl (fun (j : Nat) => tl (j + al)) (fun (j : Nat) => vl (j + al))
 (fun (j : Nat) => gl (j + al)) k)) ≤
 1000000 ∧
 0 +
 List.length
 (Prod.snd
 (S.extR nl (fun (j : Nat) => tl (j + al)) (fun (j : Nat) => vl (j + al))
 (fun (j : Nat) => gl (j + al)) k)) ≤
 List.length
 (Prod.snd
 (S.extR nl (fun (j : Nat) => tl (j + al)) (fun (j : Nat) => vl (j + al))
 (fun (j : Nat) => gl (j + al)) k)) ∧
 List.length
 (Prod.snd
 (S.extR nl (fun (j : Nat) => tl (j + al)) (fun (j : Nat) => vl (j + al))
 (fun (j : Nat) => gl (j + al)) k)) ≤
 1000000))
 (test (decide
 ((S.mkl
 (List.length
 (Prod.snd
 (S.extR nl (fun (j : Nat) => tl (j + al)) (fun (j : Nat) => vl (j + al)) (fun (j : Nat) => gl (j + al))
 k)))
 fun (j : Nat) =>
 (Prod.fst
 (S.at'
 (Prod.snd
 (S.extR nl (fun (j : Nat) => tl (j + al)) (fun (j : Nat) => vl (j + al))
 (fun (j : Nat) => gl (j + al)) k))
 j),
 Prod.fst
 (Prod.snd
 (S.at'
 (Prod.snd
 (S.extR nl (fun (j : Nat) => tl (j + al)) (fun (j : Nat) => vl (j + al))
 (fun (j : Nat) => gl (j + al)) k))
 j)),
 Prod.snd
 (Prod.snd
 (S.at'
 (Prod.snd
 (S.extR nl (fun (j : Nat) => tl (j + al)) (fun (j : Nat) => vl (j + al))
 (fun (j : Nat) => gl (j + al)) k))
 j)))) =
 S.mkl
 (List.length
 (Prod.snd
 (S.extR nl (fun (j : Nat) => tl (j + al)) (fun (j : Nat) => vl (j + al)) (fun (j : Nat) => gl (j + al))
 k)))
 fun (j : Nat) =>
 (Prod.fst
 (S.at'
 (Prod.snd
 (S.extR nl (fun (j : Nat) => tl (j + al)) (fun (j : Nat) => vl (j + al))
 (fun (j : Nat) => gl (j + al)) k))
 j),
 Prod.fst
 (Prod.snd
 (S.at'
 (Prod.snd
 (S.extR nl (fun (j : Nat) => tl (j + al)) (fun (j : Nat) => vl (j + al))
 (fun (j : Nat) => gl (j + al)) k))
 j)),
 Prod.snd
 (Prod.snd
 (S.at'
 (Prod.snd
 (S.extR nl (fun (j : Nat) => tl (j + al)) (fun (j : Nat) => vl (j + al))
 (fun (j : Nat) => gl (j + al)) k))
 j)))))
 (Kret (PV.tf true) ([[(0, false,
 Blk.cols ml [Col.int IntKind.i64 tl, Col.int IntKind.i64 vl, Col.bool gl])]]) (9))
 (Kret (PV.tf false) ([[(0, false,
 Blk.cols ml [Col.int IntKind.i64 tl, Col.int IntKind.i64 vl, Col.bool gl])]]) (9)))
 (False))
 (Kret (PV.tf false) ([[(0, false,
 Blk.cols ml [Col.int IntKind.i64 tl, Col.int IntKind.i64 vl, Col.bool gl])]]) (8)))
 (test (decide
 (0 +
 List.length
 (Prod.snd
 (S.extR nl (fun (j : Nat) => tl (j + al)) (fun (j : Nat) => vl (j + al))
 (fun (j : Nat) => gl (j + al)) k)) ≤
 List.length
 (Prod.snd
 (S.extR nl (fun (j : Nat) => tl (j + al)) (fun (j : Nat) => vl (j + al)) (fun (j : Nat) => gl (j + al))
 k)) ∧
 List.length
 (Prod.snd
 (S.extR nl (fun (j : Nat) => tl (j + al)) (fun (j : Nat) => vl (j + al))
 (fun (j : Nat) => gl (j + al)) k)) ≤
 1000000 ∧
 0 +
 List.length
 (Prod.snd
 (S.extR nl (fun (j : Nat) => tl (j + al)) (fun (j : Nat) => vl (j + al))
 (fun (j : Nat) => gl (j + al)) k)) ≤
 List.length
 (Prod.snd
 (S.extR nl (fun (j : Nat) => tl (j + al)) (fun (j : Nat) => vl (j + al))
 (fun (j : Nat) => gl (j + al)) k)) ∧
 List.length
 (Prod.snd
 (S.extR nl (fun (j : Nat) => tl (j + al)) (fun (j : Nat) => vl (j + al))
 (fun (j : Nat) => gl (j + al)) k)) ≤
 1000000))
 (test (decide
 ((S.mkl
 (List.length
 (Prod.snd
 (S.extR nl (fun (j : Nat) => tl (j + al)) (fun (j : Nat) => vl (j + al)) (fun (j : Nat) => gl (j + al))
 k)))
 fun (j : Nat) =>
 (Prod.fst
 (S.at'
 (Prod.snd
 (S.extR nl (fun (j : Nat) => tl (j + al)) (fun (j : Nat) => vl (j + al))
 (fun (j : Nat) => gl (j + al)) k))
 j),
 Prod.fst
 (Prod.snd
 (S.at'
 (Prod.snd
 (S.extR nl (fun (j : Nat) => tl (j + al)) (fun (j : Nat) => vl (j + al))
 (fun (j : Nat) => gl (j + al)) k))
 j)),
 Prod.snd
 (Prod.snd
 (S.at'
 (Prod.snd
 (S.extR nl (fun (j : Nat) => tl (j + al)) (fun (j : Nat) => vl (j + al))
 (fun (j : Nat) => gl (j + al)) k))
 j)))) =
 S.mkl
 (List.length
 (Prod.snd
 (S.extR nl (fun (j : Nat) => tl (j + al)) (fun (j : Nat) => vl (j + al)) (fun (j : Nat) => gl (j + al))
 k)))
 fun (j : Nat) =>
 (Prod.fst
 (S.at'
 (Prod.snd
 (S.extR nl (fun (j : Nat) => tl (j + al)) (fun (j : Nat) => vl (j + al))
 (fun (j : Nat) => gl (j + al)) k))
 j),
 Prod.fst
 (Prod.snd
 (S.at'
 (Prod.snd
 (S.extR nl (fun (j : Nat) => tl (j + al)) (fun (j : Nat) => vl (j + al))
 (fun (j : Nat) => gl (j + al)) k))
 j)),
 Prod.snd
 (Prod.snd
 (S.at'
 (Prod.snd
 (S.extR nl (fun (j : Nat) => tl (j + al)) (fun (j : Nat) => vl (j + al))
 (fun (j : Nat) => gl (j + al)) k))
 j)))))
 (test (Prod.fst
 (S.extR nl (fun (j : Nat) => tl (j + al)) (fun (j : Nat) => vl (j + al)) (fun (j : Nat) => gl (j + al)) k) !=
 (0 : Int))
 (test (Prod.fst
 (S.extR nl (fun (j : Nat) => tl (j + al)) (fun (j : Nat) => vl (j + al)) (fun (j : Nat) => gl (j + al)) k) ==
 Prod.fst
 (S.extR nl (fun (j : Nat) => tl (j + al)) (fun (j : Nat) => vl (j + al)) (fun (j : Nat) => gl (j + al)) k))
 (test (decide
 (0 +
 List.length
 (Prod.snd
 (S.extR nl (fun (j : Nat) => tl (j + al)) (fun (j : Nat) => vl (j + al))
 (fun (j : Nat) => gl (j + al)) k)) ≤
 List.length
 (Prod.snd
 (S.extR nl (fun (j : Nat) => tl (j + al)) (fun (j : Nat) => vl (j + al)) (fun (j : Nat) => gl (j + al))
 k)) ∧
 List.length
 (Prod.snd
 (S.extR nl (fun (j : Nat) => tl (j + al)) (fun (j : Nat) => vl (j + al))
 (fun (j : Nat) => gl (j + al)) k)) ≤
 1000000 ∧
 0 +
 List.length
 (Prod.snd
 (S.extR nl (fun (j : Nat) => tl (j + al)) (fun (j : Nat) => vl (j + al))
 (fun (j : Nat) => gl (j + al)) k)) ≤
 List.length
 (Prod.snd
 (S.extR nl (fun (j : Nat) => tl (j + al)) (fun (j : Nat) => vl (j + al))
 (fun (j : Nat) => gl (j + al)) k)) ∧
 List.length
 (Prod.snd
 (S.extR nl (fun (j : Nat) => tl (j + al)) (fun (j : Nat) => vl (j + al))
 (fun (j : Nat) => gl (j + al)) k)) ≤
 1000000))
 (test (decide
 ((S.mkl
 (List.length
 (Prod.snd
 (S.extR nl (fun (j : Nat) => tl (j + al)) (fun (j : Nat) => vl (j + al)) (fun (j : Nat) => gl (j + al))
 k)))
 fun (j : Nat) =>
 (Prod.fst
 (S.at'
 (Prod.snd
 (S.extR nl (fun (j : Nat) => tl (j + al)) (fun (j : Nat) => vl (j + al))
 (fun (j : Nat) => gl (j + al)) k))
 j),
 Prod.fst
 (Prod.snd
 (S.at'
 (Prod.snd
 (S.extR nl (fun (j : Nat) => tl (j + al)) (fun (j : Nat) => vl (j + al))
 (fun (j : Nat) => gl (j + al)) k))
 j)),
 Prod.snd
 (Prod.snd
 (S.at'
 (Prod.snd
 (S.extR nl (fun (j : Nat) => tl (j + al)) (fun (j : Nat) => vl (j + al))
 (fun (j : Nat) => gl (j + al)) k))
 j)))) =
 S.mkl
 (List.length
 (Prod.snd
 (S.extR nl (fun (j : Nat) => tl (j + al)) (fun (j : Nat) => vl (j + al)) (fun (j : Nat) => gl (j + al))
 k)))
 fun (j : Nat) =>
 (Prod.fst
 (S.at'
 (Prod.snd
 (S.extR nl (fun (j : Nat) => tl (j + al)) (fun (j : Nat) => vl (j + al))
 (fun (j : Nat) => gl (j + al)) k))
 j),
 Prod.fst
 (Prod.snd
 (S.at'
 (Prod.snd
 (S.extR nl (fun (j : Nat) => tl (j + al)) (fun (j : Nat) => vl (j + al))
 (fun (j : Nat) => gl (j + al)) k))
 j)),
 Prod.snd
 (Prod.snd
 (S.at'
 (Prod.snd
 (S.extR nl (fun (j : Nat) => tl (j + al)) (fun (j : Nat) => vl (j + al))
 (fun (j : Nat) => gl (j + al)) k))
 j)))))
 (Kret (PV.tf true) ([[(0, false,
 Blk.cols ml [Col.int IntKind.i64 tl, Col.int IntKind.i64 vl, Col.bool gl])]]) (10))
 (Kret (PV.tf false) ([[(0, false,
 Blk.cols ml [Col.int IntKind.i64 tl, Col.int IntKind.i64 vl, Col.bool gl])]]) (10)))
 (False))
 (Kret (PV.tf false) ([[(0, false,
 Blk.cols ml [Col.int IntKind.i64 tl, Col.int IntKind.i64 vl, Col.bool gl])]]) (9)))
 (test ((↑nl : Int) == (0 : Int))
 (test (Prod.fst
 (S.extR nl (fun (j : Nat) => tl (j + al)) (fun (j : Nat) => vl (j + al)) (fun (j : Nat) => gl (j + al)) k) ==
 Prod.fst
 (S.extR nl (fun (j : Nat) => tl (j + al)) (fun (j : Nat) => vl (j + al)) (fun (j : Nat) => gl (j + al)) k))
 (test (decide
 (0 +
 List.length
 (Prod.snd
 (S.extR nl (fun (j : Nat) => tl (j + al)) (fun (j : Nat) => vl (j + al))
 (fun (j : Nat) => gl (j + al)) k)) ≤
 List.length
 (Prod.snd
 (S.extR nl (fun (j : Nat) => tl (j + al)) (fun (j : Nat) => vl (j + al)) (fun (j : Nat) => gl (j + al))
 k)) ∧
 List.length
 (Prod.snd
 (S.extR nl (fun (j : Nat) => tl (j + al)) (fun (j : Nat) => vl (j + al))
 (fun (j : Nat) => gl (j + al)) k)) ≤
 1000000 ∧
 0 +
 List.length
 (Prod.snd
 (S.extR nl (fun (j : Nat) => tl (j + al)) (fun (j : Nat) => vl (j + al))
 (fun (j : Nat) => gl (j + al)) k)) ≤
 List.length
 (Prod.snd
 (S.extR nl (fun (j : Nat) => tl (j + al)) (fun (j : Nat) => vl (j + al))
 (fun (j : Nat) => gl (j + al)) k)) ∧
 List.length
 (Prod.snd
 (S.extR nl (fun (j : Nat) => tl (j + al)) (fun (j : Nat) => vl (j + al))
 (fun (j : Nat) => gl (j + al)) k)) ≤
 1000000))
 (test (decide
 ((S.mkl
 (List.length
 (Prod.snd
 (S.extR nl (fun (j : Nat) => tl (j + al)) (fun (j : Nat) => vl (j + al)) (fun (j : Nat) => gl (j + al))
 k)))
 fun (j : Nat) =>
 (Prod.fst
 (S.at'
 (Prod.snd
 (S.extR nl (fun (j : Nat) => tl (j + al)) (fun (j : Nat) => vl (j + al))
 (fun (j : Nat) => gl (j + al)) k))
 j),
 Prod.fst
 (Prod.snd
 (S.at'
 (Prod.snd
 (S.extR nl (fun (j : Nat) => tl (j + al)) (fun (j : Nat) => vl (j + al))
 (fun (j : Nat) => gl (j + al)) k))
 j)),
 Prod.snd
 (Prod.snd
 (S.at'
 (Prod.snd
 (S.extR nl (fun (j : Nat) => tl (j + al)) (fun (j : Nat) => vl (j + al))
 (fun (j : Nat) => gl (j + al)) k))
 j)))) =
 S.mkl
 (List.length
 (Prod.snd
 (S.extR nl (fun (j : Nat) => tl (j + al)) (fun (j : Nat) => vl (j + al)) (fun (j : Nat) => gl (j + al))
 k)))
 fun (j : Nat) =>
 (Prod.fst
 (S.at'
 (Prod.snd
 (S.extR nl (fun (j : Nat) => tl (j + al)) (fun (j : Nat) => vl (j + al))
 (fun (j : Nat) => gl (j + al)) k))
 j),
 Prod.fst
 (Prod.snd
 (S.at'
 (Prod.snd
 (S.extR nl (fun (j : Nat) => tl (j + al)) (fun (j : Nat) => vl (j + al))
 (fun (j : Nat) => gl (j + al)) k))
 j)),
 Prod.snd
 (Prod.snd
 (S.at'
 (Prod.snd
 (S.extR nl (fun (j : Nat) => tl (j + al)) (fun (j : Nat) => vl (j + al))
 (fun (j : Nat) => gl (j + al)) k))
 j)))))
 (Kret (PV.tf true) ([[(0, false,
 Blk.cols ml [Col.int IntKind.i64 tl, Col.int IntKind.i64 vl, Col.bool gl])]]) (10))
 (Kret (PV.tf false) ([[(0, false,
 Blk.cols ml [Col.int IntKind.i64 tl, Col.int IntKind.i64 vl, Col.bool gl])]]) (10)))
 (False))
 (Kret (PV.tf false) ([[(0, false,
 Blk.cols ml [Col.int IntKind.i64 tl, Col.int IntKind.i64 vl, Col.bool gl])]]) (9)))
 (test ((↑(List.length
 (Prod.snd
 (S.extR nl (fun (j : Nat) => tl (j + al)) (fun (j : Nat) => vl (j + al)) (fun (j : Nat) => gl (j + al))
 k))) :
 Int) ==
 (0 : Int))
 (Kret (PV.tf false) ([[(0, false,
 Blk.cols ml [Col.int IntKind.i64 tl, Col.int IntKind.i64 vl, Col.bool gl])]]) (9))
 (test (decide
 ((0 : Int) ≤ (0 : Int) ∧
 (0 : Int) <
 (↑(List.length
 (Prod.snd
 (S.extR nl (fun (j : Nat) => tl (j + al)) (fun (j : Nat) => vl (j + al))
 (fun (j : Nat) => gl (j + al)) k))) :
 Int)))
 (test (decide
 (0 <
 List.length
 (Prod.snd
 (S.extR nl (fun (j : Nat) => tl (j + al)) (fun (j : Nat) => vl (j + al)) (fun (j : Nat) => gl (j + al))
 k))))
 (test (decide
 ((0 : Int) ≤ (0 : Int) ∧
 (0 : Int) <
 (↑(List.length
 (Prod.snd
 (S.extR nl (fun (j : Nat) => tl (j + al)) (fun (j : Nat) => vl (j + al))
 (fun (j : Nat) => gl (j + al)) k))) :
 Int)))
 (test (decide
 (0 <
 List.length
 (Prod.snd
 (S.extR nl (fun (j : Nat) => tl (j + al)) (fun (j : Nat) => vl (j + al)) (fun (j : Nat) => gl (j + al))
 k))))
 (test (decide ((0 : Int) ≤ (0 : Int) ∧ (0 : Int) < (↑nl : Int)))
 (test (decide (0 + al < ml))
 (test (decide ((0 : Int) ≤ (0 : Int) ∧ (0 : Int) < (↑nl : Int)))
 (test (decide (0 + al < ml))
 (Kst (hd Try.f6 0) ([PV.loose (PA.mk (0) (3) al (0)) nl,
 PV.int IntKind.i64
 (Prod.fst
 (Prod.snd
 (S.at'
 (Prod.snd
 (S.extR nl (fun (j : Nat) => tl (j + al)) (fun (j : Nat) => vl (j + al))
 (fun (j : Nat) => gl (j + al)) k))
 (0)))),
 PV.int IntKind.i64
 (Prod.fst
 (Prod.snd
 (S.at'
 (Prod.snd
 (S.extR nl (fun (j : Nat) => tl (j + al)) (fun (j : Nat) => vl (j + al))
 (fun (j : Nat) => gl (j + al)) k))
 (0)))),
 PV.int IntKind.i64 (vl (0 + al)), PV.int IntKind.i64 (vl (0 + al)),
 PV.own (5) (3)
 (List.length
 (Prod.snd
 (S.extR nl (fun (j : Nat) => tl (j + al)) (fun (j : Nat) => vl (j + al)) (fun (j : Nat) => gl (j + al))
 k))),
 PV.int IntKind.i64
 (↑(List.length
 (Prod.snd
 (S.extR nl (fun (j : Nat) => tl (j + al)) (fun (j : Nat) => vl (j + al))
 (fun (j : Nat) => gl (j + al)) k))) :
 Int),
 PV.int IntKind.i64 (0 : Int), PV.unk, PV.unk, PV.unk]) ([[(0, false,
 Blk.cols ml [Col.int IntKind.i64 tl, Col.int IntKind.i64 vl, Col.bool gl]),
 (5, true,
 Blk.cols
 (List.length
 (Prod.snd
 (S.extR nl (fun (j : Nat) => tl (j + al)) (fun (j : Nat) => vl (j + al))
 (fun (j : Nat) => gl (j + al)) k)))
 [Col.int IntKind.i64 fun (j : Nat) =>
 Prod.fst
 (S.at'
 (Prod.snd
 (S.extR nl (fun (j : Nat) => tl (j + al)) (fun (j : Nat) => vl (j + al))
 (fun (j : Nat) => gl (j + al)) k))
 j),
 Col.int IntKind.i64 fun (j : Nat) =>
 Prod.fst
 (Prod.snd
 (S.at'
 (Prod.snd
 (S.extR nl (fun (j : Nat) => tl (j + al)) (fun (j : Nat) => vl (j + al))
 (fun (j : Nat) => gl (j + al)) k))
 j)),
 Col.bool fun (j : Nat) =>
 Prod.snd
 (Prod.snd
 (S.at'
 (Prod.snd
 (S.extR nl (fun (j : Nat) => tl (j + al)) (fun (j : Nat) => vl (j + al))
 (fun (j : Nat) => gl (j + al)) k))
 j))])]]) (9))
 (False))
 (False))
 (False))
 (False))
 (False))
 (False))
 (False))
 (False)))))
 (test (Prod.fst
 (S.extR nl (fun (j : Nat) => tl (j + al)) (fun (j : Nat) => vl (j + al)) (fun (j : Nat) => gl (j + al)) k) ==
 Prod.fst
 (S.extR nl (fun (j : Nat) => tl (j + al)) (fun (j : Nat) => vl (j + al)) (fun (j : Nat) => gl (j + al)) k))
 (test (decide
 (0 +
 List.length
 (Prod.snd
 (S.extR nl (fun (j : Nat) => tl (j + al)) (fun (j : Nat) => vl (j + al))
 (fun (j : Nat) => gl (j + al)) k)) ≤
 List.length
 (Prod.snd
 (S.extR nl (fun (j : Nat) => tl (j + al)) (fun (j : Nat) => vl (j + al)) (fun (j : Nat) => gl (j + al))
 k)) ∧
 List.length
 (Prod.snd
 (S.extR nl (fun (j : Nat) => tl (j + al)) (fun (j : Nat) => vl (j + al))
 (fun (j : Nat) => gl (j + al)) k)) ≤
 1000000 ∧
 0 +
 List.length
 (Prod.snd
 (S.extR nl (fun (j : Nat) => tl (j + al)) (fun (j : Nat) => vl (j + al))
 (fun (j : Nat) => gl (j + al)) k)) ≤
 List.length
 (Prod.snd
 (S.extR nl (fun (j : Nat) => tl (j + al)) (fun (j : Nat) => vl (j + al))
 (fun (j : Nat) => gl (j + al)) k)) ∧
 List.length
 (Prod.snd
 (S.extR nl (fun (j : Nat) => tl (j + al)) (fun (j : Nat) => vl (j + al))
 (fun (j : Nat) => gl (j + al)) k)) ≤
 1000000))
 (test (decide
 ((S.mkl
 (List.length
 (Prod.snd
 (S.extR nl (fun (j : Nat) => tl (j + al)) (fun (j : Nat) => vl (j + al)) (fun (j : Nat) => gl (j + al))
 k)))
 fun (j : Nat) =>
 (Prod.fst
 (S.at'
 (Prod.snd
 (S.extR nl (fun (j : Nat) => tl (j + al)) (fun (j : Nat) => vl (j + al))
 (fun (j : Nat) => gl (j + al)) k))
 j),
 Prod.fst
 (Prod.snd
 (S.at'
 (Prod.snd
 (S.extR nl (fun (j : Nat) => tl (j + al)) (fun (j : Nat) => vl (j + al))
 (fun (j : Nat) => gl (j + al)) k))
 j)),
 Prod.snd
 (Prod.snd
 (S.at'
 (Prod.snd
 (S.extR nl (fun (j : Nat) => tl (j + al)) (fun (j : Nat) => vl (j + al))
 (fun (j : Nat) => gl (j + al)) k))
 j)))) =
 S.mkl
 (List.length
 (Prod.snd
 (S.extR nl (fun (j : Nat) => tl (j + al)) (fun (j : Nat) => vl (j + al)) (fun (j : Nat) => gl (j + al))
 k)))
 fun (j : Nat) =>
 (Prod.fst
 (S.at'
 (Prod.snd
 (S.extR nl (fun (j : Nat) => tl (j + al)) (fun (j : Nat) => vl (j + al))
 (fun (j : Nat) => gl (j + al)) k))
 j),
 Prod.fst
 (Prod.snd
 (S.at'
 (Prod.snd
 (S.extR nl (fun (j : Nat) => tl (j + al)) (fun (j : Nat) => vl (j + al))
 (fun (j : Nat) => gl (j + al)) k))
 j)),
 Prod.snd
 (Prod.snd
 (S.at'
 (Prod.snd
 (S.extR nl (fun (j : Nat) => tl (j + al)) (fun (j : Nat) => vl (j + al))
 (fun (j : Nat) => gl (j + al)) k))
 j)))))
 (Kret (PV.tf true) ([[(0, false,
 Blk.cols ml [Col.int IntKind.i64 tl, Col.int IntKind.i64 vl, Col.bool gl])]]) (10))
 (Kret (PV.tf false) ([[(0, false,
 Blk.cols ml [Col.int IntKind.i64 tl, Col.int IntKind.i64 vl, Col.bool gl])]]) (10)))
 (False))
 (Kret (PV.tf false) ([[(0, false,
 Blk.cols ml [Col.int IntKind.i64 tl, Col.int IntKind.i64 vl, Col.bool gl])]]) (9))))
 (False)))
 (False))
 (False))
 (False))))
 (test (true)
 (test (true)
 (Kret (PV.tf true) ([[(0, false,
 Blk.cols ml [Col.int IntKind.i64 tl, Col.int IntKind.i64 vl, Col.bool gl])]]) (3))
 (Kret (PV.tf false) ([[(0, false,
 Blk.cols ml [Col.int IntKind.i64 tl, Col.int IntKind.i64 vl, Col.bool gl])]]) (3)))
 (False)))
 (False)
set_option maxRecDepth 100000 in
theorem te6 (test : Bool → Prop → Prop → Prop) (Kst : KS) (Kret : KR) (al nl ml : Nat) (tl : Nat → Int) (vl : Nat → Int) (gl : Nat → Bool) (k : Int) : run test Try.env true (xL test) true 400 ⟨6, [.cd (mkFn Try.f6).body], argT 0 [.loose ⟨0, 3, al, 0⟩ nl, .int .i64 k], [[], [(0, (false, .cols ml [.int .i64 tl, .int .i64 vl, .bool gl]))]], 1⟩ (proj 1 [0, 9, 10, 11, 12, 93, 94, 95, 108, 109, 110] Kst Kret) =
  Te6 test Kst Kret al nl ml tl vl gl k := by kernel_rfl
noncomputable def T6_0 (test : Bool → Prop → Prop → Prop) (Kst : KS) (Kret : KR) (al nl ml : Nat) (tl : Nat → Int) (vl : Nat → Int) (gl : Nat → Bool) (k : Int) (x0 : Int) (x1 : Int) (x2 : Int) (x3 : List (Int × Int × Bool)) : Prop :=
  test (decide
 (x2 <
 (↑(List.length
 (Prod.snd
 (S.extR nl (fun (j : Nat) => tl (j + al)) (fun (j : Nat) => vl (j + al))
 (fun (j : Nat) => gl (j + al)) k))) :
 Int)))
 (test (decide ((0 : Int) ≤ x2 ∧ x2 < (↑(List.length x3) : Int)))
 (test (decide (Int.toNat x2 < List.length x3))
 (test (decide (Int.toNat x2 < List.length x3))
 (test (decide (Int.toNat x2 < List.length x3))
 (test (lim IntKind.i64 (x2 + (1 : Int)))
 (Kst (hd Try.f6 0) ([PV.loose (PA.mk (0) (3) al (0)) nl,
 PV.int IntKind.i64 (Min.min x0 ((S.at' x3 (Int.toNat x2)).2.1)),
 PV.int IntKind.i64 (Max.max x1 ((S.at' x3 (Int.toNat x2)).2.1)),
 PV.int IntKind.i64 (vl (0 + al)), PV.int IntKind.i64 (vl (0 + al)),
 PV.own (1) (3) (List.length x3),
 PV.int IntKind.i64
 (↑(List.length
 (Prod.snd
 (S.extR nl (fun (j : Nat) => tl (j + al)) (fun (j : Nat) => vl (j + al))
 (fun (j : Nat) => gl (j + al)) k))) :
 Int),
 PV.int IntKind.i64 (x2 + (1 : Int)), PV.unk, PV.unk, PV.unk]) ([[(0, false,
 Blk.cols ml [Col.int IntKind.i64 tl, Col.int IntKind.i64 vl, Col.bool gl]),
 (1, true,
 Blk.cols (List.length x3)
 [Col.int IntKind.i64 fun (j : Nat) => (S.at' x3 j).1,
 Col.int IntKind.i64 fun (j : Nat) => (S.at' x3 j).2.1,
 Col.bool fun (j : Nat) => (S.at' x3 j).2.2])]]) (3))
 (False))
 (False))
 (False))
 (False))
 (False))
 (Kst (hd Try.f6 1) ([PV.loose (PA.mk (0) (3) al (0)) nl, PV.int IntKind.i64 x0,
 PV.int IntKind.i64 x1, PV.int IntKind.i64 (vl (0 + al)),
 PV.int IntKind.i64 (vl (0 + al)), PV.own (1) (3) (List.length x3),
 PV.int IntKind.i64
 (↑(List.length
 (Prod.snd
 (S.extR nl (fun (j : Nat) => tl (j + al)) (fun (j : Nat) => vl (j + al))
 (fun (j : Nat) => gl (j + al)) k))) :
 Int),
 PV.int IntKind.i64 x2, PV.loose (PA.mk (0) (3) al (0)) nl,
 PV.int IntKind.i64 (↑nl : Int), PV.int IntKind.i64 (0 : Int)]) ([[(0, false,
 Blk.cols ml [Col.int IntKind.i64 tl, Col.int IntKind.i64 vl, Col.bool gl]),
 (1, true,
 Blk.cols (List.length x3)
 [Col.int IntKind.i64 fun (j : Nat) => (S.at' x3 j).1,
 Col.int IntKind.i64 fun (j : Nat) => (S.at' x3 j).2.1,
 Col.bool fun (j : Nat) => (S.at' x3 j).2.2])]]) (2))
set_option maxRecDepth 100000 in
theorem t6_0 (test : Bool → Prop → Prop → Prop) (Kst : KS) (Kret : KR) (al nl ml : Nat) (tl : Nat → Int) (vl : Nat → Int) (gl : Nat → Bool) (k : Int) (x0 : Int) (x1 : Int) (x2 : Int) (x3 : List (Int × Int × Bool)) : run test Try.env true (xL test) true 400 ⟨6, hd Try.f6 0, zipT [0, 9, 10, 11, 12, 93, 94, 95, 108, 109, 110] [PV.loose (PA.mk (0) (3) al (0)) nl, PV.int IntKind.i64 x0,
 PV.int IntKind.i64 x1, PV.int IntKind.i64 (vl (0 + al)),
 PV.int IntKind.i64 (vl (0 + al)), PV.own (1) (3) (List.length x3),
 PV.int IntKind.i64
 (↑(List.length
 (Prod.snd
 (S.extR nl (fun (j : Nat) => tl (j + al)) (fun (j : Nat) => vl (j + al))
 (fun (j : Nat) => gl (j + al)) k))) :
 Int),
 PV.int IntKind.i64 x2, PV.unk, PV.unk, PV.unk], [[(1, (true, Blk.cols (List.length x3)
 [Col.int IntKind.i64 fun (j : Nat) => (S.at' x3 j).1,
 Col.int IntKind.i64 fun (j : Nat) => (S.at' x3 j).2.1,
 Col.bool fun (j : Nat) => (S.at' x3 j).2.2]))], [(0, (false, .cols ml [.int .i64 tl, .int .i64 vl, .bool gl]))]], 2⟩ (proj 1 [0, 9, 10, 11, 12, 93, 94, 95, 108, 109, 110] Kst Kret) =
  T6_0 test Kst Kret al nl ml tl vl gl k x0 x1 x2 x3 := by kernel_rfl
noncomputable def T6_1 (test : Bool → Prop → Prop → Prop) (Kst : KS) (Kret : KR) (al nl ml : Nat) (tl : Nat → Int) (vl : Nat → Int) (gl : Nat → Bool) (k : Int) (x0 : Int) (x1 : Int) (x2 : Int) (x3 : Int) (x4 : Int) : Prop :=
  test (decide (x4 < (↑nl : Int)))
 (test (decide ((0 : Int) ≤ x4 ∧ x4 < (↑nl : Int)))
 (test (decide (Int.toNat x4 + al < ml))
 (test (decide (Int.toNat x4 + al < ml))
 (test (decide (Int.toNat x4 + al < ml))
 (test (lim IntKind.i64 (x4 + (1 : Int)))
 (Kst (hd Try.f6 1) ([PV.unk, PV.int IntKind.i64 x0, PV.int IntKind.i64 x1,
 PV.int IntKind.i64 (Min.min x2 (vl (Int.toNat x4 + al))),
 PV.int IntKind.i64 (Max.max x3 (vl (Int.toNat x4 + al))), PV.unk, PV.unk, PV.unk,
 PV.loose (PA.mk (0) (3) al (0)) nl, PV.int IntKind.i64 (↑nl : Int),
 PV.int IntKind.i64 (x4 + (1 : Int))]) ([[(0, false,
 Blk.cols ml [Col.int IntKind.i64 tl, Col.int IntKind.i64 vl, Col.bool gl])]]) (2))
 (False))
 (False))
 (False))
 (False))
 (False))
 (test (x0 == x2)
 (test (x1 == x3)
 (Kret (PV.tf true) ([[(0, false,
 Blk.cols ml [Col.int IntKind.i64 tl, Col.int IntKind.i64 vl, Col.bool gl])]]) (1))
 (Kret (PV.tf false) ([[(0, false,
 Blk.cols ml [Col.int IntKind.i64 tl, Col.int IntKind.i64 vl, Col.bool gl])]]) (1)))
 (Kret (PV.tf false) ([[(0, false,
 Blk.cols ml [Col.int IntKind.i64 tl, Col.int IntKind.i64 vl, Col.bool gl])]]) (1)))
set_option maxRecDepth 100000 in
theorem t6_1 (test : Bool → Prop → Prop → Prop) (Kst : KS) (Kret : KR) (al nl ml : Nat) (tl : Nat → Int) (vl : Nat → Int) (gl : Nat → Bool) (k : Int) (x0 : Int) (x1 : Int) (x2 : Int) (x3 : Int) (x4 : Int) : run test Try.env true (xL test) true 400 ⟨6, hd Try.f6 1, zipT [0, 9, 10, 11, 12, 93, 94, 95, 108, 109, 110] [PV.unk, PV.int IntKind.i64 x0, PV.int IntKind.i64 x1, PV.int IntKind.i64 x2,
 PV.int IntKind.i64 x3, PV.unk, PV.unk, PV.unk,
 PV.loose (PA.mk (0) (3) al (0)) nl, PV.int IntKind.i64 (↑nl : Int),
 PV.int IntKind.i64 x4], [[], [(0, (false, .cols ml [.int .i64 tl, .int .i64 vl, .bool gl]))]], 1⟩ (proj 1 [0, 9, 10, 11, 12, 93, 94, 95, 108, 109, 110] Kst Kret) =
  T6_1 test Kst Kret al nl ml tl vl gl k x0 x1 x2 x3 x4 := by kernel_rfl
set_option maxRecDepth 100000 in
theorem be6 (al nl ml : Nat) (tl : Nat → Int) (vl : Nat → Int) (gl : Nat → Bool) (k : Int) (Kst : KS) (Kret : KR) (x : St6 ⊕ Rt6) (hS : HS 1 400 ((I6 al nl ml tl vl gl k)) Kst x) (hR : HR 1 400 ((V6 al nl ml tl vl gl k)) (fun r => [newL (1 + 1) ((N6 al nl ml tl vl gl k) r) ++ [(0, (false, .cols ml [.int .i64 tl, .int .i64 vl, .bool gl]))]]) Kret x) (h : (bif (decide ((↑nl : Int) > (100 : Int)))
 then (bif (decide ((↑nl : Int) ≤ (400 : Int)))
 then (some (.inr (true)))
 else (bif (decide ((↑nl : Int) > (410 : Int)))
 then (some (.inr (true)))
 else (bif (decide (al + nl ≤ ml ∧ nl ≤ 1000000))
 then (bif (decide (0 + nl ≤ nl ∧ nl ≤ 1000000))
 then (bif (Prod.fst
 (S.extR nl (fun (j : Nat) => tl (j + al)) (fun (j : Nat) => vl (j + al)) (fun (j : Nat) => gl (j + al)) k) !=
 Prod.fst
 (S.extR nl (fun (j : Nat) => tl (j + al)) (fun (j : Nat) => vl (j + al)) (fun (j : Nat) => gl (j + al)) k))
 then (bif (Prod.fst
 (S.extR nl (fun (j : Nat) => tl (j + al)) (fun (j : Nat) => vl (j + al)) (fun (j : Nat) => gl (j + al)) k) ==
 Prod.fst
 (S.extR nl (fun (j : Nat) => tl (j + al)) (fun (j : Nat) => vl (j + al)) (fun (j : Nat) => gl (j + al)) k))
 then (bif (decide
 (0 +
 List.length
 (Prod.snd
 (S.extR nl (fun (j : Nat) => tl (j + al)) (fun (j : Nat) => vl (j + al))
 (fun (j : Nat) => gl (j + al)) k)) ≤
 List.length
 (Prod.snd
 (S.extR nl (fun (j : Nat) => tl (j + al)) (fun (j : Nat) => vl (j + al)) (fun (j : Nat) => gl (j + al))
 k)) ∧
 List.length
 (Prod.snd
 (S.extR nl (fun (j : Nat) => tl (j + al)) (fun (j : Nat) => vl (j + al))
 (fun (j : Nat) => gl (j + al)) k)) ≤
 1000000 ∧
 0 +
 List.length
 (Prod.snd
 (S.extR nl (fun (j : Nat) => tl (j + al)) (fun (j : Nat) => vl (j + al))
 (fun (j : Nat) => gl (j + al)) k)) ≤
 List.length
 (Prod.snd
 (S.extR nl (fun (j : Nat) => tl (j + al)) (fun (j : Nat) => vl (j + al))
 (fun (j : Nat) => gl (j + al)) k)) ∧
 List.length
 (Prod.snd
 (S.extR nl (fun (j : Nat) => tl (j + al)) (fun (j : Nat) => vl (j + al))
 (fun (j : Nat) => gl (j + al)) k)) ≤
 1000000))
 then (bif (decide
 ((S.mkl
 (List.length
 (Prod.snd
 (S.extR nl (fun (j : Nat) => tl (j + al)) (fun (j : Nat) => vl (j + al)) (fun (j : Nat) => gl (j + al))
 k)))
 fun (j : Nat) =>
 (Prod.fst
 (S.at'
 (Prod.snd
 (S.extR nl (fun (j : Nat) => tl (j + al)) (fun (j : Nat) => vl (j + al))
 (fun (j : Nat) => gl (j + al)) k))
 j),
 Prod.fst
 (Prod.snd
 (S.at'
 (Prod.snd
 (S.extR nl (fun (j : Nat) => tl (j + al)) (fun (j : Nat) => vl (j + al))
 (fun (j : Nat) => gl (j + al)) k))
 j)),
 Prod.snd
 (Prod.snd
 (S.at'
 (Prod.snd
 (S.extR nl (fun (j : Nat) => tl (j + al)) (fun (j : Nat) => vl (j + al))
 (fun (j : Nat) => gl (j + al)) k))
 j)))) =
 S.mkl
 (List.length
 (Prod.snd
 (S.extR nl (fun (j : Nat) => tl (j + al)) (fun (j : Nat) => vl (j + al)) (fun (j : Nat) => gl (j + al))
 k)))
 fun (j : Nat) =>
 (Prod.fst
 (S.at'
 (Prod.snd
 (S.extR nl (fun (j : Nat) => tl (j + al)) (fun (j : Nat) => vl (j + al))
 (fun (j : Nat) => gl (j + al)) k))
 j),
 Prod.fst
 (Prod.snd
 (S.at'
 (Prod.snd
 (S.extR nl (fun (j : Nat) => tl (j + al)) (fun (j : Nat) => vl (j + al))
 (fun (j : Nat) => gl (j + al)) k))
 j)),
 Prod.snd
 (Prod.snd
 (S.at'
 (Prod.snd
 (S.extR nl (fun (j : Nat) => tl (j + al)) (fun (j : Nat) => vl (j + al))
 (fun (j : Nat) => gl (j + al)) k))
 j)))))
 then (some (.inr (true)))
 else (some (.inr (false))))
 else (none))
 else (some (.inr (false))))
 else (bif (decide
 (0 +
 List.length
 (Prod.snd
 (S.extR nl (fun (j : Nat) => tl (j + al)) (fun (j : Nat) => vl (j + al))
 (fun (j : Nat) => gl (j + al)) k)) ≤
 List.length
 (Prod.snd
 (S.extR nl (fun (j : Nat) => tl (j + al)) (fun (j : Nat) => vl (j + al)) (fun (j : Nat) => gl (j + al))
 k)) ∧
 List.length
 (Prod.snd
 (S.extR nl (fun (j : Nat) => tl (j + al)) (fun (j : Nat) => vl (j + al))
 (fun (j : Nat) => gl (j + al)) k)) ≤
 1000000 ∧
 0 +
 List.length
 (Prod.snd
 (S.extR nl (fun (j : Nat) => tl (j + al)) (fun (j : Nat) => vl (j + al))
 (fun (j : Nat) => gl (j + al)) k)) ≤
 List.length
 (Prod.snd
 (S.extR nl (fun (j : Nat) => tl (j + al)) (fun (j : Nat) => vl (j + al))
 (fun (j : Nat) => gl (j + al)) k)) ∧
 List.length
 (Prod.snd
 (S.extR nl (fun (j : Nat) => tl (j + al)) (fun (j : Nat) => vl (j + al))
 (fun (j : Nat) => gl (j + al)) k)) ≤
 1000000))
 then (bif (decide
 ((S.mkl
 (List.length
 (Prod.snd
 (S.extR nl (fun (j : Nat) => tl (j + al)) (fun (j : Nat) => vl (j + al)) (fun (j : Nat) => gl (j + al))
 k)))
 fun (j : Nat) =>
 (Prod.fst
 (S.at'
 (Prod.snd
 (S.extR nl (fun (j : Nat) => tl (j + al)) (fun (j : Nat) => vl (j + al))
 (fun (j : Nat) => gl (j + al)) k))
 j),
 Prod.fst
 (Prod.snd
 (S.at'
 (Prod.snd
 (S.extR nl (fun (j : Nat) => tl (j + al)) (fun (j : Nat) => vl (j + al))
 (fun (j : Nat) => gl (j + al)) k))
 j)),
 Prod.snd
 (Prod.snd
 (S.at'
 (Prod.snd
 (S.extR nl (fun (j : Nat) => tl (j + al)) (fun (j : Nat) => vl (j + al))
 (fun (j : Nat) => gl (j + al)) k))
 j)))) =
 S.mkl
 (List.length
 (Prod.snd
 (S.extR nl (fun (j : Nat) => tl (j + al)) (fun (j : Nat) => vl (j + al)) (fun (j : Nat) => gl (j + al))
 k)))
 fun (j : Nat) =>
 (Prod.fst
 (S.at'
 (Prod.snd
 (S.extR nl (fun (j : Nat) => tl (j + al)) (fun (j : Nat) => vl (j + al))
 (fun (j : Nat) => gl (j + al)) k))
 j),
 Prod.fst
 (Prod.snd
 (S.at'
 (Prod.snd
 (S.extR nl (fun (j : Nat) => tl (j + al)) (fun (j : Nat) => vl (j + al))
 (fun (j : Nat) => gl (j + al)) k))
 j)),
 Prod.snd
 (Prod.snd
 (S.at'
 (Prod.snd
 (S.extR nl (fun (j : Nat) => tl (j + al)) (fun (j : Nat) => vl (j + al))
 (fun (j : Nat) => gl (j + al)) k))
 j)))))
 then (bif (Prod.fst
 (S.extR nl (fun (j : Nat) => tl (j + al)) (fun (j : Nat) => vl (j + al)) (fun (j : Nat) => gl (j + al)) k) !=
 (0 : Int))
 then (bif (Prod.fst
 (S.extR nl (fun (j : Nat) => tl (j + al)) (fun (j : Nat) => vl (j + al)) (fun (j : Nat) => gl (j + al)) k) ==
 Prod.fst
 (S.extR nl (fun (j : Nat) => tl (j + al)) (fun (j : Nat) => vl (j + al)) (fun (j : Nat) => gl (j + al)) k))
 then (some (.inr (true)))
 else (some (.inr (false))))
 else (bif ((↑nl : Int) == (0 : Int))
 then (bif (Prod.fst
 (S.extR nl (fun (j : Nat) => tl (j + al)) (fun (j : Nat) => vl (j + al)) (fun (j : Nat) => gl (j + al)) k) ==
 Prod.fst
 (S.extR nl (fun (j : Nat) => tl (j + al)) (fun (j : Nat) => vl (j + al)) (fun (j : Nat) => gl (j + al)) k))
 then (some (.inr (true)))
 else (some (.inr (false))))
 else (bif ((↑(List.length
 (Prod.snd
 (S.extR nl (fun (j : Nat) => tl (j + al)) (fun (j : Nat) => vl (j + al)) (fun (j : Nat) => gl (j + al))
 k))) :
 Int) ==
 (0 : Int))
 then (some (.inr (false)))
 else (bif (decide
 ((0 : Int) ≤ (0 : Int) ∧
 (0 : Int) <
 (↑(List.length
 (Prod.snd
 (S.extR nl (fun (j : Nat) => tl (j + al)) (fun (j : Nat) => vl (j + al))
 (fun (j : Nat) => gl (j + al)) k))) :
 Int)))
 then (bif (decide
 (0 <
 List.length
 (Prod.snd
 (S.extR nl (fun (j : Nat) => tl (j + al)) (fun (j : Nat) => vl (j + al)) (fun (j : Nat) => gl (j + al))
 k))))
 then (bif (decide ((0 : Int) ≤ (0 : Int) ∧ (0 : Int) < (↑nl : Int)))
 then (bif (decide (0 + al < ml))
 then (some (.inl (.h0 (Prod.fst
 (Prod.snd
 (S.at'
 (Prod.snd
 (S.extR nl (fun (j : Nat) => tl (j + al)) (fun (j : Nat) => vl (j + al)) (fun (j : Nat) => gl (j + al))
 k))
 (0)))) (Prod.fst
 (Prod.snd
 (S.at'
 (Prod.snd
 (S.extR nl (fun (j : Nat) => tl (j + al)) (fun (j : Nat) => vl (j + al)) (fun (j : Nat) => gl (j + al))
 k))
 (0)))) ((0 : Int)) (Prod.snd
 (S.extR nl (fun (j : Nat) => tl (j + al)) (fun (j : Nat) => vl (j + al)) (fun (j : Nat) => gl (j + al)) k)))))
 else (none))
 else (none))
 else (none))
 else (none)))))
 else (bif (Prod.fst
 (S.extR nl (fun (j : Nat) => tl (j + al)) (fun (j : Nat) => vl (j + al)) (fun (j : Nat) => gl (j + al)) k) ==
 Prod.fst
 (S.extR nl (fun (j : Nat) => tl (j + al)) (fun (j : Nat) => vl (j + al)) (fun (j : Nat) => gl (j + al)) k))
 then (some (.inr (false)))
 else (some (.inr (false)))))
 else (none)))
 else (none))
 else (none))))
 else (bif (decide ((↑nl : Int) > (410 : Int)))
 then (some (.inr (true)))
 else (bif (decide (al + nl ≤ ml ∧ nl ≤ 1000000))
 then (bif (decide (0 + nl ≤ nl ∧ nl ≤ 1000000))
 then (bif (Prod.fst
 (S.extR nl (fun (j : Nat) => tl (j + al)) (fun (j : Nat) => vl (j + al)) (fun (j : Nat) => gl (j + al)) k) !=
 Prod.fst
 (S.extR nl (fun (j : Nat) => tl (j + al)) (fun (j : Nat) => vl (j + al)) (fun (j : Nat) => gl (j + al)) k))
 then (bif (Prod.fst
 (S.extR nl (fun (j : Nat) => tl (j + al)) (fun (j : Nat) => vl (j + al)) (fun (j : Nat) => gl (j + al)) k) ==
 Prod.fst
 (S.extR nl (fun (j : Nat) => tl (j + al)) (fun (j : Nat) => vl (j + al)) (fun (j : Nat) => gl (j + al)) k))
 then (bif (decide
 (0 +
 List.length
 (Prod.snd
 (S.extR nl (fun (j : Nat) => tl (j + al)) (fun (j : Nat) => vl (j + al))
 (fun (j : Nat) => gl (j + al)) k)) ≤
 List.length
 (Prod.snd
 (S.extR nl (fun (j : Nat) => tl (j + al)) (fun (j : Nat) => vl (j + al)) (fun (j : Nat) => gl (j + al))
 k)) ∧
 List.length
 (Prod.snd
 (S.extR nl (fun (j : Nat) => tl (j + al)) (fun (j : Nat) => vl (j + al))
 (fun (j : Nat) => gl (j + al)) k)) ≤
 1000000 ∧
 0 +
 List.length
 (Prod.snd
 (S.extR nl (fun (j : Nat) => tl (j + al)) (fun (j : Nat) => vl (j + al))
 (fun (j : Nat) => gl (j + al)) k)) ≤
 List.length
 (Prod.snd
 (S.extR nl (fun (j : Nat) => tl (j + al)) (fun (j : Nat) => vl (j + al))
 (fun (j : Nat) => gl (j + al)) k)) ∧
 List.length
 (Prod.snd
 (S.extR nl (fun (j : Nat) => tl (j + al)) (fun (j : Nat) => vl (j + al))
 (fun (j : Nat) => gl (j + al)) k)) ≤
 1000000))
 then (bif (decide
 ((S.mkl
 (List.length
 (Prod.snd
 (S.extR nl (fun (j : Nat) => tl (j + al)) (fun (j : Nat) => vl (j + al)) (fun (j : Nat) => gl (j + al))
 k)))
 fun (j : Nat) =>
 (Prod.fst
 (S.at'
 (Prod.snd
 (S.extR nl (fun (j : Nat) => tl (j + al)) (fun (j : Nat) => vl (j + al))
 (fun (j : Nat) => gl (j + al)) k))
 j),
 Prod.fst
 (Prod.snd
 (S.at'
 (Prod.snd
 (S.extR nl (fun (j : Nat) => tl (j + al)) (fun (j : Nat) => vl (j + al))
 (fun (j : Nat) => gl (j + al)) k))
 j)),
 Prod.snd
 (Prod.snd
 (S.at'
 (Prod.snd
 (S.extR nl (fun (j : Nat) => tl (j + al)) (fun (j : Nat) => vl (j + al))
 (fun (j : Nat) => gl (j + al)) k))
 j)))) =
 S.mkl
 (List.length
 (Prod.snd
 (S.extR nl (fun (j : Nat) => tl (j + al)) (fun (j : Nat) => vl (j + al)) (fun (j : Nat) => gl (j + al))
 k)))
 fun (j : Nat) =>
 (Prod.fst
 (S.at'
 (Prod.snd
 (S.extR nl (fun (j : Nat) => tl (j + al)) (fun (j : Nat) => vl (j + al))
 (fun (j : Nat) => gl (j + al)) k))
 j),
 Prod.fst
 (Prod.snd
 (S.at'
 (Prod.snd
 (S.extR nl (fun (j : Nat) => tl (j + al)) (fun (j : Nat) => vl (j + al))
 (fun (j : Nat) => gl (j + al)) k))
 j)),
 Prod.snd
 (Prod.snd
 (S.at'
 (Prod.snd
 (S.extR nl (fun (j : Nat) => tl (j + al)) (fun (j : Nat) => vl (j + al))
 (fun (j : Nat) => gl (j + al)) k))
 j)))))
 then (some (.inr (true)))
 else (some (.inr (false))))
 else (none))
 else (some (.inr (false))))
 else (bif (decide
 (0 +
 List.length
 (Prod.snd
 (S.extR nl (fun (j : Nat) => tl (j + al)) (fun (j : Nat) => vl (j + al))
 (fun (j : Nat) => gl (j + al)) k)) ≤
 List.length
 (Prod.snd
 (S.extR nl (fun (j : Nat) => tl (j + al)) (fun (j : Nat) => vl (j + al)) (fun (j : Nat) => gl (j + al))
 k)) ∧
 List.length
 (Prod.snd
 (S.extR nl (fun (j : Nat) => tl (j + al)) (fun (j : Nat) => vl (j + al))
 (fun (j : Nat) => gl (j + al)) k)) ≤
 1000000 ∧
 0 +
 List.length
 (Prod.snd
 (S.extR nl (fun (j : Nat) => tl (j + al)) (fun (j : Nat) => vl (j + al))
 (fun (j : Nat) => gl (j + al)) k)) ≤
 List.length
 (Prod.snd
 (S.extR nl (fun (j : Nat) => tl (j + al)) (fun (j : Nat) => vl (j + al))
 (fun (j : Nat) => gl (j + al)) k)) ∧
 List.length
 (Prod.snd
 (S.extR nl (fun (j : Nat) => tl (j + al)) (fun (j : Nat) => vl (j + al))
 (fun (j : Nat) => gl (j + al)) k)) ≤
 1000000))
 then (bif (decide
 ((S.mkl
 (List.length
 (Prod.snd
 (S.extR nl (fun (j : Nat) => tl (j + al)) (fun (j : Nat) => vl (j + al)) (fun (j : Nat) => gl (j + al))
 k)))
 fun (j : Nat) =>
 (Prod.fst
 (S.at'
 (Prod.snd
 (S.extR nl (fun (j : Nat) => tl (j + al)) (fun (j : Nat) => vl (j + al))
 (fun (j : Nat) => gl (j + al)) k))
 j),
 Prod.fst
 (Prod.snd
 (S.at'
 (Prod.snd
 (S.extR nl (fun (j : Nat) => tl (j + al)) (fun (j : Nat) => vl (j + al))
 (fun (j : Nat) => gl (j + al)) k))
 j)),
 Prod.snd
 (Prod.snd
 (S.at'
 (Prod.snd
 (S.extR nl (fun (j : Nat) => tl (j + al)) (fun (j : Nat) => vl (j + al))
 (fun (j : Nat) => gl (j + al)) k))
 j)))) =
 S.mkl
 (List.length
 (Prod.snd
 (S.extR nl (fun (j : Nat) => tl (j + al)) (fun (j : Nat) => vl (j + al)) (fun (j : Nat) => gl (j + al))
 k)))
 fun (j : Nat) =>
 (Prod.fst
 (S.at'
 (Prod.snd
 (S.extR nl (fun (j : Nat) => tl (j + al)) (fun (j : Nat) => vl (j + al))
 (fun (j : Nat) => gl (j + al)) k))
 j),
 Prod.fst
 (Prod.snd
 (S.at'
 (Prod.snd
 (S.extR nl (fun (j : Nat) => tl (j + al)) (fun (j : Nat) => vl (j + al))
 (fun (j : Nat) => gl (j + al)) k))
 j)),
 Prod.snd
 (Prod.snd
 (S.at'
 (Prod.snd
 (S.extR nl (fun (j : Nat) => tl (j + al)) (fun (j : Nat) => vl (j + al))
 (fun (j : Nat) => gl (j + al)) k))
 j)))))
 then (bif (Prod.fst
 (S.extR nl (fun (j : Nat) => tl (j + al)) (fun (j : Nat) => vl (j + al)) (fun (j : Nat) => gl (j + al)) k) !=
 (0 : Int))
 then (bif (Prod.fst
 (S.extR nl (fun (j : Nat) => tl (j + al)) (fun (j : Nat) => vl (j + al)) (fun (j : Nat) => gl (j + al)) k) ==
 Prod.fst
 (S.extR nl (fun (j : Nat) => tl (j + al)) (fun (j : Nat) => vl (j + al)) (fun (j : Nat) => gl (j + al)) k))
 then (some (.inr (true)))
 else (some (.inr (false))))
 else (bif ((↑nl : Int) == (0 : Int))
 then (bif (Prod.fst
 (S.extR nl (fun (j : Nat) => tl (j + al)) (fun (j : Nat) => vl (j + al)) (fun (j : Nat) => gl (j + al)) k) ==
 Prod.fst
 (S.extR nl (fun (j : Nat) => tl (j + al)) (fun (j : Nat) => vl (j + al)) (fun (j : Nat) => gl (j + al)) k))
 then (some (.inr (true)))
 else (some (.inr (false))))
 else (bif ((↑(List.length
 (Prod.snd
 (S.extR nl (fun (j : Nat) => tl (j + al)) (fun (j : Nat) => vl (j + al)) (fun (j : Nat) => gl (j + al))
 k))) :
 Int) ==
 (0 : Int))
 then (some (.inr (false)))
 else (bif (decide
 ((0 : Int) ≤ (0 : Int) ∧
 (0 : Int) <
 (↑(List.length
 (Prod.snd
 (S.extR nl (fun (j : Nat) => tl (j + al)) (fun (j : Nat) => vl (j + al))
 (fun (j : Nat) => gl (j + al)) k))) :
 Int)))
 then (bif (decide
 (0 <
 List.length
 (Prod.snd
 (S.extR nl (fun (j : Nat) => tl (j + al)) (fun (j : Nat) => vl (j + al)) (fun (j : Nat) => gl (j + al))
 k))))
 then (bif (decide ((0 : Int) ≤ (0 : Int) ∧ (0 : Int) < (↑nl : Int)))
 then (bif (decide (0 + al < ml))
 then (some (.inl (.h0 (Prod.fst
 (Prod.snd
 (S.at'
 (Prod.snd
 (S.extR nl (fun (j : Nat) => tl (j + al)) (fun (j : Nat) => vl (j + al)) (fun (j : Nat) => gl (j + al))
 k))
 (0)))) (Prod.fst
 (Prod.snd
 (S.at'
 (Prod.snd
 (S.extR nl (fun (j : Nat) => tl (j + al)) (fun (j : Nat) => vl (j + al)) (fun (j : Nat) => gl (j + al))
 k))
 (0)))) ((0 : Int)) (Prod.snd
 (S.extR nl (fun (j : Nat) => tl (j + al)) (fun (j : Nat) => vl (j + al)) (fun (j : Nat) => gl (j + al)) k)))))
 else (none))
 else (none))
 else (none))
 else (none)))))
 else (bif (Prod.fst
 (S.extR nl (fun (j : Nat) => tl (j + al)) (fun (j : Nat) => vl (j + al)) (fun (j : Nat) => gl (j + al)) k) ==
 Prod.fst
 (S.extR nl (fun (j : Nat) => tl (j + al)) (fun (j : Nat) => vl (j + al)) (fun (j : Nat) => gl (j + al)) k))
 then (some (.inr (false)))
 else (some (.inr (false)))))
 else (none)))
 else (none))
 else (none))) : Option (St6 ⊕ Rt6)) = some x) : Te6 cond Kst Kret al nl ml tl vl gl k := by
  unfold Te6
  exact cond_yes rfl (cond_yes rfl (bif_split h
   (fun c0 h => bif_split h
   (fun c1 h => cond_yes rfl (cond_yes rfl (ret_at hR _ h (fun n => n) rfl rfl rfl (rn_bool_tf rfl) rfl (entl_bor (use_lo rfl) rfl rfl entl_nil))))
   (fun c1 h => bif_split h
   (fun c2 h => cond_yes rfl (cond_yes rfl (ret_at hR _ h (fun n => n) rfl rfl rfl (rn_bool_tf rfl) rfl (entl_bor (use_lo rfl) rfl rfl entl_nil))))
   (fun c2 h => bif_split h
   (fun c3 h => bif_split h
   (fun c4 h => cond_yes c3 (bif_split h
   (fun c5 h => bif_split h
   (fun c6 h => bif_split h
   (fun c7 h => bif_split h
   (fun c8 h => ret_at hR _ h (fun n => n) rfl rfl rfl (rn_bool_tf rfl) rfl (entl_bor (use_lo rfl) rfl rfl entl_nil))
   (fun c8 h => ret_at hR _ h (fun n => n) rfl rfl rfl (rn_bool_tf rfl) rfl (entl_bor (use_lo rfl) rfl rfl entl_nil)))
   (fun c7 h => no_some h))
   (fun c6 h => ret_at hR _ h (fun n => n) rfl rfl rfl (rn_bool_tf rfl) rfl (entl_bor (use_lo rfl) rfl rfl entl_nil)))
   (fun c5 h => bif_split h
   (fun c6 h => bif_split h
   (fun c7 h => bif_split h
   (fun c8 h => bif_split h
   (fun c9 h => cond_yes c6 (cond_yes c7 (ret_at hR _ h (fun n => n) rfl rfl rfl (rn_bool_tf rfl) rfl (entl_bor (use_lo rfl) rfl rfl entl_nil))))
   (fun c9 h => ret_at hR _ h (fun n => n) rfl rfl rfl (rn_bool_tf rfl) rfl (entl_bor (use_lo rfl) rfl rfl entl_nil)))
   (fun c8 h => bif_split h
   (fun c9 h => bif_split h
   (fun c10 h => cond_yes c6 (cond_yes c7 (ret_at hR _ h (fun n => n) rfl rfl rfl (rn_bool_tf rfl) rfl (entl_bor (use_lo rfl) rfl rfl entl_nil))))
   (fun c10 h => ret_at hR _ h (fun n => n) rfl rfl rfl (rn_bool_tf rfl) rfl (entl_bor (use_lo rfl) rfl rfl entl_nil)))
   (fun c9 h => bif_split h
   (fun c10 h => ret_at hR _ h (fun n => n) rfl rfl rfl (rn_bool_tf rfl) rfl (entl_bor (use_lo rfl) rfl rfl entl_nil))
   (fun c10 h => bif_split h
   (fun c11 h => bif_split h
   (fun c12 h => cond_yes c11 (cond_yes c12 (bif_split h
   (fun c13 h => bif_split h
   (fun c14 h => cond_yes c13 (cond_yes c14 (stop_at hS _ h (fun n => bif Nat.beq n 1 then 5 else n) rfl rfl rfl ⟨(rn_loose (use_lo rfl) rfl rfl rfl), ⟨(rn_int rfl), ⟨(rn_int rfl), ⟨(rn_int rfl), ⟨(rn_int rfl), ⟨(rn_own (use_own rfl) rfl rfl), ⟨(rn_int rfl), ⟨(rn_int rfl), ⟨(rn_unk _), ⟨(rn_unk _), ⟨(rn_unk _), trivial⟩⟩⟩⟩⟩⟩⟩⟩⟩⟩⟩ rfl (entl_new (use_own rfl) rfl (Nat.le_of_eq rfl) (rcs_int (fun _ _ => rfl) (rcs_int (fun _ _ => rfl) (rcs_bool (fun _ _ => rfl) rcs_nil))) (entl_bor (use_lo rfl) rfl rfl entl_nil)))))
   (fun c14 h => no_some h))
   (fun c13 h => no_some h))))
   (fun c12 h => no_some h))
   (fun c11 h => no_some h)))))
   (fun c7 h => bif_split h
   (fun c8 h => cond_yes c6 (cond_no c7 (ret_at hR _ h (fun n => n) rfl rfl rfl (rn_bool_tf rfl) rfl (entl_bor (use_lo rfl) rfl rfl entl_nil))))
   (fun c8 h => ret_at hR _ h (fun n => n) rfl rfl rfl (rn_bool_tf rfl) rfl (entl_bor (use_lo rfl) rfl rfl entl_nil))))
   (fun c6 h => no_some h))))
   (fun c4 h => no_some h))
   (fun c3 h => no_some h))))
   (fun c0 h => bif_split h
   (fun c1 h => cond_yes rfl (cond_yes rfl (ret_at hR _ h (fun n => n) rfl rfl rfl (rn_bool_tf rfl) rfl (entl_bor (use_lo rfl) rfl rfl entl_nil))))
   (fun c1 h => bif_split h
   (fun c2 h => bif_split h
   (fun c3 h => cond_yes c2 (bif_split h
   (fun c4 h => bif_split h
   (fun c5 h => bif_split h
   (fun c6 h => bif_split h
   (fun c7 h => ret_at hR _ h (fun n => n) rfl rfl rfl (rn_bool_tf rfl) rfl (entl_bor (use_lo rfl) rfl rfl entl_nil))
   (fun c7 h => ret_at hR _ h (fun n => n) rfl rfl rfl (rn_bool_tf rfl) rfl (entl_bor (use_lo rfl) rfl rfl entl_nil)))
   (fun c6 h => no_some h))
   (fun c5 h => ret_at hR _ h (fun n => n) rfl rfl rfl (rn_bool_tf rfl) rfl (entl_bor (use_lo rfl) rfl rfl entl_nil)))
   (fun c4 h => bif_split h
   (fun c5 h => bif_split h
   (fun c6 h => bif_split h
   (fun c7 h => bif_split h
   (fun c8 h => cond_yes c5 (cond_yes c6 (ret_at hR _ h (fun n => n) rfl rfl rfl (rn_bool_tf rfl) rfl (entl_bor (use_lo rfl) rfl rfl entl_nil))))
   (fun c8 h => ret_at hR _ h (fun n => n) rfl rfl rfl (rn_bool_tf rfl) rfl (entl_bor (use_lo rfl) rfl rfl entl_nil)))
   (fun c7 h => bif_split h
   (fun c8 h => bif_split h
   (fun c9 h => cond_yes c5 (cond_yes c6 (ret_at hR _ h (fun n => n) rfl rfl rfl (rn_bool_tf rfl) rfl (entl_bor (use_lo rfl) rfl rfl entl_nil))))
   (fun c9 h => ret_at hR _ h (fun n => n) rfl rfl rfl (rn_bool_tf rfl) rfl (entl_bor (use_lo rfl) rfl rfl entl_nil)))
   (fun c8 h => bif_split h
   (fun c9 h => ret_at hR _ h (fun n => n) rfl rfl rfl (rn_bool_tf rfl) rfl (entl_bor (use_lo rfl) rfl rfl entl_nil))
   (fun c9 h => bif_split h
   (fun c10 h => bif_split h
   (fun c11 h => cond_yes c10 (cond_yes c11 (bif_split h
   (fun c12 h => bif_split h
   (fun c13 h => cond_yes c12 (cond_yes c13 (stop_at hS _ h (fun n => bif Nat.beq n 1 then 5 else n) rfl rfl rfl ⟨(rn_loose (use_lo rfl) rfl rfl rfl), ⟨(rn_int rfl), ⟨(rn_int rfl), ⟨(rn_int rfl), ⟨(rn_int rfl), ⟨(rn_own (use_own rfl) rfl rfl), ⟨(rn_int rfl), ⟨(rn_int rfl), ⟨(rn_unk _), ⟨(rn_unk _), ⟨(rn_unk _), trivial⟩⟩⟩⟩⟩⟩⟩⟩⟩⟩⟩ rfl (entl_new (use_own rfl) rfl (Nat.le_of_eq rfl) (rcs_int (fun _ _ => rfl) (rcs_int (fun _ _ => rfl) (rcs_bool (fun _ _ => rfl) rcs_nil))) (entl_bor (use_lo rfl) rfl rfl entl_nil)))))
   (fun c13 h => no_some h))
   (fun c12 h => no_some h))))
   (fun c11 h => no_some h))
   (fun c10 h => no_some h)))))
   (fun c6 h => bif_split h
   (fun c7 h => cond_yes c5 (cond_no c6 (ret_at hR _ h (fun n => n) rfl rfl rfl (rn_bool_tf rfl) rfl (entl_bor (use_lo rfl) rfl rfl entl_nil))))
   (fun c7 h => ret_at hR _ h (fun n => n) rfl rfl rfl (rn_bool_tf rfl) rfl (entl_bor (use_lo rfl) rfl rfl entl_nil))))
   (fun c5 h => no_some h))))
   (fun c3 h => no_some h))
   (fun c2 h => no_some h)))))
set_option maxRecDepth 100000 in
theorem b6_0 (al nl ml : Nat) (tl : Nat → Int) (vl : Nat → Int) (gl : Nat → Bool) (k : Int) (Kst : KS) (Kret : KR) (x : St6 ⊕ Rt6) (hS : HS 1 400 ((I6 al nl ml tl vl gl k)) Kst x) (hR : HR 1 400 ((V6 al nl ml tl vl gl k)) (fun r => [newL (1 + 1) ((N6 al nl ml tl vl gl k) r) ++ [(0, (false, .cols ml [.int .i64 tl, .int .i64 vl, .bool gl]))]]) Kret x) (x0 : Int) (x1 : Int) (x2 : Int) (x3 : List (Int × Int × Bool)) (h : (bif (decide
 (x2 <
 (↑(List.length
 (Prod.snd
 (S.extR nl (fun (j : Nat) => tl (j + al)) (fun (j : Nat) => vl (j + al))
 (fun (j : Nat) => gl (j + al)) k))) :
 Int)))
 then (bif (decide ((0 : Int) ≤ x2 ∧ x2 < (↑(List.length x3) : Int)))
 then (bif (decide (Int.toNat x2 < List.length x3))
 then (bif (lim IntKind.i64 (x2 + (1 : Int)))
 then (some (.inl (.h0 (Min.min x0 ((S.at' x3 (Int.toNat x2)).2.1)) (Max.max x1 ((S.at' x3 (Int.toNat x2)).2.1)) (x2 + (1 : Int)) (x3))))
 else (none))
 else (none))
 else (none))
 else (some (.inl (.h1 (x0) (x1) (vl (0 + al)) (vl (0 + al)) ((0 : Int))))) : Option (St6 ⊕ Rt6)) = some x) : T6_0 cond Kst Kret al nl ml tl vl gl k x0 x1 x2 x3 := by
  unfold T6_0
  exact bif_split h
   (fun c0 h => bif_split h
   (fun c1 h => bif_split h
   (fun c2 h => cond_yes c2 (cond_yes c2 (bif_split h
   (fun c3 h => stop_at hS _ h (fun n => bif Nat.beq n 1 then 1 else n) rfl rfl rfl ⟨(rn_loose (use_lo rfl) rfl rfl rfl), ⟨(rn_int rfl), ⟨(rn_int rfl), ⟨(rn_int rfl), ⟨(rn_int rfl), ⟨(rn_own (use_own rfl) rfl rfl), ⟨(rn_int rfl), ⟨(rn_int rfl), ⟨(rn_unk _), ⟨(rn_unk _), ⟨(rn_unk _), trivial⟩⟩⟩⟩⟩⟩⟩⟩⟩⟩⟩ rfl (entl_new (use_own rfl) rfl (Nat.le_of_eq rfl) (rcs_int (fun _ _ => rfl) (rcs_int (fun _ _ => rfl) (rcs_bool (fun _ _ => rfl) rcs_nil))) (entl_bor (use_lo rfl) rfl rfl entl_nil)))
   (fun c3 h => no_some h))))
   (fun c2 h => no_some h))
   (fun c1 h => no_some h))
   (fun c0 h => stop_at hS _ h (fun n => n) rfl rfl rfl ⟨(rn_unk _), ⟨(rn_int rfl), ⟨(rn_int rfl), ⟨(rn_int rfl), ⟨(rn_int rfl), ⟨(rn_unk _), ⟨(rn_unk _), ⟨(rn_unk _), ⟨(rn_loose (use_lo rfl) rfl rfl rfl), ⟨(rn_int rfl), ⟨(rn_int rfl), trivial⟩⟩⟩⟩⟩⟩⟩⟩⟩⟩⟩ rfl (entl_bor (use_lo rfl) rfl rfl entl_nil))
set_option maxRecDepth 100000 in
theorem b6_1 (al nl ml : Nat) (tl : Nat → Int) (vl : Nat → Int) (gl : Nat → Bool) (k : Int) (Kst : KS) (Kret : KR) (x : St6 ⊕ Rt6) (hS : HS 1 400 ((I6 al nl ml tl vl gl k)) Kst x) (hR : HR 1 400 ((V6 al nl ml tl vl gl k)) (fun r => [newL (1 + 1) ((N6 al nl ml tl vl gl k) r) ++ [(0, (false, .cols ml [.int .i64 tl, .int .i64 vl, .bool gl]))]]) Kret x) (x0 : Int) (x1 : Int) (x2 : Int) (x3 : Int) (x4 : Int) (h : (bif (decide (x4 < (↑nl : Int)))
 then (bif (decide ((0 : Int) ≤ x4 ∧ x4 < (↑nl : Int)))
 then (bif (decide (Int.toNat x4 + al < ml))
 then (bif (lim IntKind.i64 (x4 + (1 : Int)))
 then (some (.inl (.h1 (x0) (x1) (Min.min x2 (vl (Int.toNat x4 + al))) (Max.max x3 (vl (Int.toNat x4 + al))) (x4 + (1 : Int)))))
 else (none))
 else (none))
 else (none))
 else (bif (x0 == x2)
 then (bif (x1 == x3)
 then (some (.inr (true)))
 else (some (.inr (false))))
 else (some (.inr (false)))) : Option (St6 ⊕ Rt6)) = some x) : T6_1 cond Kst Kret al nl ml tl vl gl k x0 x1 x2 x3 x4 := by
  unfold T6_1
  exact bif_split h
   (fun c0 h => bif_split h
   (fun c1 h => bif_split h
   (fun c2 h => cond_yes c2 (cond_yes c2 (bif_split h
   (fun c3 h => stop_at hS _ h (fun n => n) rfl rfl rfl ⟨(rn_unk _), ⟨(rn_int rfl), ⟨(rn_int rfl), ⟨(rn_int rfl), ⟨(rn_int rfl), ⟨(rn_unk _), ⟨(rn_unk _), ⟨(rn_unk _), ⟨(rn_loose (use_lo rfl) rfl rfl rfl), ⟨(rn_int rfl), ⟨(rn_int rfl), trivial⟩⟩⟩⟩⟩⟩⟩⟩⟩⟩⟩ rfl (entl_bor (use_lo rfl) rfl rfl entl_nil))
   (fun c3 h => no_some h))))
   (fun c2 h => no_some h))
   (fun c1 h => no_some h))
   (fun c0 h => bif_split h
   (fun c1 h => bif_split h
   (fun c2 h => ret_at hR _ h (fun n => n) rfl rfl rfl (rn_bool_tf rfl) rfl (entl_bor (use_lo rfl) rfl rfl entl_nil))
   (fun c2 h => ret_at hR _ h (fun n => n) rfl rfl rfl (rn_bool_tf rfl) rfl (entl_bor (use_lo rfl) rfl rfl entl_nil)))
   (fun c1 h => ret_at hR _ h (fun n => n) rfl rfl rfl (rn_bool_tf rfl) rfl (entl_bor (use_lo rfl) rfl rfl entl_nil)))
theorem a6 (al nl ml : Nat) (tl : Nat → Int) (vl : Nat → Int) (gl : Nat → Bool) (k : Int) {r : Rt6} (h : Goes ((q6 al nl ml tl vl gl k)) ((p6 al nl ml tl vl gl k)) r) : CallR Try.prog 6 [.loose ⟨0, 3, al, 0⟩ nl, .int .i64 k] [[(0, (false, .cols ml [.int .i64 tl, .int .i64 vl, .bool gl]))]] 1 ((V6 al nl ml tl vl gl k) r) ((fun r => [newL (1 + 1) ((N6 al nl ml tl vl gl k) r) ++ [(0, (false, .cols ml [.int .i64 tl, .int .i64 vl, .bool gl]))]]) r) 400 ∧ ∃ F, Try.prog.funcs[6]? = some F ∧ F.body.isSome = true ∧ (F.name == "runtime.NumGoroutine") = false := by
  refine dec_calls (f := 6) (lo := 1) (hi := 400) (H := [[(0, (false, .cols ml [.int .i64 tl, .int .i64 vl, .bool gl]))]]) (args := [.loose ⟨0, 3, al, 0⟩ nl, .int .i64 k]) Try.envOk Try.mixed xL_ok ((I6 al nl ml tl vl gl k)) ((V6 al nl ml tl vl gl k)) (fun r => [newL (1 + 1) ((N6 al nl ml tl vl gl k) r) ++ [(0, (false, .cols ml [.int .i64 tl, .int .i64 vl, .bool gl]))]]) (fn := mkFn Try.f6) (ts := [0, 9, 10, 11, 12, 93, 94, 95, 108, 109, 110]) (n := 400) rfl (by decide) (by simp) (names_of rfl) ?_ ?_ ?_ h
  · intro s; cases s <;> exact ⟨hd_ok _ _, by simp [I6], names_of rfl, Nat.le_of_ble_eq_true rfl⟩
  · intro Kst Kret x hS hR h
    exact Holds.eq (te6 cond Kst Kret al nl ml tl vl gl k) (be6 al nl ml tl vl gl k Kst Kret x hS hR h)
  · intro Kst Kret x hS hR s h
    cases s with
    | h0 x0 x1 x2 x3 => exact Holds.eq (t6_0 cond Kst Kret al nl ml tl vl gl k x0 x1 x2 x3) (b6_0 al nl ml tl vl gl k Kst Kret x hS hR x0 x1 x2 x3 h)
    | h1 x0 x1 x2 x3 x4 => exact Holds.eq (t6_1 cond Kst Kret al nl ml tl vl gl k x0 x1 x2 x3 x4) (b6_1 al nl ml tl vl gl k Kst Kret x hS hR x0 x1 x2 x3 x4 h)
noncomputable def k6 : Con := ⟨6, [.one (.list [.int .i64, .int .i64, .bool]), .one (.plain (.int .i64))], fun (x : (Nat × Nat × Nat × (Nat → Int) × (Nat → Int) × (Nat → Bool) × Unit) × Int × Unit) => (fun (al nl ml : Nat) (tl : Nat → Int) (vl : Nat → Int) (gl : Nat → Bool) (k : Int) => decide (al + nl ≤ ml)) x.1.1 x.1.2.1 x.1.2.2.1 x.1.2.2.2.1 x.1.2.2.2.2.1 x.1.2.2.2.2.2.1 x.2.1, fun (x : (Nat × Nat × Nat × (Nat → Int) × (Nat → Int) × (Nat → Bool) × Unit) × Int × Unit) => (fun (al nl ml : Nat) (tl : Nat → Int) (vl : Nat → Int) (gl : Nat → Bool) (k : Int) => (V6 al nl ml tl vl gl k) (true)) x.1.1 x.1.2.1 x.1.2.2.1 x.1.2.2.2.1 x.1.2.2.2.2.1 x.1.2.2.2.2.2.1 x.2.1, fun (x : (Nat × Nat × Nat × (Nat → Int) × (Nat → Int) × (Nat → Bool) × Unit) × Int × Unit) => (fun (al nl ml : Nat) (tl : Nat → Int) (vl : Nat → Int) (gl : Nat → Bool) (k : Int) => (N6 al nl ml tl vl gl k) (true)) x.1.1 x.1.2.1 x.1.2.2.1 x.1.2.2.2.1 x.1.2.2.2.2.1 x.1.2.2.2.2.2.1 x.2.1⟩
set_option maxHeartbeats 1000000 in
theorem j6 (al nl ml : Nat) (tl : Nat → Int) (vl : Nat → Int) (gl : Nat → Bool) (k : Int) (hp : al + nl ≤ ml) (hn : 0 < nl ∧ nl ≤ 410) (low high : Int) : ∀ (d i : Nat) (le mo : Int), i + d = nl → S.mnF (fun j => vl (j + al)) i d le = low → S.mxF (fun j => vl (j + al)) i d mo = high → Comes (q6 al nl ml tl vl gl k) (.h1 low high le mo (i : Int)) true := by
  intro d
  induction d with
  | zero =>
    intro i le mo h h1 h2
    simp only [S.mnF, S.mxF] at h1 h2
    subst h1 h2
    apply Comes.of
    show Goes _ _ _
    unfold q6
    repeat' first
      | with_reducible refine goes_if (fun h => ?_) (fun h => ?_) <;> (try simp only [lim64, decide_eq_true_eq, decide_eq_false_iff_not, Int.toNat_natCast, toNat_pred, toNat_succ, Option.getD_some, Option.getD_none, Bool.not_eq_true', Bool.not_eq_false', Bool.and_eq_true, Bool.or_eq_true, Bool.and_eq_false_iff, Bool.or_eq_false_iff, bne_iff_ne, beq_iff_eq, bne_eq_false_iff_eq, beq_eq_false_iff_ne, ne_eq, not_and, Int.not_le, Int.not_lt, ge_iff_le, gt_iff_lt, Nat.not_lt, Nat.not_le, Bool.not_eq_true, Bool.not_eq_false, Bool.true_eq_false, Bool.false_eq_true, not_false_eq_true, not_true_eq_false, eq_self] at h)
      | exact goes_none.mpr (by omega)
    all_goals first | (exfalso; omega) | rfl
  | succ d ih =>
    intro i le mo h h1 h2
    simp only [S.mnF, S.mxF] at h1 h2
    have ih := ih (i + 1) _ _ (by omega) h1 h2
    apply Comes.of
    show Goes _ _ _
    unfold q6
    repeat' first
      | with_reducible refine goes_if (fun h => ?_) (fun h => ?_) <;> (try simp only [lim64, decide_eq_true_eq, decide_eq_false_iff_not, Int.toNat_natCast, toNat_pred, toNat_succ, Option.getD_some, Option.getD_none, Bool.not_eq_true', Bool.not_eq_false', Bool.and_eq_true, Bool.or_eq_true, Bool.and_eq_false_iff, Bool.or_eq_false_iff, bne_iff_ne, beq_iff_eq, bne_eq_false_iff_eq, beq_eq_false_iff_ne, ne_eq, not_and, Int.not_le, Int.not_lt, ge_iff_le, gt_iff_lt, Nat.not_lt, Nat.not_le, Bool.not_eq_true, Bool.not_eq_false, Bool.true_eq_false, Bool.false_eq_true, not_false_eq_true, not_true_eq_false, eq_self] at h)
      | exact goes_none.mpr (by omega)
    all_goals first | (exfalso; omega) | exact ih
set_option maxHeartbeats 1000000 in
theorem i6 (al nl ml : Nat) (tl : Nat → Int) (vl : Nat → Int) (gl : Nat → Bool) (k : Int) (hp : al + nl ≤ ml) (hn : 0 < nl ∧ nl ≤ 410) (hl : (S.extR nl (fun j => tl (j + al)) (fun j => vl (j + al)) (fun j => gl (j + al)) k).2.length ≤ 1000) (L H : Int) (hL : S.mnF (fun j => vl (j + al)) 0 nl (vl (0 + al)) = L) (hH : S.mxF (fun j => vl (j + al)) 0 nl (vl (0 + al)) = H) : ∀ (d i : Nat) (low high : Int), i + d = (S.extR nl (fun j => tl (j + al)) (fun j => vl (j + al)) (fun j => gl (j + al)) k).2.length → S.mnF (fun j => (S.at' (S.extR nl (fun j => tl (j + al)) (fun j => vl (j + al)) (fun j => gl (j + al)) k).2 j).2.1) i d low = L → S.mxF (fun j => (S.at' (S.extR nl (fun j => tl (j + al)) (fun j => vl (j + al)) (fun j => gl (j + al)) k).2 j).2.1) i d high = H → Comes (q6 al nl ml tl vl gl k) (.h0 low high (i : Int) (S.extR nl (fun j => tl (j + al)) (fun j => vl (j + al)) (fun j => gl (j + al)) k).2) true := by
  have hj := j6 al nl ml tl vl gl k hp hn L H nl 0 (vl (0 + al)) (vl (0 + al)) (by omega) hL hH
  intro d
  induction d with
  | zero =>
    intro i low high h h1 h2
    simp only [S.mnF, S.mxF] at h1 h2
    subst h1 h2
    apply Comes.of
    show Goes _ _ _
    unfold q6
    repeat' first
      | with_reducible refine goes_if (fun h => ?_) (fun h => ?_) <;> (try simp only [lim64, decide_eq_true_eq, decide_eq_false_iff_not, Int.toNat_natCast, toNat_pred, toNat_succ, Option.getD_some, Option.getD_none, Bool.not_eq_true', Bool.not_eq_false', Bool.and_eq_true, Bool.or_eq_true, Bool.and_eq_false_iff, Bool.or_eq_false_iff, bne_iff_ne, beq_iff_eq, bne_eq_false_iff_eq, beq_eq_false_iff_ne, ne_eq, not_and, Int.not_le, Int.not_lt, ge_iff_le, gt_iff_lt, Nat.not_lt, Nat.not_le, Bool.not_eq_true, Bool.not_eq_false, Bool.true_eq_false, Bool.false_eq_true, not_false_eq_true, not_true_eq_false, eq_self] at h)
      | exact goes_none.mpr (by omega)
    all_goals first | (exfalso; omega) | exact hj
  | succ d ih =>
    intro i low high h h1 h2
    simp only [S.mnF, S.mxF] at h1 h2
    have ih := ih (i + 1) _ _ (by omega) h1 h2
    apply Comes.of
    show Goes _ _ _
    unfold q6
    repeat' first
      | with_reducible refine goes_if (fun h => ?_) (fun h => ?_) <;> (try simp only [lim64, decide_eq_true_eq, decide_eq_false_iff_not, Int.toNat_natCast, toNat_pred, toNat_succ, Option.getD_some, Option.getD_none, Bool.not_eq_true', Bool.not_eq_false', Bool.and_eq_true, Bool.or_eq_true, Bool.and_eq_false_iff, Bool.or_eq_false_iff, bne_iff_ne, beq_iff_eq, bne_eq_false_iff_eq, beq_eq_false_iff_ne, ne_eq, not_and, Int.not_le, Int.not_lt, ge_iff_le, gt_iff_lt, Nat.not_lt, Nat.not_le, Bool.not_eq_true, Bool.not_eq_false, Bool.true_eq_false, Bool.false_eq_true, not_false_eq_true, not_true_eq_false, eq_self] at h)
      | exact goes_none.mpr (by omega)
    all_goals first | (exfalso; omega) | exact ih
set_option maxHeartbeats 2000000 in
theorem s6 (al nl ml : Nat) (tl : Nat → Int) (vl : Nat → Int) (gl : Nat → Bool) (k : Int) (hp : al + nl ≤ ml) : Goes ((q6 al nl ml tl vl gl k)) ((p6 al nl ml tl vl gl k)) (true) := by
  have hi := i6 al nl ml tl vl gl k hp
  have hk : (S.extR nl (fun j => tl (j + al)) (fun j => vl (j + al)) (fun j => gl (j + al)) k).1 = 0 → ∃ K : Nat, 1 ≤ K ∧ (S.extR nl (fun j => tl (j + al)) (fun j => vl (j + al)) (fun j => gl (j + al)) k).2 = S.extL (fun j => (tl (j + al), vl (j + al), gl (j + al))) nl K K := by
    intro h
    unfold S.extR at h ⊢
    by_cases h4 : 400 < nl
    · rw [if_pos h4] at h; cases h
    · rw [if_neg h4] at h ⊢
      by_cases h0 : S.errS (fun j => tl (j + al)) (fun j => vl (j + al)) 0 nl = 0
      · rw [if_pos h0] at h ⊢
        by_cases h1 : 1 ≤ k ∧ k ≤ 200
        · rw [if_pos h1]; exact ⟨k.toNat, by omega, rfl⟩
        · rw [if_neg h1] at h; cases h
      · rw [if_neg h0] at h; exact absurd h h0
  have hlen : (S.extR nl (fun j => tl (j + al)) (fun j => vl (j + al)) (fun j => gl (j + al)) k).2.length ≤ 1000 := by
    unfold S.extR
    split
    · exact Nat.zero_le _
    · split
      · split
        · exact Nat.le_trans (extL_len _) (by omega)
        · exact Nat.zero_le _
      · exact Nat.zero_le _
  have hkeep : 0 < nl → (S.extR nl (fun j => tl (j + al)) (fun j => vl (j + al)) (fun j => gl (j + al)) k).1 = 0 → 0 < (S.extR nl (fun j => tl (j + al)) (fun j => vl (j + al)) (fun j => gl (j + al)) k).2.length ∧ S.mnF (fun j => (S.at' (S.extR nl (fun j => tl (j + al)) (fun j => vl (j + al)) (fun j => gl (j + al)) k).2 j).2.1) 0 (S.extR nl (fun j => tl (j + al)) (fun j => vl (j + al)) (fun j => gl (j + al)) k).2.length (S.at' (S.extR nl (fun j => tl (j + al)) (fun j => vl (j + al)) (fun j => gl (j + al)) k).2 0).2.1 = S.mnF (fun j => vl (j + al)) 0 nl (vl (0 + al)) ∧ S.mxF (fun j => (S.at' (S.extR nl (fun j => tl (j + al)) (fun j => vl (j + al)) (fun j => gl (j + al)) k).2 j).2.1) 0 (S.extR nl (fun j => tl (j + al)) (fun j => vl (j + al)) (fun j => gl (j + al)) k).2.length (S.at' (S.extR nl (fun j => tl (j + al)) (fun j => vl (j + al)) (fun j => gl (j + al)) k).2 0).2.1 = S.mxF (fun j => vl (j + al)) 0 nl (vl (0 + al)) := by
    intro hn h
    obtain ⟨K, hK, e⟩ := hk h
    rw [e]
    obtain ⟨m1, m2⟩ := extL_mem (row := (fun j => (tl (j + al), vl (j + al), gl (j + al)))) (n := nl) hK K (Nat.le_refl _)
    have ec : S.cutP nl K K = nl := Nat.mul_div_cancel_left _ (by omega)
    rw [ec] at m1 m2
    exact ext_keeps (row := (fun j => (tl (j + al), vl (j + al), gl (j + al)))) hn m1 m2
  have hfin : 0 < nl → nl ≤ 410 → (S.extR nl (fun j => tl (j + al)) (fun j => vl (j + al)) (fun j => gl (j + al)) k).1 = 0 → Comes (q6 al nl ml tl vl gl k) (.h0 (S.at' (S.extR nl (fun j => tl (j + al)) (fun j => vl (j + al)) (fun j => gl (j + al)) k).2 0).2.1 (S.at' (S.extR nl (fun j => tl (j + al)) (fun j => vl (j + al)) (fun j => gl (j + al)) k).2 0).2.1 0 (S.extR nl (fun j => tl (j + al)) (fun j => vl (j + al)) (fun j => gl (j + al)) k).2) true := fun hn hm h => by
    obtain ⟨k1, k2, k3⟩ := hkeep hn h
    exact hi ⟨hn, hm⟩ hlen _ _ rfl rfl (S.extR nl (fun j => tl (j + al)) (fun j => vl (j + al)) (fun j => gl (j + al)) k).2.length 0 _ _ (by omega) k2 k3
  clear hi hk
  unfold p6
  generalize (S.extR nl (fun j => tl (j + al)) (fun j => vl (j + al)) (fun j => gl (j + al)) k) = P at *
  simp only [mkl3_at]
  repeat' first
    | with_reducible refine goes_if (fun h => ?_) (fun h => ?_) <;> (try simp only [lim64, decide_eq_true_eq, decide_eq_false_iff_not, Int.toNat_natCast, toNat_pred, toNat_succ, Option.getD_some, Option.getD_none, Bool.not_eq_true', Bool.not_eq_false', Bool.and_eq_true, Bool.or_eq_true, Bool.and_eq_false_iff, Bool.or_eq_false_iff, bne_iff_ne, beq_iff_eq, bne_eq_false_iff_eq, beq_eq_false_iff_ne, ne_eq, not_and, Int.not_le, Int.not_lt, ge_iff_le, gt_iff_lt, Nat.not_lt, Nat.not_le, Bool.not_eq_true, Bool.not_eq_false, Bool.true_eq_false, Bool.false_eq_true, not_false_eq_true, not_true_eq_false, eq_self] at h)
    | exact goes_none.mpr (by omega)
  all_goals first
    | (exfalso; omega)
    | rfl
    | (exfalso; have := (hkeep (by omega) (by assumption)).1; omega)
    | exact hfin (by omega) (by omega) (by assumption)

theorem k6_ok : k6.ok Try.prog := by
  intro x hx
  obtain ⟨⟨al, nl, ml, tl, vl, gl, _⟩, k, _⟩ := x
  obtain ⟨h1, h2⟩ := a6 al nl ml tl vl gl k (s6 al nl ml tl vl gl k (of_decide_eq_true hx))
  exact ⟨⟨400, (by decide : 1 + 1 + 0 ≤ 400), h1⟩, h2⟩

end Go.Ev
