/-
  The law of the newest samples.
-/
import Derived.Test.YtedbjnojogjnkaaN0
namespace Go.Ev
open Go.Proofs
set_option linter.unusedVariables false
set_option linter.unusedSimpArgs false
inductive St8 where
  | h0 (x0 : Int) (x1 : Int) (x2 : Int) (x3 : Int) (x4 : Int) (x5 : Int) (x6 : Bool) (x7 : List (Int × Int × Int × Bool)) (x8 : List (Int × Int × Bool)) (x9 : List (Int × Int × Bool))
abbrev Rt8 := Bool
noncomputable def V8 (c0 : Int) (al nl ml : Nat) (tl : Nat → Int) (vl : Nat → Int) (r : Rt8) : PV := PV.bool r
noncomputable def N8 (c0 : Int) (al nl ml : Nat) (tl : Nat → Int) (vl : Nat → Int) (r : Rt8) : List Blk := []
noncomputable def I8 (c0 : Int) (al nl ml : Nat) (tl : Nat → Int) (vl : Nat → Int) : St8 → Hd
  | .h0 x0 x1 x2 x3 x4 x5 x6 x7 x8 x9 => ⟨hd Try.f8 0, [PV.int IntKind.i64 ((1 : Int) + Int.tmod c0 (20 : Int)),
 PV.ptr (PA.mk (1) (0) (0) (0)), PV.int IntKind.i64 x0,
 PV.own (4) (3) (List.length x9), PV.own (2) (4) (List.length x7),
 PV.int IntKind.i64
 (↑(List.length (S.stepsT nl (fun (j : Nat) => tl (j + al)) fun (j : Nat) => vl (j + al))) : Int),
 PV.int IntKind.i64 x1], [[(1, (true, Blk.cells
 [PV.int IntKind.i64 x2, PV.int IntKind.i64 x3,
 PV.own (3) (3) (List.length x8), PV.int IntKind.i64 x4,
 PV.int IntKind.i64 x5, PV.bool x6])), (2, (true, Blk.cols (List.length x7)
 [Col.int IntKind.i64 fun (j : Nat) => (S.at' x7 j).1,
 Col.int IntKind.i64 fun (j : Nat) => (S.at' x7 j).2.1,
 Col.int IntKind.i64 fun (j : Nat) => (S.at' x7 j).2.2.1,
 Col.bool fun (j : Nat) => (S.at' x7 j).2.2.2])), (3, (true, Blk.cols (List.length x8)
 [Col.int IntKind.i64 fun (j : Nat) => (S.at' x8 j).1,
 Col.int IntKind.i64 fun (j : Nat) => (S.at' x8 j).2.1,
 Col.bool fun (j : Nat) => (S.at' x8 j).2.2])), (4, (true, Blk.cols (List.length x9)
 [Col.int IntKind.i64 fun (j : Nat) => (S.at' x9 j).1,
 Col.int IntKind.i64 fun (j : Nat) => (S.at' x9 j).2.1,
 Col.bool fun (j : Nat) => (S.at' x9 j).2.2]))], [(0, (false, .cols ml [.int .u8 tl, .int .u8 vl]))]], 5⟩
noncomputable def q8 (c0 : Int) (al nl ml : Nat) (tl : Nat → Int) (vl : Nat → Int) : St8 → Option (St8 ⊕ Rt8)
  | .h0 x0 x1 x2 x3 x4 x5 x6 x7 x8 x9 => bif (decide
 (x1 < (↑(List.length (S.stepsT nl (fun (j : Nat) => tl (j + al)) fun (j : Nat) => vl (j + al))) : Int)))
 then (bif (decide ((0 : Int) ≤ x1 ∧ x1 < (↑(List.length x7) : Int)))
 then (bif (decide (Int.toNat x1 < List.length x7))
 then (bif (x0 != (0 : Int))
 then (some (.inr (false)))
 else (bif (decide (0 + List.length x8 ≤ List.length x8 ∧ List.length x8 ≤ 1000000))
 then (bif (decide (List.length x9 + 1 ≤ 1000000))
 then (bif (decide (List.length x9 ≤ List.length x9))
 then (bif (lim IntKind.i64 (x1 + (1 : Int)))
 then (some (.inl (.h0 (Prod.fst
 (Prod.snd
 (Prod.snd
 (Prod.snd
 (Prod.snd
 (Prod.snd
 (S.putS x2 x3 (List.length x8) (fun (j : Nat) => (S.at' x8 j).1)
 (fun (j : Nat) => (S.at' x8 j).2.1)
 (fun (j : Nat) => (S.at' x8 j).2.2) x4 x5 x6
 ((S.at' x7 (Int.toNat x1)).2.1)
 ((S.at' x7 (Int.toNat x1)).2.2.1)
 ((S.at' x7 (Int.toNat x1)).2.2.2)))))))) (x1 + (1 : Int)) (Prod.fst
 (S.putS x2 x3 (List.length x8) (fun (j : Nat) => (S.at' x8 j).1)
 (fun (j : Nat) => (S.at' x8 j).2.1) (fun (j : Nat) => (S.at' x8 j).2.2)
 x4 x5 x6 ((S.at' x7 (Int.toNat x1)).2.1)
 ((S.at' x7 (Int.toNat x1)).2.2.1)
 ((S.at' x7 (Int.toNat x1)).2.2.2))) (Prod.fst
 (Prod.snd
 (S.putS x2 x3 (List.length x8) (fun (j : Nat) => (S.at' x8 j).1)
 (fun (j : Nat) => (S.at' x8 j).2.1)
 (fun (j : Nat) => (S.at' x8 j).2.2) x4 x5 x6
 ((S.at' x7 (Int.toNat x1)).2.1)
 ((S.at' x7 (Int.toNat x1)).2.2.1)
 ((S.at' x7 (Int.toNat x1)).2.2.2)))) (Prod.fst
 (Prod.snd
 (Prod.snd
 (S.putS x2 x3 (List.length x8) (fun (j : Nat) => (S.at' x8 j).1)
 (fun (j : Nat) => (S.at' x8 j).2.1)
 (fun (j : Nat) => (S.at' x8 j).2.2) x4 x5 x6
 ((S.at' x7 (Int.toNat x1)).2.1)
 ((S.at' x7 (Int.toNat x1)).2.2.1)
 ((S.at' x7 (Int.toNat x1)).2.2.2))))) (Prod.fst
 (Prod.snd
 (Prod.snd
 (Prod.snd
 (S.putS x2 x3 (List.length x8) (fun (j : Nat) => (S.at' x8 j).1)
 (fun (j : Nat) => (S.at' x8 j).2.1)
 (fun (j : Nat) => (S.at' x8 j).2.2) x4 x5 x6
 ((S.at' x7 (Int.toNat x1)).2.1)
 ((S.at' x7 (Int.toNat x1)).2.2.1)
 ((S.at' x7 (Int.toNat x1)).2.2.2)))))) (Prod.fst
 (Prod.snd
 (Prod.snd
 (Prod.snd
 (Prod.snd
 (S.putS x2 x3 (List.length x8) (fun (j : Nat) => (S.at' x8 j).1)
 (fun (j : Nat) => (S.at' x8 j).2.1)
 (fun (j : Nat) => (S.at' x8 j).2.2) x4 x5 x6
 ((S.at' x7 (Int.toNat x1)).2.1)
 ((S.at' x7 (Int.toNat x1)).2.2.1)
 ((S.at' x7 (Int.toNat x1)).2.2.2))))))) (x7) (Prod.snd
 (Prod.snd
 (Prod.snd
 (Prod.snd
 (Prod.snd
 (Prod.snd
 (S.putS x2 x3 (List.length x8) (fun (j : Nat) => (S.at' x8 j).1)
 (fun (j : Nat) => (S.at' x8 j).2.1)
 (fun (j : Nat) => (S.at' x8 j).2.2) x4 x5 x6
 ((S.at' x7 (Int.toNat x1)).2.1)
 ((S.at' x7 (Int.toNat x1)).2.2.1)
 ((S.at' x7 (Int.toNat x1)).2.2.2)))))))) (S.snoc x9
 ((S.at' x7 (Int.toNat x1)).2.1, (S.at' x7 (Int.toNat x1)).2.2.1,
 (S.at' x7 (Int.toNat x1)).2.2.2)))))
 else (none))
 else (none))
 else (none))
 else (none)))
 else (none))
 else (none))
 else (bif (decide (0 + List.length x8 ≤ List.length x8 ∧ List.length x8 ≤ 1000000))
 then (bif (lim IntKind.i64 ((↑(List.length x9) : Int) - ((1 : Int) + Int.tmod c0 (20 : Int))))
 then (bif (x0 == (0 : Int))
 then (bif (Prod.fst
 (Prod.snd
 (if
 S.vB x2 x3 (List.length x8) (fun (j : Nat) => (S.at' x8 j).1)
 (fun (j : Nat) => (S.at' x8 j).2.1) x4 x5 x6 =
 (0 : Int) then
 (x4, (0 : Int),
 S.mkl (List.length x8) fun (j : Nat) =>
 ((S.at' x8 j).1, (S.at' x8 j).2.1,
 (S.at' x8 j).2.2))
 else
 ((0 : Int),
 S.vB x2 x3 (List.length x8) (fun (j : Nat) => (S.at' x8 j).1)
 (fun (j : Nat) => (S.at' x8 j).2.1) x4 x5 x6,
 []))) ==
 (0 : Int))
 then (bif (Prod.fst
 (if
 S.vB x2 x3 (List.length x8) (fun (j : Nat) => (S.at' x8 j).1)
 (fun (j : Nat) => (S.at' x8 j).2.1) x4 x5 x6 =
 (0 : Int) then
 (x4, (0 : Int),
 S.mkl (List.length x8) fun (j : Nat) =>
 ((S.at' x8 j).1, (S.at' x8 j).2.1, (S.at' x8 j).2.2))
 else
 ((0 : Int),
 S.vB x2 x3 (List.length x8) (fun (j : Nat) => (S.at' x8 j).1)
 (fun (j : Nat) => (S.at' x8 j).2.1) x4 x5 x6,
 [])) ==
 Max.max (0 : Int) ((↑(List.length x9) : Int) - ((1 : Int) + Int.tmod c0 (20 : Int))))
 then (bif (decide
 ((0 : Int) ≤ Max.max (0 : Int) ((↑(List.length x9) : Int) - ((1 : Int) + Int.tmod c0 (20 : Int))) ∧
 Max.max (0 : Int) ((↑(List.length x9) : Int) - ((1 : Int) + Int.tmod c0 (20 : Int))) ≤ (↑(List.length x9) : Int) ∧
 (↑(List.length x9) : Int) ≤ (↑(List.length x9) : Int)))
 then (bif (decide
 (0 +
 List.length
 (Prod.snd
 (Prod.snd
 (if
 S.vB x2 x3 (List.length x8) (fun (j : Nat) => (S.at' x8 j).1)
 (fun (j : Nat) => (S.at' x8 j).2.1) x4 x5 x6 =
 (0 : Int) then
 (x4, (0 : Int),
 S.mkl (List.length x8) fun (j : Nat) =>
 ((S.at' x8 j).1, (S.at' x8 j).2.1,
 (S.at' x8 j).2.2))
 else
 ((0 : Int),
 S.vB x2 x3 (List.length x8) (fun (j : Nat) => (S.at' x8 j).1)
 (fun (j : Nat) => (S.at' x8 j).2.1) x4 x5 x6,
 [])))) ≤
 List.length
 (Prod.snd
 (Prod.snd
 (if
 S.vB x2 x3 (List.length x8) (fun (j : Nat) => (S.at' x8 j).1)
 (fun (j : Nat) => (S.at' x8 j).2.1) x4 x5 x6 =
 (0 : Int) then
 (x4, (0 : Int),
 S.mkl (List.length x8) fun (j : Nat) =>
 ((S.at' x8 j).1, (S.at' x8 j).2.1,
 (S.at' x8 j).2.2))
 else
 ((0 : Int),
 S.vB x2 x3 (List.length x8) (fun (j : Nat) => (S.at' x8 j).1)
 (fun (j : Nat) => (S.at' x8 j).2.1) x4 x5 x6,
 [])))) ∧
 List.length
 (Prod.snd
 (Prod.snd
 (if
 S.vB x2 x3 (List.length x8) (fun (j : Nat) => (S.at' x8 j).1)
 (fun (j : Nat) => (S.at' x8 j).2.1) x4 x5 x6 =
 (0 : Int) then
 (x4, (0 : Int),
 S.mkl (List.length x8) fun (j : Nat) =>
 ((S.at' x8 j).1, (S.at' x8 j).2.1,
 (S.at' x8 j).2.2))
 else
 ((0 : Int),
 S.vB x2 x3 (List.length x8) (fun (j : Nat) => (S.at' x8 j).1)
 (fun (j : Nat) => (S.at' x8 j).2.1) x4 x5 x6,
 [])))) ≤
 1000000 ∧
 Int.toNat (Max.max (0 : Int) ((↑(List.length x9) : Int) - ((1 : Int) + Int.tmod c0 (20 : Int)))) +
 (List.length x9 -
 Int.toNat (Max.max (0 : Int) ((↑(List.length x9) : Int) - ((1 : Int) + Int.tmod c0 (20 : Int))))) ≤
 List.length x9 ∧
 List.length x9 -
 Int.toNat (Max.max (0 : Int) ((↑(List.length x9) : Int) - ((1 : Int) + Int.tmod c0 (20 : Int)))) ≤
 1000000))
 then (bif (decide
 ((S.mkl
 (List.length
 (Prod.snd
 (Prod.snd
 (if
 S.vB x2 x3 (List.length x8) (fun (j : Nat) => (S.at' x8 j).1)
 (fun (j : Nat) => (S.at' x8 j).2.1) x4 x5 x6 =
 (0 : Int) then
 (x4, (0 : Int),
 S.mkl (List.length x8) fun (j : Nat) =>
 ((S.at' x8 j).1, (S.at' x8 j).2.1,
 (S.at' x8 j).2.2))
 else
 ((0 : Int),
 S.vB x2 x3 (List.length x8) (fun (j : Nat) => (S.at' x8 j).1)
 (fun (j : Nat) => (S.at' x8 j).2.1) x4 x5 x6,
 [])))))
 fun (j : Nat) =>
 (Prod.fst
 (S.at'
 (Prod.snd
 (Prod.snd
 (if
 S.vB x2 x3 (List.length x8) (fun (j : Nat) => (S.at' x8 j).1)
 (fun (j : Nat) => (S.at' x8 j).2.1) x4 x5 x6 =
 (0 : Int) then
 (x4, (0 : Int),
 S.mkl (List.length x8) fun (j : Nat) =>
 ((S.at' x8 j).1, (S.at' x8 j).2.1,
 (S.at' x8 j).2.2))
 else
 ((0 : Int),
 S.vB x2 x3 (List.length x8) (fun (j : Nat) => (S.at' x8 j).1)
 (fun (j : Nat) => (S.at' x8 j).2.1) x4 x5 x6,
 []))))
 j),
 Prod.fst
 (Prod.snd
 (S.at'
 (Prod.snd
 (Prod.snd
 (if
 S.vB x2 x3 (List.length x8) (fun (j : Nat) => (S.at' x8 j).1)
 (fun (j : Nat) => (S.at' x8 j).2.1) x4 x5 x6 =
 (0 : Int) then
 (x4, (0 : Int),
 S.mkl (List.length x8) fun (j : Nat) =>
 ((S.at' x8 j).1, (S.at' x8 j).2.1,
 (S.at' x8 j).2.2))
 else
 ((0 : Int),
 S.vB x2 x3 (List.length x8) (fun (j : Nat) => (S.at' x8 j).1)
 (fun (j : Nat) => (S.at' x8 j).2.1) x4 x5 x6,
 []))))
 j)),
 Prod.snd
 (Prod.snd
 (S.at'
 (Prod.snd
 (Prod.snd
 (if
 S.vB x2 x3 (List.length x8) (fun (j : Nat) => (S.at' x8 j).1)
 (fun (j : Nat) => (S.at' x8 j).2.1) x4 x5 x6 =
 (0 : Int) then
 (x4, (0 : Int),
 S.mkl (List.length x8) fun (j : Nat) =>
 ((S.at' x8 j).1, (S.at' x8 j).2.1,
 (S.at' x8 j).2.2))
 else
 ((0 : Int),
 S.vB x2 x3 (List.length x8) (fun (j : Nat) => (S.at' x8 j).1)
 (fun (j : Nat) => (S.at' x8 j).2.1) x4 x5 x6,
 []))))
 j)))) =
 S.mkl
 (List.length x9 -
 Int.toNat (Max.max (0 : Int) ((↑(List.length x9) : Int) - ((1 : Int) + Int.tmod c0 (20 : Int)))))
 fun (j : Nat) =>
 (Prod.fst
 (S.at' x9
 (j + Int.toNat (Max.max (0 : Int) ((↑(List.length x9) : Int) - ((1 : Int) + Int.tmod c0 (20 : Int)))))),
 Prod.fst
 (Prod.snd
 (S.at' x9
 (j + Int.toNat (Max.max (0 : Int) ((↑(List.length x9) : Int) - ((1 : Int) + Int.tmod c0 (20 : Int))))))),
 Prod.snd
 (Prod.snd
 (S.at' x9
 (j + Int.toNat (Max.max (0 : Int) ((↑(List.length x9) : Int) - ((1 : Int) + Int.tmod c0 (20 : Int))))))))))
 then (some (.inr (true)))
 else (some (.inr (false))))
 else (none))
 else (none))
 else (some (.inr (false))))
 else (some (.inr (false))))
 else (some (.inr (false))))
 else (none))
 else (none))
noncomputable def p8 (c0 : Int) (al nl ml : Nat) (tl : Nat → Int) (vl : Nat → Int) : Option (St8 ⊕ Rt8) := bif (decide ((↑nl : Int) > (100 : Int)))
 then (some (.inr (true)))
 else (bif (lim IntKind.i64 (Int.tmod c0 (20 : Int)))
 then (bif (lim IntKind.i64 ((1 : Int) + Int.tmod c0 (20 : Int)))
 then (bif (decide
 (al + nl ≤ ml ∧
 nl ≤ 900000 ∧
 (S.bytes nl fun (j : Nat) => tl (j + al)) = true ∧
 (S.bytes nl fun (j : Nat) => vl (j + al)) = true))
 then (some (.inl (.h0 ((S.newS ((1 : Int) + Int.tmod c0 (20 : Int)) (5 : Int)).2.2.2) ((0 : Int)) ((S.newS ((1 : Int) + Int.tmod c0 (20 : Int)) (5 : Int)).1) ((S.newS ((1 : Int) + Int.tmod c0 (20 : Int)) (5 : Int)).2.1) ((0 : Int)) ((S.newS ((1 : Int) + Int.tmod c0 (20 : Int)) (5 : Int)).2.2.1) (false) (S.stepsT nl (fun (j : Nat) => tl (j + al)) fun (j : Nat) => vl (j + al)) ([]) ([]))))
 else (none))
 else (none))
 else (none))
noncomputable def Te8 (test : Bool → Prop → Prop → Prop) (Kst : KS) (Kret : KR) (c0 : Int) (al nl ml : Nat) (tl : Nat → Int) (vl : Nat → Int) : Prop :=
  test (true)
 (test (true)
 (test (decide ((↑nl : Int) > (100 : Int)))
 (test (true)
 (test (true)
 (Kret (PV.tf true) ([[(0, false, Blk.cols ml [Col.int IntKind.u8 tl, Col.int IntKind.u8 vl])]]) (3))
 (Kret (PV.tf false) ([[(0, false, Blk.cols ml [Col.int IntKind.u8 tl, Col.int IntKind.u8 vl])]]) (3)))
 (False))
 (test (false)
 (False)
 (test (lim IntKind.i64 (Int.tmod c0 (20 : Int)))
 (test (lim IntKind.i64 ((1 : Int) + Int.tmod c0 (20 : Int)))
 (test (true)
 (test (decide
 (al + nl ≤ ml ∧
 nl ≤ 900000 ∧
 (S.bytes nl fun (j : Nat) => tl (j + al)) = true ∧
 (S.bytes nl fun (j : Nat) => vl (j + al)) = true))
 (Kst (hd Try.f8 0) ([PV.int IntKind.i64 ((1 : Int) + Int.tmod c0 (20 : Int)),
 PV.ptr (PA.mk (3) (0) (0) (0)),
 PV.int IntKind.i64
 ((S.newS ((1 : Int) + Int.tmod c0 (20 : Int)) (5 : Int)).2.2.2),
 PV.nils,
 PV.own (5) (4)
 (List.length (S.stepsT nl (fun (j : Nat) => tl (j + al)) fun (j : Nat) => vl (j + al))),
 PV.int IntKind.i64
 (↑(List.length (S.stepsT nl (fun (j : Nat) => tl (j + al)) fun (j : Nat) => vl (j + al))) : Int),
 PV.int IntKind.i64 (0 : Int)]) ([[(0, false, Blk.cols ml [Col.int IntKind.u8 tl, Col.int IntKind.u8 vl]),
 (5, true,
 Blk.cols (List.length (S.stepsT nl (fun (j : Nat) => tl (j + al)) fun (j : Nat) => vl (j + al)))
 [Col.int IntKind.i64 fun (j : Nat) =>
 (S.at' (S.stepsT nl (fun (j : Nat) => tl (j + al)) fun (j : Nat) => vl (j + al)) j).1,
 Col.int IntKind.i64 fun (j : Nat) =>
 Prod.fst
 (Prod.snd
 (S.at' (S.stepsT nl (fun (j : Nat) => tl (j + al)) fun (j : Nat) => vl (j + al)) j)),
 Col.int IntKind.i64 fun (j : Nat) =>
 Prod.fst
 (Prod.snd
 (Prod.snd
 (S.at' (S.stepsT nl (fun (j : Nat) => tl (j + al)) fun (j : Nat) => vl (j + al)) j))),
 Col.bool fun (j : Nat) =>
 Prod.snd
 (Prod.snd
 (Prod.snd
 (S.at' (S.stepsT nl (fun (j : Nat) => tl (j + al)) fun (j : Nat) => vl (j + al)) j)))]),
 (3, true,
 Blk.cells
 [PV.int IntKind.i64 ((S.newS ((1 : Int) + Int.tmod c0 (20 : Int)) (5 : Int)).1),
 PV.int IntKind.i64
 ((S.newS ((1 : Int) + Int.tmod c0 (20 : Int)) (5 : Int)).2.1),
 PV.nils, PV.int IntKind.i64 (0 : Int),
 PV.int IntKind.i64
 ((S.newS ((1 : Int) + Int.tmod c0 (20 : Int)) (5 : Int)).2.2.1),
 PV.tf false])]]) (6))
 (False))
 (False))
 (False))
 (False))))
 (test (true)
 (test (true)
 (Kret (PV.tf true) ([[(0, false, Blk.cols ml [Col.int IntKind.u8 tl, Col.int IntKind.u8 vl])]]) (3))
 (Kret (PV.tf false) ([[(0, false, Blk.cols ml [Col.int IntKind.u8 tl, Col.int IntKind.u8 vl])]]) (3)))
 (False)))
 (False)
set_option maxRecDepth 100000 in
theorem te8 (test : Bool → Prop → Prop → Prop) (Kst : KS) (Kret : KR) (c0 : Int) (al nl ml : Nat) (tl : Nat → Int) (vl : Nat → Int) : run test Try.env true (xJ test) true 400 ⟨8, [.cd (mkFn Try.f8).body], argT 0 [.int .u8 c0, .loose ⟨0, 2, al, 0⟩ nl], [[], [(0, (false, .cols ml [.int .u8 tl, .int .u8 vl]))]], 1⟩ (proj 1 [5, 6, 7, 8, 33, 34, 35] Kst Kret) =
  Te8 test Kst Kret c0 al nl ml tl vl := by kernel_rfl
noncomputable def T8_0 (test : Bool → Prop → Prop → Prop) (Kst : KS) (Kret : KR) (c0 : Int) (al nl ml : Nat) (tl : Nat → Int) (vl : Nat → Int) (x0 : Int) (x1 : Int) (x2 : Int) (x3 : Int) (x4 : Int) (x5 : Int) (x6 : Bool) (x7 : List (Int × Int × Int × Bool)) (x8 : List (Int × Int × Bool)) (x9 : List (Int × Int × Bool)) : Prop :=
  test (decide
 (x1 < (↑(List.length (S.stepsT nl (fun (j : Nat) => tl (j + al)) fun (j : Nat) => vl (j + al))) : Int)))
 (test (decide ((0 : Int) ≤ x1 ∧ x1 < (↑(List.length x7) : Int)))
 (test (decide (Int.toNat x1 < List.length x7))
 (test (decide (Int.toNat x1 < List.length x7))
 (test (decide (Int.toNat x1 < List.length x7))
 (test (decide (Int.toNat x1 < List.length x7))
 (test (x0 != (0 : Int))
 (Kret (PV.tf false) ([[(0, false, Blk.cols ml [Col.int IntKind.u8 tl, Col.int IntKind.u8 vl])]]) (6))
 (test (decide (0 + List.length x8 ≤ List.length x8 ∧ List.length x8 ≤ 1000000))
 (test (decide (List.length x9 + 1 ≤ 1000000))
 (test (decide (List.length x9 ≤ List.length x9))
 (test (true)
 (test (lim IntKind.i64 (x1 + (1 : Int)))
 (Kst (hd Try.f8 0) ([PV.int IntKind.i64 ((1 : Int) + Int.tmod c0 (20 : Int)),
 PV.ptr (PA.mk (1) (0) (0) (0)),
 PV.int IntKind.i64
 (Prod.fst
 (Prod.snd
 (Prod.snd
 (Prod.snd
 (Prod.snd
 (Prod.snd
 (S.putS x2 x3 (List.length x8) (fun (j : Nat) => (S.at' x8 j).1)
 (fun (j : Nat) => (S.at' x8 j).2.1)
 (fun (j : Nat) => (S.at' x8 j).2.2) x4 x5 x6
 ((S.at' x7 (Int.toNat x1)).2.1)
 ((S.at' x7 (Int.toNat x1)).2.2.1)
 ((S.at' x7 (Int.toNat x1)).2.2.2)))))))),
 PV.own (9) (3) (List.length x9 + 1),
 PV.own (2) (4) (List.length x7),
 PV.int IntKind.i64
 (↑(List.length (S.stepsT nl (fun (j : Nat) => tl (j + al)) fun (j : Nat) => vl (j + al))) : Int),
 PV.int IntKind.i64 (x1 + (1 : Int))]) ([[(0, false, Blk.cols ml [Col.int IntKind.u8 tl, Col.int IntKind.u8 vl]),
 (2, true,
 Blk.cols (List.length x7)
 [Col.int IntKind.i64 fun (j : Nat) => (S.at' x7 j).1,
 Col.int IntKind.i64 fun (j : Nat) => (S.at' x7 j).2.1,
 Col.int IntKind.i64 fun (j : Nat) => (S.at' x7 j).2.2.1,
 Col.bool fun (j : Nat) => (S.at' x7 j).2.2.2]),
 (9, true,
 Blk.cols (List.length x9 + 1)
 [Col.int IntKind.i64 fun (j : Nat) =>
 bif Nat.blt j (List.length x9) then (S.at' x9 j).1
 else (S.at' x7 (Int.toNat x1)).2.1,
 Col.int IntKind.i64 fun (j : Nat) =>
 bif Nat.blt j (List.length x9) then (S.at' x9 j).2.1
 else (S.at' x7 (Int.toNat x1)).2.2.1,
 Col.bool fun (j : Nat) =>
 bif Nat.blt j (List.length x9) then (S.at' x9 j).2.2
 else (S.at' x7 (Int.toNat x1)).2.2.2]),
 (1, true,
 Blk.cells
 [PV.int IntKind.i64
 (Prod.fst
 (S.putS x2 x3 (List.length x8) (fun (j : Nat) => (S.at' x8 j).1)
 (fun (j : Nat) => (S.at' x8 j).2.1)
 (fun (j : Nat) => (S.at' x8 j).2.2) x4 x5 x6
 ((S.at' x7 (Int.toNat x1)).2.1)
 ((S.at' x7 (Int.toNat x1)).2.2.1)
 ((S.at' x7 (Int.toNat x1)).2.2.2))),
 PV.int IntKind.i64
 (Prod.fst
 (Prod.snd
 (S.putS x2 x3 (List.length x8) (fun (j : Nat) => (S.at' x8 j).1)
 (fun (j : Nat) => (S.at' x8 j).2.1)
 (fun (j : Nat) => (S.at' x8 j).2.2) x4 x5 x6
 ((S.at' x7 (Int.toNat x1)).2.1)
 ((S.at' x7 (Int.toNat x1)).2.2.1)
 ((S.at' x7 (Int.toNat x1)).2.2.2)))),
 PV.own (7) (3)
 (List.length
 (Prod.snd
 (Prod.snd
 (Prod.snd
 (Prod.snd
 (Prod.snd
 (Prod.snd
 (S.putS x2 x3 (List.length x8) (fun (j : Nat) => (S.at' x8 j).1)
 (fun (j : Nat) => (S.at' x8 j).2.1)
 (fun (j : Nat) => (S.at' x8 j).2.2) x4 x5 x6
 ((S.at' x7 (Int.toNat x1)).2.1)
 ((S.at' x7 (Int.toNat x1)).2.2.1)
 ((S.at' x7 (Int.toNat x1)).2.2.2))))))))),
 PV.int IntKind.i64
 (Prod.fst
 (Prod.snd
 (Prod.snd
 (S.putS x2 x3 (List.length x8) (fun (j : Nat) => (S.at' x8 j).1)
 (fun (j : Nat) => (S.at' x8 j).2.1)
 (fun (j : Nat) => (S.at' x8 j).2.2) x4 x5 x6
 ((S.at' x7 (Int.toNat x1)).2.1)
 ((S.at' x7 (Int.toNat x1)).2.2.1)
 ((S.at' x7 (Int.toNat x1)).2.2.2))))),
 PV.int IntKind.i64
 (Prod.fst
 (Prod.snd
 (Prod.snd
 (Prod.snd
 (S.putS x2 x3 (List.length x8) (fun (j : Nat) => (S.at' x8 j).1)
 (fun (j : Nat) => (S.at' x8 j).2.1)
 (fun (j : Nat) => (S.at' x8 j).2.2) x4 x5 x6
 ((S.at' x7 (Int.toNat x1)).2.1)
 ((S.at' x7 (Int.toNat x1)).2.2.1)
 ((S.at' x7 (Int.toNat x1)).2.2.2)))))),
 PV.bool
 (Prod.fst
 (Prod.snd
 (Prod.snd
 (Prod.snd
 (Prod.snd
 (S.putS x2 x3 (List.length x8) (fun (j : Nat) => (S.at' x8 j).1)
 (fun (j : Nat) => (S.at' x8 j).2.1)
 (fun (j : Nat) => (S.at' x8 j).2.2) x4 x5 x6
 ((S.at' x7 (Int.toNat x1)).2.1)
 ((S.at' x7 (Int.toNat x1)).2.2.1)
 ((S.at' x7 (Int.toNat x1)).2.2.2)))))))]),
 (7, true,
 Blk.cols
 (List.length
 (Prod.snd
 (Prod.snd
 (Prod.snd
 (Prod.snd
 (Prod.snd
 (Prod.snd
 (S.putS x2 x3 (List.length x8) (fun (j : Nat) => (S.at' x8 j).1)
 (fun (j : Nat) => (S.at' x8 j).2.1)
 (fun (j : Nat) => (S.at' x8 j).2.2) x4 x5 x6
 ((S.at' x7 (Int.toNat x1)).2.1)
 ((S.at' x7 (Int.toNat x1)).2.2.1)
 ((S.at' x7 (Int.toNat x1)).2.2.2)))))))))
 [Col.int IntKind.i64 fun (j : Nat) =>
 Prod.fst
 (S.at'
 (Prod.snd
 (Prod.snd
 (Prod.snd
 (Prod.snd
 (Prod.snd
 (Prod.snd
 (S.putS x2 x3 (List.length x8) (fun (j : Nat) => (S.at' x8 j).1)
 (fun (j : Nat) => (S.at' x8 j).2.1)
 (fun (j : Nat) => (S.at' x8 j).2.2) x4 x5 x6
 ((S.at' x7 (Int.toNat x1)).2.1)
 ((S.at' x7 (Int.toNat x1)).2.2.1)
 ((S.at' x7 (Int.toNat x1)).2.2.2))))))))
 j),
 Col.int IntKind.i64 fun (j : Nat) =>
 Prod.fst
 (Prod.snd
 (S.at'
 (Prod.snd
 (Prod.snd
 (Prod.snd
 (Prod.snd
 (Prod.snd
 (Prod.snd
 (S.putS x2 x3 (List.length x8) (fun (j : Nat) => (S.at' x8 j).1)
 (fun (j : Nat) => (S.at' x8 j).2.1)
 (fun (j : Nat) => (S.at' x8 j).2.2) x4 x5 x6
 ((S.at' x7 (Int.toNat x1)).2.1)
 ((S.at' x7 (Int.toNat x1)).2.2.1)
 ((S.at' x7 (Int.toNat x1)).2.2.2))))))))
 j)),
 Col.bool fun (j : Nat) =>
 Prod.snd
 (Prod.snd
 (S.at'
 (Prod.snd
 (Prod.snd
 (Prod.snd
 (Prod.snd
 (Prod.snd
 (Prod.snd
 (S.putS x2 x3 (List.length x8) (fun (j : Nat) => (S.at' x8 j).1)
 (fun (j : Nat) => (S.at' x8 j).2.1)
 (fun (j : Nat) => (S.at' x8 j).2.2) x4 x5 x6
 ((S.at' x7 (Int.toNat x1)).2.1)
 ((S.at' x7 (Int.toNat x1)).2.2.1)
 ((S.at' x7 (Int.toNat x1)).2.2.2))))))))
 j))])]]) (10))
 (False))
 (False))
 (False))
 (False))
 (False)))
 (False))
 (False))
 (False))
 (False))
 (False))
 (test (decide (0 + List.length x8 ≤ List.length x8 ∧ List.length x8 ≤ 1000000))
 (test (lim IntKind.i64 ((↑(List.length x9) : Int) - ((1 : Int) + Int.tmod c0 (20 : Int))))
 (test (x0 == (0 : Int))
 (test (Prod.fst
 (Prod.snd
 (if
 S.vB x2 x3 (List.length x8) (fun (j : Nat) => (S.at' x8 j).1)
 (fun (j : Nat) => (S.at' x8 j).2.1) x4 x5 x6 =
 (0 : Int) then
 (x4, (0 : Int),
 S.mkl (List.length x8) fun (j : Nat) =>
 ((S.at' x8 j).1, (S.at' x8 j).2.1,
 (S.at' x8 j).2.2))
 else
 ((0 : Int),
 S.vB x2 x3 (List.length x8) (fun (j : Nat) => (S.at' x8 j).1)
 (fun (j : Nat) => (S.at' x8 j).2.1) x4 x5 x6,
 []))) ==
 (0 : Int))
 (test (Prod.fst
 (if
 S.vB x2 x3 (List.length x8) (fun (j : Nat) => (S.at' x8 j).1)
 (fun (j : Nat) => (S.at' x8 j).2.1) x4 x5 x6 =
 (0 : Int) then
 (x4, (0 : Int),
 S.mkl (List.length x8) fun (j : Nat) =>
 ((S.at' x8 j).1, (S.at' x8 j).2.1, (S.at' x8 j).2.2))
 else
 ((0 : Int),
 S.vB x2 x3 (List.length x8) (fun (j : Nat) => (S.at' x8 j).1)
 (fun (j : Nat) => (S.at' x8 j).2.1) x4 x5 x6,
 [])) ==
 Max.max (0 : Int) ((↑(List.length x9) : Int) - ((1 : Int) + Int.tmod c0 (20 : Int))))
 (test (decide
 ((0 : Int) ≤ Max.max (0 : Int) ((↑(List.length x9) : Int) - ((1 : Int) + Int.tmod c0 (20 : Int))) ∧
 Max.max (0 : Int) ((↑(List.length x9) : Int) - ((1 : Int) + Int.tmod c0 (20 : Int))) ≤ (↑(List.length x9) : Int) ∧
 (↑(List.length x9) : Int) ≤ (↑(List.length x9) : Int)))
 (test (decide
 (0 +
 List.length
 (Prod.snd
 (Prod.snd
 (if
 S.vB x2 x3 (List.length x8) (fun (j : Nat) => (S.at' x8 j).1)
 (fun (j : Nat) => (S.at' x8 j).2.1) x4 x5 x6 =
 (0 : Int) then
 (x4, (0 : Int),
 S.mkl (List.length x8) fun (j : Nat) =>
 ((S.at' x8 j).1, (S.at' x8 j).2.1,
 (S.at' x8 j).2.2))
 else
 ((0 : Int),
 S.vB x2 x3 (List.length x8) (fun (j : Nat) => (S.at' x8 j).1)
 (fun (j : Nat) => (S.at' x8 j).2.1) x4 x5 x6,
 [])))) ≤
 List.length
 (Prod.snd
 (Prod.snd
 (if
 S.vB x2 x3 (List.length x8) (fun (j : Nat) => (S.at' x8 j).1)
 (fun (j : Nat) => (S.at' x8 j).2.1) x4 x5 x6 =
 (0 : Int) then
 (x4, (0 : Int),
 S.mkl (List.length x8) fun (j : Nat) =>
 ((S.at' x8 j).1, (S.at' x8 j).2.1,
 (S.at' x8 j).2.2))
 else
 ((0 : Int),
 S.vB x2 x3 (List.length x8) (fun (j : Nat) => (S.at' x8 j).1)
 (fun (j : Nat) => (S.at' x8 j).2.1) x4 x5 x6,
 [])))) ∧
 List.length
 (Prod.snd
 (Prod.snd
 (if
 S.vB x2 x3 (List.length x8) (fun (j : Nat) => (S.at' x8 j).1)
 (fun (j : Nat) => (S.at' x8 j).2.1) x4 x5 x6 =
 (0 : Int) then
 (x4, (0 : Int),
 S.mkl (List.length x8) fun (j : Nat) =>
 ((S.at' x8 j).1, (S.at' x8 j).2.1,
 (S.at' x8 j).2.2))
 else
 ((0 : Int),
 S.vB x2 x3 (List.length x8) (fun (j : Nat) => (S.at' x8 j).1)
 (fun (j : Nat) => (S.at' x8 j).2.1) x4 x5 x6,
 [])))) ≤
 1000000 ∧
 Int.toNat (Max.max (0 : Int) ((↑(List.length x9) : Int) - ((1 : Int) + Int.tmod c0 (20 : Int)))) +
 (List.length x9 -
 Int.toNat (Max.max (0 : Int) ((↑(List.length x9) : Int) - ((1 : Int) + Int.tmod c0 (20 : Int))))) ≤
 List.length x9 ∧
 List.length x9 -
 Int.toNat (Max.max (0 : Int) ((↑(List.length x9) : Int) - ((1 : Int) + Int.tmod c0 (20 : Int)))) ≤
 1000000))
 (test (decide
 ((S.mkl
 (List.length
 (Prod.snd
 (Prod.snd
 (if
 S.vB x2 x3 (List.length x8) (fun (j : Nat) => (S.at' x8 j).1)
 (fun (j : Nat) => (S.at' x8 j).2.1) x4 x5 x6 =
 (0 : Int) then
 (x4, (0 : Int),
 S.mkl (List.length x8) fun (j : Nat) =>
 ((S.at' x8 j).1, (S.at' x8 j).2.1,
 (S.at' x8 j).2.2))
 else
 ((0 : Int),
 S.vB x2 x3 (List.length x8) (fun (j : Nat) => (S.at' x8 j).1)
 (fun (j : Nat) => (S.at' x8 j).2.1) x4 x5 x6,
 [])))))
 fun (j : Nat) =>
 (Prod.fst
 (S.at'
 (Prod.snd
 (Prod.snd
 (if
 S.vB x2 x3 (List.length x8) (fun (j : Nat) => (S.at' x8 j).1)
 (fun (j : Nat) => (S.at' x8 j).2.1) x4 x5 x6 =
 (0 : Int) then
 (x4, (0 : Int),
 S.mkl (List.length x8) fun (j : Nat) =>
 ((S.at' x8 j).1, (S.at' x8 j).2.1,
 (S.at' x8 j).2.2))
 else
 ((0 : Int),
 S.vB x2 x3 (List.length x8) (fun (j : Nat) => (S.at' x8 j).1)
 (fun (j : Nat) => (S.at' x8 j).2.1) x4 x5 x6,
 []))))
 j),
 Prod.fst
 (Prod.snd
 (S.at'
 (Prod.snd
 (Prod.snd
 (if
 S.vB x2 x3 (List.length x8) (fun (j : Nat) => (S.at' x8 j).1)
 (fun (j : Nat) => (S.at' x8 j).2.1) x4 x5 x6 =
 (0 : Int) then
 (x4, (0 : Int),
 S.mkl (List.length x8) fun (j : Nat) =>
 ((S.at' x8 j).1, (S.at' x8 j).2.1,
 (S.at' x8 j).2.2))
 else
 ((0 : Int),
 S.vB x2 x3 (List.length x8) (fun (j : Nat) => (S.at' x8 j).1)
 (fun (j : Nat) => (S.at' x8 j).2.1) x4 x5 x6,
 []))))
 j)),
 Prod.snd
 (Prod.snd
 (S.at'
 (Prod.snd
 (Prod.snd
 (if
 S.vB x2 x3 (List.length x8) (fun (j : Nat) => (S.at' x8 j).1)
 (fun (j : Nat) => (S.at' x8 j).2.1) x4 x5 x6 =
 (0 : Int) then
 (x4, (0 : Int),
 S.mkl (List.length x8) fun (j : Nat) =>
 ((S.at' x8 j).1, (S.at' x8 j).2.1,
 (S.at' x8 j).2.2))
 else
 ((0 : Int),
 S.vB x2 x3 (List.length x8) (fun (j : Nat) => (S.at' x8 j).1)
 (fun (j : Nat) => (S.at' x8 j).2.1) x4 x5 x6,
 []))))
 j)))) =
 S.mkl
 (List.length x9 -
 Int.toNat (Max.max (0 : Int) ((↑(List.length x9) : Int) - ((1 : Int) + Int.tmod c0 (20 : Int)))))
 fun (j : Nat) =>
 (Prod.fst
 (S.at' x9
 (j + Int.toNat (Max.max (0 : Int) ((↑(List.length x9) : Int) - ((1 : Int) + Int.tmod c0 (20 : Int)))))),
 Prod.fst
 (Prod.snd
 (S.at' x9
 (j + Int.toNat (Max.max (0 : Int) ((↑(List.length x9) : Int) - ((1 : Int) + Int.tmod c0 (20 : Int))))))),
 Prod.snd
 (Prod.snd
 (S.at' x9
 (j + Int.toNat (Max.max (0 : Int) ((↑(List.length x9) : Int) - ((1 : Int) + Int.tmod c0 (20 : Int))))))))))
 (Kret (PV.tf true) ([[(0, false, Blk.cols ml [Col.int IntKind.u8 tl, Col.int IntKind.u8 vl])]]) (8))
 (Kret (PV.tf false) ([[(0, false, Blk.cols ml [Col.int IntKind.u8 tl, Col.int IntKind.u8 vl])]]) (8)))
 (False))
 (False))
 (Kret (PV.tf false) ([[(0, false, Blk.cols ml [Col.int IntKind.u8 tl, Col.int IntKind.u8 vl])]]) (7)))
 (Kret (PV.tf false) ([[(0, false, Blk.cols ml [Col.int IntKind.u8 tl, Col.int IntKind.u8 vl])]]) (7)))
 (Kret (PV.tf false) ([[(0, false, Blk.cols ml [Col.int IntKind.u8 tl, Col.int IntKind.u8 vl])]]) (7)))
 (False))
 (False))
set_option maxRecDepth 100000 in
theorem t8_0 (test : Bool → Prop → Prop → Prop) (Kst : KS) (Kret : KR) (c0 : Int) (al nl ml : Nat) (tl : Nat → Int) (vl : Nat → Int) (x0 : Int) (x1 : Int) (x2 : Int) (x3 : Int) (x4 : Int) (x5 : Int) (x6 : Bool) (x7 : List (Int × Int × Int × Bool)) (x8 : List (Int × Int × Bool)) (x9 : List (Int × Int × Bool)) : run test Try.env true (xJ test) true 400 ⟨8, hd Try.f8 0, zipT [5, 6, 7, 8, 33, 34, 35] [PV.int IntKind.i64 ((1 : Int) + Int.tmod c0 (20 : Int)),
 PV.ptr (PA.mk (1) (0) (0) (0)), PV.int IntKind.i64 x0,
 PV.own (4) (3) (List.length x9), PV.own (2) (4) (List.length x7),
 PV.int IntKind.i64
 (↑(List.length (S.stepsT nl (fun (j : Nat) => tl (j + al)) fun (j : Nat) => vl (j + al))) : Int),
 PV.int IntKind.i64 x1], [[(1, (true, Blk.cells
 [PV.int IntKind.i64 x2, PV.int IntKind.i64 x3,
 PV.own (3) (3) (List.length x8), PV.int IntKind.i64 x4,
 PV.int IntKind.i64 x5, PV.bool x6])), (2, (true, Blk.cols (List.length x7)
 [Col.int IntKind.i64 fun (j : Nat) => (S.at' x7 j).1,
 Col.int IntKind.i64 fun (j : Nat) => (S.at' x7 j).2.1,
 Col.int IntKind.i64 fun (j : Nat) => (S.at' x7 j).2.2.1,
 Col.bool fun (j : Nat) => (S.at' x7 j).2.2.2])), (3, (true, Blk.cols (List.length x8)
 [Col.int IntKind.i64 fun (j : Nat) => (S.at' x8 j).1,
 Col.int IntKind.i64 fun (j : Nat) => (S.at' x8 j).2.1,
 Col.bool fun (j : Nat) => (S.at' x8 j).2.2])), (4, (true, Blk.cols (List.length x9)
 [Col.int IntKind.i64 fun (j : Nat) => (S.at' x9 j).1,
 Col.int IntKind.i64 fun (j : Nat) => (S.at' x9 j).2.1,
 Col.bool fun (j : Nat) => (S.at' x9 j).2.2]))], [(0, (false, .cols ml [.int .u8 tl, .int .u8 vl]))]], 5⟩ (proj 1 [5, 6, 7, 8, 33, 34, 35] Kst Kret) =
  T8_0 test Kst Kret c0 al nl ml tl vl x0 x1 x2 x3 x4 x5 x6 x7 x8 x9 := by kernel_rfl
set_option maxRecDepth 100000 in
theorem be8 (c0 : Int) (al nl ml : Nat) (tl : Nat → Int) (vl : Nat → Int) (Kst : KS) (Kret : KR) (x : St8 ⊕ Rt8) (hS : HS 1 400 ((I8 c0 al nl ml tl vl)) Kst x) (hR : HR 1 400 ((V8 c0 al nl ml tl vl)) (fun r => [newL (1 + 1) ((N8 c0 al nl ml tl vl) r) ++ [(0, (false, .cols ml [.int .u8 tl, .int .u8 vl]))]]) Kret x) (h : (bif (decide ((↑nl : Int) > (100 : Int)))
 then (some (.inr (true)))
 else (bif (lim IntKind.i64 (Int.tmod c0 (20 : Int)))
 then (bif (lim IntKind.i64 ((1 : Int) + Int.tmod c0 (20 : Int)))
 then (bif (decide
 (al + nl ≤ ml ∧
 nl ≤ 900000 ∧
 (S.bytes nl fun (j : Nat) => tl (j + al)) = true ∧
 (S.bytes nl fun (j : Nat) => vl (j + al)) = true))
 then (some (.inl (.h0 ((S.newS ((1 : Int) + Int.tmod c0 (20 : Int)) (5 : Int)).2.2.2) ((0 : Int)) ((S.newS ((1 : Int) + Int.tmod c0 (20 : Int)) (5 : Int)).1) ((S.newS ((1 : Int) + Int.tmod c0 (20 : Int)) (5 : Int)).2.1) ((0 : Int)) ((S.newS ((1 : Int) + Int.tmod c0 (20 : Int)) (5 : Int)).2.2.1) (false) (S.stepsT nl (fun (j : Nat) => tl (j + al)) fun (j : Nat) => vl (j + al)) ([]) ([]))))
 else (none))
 else (none))
 else (none)) : Option (St8 ⊕ Rt8)) = some x) : Te8 cond Kst Kret c0 al nl ml tl vl := by
  unfold Te8
  exact cond_yes rfl (cond_yes rfl (bif_split h
   (fun c0 h => cond_yes rfl (cond_yes rfl (ret_at hR _ h (fun n => n) rfl rfl rfl (rn_bool_tf rfl) rfl (entl_bor (use_lo rfl) rfl rfl entl_nil))))
   (fun c0 h => cond_no rfl (bif_split h
   (fun c1 h => bif_split h
   (fun c2 h => cond_yes rfl (bif_split h
   (fun c3 h => stop_at hS _ h (fun n => bif Nat.beq n 1 then 3 else bif Nat.beq n 2 then 5 else bif Nat.beq n 3 then 399 else bif Nat.beq n 4 then 398 else n) rfl rfl rfl ⟨(rn_int rfl), ⟨(rn_ptr (use_own rfl) rfl rfl), ⟨(rn_int rfl), ⟨(rn_own_nils rfl), ⟨(rn_own (use_own rfl) rfl rfl), ⟨(rn_int rfl), ⟨(rn_int rfl), trivial⟩⟩⟩⟩⟩⟩⟩ rfl (entl_b (use_own rfl) rfl (by simp) (rb_cells ⟨(rn_int rfl), (rn_int rfl), (rn_own_nils rfl), (rn_int rfl), (rn_int rfl), (rn_bool_tf rfl), trivial⟩) (entl_new (use_own rfl) rfl (Nat.le_of_eq rfl) (rcs_int (fun _ _ => rfl) (rcs_int (fun _ _ => rfl) (rcs_int (fun _ _ => rfl) (rcs_bool (fun _ _ => rfl) rcs_nil)))) (entl_fresh (use_own rfl) (fresh_ok rfl) (entl_fresh (use_own rfl) (fresh_ok rfl) (entl_bor (use_lo rfl) rfl rfl entl_nil))))))
   (fun c3 h => no_some h)))
   (fun c2 h => no_some h))
   (fun c1 h => no_some h)))))
set_option maxRecDepth 100000 in
theorem b8_0 (c0 : Int) (al nl ml : Nat) (tl : Nat → Int) (vl : Nat → Int) (Kst : KS) (Kret : KR) (x : St8 ⊕ Rt8) (hS : HS 1 400 ((I8 c0 al nl ml tl vl)) Kst x) (hR : HR 1 400 ((V8 c0 al nl ml tl vl)) (fun r => [newL (1 + 1) ((N8 c0 al nl ml tl vl) r) ++ [(0, (false, .cols ml [.int .u8 tl, .int .u8 vl]))]]) Kret x) (x0 : Int) (x1 : Int) (x2 : Int) (x3 : Int) (x4 : Int) (x5 : Int) (x6 : Bool) (x7 : List (Int × Int × Int × Bool)) (x8 : List (Int × Int × Bool)) (x9 : List (Int × Int × Bool)) (h : (bif (decide
 (x1 < (↑(List.length (S.stepsT nl (fun (j : Nat) => tl (j + al)) fun (j : Nat) => vl (j + al))) : Int)))
 then (bif (decide ((0 : Int) ≤ x1 ∧ x1 < (↑(List.length x7) : Int)))
 then (bif (decide (Int.toNat x1 < List.length x7))
 then (bif (x0 != (0 : Int))
 then (some (.inr (false)))
 else (bif (decide (0 + List.length x8 ≤ List.length x8 ∧ List.length x8 ≤ 1000000))
 then (bif (decide (List.length x9 + 1 ≤ 1000000))
 then (bif (decide (List.length x9 ≤ List.length x9))
 then (bif (lim IntKind.i64 (x1 + (1 : Int)))
 then (some (.inl (.h0 (Prod.fst
 (Prod.snd
 (Prod.snd
 (Prod.snd
 (Prod.snd
 (Prod.snd
 (S.putS x2 x3 (List.length x8) (fun (j : Nat) => (S.at' x8 j).1)
 (fun (j : Nat) => (S.at' x8 j).2.1)
 (fun (j : Nat) => (S.at' x8 j).2.2) x4 x5 x6
 ((S.at' x7 (Int.toNat x1)).2.1)
 ((S.at' x7 (Int.toNat x1)).2.2.1)
 ((S.at' x7 (Int.toNat x1)).2.2.2)))))))) (x1 + (1 : Int)) (Prod.fst
 (S.putS x2 x3 (List.length x8) (fun (j : Nat) => (S.at' x8 j).1)
 (fun (j : Nat) => (S.at' x8 j).2.1) (fun (j : Nat) => (S.at' x8 j).2.2)
 x4 x5 x6 ((S.at' x7 (Int.toNat x1)).2.1)
 ((S.at' x7 (Int.toNat x1)).2.2.1)
 ((S.at' x7 (Int.toNat x1)).2.2.2))) (Prod.fst
 (Prod.snd
 (S.putS x2 x3 (List.length x8) (fun (j : Nat) => (S.at' x8 j).1)
 (fun (j : Nat) => (S.at' x8 j).2.1)
 (fun (j : Nat) => (S.at' x8 j).2.2) x4 x5 x6
 ((S.at' x7 (Int.toNat x1)).2.1)
 ((S.at' x7 (Int.toNat x1)).2.2.1)
 ((S.at' x7 (Int.toNat x1)).2.2.2)))) (Prod.fst
 (Prod.snd
 (Prod.snd
 (S.putS x2 x3 (List.length x8) (fun (j : Nat) => (S.at' x8 j).1)
 (fun (j : Nat) => (S.at' x8 j).2.1)
 (fun (j : Nat) => (S.at' x8 j).2.2) x4 x5 x6
 ((S.at' x7 (Int.toNat x1)).2.1)
 ((S.at' x7 (Int.toNat x1)).2.2.1)
 ((S.at' x7 (Int.toNat x1)).2.2.2))))) (Prod.fst
 (Prod.snd
 (Prod.snd
 (Prod.snd
 (S.putS x2 x3 (List.length x8) (fun (j : Nat) => (S.at' x8 j).1)
 (fun (j : Nat) => (S.at' x8 j).2.1)
 (fun (j : Nat) => (S.at' x8 j).2.2) x4 x5 x6
 ((S.at' x7 (Int.toNat x1)).2.1)
 ((S.at' x7 (Int.toNat x1)).2.2.1)
 ((S.at' x7 (Int.toNat x1)).2.2.2)))))) (Prod.fst
 (Prod.snd
 (Prod.snd
 (Prod.snd
 (Prod.snd
 (S.putS x2 x3 (List.length x8) (fun (j : Nat) => (S.at' x8 j).1)
 (fun (j : Nat) => (S.at' x8 j).2.1)
 (fun (j : Nat) => (S.at' x8 j).2.2) x4 x5 x6
 ((S.at' x7 (Int.toNat x1)).2.1)
 ((S.at' x7 (Int.toNat x1)).2.2.1)
 ((S.at' x7 (Int.toNat x1)).2.2.2))))))) (x7) (Prod.snd
 (Prod.snd
 (Prod.snd
 (Prod.snd
 (Prod.snd
 (Prod.snd
 (S.putS x2 x3 (List.length x8) (fun (j : Nat) => (S.at' x8 j).1)
 (fun (j : Nat) => (S.at' x8 j).2.1)
 (fun (j : Nat) => (S.at' x8 j).2.2) x4 x5 x6
 ((S.at' x7 (Int.toNat x1)).2.1)
 ((S.at' x7 (Int.toNat x1)).2.2.1)
 ((S.at' x7 (Int.toNat x1)).2.2.2)))))))) (S.snoc x9
 ((S.at' x7 (Int.toNat x1)).2.1, (S.at' x7 (Int.toNat x1)).2.2.1,
 (S.at' x7 (Int.toNat x1)).2.2.2)))))
 else (none))
 else (none))
 else (none))
 else (none)))
 else (none))
 else (none))
 else (bif (decide (0 + List.length x8 ≤ List.length x8 ∧ List.length x8 ≤ 1000000))
 then (bif (lim IntKind.i64 ((↑(List.length x9) : Int) - ((1 : Int) + Int.tmod c0 (20 : Int))))
 then (bif (x0 == (0 : Int))
 then (bif (Prod.fst
 (Prod.snd
 (if
 S.vB x2 x3 (List.length x8) (fun (j : Nat) => (S.at' x8 j).1)
 (fun (j : Nat) => (S.at' x8 j).2.1) x4 x5 x6 =
 (0 : Int) then
 (x4, (0 : Int),
 S.mkl (List.length x8) fun (j : Nat) =>
 ((S.at' x8 j).1, (S.at' x8 j).2.1,
 (S.at' x8 j).2.2))
 else
 ((0 : Int),
 S.vB x2 x3 (List.length x8) (fun (j : Nat) => (S.at' x8 j).1)
 (fun (j : Nat) => (S.at' x8 j).2.1) x4 x5 x6,
 []))) ==
 (0 : Int))
 then (bif (Prod.fst
 (if
 S.vB x2 x3 (List.length x8) (fun (j : Nat) => (S.at' x8 j).1)
 (fun (j : Nat) => (S.at' x8 j).2.1) x4 x5 x6 =
 (0 : Int) then
 (x4, (0 : Int),
 S.mkl (List.length x8) fun (j : Nat) =>
 ((S.at' x8 j).1, (S.at' x8 j).2.1, (S.at' x8 j).2.2))
 else
 ((0 : Int),
 S.vB x2 x3 (List.length x8) (fun (j : Nat) => (S.at' x8 j).1)
 (fun (j : Nat) => (S.at' x8 j).2.1) x4 x5 x6,
 [])) ==
 Max.max (0 : Int) ((↑(List.length x9) : Int) - ((1 : Int) + Int.tmod c0 (20 : Int))))
 then (bif (decide
 ((0 : Int) ≤ Max.max (0 : Int) ((↑(List.length x9) : Int) - ((1 : Int) + Int.tmod c0 (20 : Int))) ∧
 Max.max (0 : Int) ((↑(List.length x9) : Int) - ((1 : Int) + Int.tmod c0 (20 : Int))) ≤ (↑(List.length x9) : Int) ∧
 (↑(List.length x9) : Int) ≤ (↑(List.length x9) : Int)))
 then (bif (decide
 (0 +
 List.length
 (Prod.snd
 (Prod.snd
 (if
 S.vB x2 x3 (List.length x8) (fun (j : Nat) => (S.at' x8 j).1)
 (fun (j : Nat) => (S.at' x8 j).2.1) x4 x5 x6 =
 (0 : Int) then
 (x4, (0 : Int),
 S.mkl (List.length x8) fun (j : Nat) =>
 ((S.at' x8 j).1, (S.at' x8 j).2.1,
 (S.at' x8 j).2.2))
 else
 ((0 : Int),
 S.vB x2 x3 (List.length x8) (fun (j : Nat) => (S.at' x8 j).1)
 (fun (j : Nat) => (S.at' x8 j).2.1) x4 x5 x6,
 [])))) ≤
 List.length
 (Prod.snd
 (Prod.snd
 (if
 S.vB x2 x3 (List.length x8) (fun (j : Nat) => (S.at' x8 j).1)
 (fun (j : Nat) => (S.at' x8 j).2.1) x4 x5 x6 =
 (0 : Int) then
 (x4, (0 : Int),
 S.mkl (List.length x8) fun (j : Nat) =>
 ((S.at' x8 j).1, (S.at' x8 j).2.1,
 (S.at' x8 j).2.2))
 else
 ((0 : Int),
 S.vB x2 x3 (List.length x8) (fun (j : Nat) => (S.at' x8 j).1)
 (fun (j : Nat) => (S.at' x8 j).2.1) x4 x5 x6,
 [])))) ∧
 List.length
 (Prod.snd
 (Prod.snd
 (if
 S.vB x2 x3 (List.length x8) (fun (j : Nat) => (S.at' x8 j).1)
 (fun (j : Nat) => (S.at' x8 j).2.1) x4 x5 x6 =
 (0 : Int) then
 (x4, (0 : Int),
 S.mkl (List.length x8) fun (j : Nat) =>
 ((S.at' x8 j).1, (S.at' x8 j).2.1,
 (S.at' x8 j).2.2))
 else
 ((0 : Int),
 S.vB x2 x3 (List.length x8) (fun (j : Nat) => (S.at' x8 j).1)
 (fun (j : Nat) => (S.at' x8 j).2.1) x4 x5 x6,
 [])))) ≤
 1000000 ∧
 Int.toNat (Max.max (0 : Int) ((↑(List.length x9) : Int) - ((1 : Int) + Int.tmod c0 (20 : Int)))) +
 (List.length x9 -
 Int.toNat (Max.max (0 : Int) ((↑(List.length x9) : Int) - ((1 : Int) + Int.tmod c0 (20 : Int))))) ≤
 List.length x9 ∧
 List.length x9 -
 Int.toNat (Max.max (0 : Int) ((↑(List.length x9) : Int) - ((1 : Int) + Int.tmod c0 (20 : Int)))) ≤
 1000000))
 then (bif (decide
 ((S.mkl
 (List.length
 (Prod.snd
 (Prod.snd
 (if
 S.vB x2 x3 (List.length x8) (fun (j : Nat) => (S.at' x8 j).1)
 (fun (j : Nat) => (S.at' x8 j).2.1) x4 x5 x6 =
 (0 : Int) then
 (x4, (0 : Int),
 S.mkl (List.length x8) fun (j : Nat) =>
 ((S.at' x8 j).1, (S.at' x8 j).2.1,
 (S.at' x8 j).2.2))
 else
 ((0 : Int),
 S.vB x2 x3 (List.length x8) (fun (j : Nat) => (S.at' x8 j).1)
 (fun (j : Nat) => (S.at' x8 j).2.1) x4 x5 x6,
 [])))))
 fun (j : Nat) =>
 (Prod.fst
 (S.at'
 (Prod.snd
 (Prod.snd
 (if
 S.vB x2 x3 (List.length x8) (fun (j : Nat) => (S.at' x8 j).1)
 (fun (j : Nat) => (S.at' x8 j).2.1) x4 x5 x6 =
 (0 : Int) then
 (x4, (0 : Int),
 S.mkl (List.length x8) fun (j : Nat) =>
 ((S.at' x8 j).1, (S.at' x8 j).2.1,
 (S.at' x8 j).2.2))
 else
 ((0 : Int),
 S.vB x2 x3 (List.length x8) (fun (j : Nat) => (S.at' x8 j).1)
 (fun (j : Nat) => (S.at' x8 j).2.1) x4 x5 x6,
 []))))
 j),
 Prod.fst
 (Prod.snd
 (S.at'
 (Prod.snd
 (Prod.snd
 (if
 S.vB x2 x3 (List.length x8) (fun (j : Nat) => (S.at' x8 j).1)
 (fun (j : Nat) => (S.at' x8 j).2.1) x4 x5 x6 =
 (0 : Int) then
 (x4, (0 : Int),
 S.mkl (List.length x8) fun (j : Nat) =>
 ((S.at' x8 j).1, (S.at' x8 j).2.1,
 (S.at' x8 j).2.2))
 else
 ((0 : Int),
 S.vB x2 x3 (List.length x8) (fun (j : Nat) => (S.at' x8 j).1)
 (fun (j : Nat) => (S.at' x8 j).2.1) x4 x5 x6,
 []))))
 j)),
 Prod.snd
 (Prod.snd
 (S.at'
 (Prod.snd
 (Prod.snd
 (if
 S.vB x2 x3 (List.length x8) (fun (j : Nat) => (S.at' x8 j).1)
 (fun (j : Nat) => (S.at' x8 j).2.1) x4 x5 x6 =
 (0 : Int) then
 (x4, (0 : Int),
 S.mkl (List.length x8) fun (j : Nat) =>
 ((S.at' x8 j).1, (S.at' x8 j).2.1,
 (S.at' x8 j).2.2))
 else
 ((0 : Int),
 S.vB x2 x3 (List.length x8) (fun (j : Nat) => (S.at' x8 j).1)
 (fun (j : Nat) => (S.at' x8 j).2.1) x4 x5 x6,
 []))))
 j)))) =
 S.mkl
 (List.length x9 -
 Int.toNat (Max.max (0 : Int) ((↑(List.length x9) : Int) - ((1 : Int) + Int.tmod c0 (20 : Int)))))
 fun (j : Nat) =>
 (Prod.fst
 (S.at' x9
 (j + Int.toNat (Max.max (0 : Int) ((↑(List.length x9) : Int) - ((1 : Int) + Int.tmod c0 (20 : Int)))))),
 Prod.fst
 (Prod.snd
 (S.at' x9
 (j + Int.toNat (Max.max (0 : Int) ((↑(List.length x9) : Int) - ((1 : Int) + Int.tmod c0 (20 : Int))))))),
 Prod.snd
 (Prod.snd
 (S.at' x9
 (j + Int.toNat (Max.max (0 : Int) ((↑(List.length x9) : Int) - ((1 : Int) + Int.tmod c0 (20 : Int))))))))))
 then (some (.inr (true)))
 else (some (.inr (false))))
 else (none))
 else (none))
 else (some (.inr (false))))
 else (some (.inr (false))))
 else (some (.inr (false))))
 else (none))
 else (none)) : Option (St8 ⊕ Rt8)) = some x) : T8_0 cond Kst Kret c0 al nl ml tl vl x0 x1 x2 x3 x4 x5 x6 x7 x8 x9 := by
  unfold T8_0
  exact bif_split h
   (fun c0 h => bif_split h
   (fun c1 h => bif_split h
   (fun c2 h => cond_yes c2 (cond_yes c2 (cond_yes c2 (bif_split h
   (fun c3 h => ret_at hR _ h (fun n => n) rfl rfl rfl (rn_bool_tf rfl) rfl (entl_bor (use_lo rfl) rfl rfl entl_nil))
   (fun c3 h => bif_split h
   (fun c4 h => bif_split h
   (fun c5 h => bif_split h
   (fun c6 h => cond_yes rfl (bif_split h
   (fun c7 h => stop_at hS _ h (fun n => bif Nat.beq n 1 then 1 else bif Nat.beq n 2 then 2 else bif Nat.beq n 3 then 7 else bif Nat.beq n 4 then 9 else n) rfl rfl rfl ⟨(rn_int rfl), ⟨(rn_ptr (use_own rfl) rfl rfl), ⟨(rn_int rfl), ⟨(rn_own (use_own rfl) rfl (snoc_len' rfl)), ⟨(rn_own (use_own rfl) rfl rfl), ⟨(rn_int rfl), ⟨(rn_int rfl), trivial⟩⟩⟩⟩⟩⟩⟩ rfl (entl_b (use_own rfl) rfl (by simp) (rb_cells ⟨(rn_int rfl), (rn_int rfl), (rn_own (use_own rfl) rfl rfl), (rn_int rfl), (rn_int rfl), (rn_bool rfl), trivial⟩) (entl_new (use_own rfl) rfl (Nat.le_of_eq rfl) (rcs_int (fun _ _ => rfl) (rcs_int (fun _ _ => rfl) (rcs_int (fun _ _ => rfl) (rcs_bool (fun _ _ => rfl) rcs_nil)))) (entl_new (use_own rfl) rfl (Nat.le_of_eq rfl) (rcs_int (fun _ _ => rfl) (rcs_int (fun _ _ => rfl) (rcs_bool (fun _ _ => rfl) rcs_nil))) (entl_new (use_own rfl) rfl (Nat.le_of_eq (snoc_len' rfl)) (rcs_int (col_snoc' (fun (t : Int × Int × Bool) => t.1) rfl (fun _ _ => rfl)) (rcs_int (col_snoc' (fun (t : Int × Int × Bool) => t.2.1) rfl (fun _ _ => rfl)) (rcs_bool (col_snoc' (fun (t : Int × Int × Bool) => t.2.2) rfl (fun _ _ => rfl)) rcs_nil))) (entl_bor (use_lo rfl) rfl rfl entl_nil))))))
   (fun c7 h => no_some h)))
   (fun c6 h => no_some h))
   (fun c5 h => no_some h))
   (fun c4 h => no_some h))))))
   (fun c2 h => no_some h))
   (fun c1 h => no_some h))
   (fun c0 h => bif_split h
   (fun c1 h => bif_split h
   (fun c2 h => bif_split h
   (fun c3 h => bif_split h
   (fun c4 h => bif_split h
   (fun c5 h => bif_split h
   (fun c6 h => bif_split h
   (fun c7 h => bif_split h
   (fun c8 h => ret_at hR _ h (fun n => n) rfl rfl rfl (rn_bool_tf rfl) rfl (entl_bor (use_lo rfl) rfl rfl entl_nil))
   (fun c8 h => ret_at hR _ h (fun n => n) rfl rfl rfl (rn_bool_tf rfl) rfl (entl_bor (use_lo rfl) rfl rfl entl_nil)))
   (fun c7 h => no_some h))
   (fun c6 h => no_some h))
   (fun c5 h => ret_at hR _ h (fun n => n) rfl rfl rfl (rn_bool_tf rfl) rfl (entl_bor (use_lo rfl) rfl rfl entl_nil)))
   (fun c4 h => ret_at hR _ h (fun n => n) rfl rfl rfl (rn_bool_tf rfl) rfl (entl_bor (use_lo rfl) rfl rfl entl_nil)))
   (fun c3 h => ret_at hR _ h (fun n => n) rfl rfl rfl (rn_bool_tf rfl) rfl (entl_bor (use_lo rfl) rfl rfl entl_nil)))
   (fun c2 h => no_some h))
   (fun c1 h => no_some h))
theorem a8 (c0 : Int) (al nl ml : Nat) (tl : Nat → Int) (vl : Nat → Int) {r : Rt8} (h : Goes ((q8 c0 al nl ml tl vl)) ((p8 c0 al nl ml tl vl)) r) : CallR Try.prog 8 [.int .u8 c0, .loose ⟨0, 2, al, 0⟩ nl] [[(0, (false, .cols ml [.int .u8 tl, .int .u8 vl]))]] 1 ((V8 c0 al nl ml tl vl) r) ((fun r => [newL (1 + 1) ((N8 c0 al nl ml tl vl) r) ++ [(0, (false, .cols ml [.int .u8 tl, .int .u8 vl]))]]) r) 400 ∧ ∃ F, Try.prog.funcs[8]? = some F ∧ F.body.isSome = true ∧ (F.name == "runtime.NumGoroutine") = false := by
  refine dec_calls (f := 8) (lo := 1) (hi := 400) (H := [[(0, (false, .cols ml [.int .u8 tl, .int .u8 vl]))]]) (args := [.int .u8 c0, .loose ⟨0, 2, al, 0⟩ nl]) Try.envOk Try.mixed xJ_ok ((I8 c0 al nl ml tl vl)) ((V8 c0 al nl ml tl vl)) (fun r => [newL (1 + 1) ((N8 c0 al nl ml tl vl) r) ++ [(0, (false, .cols ml [.int .u8 tl, .int .u8 vl]))]]) (fn := mkFn Try.f8) (ts := [5, 6, 7, 8, 33, 34, 35]) (n := 400) rfl (by decide) (by simp) (names_of rfl) ?_ ?_ ?_ h
  · intro s; cases s <;> exact ⟨hd_ok _ _, by simp [I8], names_of rfl, Nat.le_of_ble_eq_true rfl⟩
  · intro Kst Kret x hS hR h
    exact Holds.eq (te8 cond Kst Kret c0 al nl ml tl vl) (be8 c0 al nl ml tl vl Kst Kret x hS hR h)
  · intro Kst Kret x hS hR s h
    cases s with
    | h0 x0 x1 x2 x3 x4 x5 x6 x7 x8 x9 => exact Holds.eq (t8_0 cond Kst Kret c0 al nl ml tl vl x0 x1 x2 x3 x4 x5 x6 x7 x8 x9) (b8_0 c0 al nl ml tl vl Kst Kret x hS hR x0 x1 x2 x3 x4 x5 x6 x7 x8 x9 h)
noncomputable def k8 : Con := ⟨8, [.one (.plain (.int .u8)), .one (.list [.int .u8, .int .u8])], fun (x : Int × (Nat × Nat × Nat × (Nat → Int) × (Nat → Int) × Unit) × Unit) => (fun (c0 : Int) (al nl ml : Nat) (tl : Nat → Int) (vl : Nat → Int) => decide (al + nl ≤ ml ∧ S.byte c0 = true ∧ S.bytes nl (fun j => tl (j + al)) = true ∧ S.bytes nl (fun j => vl (j + al)) = true)) x.1 x.2.1.1 x.2.1.2.1 x.2.1.2.2.1 x.2.1.2.2.2.1 x.2.1.2.2.2.2.1, fun (x : Int × (Nat × Nat × Nat × (Nat → Int) × (Nat → Int) × Unit) × Unit) => (fun (c0 : Int) (al nl ml : Nat) (tl : Nat → Int) (vl : Nat → Int) => (V8 c0 al nl ml tl vl) (true)) x.1 x.2.1.1 x.2.1.2.1 x.2.1.2.2.1 x.2.1.2.2.2.1 x.2.1.2.2.2.2.1, fun (x : Int × (Nat × Nat × Nat × (Nat → Int) × (Nat → Int) × Unit) × Unit) => (fun (c0 : Int) (al nl ml : Nat) (tl : Nat → Int) (vl : Nat → Int) => (N8 c0 al nl ml tl vl) (true)) x.1 x.2.1.1 x.2.1.2.1 x.2.1.2.2.1 x.2.1.2.2.2.1 x.2.1.2.2.2.2.1⟩
set_option maxHeartbeats 4000000 in
theorem s8' (c0 : Int) (al nl ml : Nat) (tl : Nat → Int) (vl : Nat → Int) (hp : al + nl ≤ ml ∧ S.byte c0 = true ∧ S.bytes nl (fun j => tl (j + al)) = true ∧ S.bytes nl (fun j => vl (j + al)) = true) (h100 : nl ≤ 100) (nn : Nat) (hnn : (nn : Int) = 1 + Int.tmod c0 20) : ∀ k i : Nat, i + k = nl → Comes (q8 c0 al nl ml tl vl) (.h0 0 (i : Int) (1 + Int.tmod c0 20) 5 (S.ovN nn i) (-1) false (S.stepsT nl (fun j => tl (j + al)) (fun j => vl (j + al))) (S.lastN (fun j => (S.sumT (fun j => tl (j + al)) (j + 1), (vl (j + al)).tmod 32 - 16, decide (32 ≤ vl (j + al)))) nn i) (S.mkl i (fun j => (S.sumT (fun j => tl (j + al)) (j + 1), (vl (j + al)).tmod 32 - 16, decide (32 ≤ vl (j + al)))))) true := by
  obtain ⟨hp, hc, hb0, hb1⟩ := hp
  have hc0 := byte_facts (of_decide_eq_true hc)
  have hb := And.intro (of_decide_eq_true hb0) (of_decide_eq_true hb1)
  have hll : (S.stepsT nl (fun j => tl (j + al)) (fun j => vl (j + al))).length = nl := mkl_len
  intro k
  induction k with
  | zero =>
    intro i hi
    obtain rfl : i = nl := by omega
    have hA : (S.mkl i (fun j => (S.sumT (fun j => tl (j + al)) (j + 1), (vl (j + al)).tmod 32 - 16, decide (32 ≤ vl (j + al))))).length = i := mkl_len
    have hR := fun (m : Nat) (f : Nat → Row) => mkl3_at (S.mkl m f)
    have hV : S.vB (1 + Int.tmod c0 20) 5 (S.lastN (fun j => (S.sumT (fun j => tl (j + al)) (j + 1), (vl (j + al)).tmod 32 - 16, decide (32 ≤ vl (j + al)))) nn i).length (fun j => (S.at' (S.lastN (fun j => (S.sumT (fun j => tl (j + al)) (j + 1), (vl (j + al)).tmod 32 - 16, decide (32 ≤ vl (j + al)))) nn i) j).1) (fun j => (S.at' (S.lastN (fun j => (S.sumT (fun j => tl (j + al)) (j + 1), (vl (j + al)).tmod 32 - 16, decide (32 ≤ vl (j + al)))) nn i) j).2.1) (S.ovN nn i) (-1) false = 0 := by
      rw [← hnn]
      exact last_valid (by omega) (by omega) (by omega) (fun j hj => ⟨(steps_rows hb (by omega) j (by omega)).1, fun h0 => by
        show S.sumT _ (j - 1 + 1) ≤ S.sumT _ (j + 1)
        rw [show j - 1 + 1 = j by omega]
        exact (steps_rows hb (by omega) j (by omega)).2 h0⟩)
    have hM : max (0 : Int) ((i : Int) - (1 + Int.tmod c0 20)) = S.ovN nn i := by rw [← hnn]; unfold S.ovN; split <;> omega
    have hO : 0 ≤ S.ovN nn i ∧ S.ovN nn i ≤ i := by rw [← hM]; omega
    have hL : (S.lastN (fun j => (S.sumT (fun j => tl (j + al)) (j + 1), (vl (j + al)).tmod 32 - 16, decide (32 ≤ vl (j + al)))) nn i).length = i - (S.ovN nn i).toNat := by unfold S.lastN; rw [mkl_len]; unfold S.ovN; split <;> omega
    have hQ : S.lastN (fun j => (S.sumT (fun j => tl (j + al)) (j + 1), (vl (j + al)).tmod 32 - 16, decide (32 ≤ vl (j + al)))) nn i = S.mkl (i - (S.ovN nn i).toNat) fun j => (fun j => (S.sumT (fun j => tl (j + al)) (j + 1), (vl (j + al)).tmod 32 - 16, decide (32 ≤ vl (j + al)))) (j + (S.ovN nn i).toNat) := by
      unfold S.lastN
      refine mkl_inj.2 ⟨?_, fun j hj => ?_⟩
      · unfold S.ovN; split <;> omega
      · rw [show i - min i nn = (S.ovN nn i).toNat by unfold S.ovN; split <;> omega]
    apply Comes.of
    show Goes _ _ _
    unfold q8
    simp only [hV, if_true, hA, hM, hll, Int.toNat_natCast, mkl3_at, lim64]
    refine goes_no (decide_eq_false (by omega)) ?_
    refine goes_ok (decide_eq_true (by rw [hL]; omega)) ?_
    refine goes_ok (decide_eq_true (by omega)) ?_
    refine goes_ok rfl ?_
    refine goes_ok rfl ?_
    refine goes_ok (beq_self_eq_true _) ?_
    refine goes_ok (decide_eq_true (by omega)) ?_
    refine goes_ok (decide_eq_true (by rw [hL]; omega)) ?_
    refine goes_ok (decide_eq_true (hQ.trans (mkl_congr fun j hj => ?_))) rfl
    rw [at_mkl (by omega)]
  | succ k ih =>
    intro i hi
    have ih := ih (i + 1) (by omega)
    have hP := put_newest (nn := nn) (row := (fun j => (S.sumT (fun j => tl (j + al)) (j + 1), (vl (j + al)).tmod 32 - 16, decide (32 ≤ vl (j + al))))) (i := i) (by omega) (by omega) (by omega) (fun j hj => ⟨(steps_rows hb (by omega) j (by omega)).1, fun h0 => by
      show S.sumT _ (j - 1 + 1) ≤ S.sumT _ (j + 1)
      rw [show j - 1 + 1 = j by omega]
      exact (steps_rows hb (by omega) j (by omega)).2 h0⟩)
    have hrow : S.at' (S.stepsT nl (fun j => tl (j + al)) (fun j => vl (j + al))) i = (S.kdT (tl (i + al)), S.sumT (fun j => tl (j + al)) (i + 1), (vl (i + al)).tmod 32 - 16, decide (32 ≤ vl (i + al))) := at_mkl (by omega)
    have hlen : (S.lastN (fun j => (S.sumT (fun j => tl (j + al)) (j + 1), (vl (j + al)).tmod 32 - 16, decide (32 ≤ vl (j + al)))) nn i).length ≤ i := by unfold S.lastN; rw [mkl_len]; omega
    have hA : (S.mkl i (fun j => (S.sumT (fun j => tl (j + al)) (j + 1), (vl (j + al)).tmod 32 - 16, decide (32 ≤ vl (j + al))))).length = i := mkl_len
    rw [mkl_succ] at ih
    generalize S.mkl i (fun j => (S.sumT (fun j => tl (j + al)) (j + 1), (vl (j + al)).tmod 32 - 16, decide (32 ≤ vl (j + al)))) = A at *
    generalize hB : S.lastN (fun j => (S.sumT (fun j => tl (j + al)) (j + 1), (vl (j + al)).tmod 32 - 16, decide (32 ≤ vl (j + al)))) nn i = B at *
    apply Comes.of
    rw [hnn] at hP
    show Goes _ _ _
    unfold q8
    repeat' first
      | with_reducible refine goes_if (fun h => ?_) (fun h => ?_) <;> (try simp only [lim64, decide_eq_true_eq, decide_eq_false_iff_not, Int.toNat_natCast, toNat_pred, toNat_succ, Option.getD_some, Option.getD_none, Bool.not_eq_true', Bool.not_eq_false', Bool.and_eq_true, Bool.or_eq_true, Bool.and_eq_false_iff, Bool.or_eq_false_iff, bne_iff_ne, beq_iff_eq, bne_eq_false_iff_eq, beq_eq_false_iff_ne, ne_eq, not_and, Int.not_le, Int.not_lt, ge_iff_le, gt_iff_lt, Nat.not_lt, Nat.not_le, Bool.not_eq_true, Bool.not_eq_false, Bool.true_eq_false, Bool.false_eq_true, not_false_eq_true, not_true_eq_false, eq_self] at h)
      | exact goes_none.mpr (by omega)
    all_goals first
      | (exfalso; omega)
      | skip
    all_goals (simp only [Int.toNat_natCast, hrow] at hP ⊢; simp only [hP]; exact ih)
theorem s8 (c0 : Int) (al nl ml : Nat) (tl : Nat → Int) (vl : Nat → Int) (hp : al + nl ≤ ml ∧ S.byte c0 = true ∧ S.bytes nl (fun j => tl (j + al)) = true ∧ S.bytes nl (fun j => vl (j + al)) = true) : Goes ((q8 c0 al nl ml tl vl)) ((p8 c0 al nl ml tl vl)) (true) := by
  have hm := fun h100 nn hnn => s8' c0 al nl ml tl vl hp h100 nn hnn nl 0 (by omega)
  obtain ⟨hp, hc, hb0, hb1⟩ := hp
  have hc0 := byte_facts (of_decide_eq_true hc)
  have hb := And.intro (of_decide_eq_true hb0) (of_decide_eq_true hb1)
  have hn : S.newS (1 + Int.tmod c0 20) 5 = (1 + Int.tmod c0 20, 5, -1, 0) := by unfold S.newS; rw [if_pos (by omega)]
  have hll : (S.stepsT nl (fun j => tl (j + al)) (fun j => vl (j + al))).length = nl := mkl_len
  unfold p8
  by_cases h : (nl : Int) > 100
  · exact goes_ok (decide_eq_true h) rfl
  refine goes_no (decide_eq_false h) ?_
  have hm := hm (by omega) (1 + Int.tmod c0 20).toNat (by omega)
  simp only [hn, lim64, hll]
  have e1 : S.ovN (1 + Int.tmod c0 20).toNat 0 = 0 := by unfold S.ovN; rw [if_pos (Nat.zero_le _)]
  have e2 : S.lastN (fun j => (S.sumT (fun j => tl (j + al)) (j + 1), (vl (j + al)).tmod 32 - 16, decide (32 ≤ vl (j + al)))) (1 + Int.tmod c0 20).toNat 0 = [] := by unfold S.lastN; rw [Nat.zero_min]; rfl
  rw [e1, e2] at hm
  exact goes_ok (decide_eq_true (by omega)) (goes_ok (decide_eq_true (by omega)) (goes_ok (decide_eq_true ⟨hp, by omega, hb0, hb1⟩) hm))

theorem k8_ok : k8.ok Try.prog := by
  intro x hx
  obtain ⟨c0, ⟨al, nl, ml, tl, vl, _⟩, _⟩ := x
  obtain ⟨h1, h2⟩ := a8 c0 al nl ml tl vl (s8 c0 al nl ml tl vl (of_decide_eq_true hx))
  exact ⟨⟨400, (by decide : 1 + 1 + 0 ≤ 400), h1⟩, h2⟩

theorem pre8 {x : SsI k8.ss} (hx : ssFits k8.ss x) : (0 + x.2.1.1 ≤ x.2.1.1) ∧ S.byte x.1 = true ∧ (S.bytes x.2.1.1 fun j => x.2.1.2.1 (j + 0)) = true ∧ (S.bytes x.2.1.1 fun j => x.2.1.2.2.1 (j + 0)) = true := by
  obtain ⟨c0, ⟨n, t, v, u'⟩, u''⟩ := x
  obtain ⟨h0, ⟨hn, ht, hv, -⟩, -⟩ := hx
  exact ⟨Nat.le_of_eq (Nat.zero_add _), byte_mk h0, bytes_mk ht, bytes_mk hv⟩

end Go.Ev
