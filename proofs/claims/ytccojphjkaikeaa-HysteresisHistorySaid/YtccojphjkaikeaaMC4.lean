/-
  The law of History.
-/
import Derived.Test.YtccojphjkaikeaaMC0
import Derived.Test.YtccojphjkaikeaaMB4
import Derived.Test.YtccojphjkaikeaaMA8
import Derived.Test.YtccojphjkaikeaaMB6
namespace Go.Ev
open Go.Proofs
set_option linter.unusedVariables false
set_option linter.unusedSimpArgs false
set_option maxRecDepth 100000
noncomputable def yC4 (test : Bool → Prop → Prop → Prop) : Ext := consX test [k12, k24, k26, k14, k23, k25, k37, k38]
theorem yC4_ok : ExtOk Try.prog (yC4 cond) := consX_ok (l := [k12, k24, k26, k14, k23, k25, k37, k38]) ⟨k12_ok, k24_ok, k26_ok, k14_ok, k23_ok, k25_ok, k37_ok, k38_ok, trivial⟩

inductive St4 where
  | h0 (x0 : List (Int × Int × Int)) (x1 : List Bool)
  | h1 (x0 : Int) (x1 : List (Int × Int × Int)) (x2 : List Bool) (x3 : List (Int × Int × Int)) (x4 : List Bool)
abbrev Rt4 := Bool
noncomputable def V4 (ar nr mr : Nat) (tr : Nat → Int) (vr : Nat → Int) (gr : Nat → Int) (ao no mo : Nat) (to : Nat → Bool) (al nl ml : Nat) (tl : Nat → Int) (r : Rt4) : PV := PV.bool r
noncomputable def N4 (ar nr mr : Nat) (tr : Nat → Int) (vr : Nat → Int) (gr : Nat → Int) (ao no mo : Nat) (to : Nat → Bool) (al nl ml : Nat) (tl : Nat → Int) (r : Rt4) : List Blk := []
noncomputable def I4 (ar nr mr : Nat) (tr : Nat → Int) (vr : Nat → Int) (gr : Nat → Int) (ao no mo : Nat) (to : Nat → Bool) (al nl ml : Nat) (tl : Nat → Int) : St4 → Hd
  | .h0 x0 x1 => ⟨hd Try.f4 0, [PV.loose (PA.mk (2) (1) al (0)) nl,
 PV.ptr (PA.mk (3) (0) (0) (0)),
 PV.ptr (PA.mk (4) (0) (0) (0)),
 PV.ptr (PA.mk (7) (0) (0) (0)),
 PV.loose (PA.mk (2) (1) al (0)) nl, PV.int IntKind.i64 (↑nl : Int),
 PV.int IntKind.i64 (0 : Int)], [[(3, (true, Blk.cells
 [PV.loose (PA.mk (0) (3) ar (0)) nr,
 PV.loose (PA.mk (1) (1) ao (0)) no])), (4, (true, Blk.cells
 [PV.own (5) (3) (List.length x0), PV.own (6) (1) (List.length x1)])), (5, (true, Blk.cols (List.length x0)
 [Col.int IntKind.i64 fun (j : Nat) => (S.at' x0 j).1,
 Col.int IntKind.i64 fun (j : Nat) => (S.at' x0 j).2.1,
 Col.int IntKind.i64 fun (j : Nat) => (S.at' x0 j).2.2])), (6, (true, Blk.cols (List.length x1) [Col.bool fun (j : Nat) => S.at' x1 j])), (7, (true, Blk.cells
 [PV.loose (PA.mk (0) (3) ar (0)) nr,
 PV.loose (PA.mk (1) (1) ao (0)) no]))], [(0, (false, .cols mr [.int .i64 tr, .int .i64 vr, .int .i64 gr])), (1, (false, .cols mo [.bool to])), (2, (false, .cols ml [.int .i64 tl]))]], 8⟩
  | .h1 x0 x1 x2 x3 x4 => ⟨hd Try.f4 0, [PV.loose (PA.mk (2) (1) al (0)) nl,
 PV.ptr (PA.mk (3) (0) (0) (0)),
 PV.ptr (PA.mk (4) (0) (0) (0)),
 PV.ptr (PA.mk (7) (0) (0) (0)),
 PV.loose (PA.mk (2) (1) al (0)) nl, PV.int IntKind.i64 (↑nl : Int),
 PV.int IntKind.i64 x0], [[(3, (true, Blk.cells
 [PV.loose (PA.mk (0) (3) ar (0)) nr,
 PV.loose (PA.mk (1) (1) ao (0)) no])), (4, (true, Blk.cells
 [PV.own (5) (3) (List.length x1), PV.own (6) (1) (List.length x2)])), (5, (true, Blk.cols (List.length x1)
 [Col.int IntKind.i64 fun (j : Nat) => (S.at' x1 j).1,
 Col.int IntKind.i64 fun (j : Nat) => (S.at' x1 j).2.1,
 Col.int IntKind.i64 fun (j : Nat) => (S.at' x1 j).2.2])), (6, (true, Blk.cols (List.length x2) [Col.bool fun (j : Nat) => S.at' x2 j])), (7, (true, Blk.cells
 [PV.own (8) (3) (List.length x3), PV.own (9) (1) (List.length x4)])), (8, (true, Blk.cols (List.length x3)
 [Col.int IntKind.i64 fun (j : Nat) => (S.at' x3 j).1,
 Col.int IntKind.i64 fun (j : Nat) => (S.at' x3 j).2.1,
 Col.int IntKind.i64 fun (j : Nat) => (S.at' x3 j).2.2])), (9, (true, Blk.cols (List.length x4) [Col.bool fun (j : Nat) => S.at' x4 j]))], [(0, (false, .cols mr [.int .i64 tr, .int .i64 vr, .int .i64 gr])), (1, (false, .cols mo [.bool to])), (2, (false, .cols ml [.int .i64 tl]))]], 10⟩
noncomputable def q4 (ar nr mr : Nat) (tr : Nat → Int) (vr : Nat → Int) (gr : Nat → Int) (ao no mo : Nat) (to : Nat → Bool) (al nl ml : Nat) (tl : Nat → Int) : St4 → Option (St4 ⊕ Rt4)
  | .h0 x0 x1 => bif (decide ((0 : Int) < (↑nl : Int)))
 then (bif (decide ((0 : Int) ≤ (0 : Int) ∧ (0 : Int) < (↑nl : Int)))
 then (bif (decide (0 + al < ml))
 then (bif (decide (ar + nr ≤ mr ∧ nr ≤ 1000000 ∧ ao + no ≤ mo ∧ no ≤ 1000000))
 then (bif (Prod.fst
 (S.histS nr (fun (j : Nat) => tr (j + ar)) (fun (j : Nat) => vr (j + ar)) (fun (j : Nat) => gr (j + ar)) no
 (fun (j : Nat) => to (j + ao)) (1) fun (j : Nat) => S.lit [tl (0 + al)] (0 : Int) j) !=
 (0 : Int))
 then (some (.inr (false)))
 else (some (.inl (.h1 ((1 : Int)) (x0) (x1) (Prod.fst
 (Prod.snd
 (S.histS nr (fun (j : Nat) => tr (j + ar)) (fun (j : Nat) => vr (j + ar)) (fun (j : Nat) => gr (j + ar)) no
 (fun (j : Nat) => to (j + ao)) (1) fun (j : Nat) => S.lit [tl (0 + al)] (0 : Int) j))) (Prod.snd
 (Prod.snd
 (S.histS nr (fun (j : Nat) => tr (j + ar)) (fun (j : Nat) => vr (j + ar)) (fun (j : Nat) => gr (j + ar)) no
 (fun (j : Nat) => to (j + ao)) (1) fun (j : Nat) => S.lit [tl (0 + al)] (0 : Int) j)))))))
 else (none))
 else (none))
 else (none))
 else (bif (decide
 (ar + nr ≤ mr ∧
 nr ≤ 1000000 ∧
 ao + no ≤ mo ∧
 no ≤ 1000000 ∧
 0 + List.length x0 ≤ List.length x0 ∧
 List.length x0 ≤ 1000000 ∧
 0 + List.length x1 ≤ List.length x1 ∧ List.length x1 ≤ 1000000))
 then (bif (decide
 ((S.mkl nr fun (j : Nat) => (tr (j + ar), vr (j + ar), gr (j + ar))) =
 S.mkl (List.length x0) fun (j : Nat) =>
 ((S.at' x0 j).1, (S.at' x0 j).2.1,
 (S.at' x0 j).2.2)) &&
 decide
 ((S.mkl no fun (j : Nat) => to (j + ao)) = S.mkl (List.length x1) fun (j : Nat) => S.at' x1 j))
 then (some (.inr (true)))
 else (bif ((↑nl : Int) == (0 : Int))
 then (some (.inr (false)))
 else (some (.inr (false)))))
 else (none))
  | .h1 x0 x1 x2 x3 x4 => bif (decide (x0 < (↑nl : Int)))
 then (bif (decide ((0 : Int) ≤ x0 ∧ x0 < (↑nl : Int)))
 then (bif (decide (Int.toNat x0 + al < ml))
 then (bif (decide
 (0 + List.length x3 ≤ List.length x3 ∧
 List.length x3 ≤ 1000000 ∧ 0 + List.length x4 ≤ List.length x4 ∧ List.length x4 ≤ 1000000))
 then (bif (Prod.fst
 (S.histS (List.length x3) (fun (j : Nat) => (S.at' x3 j).1)
 (fun (j : Nat) => (S.at' x3 j).2.1)
 (fun (j : Nat) => (S.at' x3 j).2.2) (List.length x4) (fun (j : Nat) => S.at' x4 j)
 (1) fun (j : Nat) => S.lit [tl (Int.toNat x0 + al)] (0 : Int) j) !=
 (0 : Int))
 then (some (.inr (false)))
 else (bif (lim IntKind.i64 (x0 + (1 : Int)))
 then (some (.inl (.h1 (x0 + (1 : Int)) (x1) (x2) (Prod.fst
 (Prod.snd
 (S.histS (List.length x3) (fun (j : Nat) => (S.at' x3 j).1)
 (fun (j : Nat) => (S.at' x3 j).2.1)
 (fun (j : Nat) => (S.at' x3 j).2.2) (List.length x4) (fun (j : Nat) => S.at' x4 j)
 (1) fun (j : Nat) => S.lit [tl (Int.toNat x0 + al)] (0 : Int) j))) (Prod.snd
 (Prod.snd
 (S.histS (List.length x3) (fun (j : Nat) => (S.at' x3 j).1)
 (fun (j : Nat) => (S.at' x3 j).2.1)
 (fun (j : Nat) => (S.at' x3 j).2.2) (List.length x4) (fun (j : Nat) => S.at' x4 j)
 (1) fun (j : Nat) => S.lit [tl (Int.toNat x0 + al)] (0 : Int) j))))))
 else (none)))
 else (none))
 else (none))
 else (none))
 else (bif (decide
 (0 + List.length x3 ≤ List.length x3 ∧
 List.length x3 ≤ 1000000 ∧
 0 + List.length x4 ≤ List.length x4 ∧
 List.length x4 ≤ 1000000 ∧
 0 + List.length x1 ≤ List.length x1 ∧
 List.length x1 ≤ 1000000 ∧
 0 + List.length x2 ≤ List.length x2 ∧ List.length x2 ≤ 1000000))
 then (bif (decide
 ((S.mkl (List.length x3) fun (j : Nat) =>
 ((S.at' x3 j).1, (S.at' x3 j).2.1, (S.at' x3 j).2.2)) =
 S.mkl (List.length x1) fun (j : Nat) =>
 ((S.at' x1 j).1, (S.at' x1 j).2.1,
 (S.at' x1 j).2.2)) &&
 decide
 ((S.mkl (List.length x4) fun (j : Nat) => S.at' x4 j) =
 S.mkl (List.length x2) fun (j : Nat) => S.at' x2 j))
 then (some (.inr (true)))
 else (bif ((↑nl : Int) == (0 : Int))
 then (bif (decide
 (ar + nr ≤ mr ∧
 nr ≤ 1000000 ∧
 ao + no ≤ mo ∧
 no ≤ 1000000 ∧
 0 + List.length x1 ≤ List.length x1 ∧
 List.length x1 ≤ 1000000 ∧
 0 + List.length x2 ≤ List.length x2 ∧ List.length x2 ≤ 1000000))
 then (bif (decide
 ((S.mkl nr fun (j : Nat) => (tr (j + ar), vr (j + ar), gr (j + ar))) =
 S.mkl (List.length x1) fun (j : Nat) =>
 ((S.at' x1 j).1, (S.at' x1 j).2.1,
 (S.at' x1 j).2.2)) &&
 decide
 ((S.mkl no fun (j : Nat) => to (j + ao)) = S.mkl (List.length x2) fun (j : Nat) => S.at' x2 j))
 then (some (.inr (true)))
 else (some (.inr (false))))
 else (none))
 else (some (.inr (false)))))
 else (none))
noncomputable def p4 (ar nr mr : Nat) (tr : Nat → Int) (vr : Nat → Int) (gr : Nat → Int) (ao no mo : Nat) (to : Nat → Bool) (al nl ml : Nat) (tl : Nat → Int) : Option (St4 ⊕ Rt4) := bif (decide ((↑nr : Int) ≤ (45 : Int)))
 then (bif (decide ((↑no : Int) ≤ (50 : Int)))
 then (bif (decide ((↑nl : Int) > (60 : Int)))
 then (bif (decide ((↑nl : Int) ≤ (1000 : Int)))
 then (some (.inr (true)))
 else (bif (decide ((↑nl : Int) > (1010 : Int)))
 then (some (.inr (true)))
 else (bif (decide (ar + nr ≤ mr ∧ nr ≤ 1000000))
 then (bif (decide (ao + no ≤ mo ∧ no ≤ 1000000))
 then (bif (decide (al + nl ≤ ml ∧ nl ≤ 1000000))
 then (bif (decide
 (0 + nr ≤ nr ∧
 nr ≤ 1000000 ∧ 0 + no ≤ no ∧ no ≤ 1000000 ∧ 0 + nl ≤ nl ∧ nl ≤ 1000000))
 then (bif (decide
 (ar + nr ≤ mr ∧ nr ≤ 1000000 ∧ ao + no ≤ mo ∧ no ≤ 1000000 ∧ al + nl ≤ ml ∧ nl ≤ 1000000))
 then (bif (Prod.fst
 (S.histS nr (fun (j : Nat) => tr (j + ar)) (fun (j : Nat) => vr (j + ar)) (fun (j : Nat) => gr (j + ar)) no
 (fun (j : Nat) => to (j + ao)) nl fun (j : Nat) => tl (j + al)) !=
 Prod.fst
 (S.histS nr (fun (j : Nat) => tr (j + ar)) (fun (j : Nat) => vr (j + ar)) (fun (j : Nat) => gr (j + ar)) no
 (fun (j : Nat) => to (j + ao)) nl fun (j : Nat) => tl (j + al)))
 then (bif (Prod.fst
 (S.histS nr (fun (j : Nat) => tr (j + ar)) (fun (j : Nat) => vr (j + ar)) (fun (j : Nat) => gr (j + ar)) no
 (fun (j : Nat) => to (j + ao)) nl fun (j : Nat) => tl (j + al)) ==
 Prod.fst
 (S.histS nr (fun (j : Nat) => tr (j + ar)) (fun (j : Nat) => vr (j + ar)) (fun (j : Nat) => gr (j + ar)) no
 (fun (j : Nat) => to (j + ao)) nl fun (j : Nat) => tl (j + al)))
 then (bif (decide
 (0 +
 List.length
 (Prod.fst
 (Prod.snd
 (S.histS nr (fun (j : Nat) => tr (j + ar)) (fun (j : Nat) => vr (j + ar))
 (fun (j : Nat) => gr (j + ar)) no (fun (j : Nat) => to (j + ao)) nl fun (j : Nat) => tl (j + al)))) ≤
 List.length
 (Prod.fst
 (Prod.snd
 (S.histS nr (fun (j : Nat) => tr (j + ar)) (fun (j : Nat) => vr (j + ar))
 (fun (j : Nat) => gr (j + ar)) no (fun (j : Nat) => to (j + ao)) nl fun (j : Nat) => tl (j + al)))) ∧
 List.length
 (Prod.fst
 (Prod.snd
 (S.histS nr (fun (j : Nat) => tr (j + ar)) (fun (j : Nat) => vr (j + ar))
 (fun (j : Nat) => gr (j + ar)) no (fun (j : Nat) => to (j + ao)) nl fun (j : Nat) => tl (j + al)))) ≤
 1000000 ∧
 0 +
 List.length
 (Prod.snd
 (Prod.snd
 (S.histS nr (fun (j : Nat) => tr (j + ar)) (fun (j : Nat) => vr (j + ar))
 (fun (j : Nat) => gr (j + ar)) no (fun (j : Nat) => to (j + ao)) nl fun (j : Nat) =>
 tl (j + al)))) ≤
 List.length
 (Prod.snd
 (Prod.snd
 (S.histS nr (fun (j : Nat) => tr (j + ar)) (fun (j : Nat) => vr (j + ar))
 (fun (j : Nat) => gr (j + ar)) no (fun (j : Nat) => to (j + ao)) nl fun (j : Nat) => tl (j + al)))) ∧
 List.length
 (Prod.snd
 (Prod.snd
 (S.histS nr (fun (j : Nat) => tr (j + ar)) (fun (j : Nat) => vr (j + ar))
 (fun (j : Nat) => gr (j + ar)) no (fun (j : Nat) => to (j + ao)) nl fun (j : Nat) =>
 tl (j + al)))) ≤
 1000000 ∧
 0 +
 List.length
 (Prod.fst
 (Prod.snd
 (S.histS nr (fun (j : Nat) => tr (j + ar)) (fun (j : Nat) => vr (j + ar))
 (fun (j : Nat) => gr (j + ar)) no (fun (j : Nat) => to (j + ao)) nl fun (j : Nat) =>
 tl (j + al)))) ≤
 List.length
 (Prod.fst
 (Prod.snd
 (S.histS nr (fun (j : Nat) => tr (j + ar)) (fun (j : Nat) => vr (j + ar))
 (fun (j : Nat) => gr (j + ar)) no (fun (j : Nat) => to (j + ao)) nl fun (j : Nat) =>
 tl (j + al)))) ∧
 List.length
 (Prod.fst
 (Prod.snd
 (S.histS nr (fun (j : Nat) => tr (j + ar)) (fun (j : Nat) => vr (j + ar))
 (fun (j : Nat) => gr (j + ar)) no (fun (j : Nat) => to (j + ao)) nl fun (j : Nat) =>
 tl (j + al)))) ≤
 1000000 ∧
 0 +
 List.length
 (Prod.snd
 (Prod.snd
 (S.histS nr (fun (j : Nat) => tr (j + ar)) (fun (j : Nat) => vr (j + ar))
 (fun (j : Nat) => gr (j + ar)) no (fun (j : Nat) => to (j + ao)) nl fun (j : Nat) =>
 tl (j + al)))) ≤
 List.length
 (Prod.snd
 (Prod.snd
 (S.histS nr (fun (j : Nat) => tr (j + ar)) (fun (j : Nat) => vr (j + ar))
 (fun (j : Nat) => gr (j + ar)) no (fun (j : Nat) => to (j + ao)) nl fun (j : Nat) =>
 tl (j + al)))) ∧
 List.length
 (Prod.snd
 (Prod.snd
 (S.histS nr (fun (j : Nat) => tr (j + ar)) (fun (j : Nat) => vr (j + ar))
 (fun (j : Nat) => gr (j + ar)) no (fun (j : Nat) => to (j + ao)) nl fun (j : Nat) =>
 tl (j + al)))) ≤
 1000000))
 then (bif (decide
 ((S.mkl
 (List.length
 (Prod.fst
 (Prod.snd
 (S.histS nr (fun (j : Nat) => tr (j + ar)) (fun (j : Nat) => vr (j + ar))
 (fun (j : Nat) => gr (j + ar)) no (fun (j : Nat) => to (j + ao)) nl fun (j : Nat) => tl (j + al)))))
 fun (j : Nat) =>
 (Prod.fst
 (S.at'
 (Prod.fst
 (Prod.snd
 (S.histS nr (fun (j : Nat) => tr (j + ar)) (fun (j : Nat) => vr (j + ar))
 (fun (j : Nat) => gr (j + ar)) no (fun (j : Nat) => to (j + ao)) nl fun (j : Nat) => tl (j + al))))
 j),
 Prod.fst
 (Prod.snd
 (S.at'
 (Prod.fst
 (Prod.snd
 (S.histS nr (fun (j : Nat) => tr (j + ar)) (fun (j : Nat) => vr (j + ar))
 (fun (j : Nat) => gr (j + ar)) no (fun (j : Nat) => to (j + ao)) nl fun (j : Nat) =>
 tl (j + al))))
 j)),
 Prod.snd
 (Prod.snd
 (S.at'
 (Prod.fst
 (Prod.snd
 (S.histS nr (fun (j : Nat) => tr (j + ar)) (fun (j : Nat) => vr (j + ar))
 (fun (j : Nat) => gr (j + ar)) no (fun (j : Nat) => to (j + ao)) nl fun (j : Nat) =>
 tl (j + al))))
 j)))) =
 S.mkl
 (List.length
 (Prod.fst
 (Prod.snd
 (S.histS nr (fun (j : Nat) => tr (j + ar)) (fun (j : Nat) => vr (j + ar))
 (fun (j : Nat) => gr (j + ar)) no (fun (j : Nat) => to (j + ao)) nl fun (j : Nat) => tl (j + al)))))
 fun (j : Nat) =>
 (Prod.fst
 (S.at'
 (Prod.fst
 (Prod.snd
 (S.histS nr (fun (j : Nat) => tr (j + ar)) (fun (j : Nat) => vr (j + ar))
 (fun (j : Nat) => gr (j + ar)) no (fun (j : Nat) => to (j + ao)) nl fun (j : Nat) => tl (j + al))))
 j),
 Prod.fst
 (Prod.snd
 (S.at'
 (Prod.fst
 (Prod.snd
 (S.histS nr (fun (j : Nat) => tr (j + ar)) (fun (j : Nat) => vr (j + ar))
 (fun (j : Nat) => gr (j + ar)) no (fun (j : Nat) => to (j + ao)) nl fun (j : Nat) =>
 tl (j + al))))
 j)),
 Prod.snd
 (Prod.snd
 (S.at'
 (Prod.fst
 (Prod.snd
 (S.histS nr (fun (j : Nat) => tr (j + ar)) (fun (j : Nat) => vr (j + ar))
 (fun (j : Nat) => gr (j + ar)) no (fun (j : Nat) => to (j + ao)) nl fun (j : Nat) =>
 tl (j + al))))
 j)))) &&
 decide
 ((S.mkl
 (List.length
 (Prod.snd
 (Prod.snd
 (S.histS nr (fun (j : Nat) => tr (j + ar)) (fun (j : Nat) => vr (j + ar))
 (fun (j : Nat) => gr (j + ar)) no (fun (j : Nat) => to (j + ao)) nl fun (j : Nat) => tl (j + al)))))
 fun (j : Nat) =>
 S.at'
 (Prod.snd
 (Prod.snd
 (S.histS nr (fun (j : Nat) => tr (j + ar)) (fun (j : Nat) => vr (j + ar))
 (fun (j : Nat) => gr (j + ar)) no (fun (j : Nat) => to (j + ao)) nl fun (j : Nat) => tl (j + al))))
 j) =
 S.mkl
 (List.length
 (Prod.snd
 (Prod.snd
 (S.histS nr (fun (j : Nat) => tr (j + ar)) (fun (j : Nat) => vr (j + ar))
 (fun (j : Nat) => gr (j + ar)) no (fun (j : Nat) => to (j + ao)) nl fun (j : Nat) => tl (j + al)))))
 fun (j : Nat) =>
 S.at'
 (Prod.snd
 (Prod.snd
 (S.histS nr (fun (j : Nat) => tr (j + ar)) (fun (j : Nat) => vr (j + ar))
 (fun (j : Nat) => gr (j + ar)) no (fun (j : Nat) => to (j + ao)) nl fun (j : Nat) => tl (j + al))))
 j))
 then (some (.inr (true)))
 else (some (.inr (false))))
 else (none))
 else (some (.inr (false))))
 else (bif (decide
 (0 +
 List.length
 (Prod.fst
 (Prod.snd
 (S.histS nr (fun (j : Nat) => tr (j + ar)) (fun (j : Nat) => vr (j + ar))
 (fun (j : Nat) => gr (j + ar)) no (fun (j : Nat) => to (j + ao)) nl fun (j : Nat) => tl (j + al)))) ≤
 List.length
 (Prod.fst
 (Prod.snd
 (S.histS nr (fun (j : Nat) => tr (j + ar)) (fun (j : Nat) => vr (j + ar))
 (fun (j : Nat) => gr (j + ar)) no (fun (j : Nat) => to (j + ao)) nl fun (j : Nat) => tl (j + al)))) ∧
 List.length
 (Prod.fst
 (Prod.snd
 (S.histS nr (fun (j : Nat) => tr (j + ar)) (fun (j : Nat) => vr (j + ar))
 (fun (j : Nat) => gr (j + ar)) no (fun (j : Nat) => to (j + ao)) nl fun (j : Nat) => tl (j + al)))) ≤
 1000000 ∧
 0 +
 List.length
 (Prod.snd
 (Prod.snd
 (S.histS nr (fun (j : Nat) => tr (j + ar)) (fun (j : Nat) => vr (j + ar))
 (fun (j : Nat) => gr (j + ar)) no (fun (j : Nat) => to (j + ao)) nl fun (j : Nat) =>
 tl (j + al)))) ≤
 List.length
 (Prod.snd
 (Prod.snd
 (S.histS nr (fun (j : Nat) => tr (j + ar)) (fun (j : Nat) => vr (j + ar))
 (fun (j : Nat) => gr (j + ar)) no (fun (j : Nat) => to (j + ao)) nl fun (j : Nat) => tl (j + al)))) ∧
 List.length
 (Prod.snd
 (Prod.snd
 (S.histS nr (fun (j : Nat) => tr (j + ar)) (fun (j : Nat) => vr (j + ar))
 (fun (j : Nat) => gr (j + ar)) no (fun (j : Nat) => to (j + ao)) nl fun (j : Nat) =>
 tl (j + al)))) ≤
 1000000 ∧
 0 +
 List.length
 (Prod.fst
 (Prod.snd
 (S.histS nr (fun (j : Nat) => tr (j + ar)) (fun (j : Nat) => vr (j + ar))
 (fun (j : Nat) => gr (j + ar)) no (fun (j : Nat) => to (j + ao)) nl fun (j : Nat) =>
 tl (j + al)))) ≤
 List.length
 (Prod.fst
 (Prod.snd
 (S.histS nr (fun (j : Nat) => tr (j + ar)) (fun (j : Nat) => vr (j + ar))
 (fun (j : Nat) => gr (j + ar)) no (fun (j : Nat) => to (j + ao)) nl fun (j : Nat) =>
 tl (j + al)))) ∧
 List.length
 (Prod.fst
 (Prod.snd
 (S.histS nr (fun (j : Nat) => tr (j + ar)) (fun (j : Nat) => vr (j + ar))
 (fun (j : Nat) => gr (j + ar)) no (fun (j : Nat) => to (j + ao)) nl fun (j : Nat) =>
 tl (j + al)))) ≤
 1000000 ∧
 0 +
 List.length
 (Prod.snd
 (Prod.snd
 (S.histS nr (fun (j : Nat) => tr (j + ar)) (fun (j : Nat) => vr (j + ar))
 (fun (j : Nat) => gr (j + ar)) no (fun (j : Nat) => to (j + ao)) nl fun (j : Nat) =>
 tl (j + al)))) ≤
 List.length
 (Prod.snd
 (Prod.snd
 (S.histS nr (fun (j : Nat) => tr (j + ar)) (fun (j : Nat) => vr (j + ar))
 (fun (j : Nat) => gr (j + ar)) no (fun (j : Nat) => to (j + ao)) nl fun (j : Nat) =>
 tl (j + al)))) ∧
 List.length
 (Prod.snd
 (Prod.snd
 (S.histS nr (fun (j : Nat) => tr (j + ar)) (fun (j : Nat) => vr (j + ar))
 (fun (j : Nat) => gr (j + ar)) no (fun (j : Nat) => to (j + ao)) nl fun (j : Nat) =>
 tl (j + al)))) ≤
 1000000))
 then (bif (decide
 ((S.mkl
 (List.length
 (Prod.fst
 (Prod.snd
 (S.histS nr (fun (j : Nat) => tr (j + ar)) (fun (j : Nat) => vr (j + ar))
 (fun (j : Nat) => gr (j + ar)) no (fun (j : Nat) => to (j + ao)) nl fun (j : Nat) => tl (j + al)))))
 fun (j : Nat) =>
 (Prod.fst
 (S.at'
 (Prod.fst
 (Prod.snd
 (S.histS nr (fun (j : Nat) => tr (j + ar)) (fun (j : Nat) => vr (j + ar))
 (fun (j : Nat) => gr (j + ar)) no (fun (j : Nat) => to (j + ao)) nl fun (j : Nat) => tl (j + al))))
 j),
 Prod.fst
 (Prod.snd
 (S.at'
 (Prod.fst
 (Prod.snd
 (S.histS nr (fun (j : Nat) => tr (j + ar)) (fun (j : Nat) => vr (j + ar))
 (fun (j : Nat) => gr (j + ar)) no (fun (j : Nat) => to (j + ao)) nl fun (j : Nat) =>
 tl (j + al))))
 j)),
 Prod.snd
 (Prod.snd
 (S.at'
 (Prod.fst
 (Prod.snd
 (S.histS nr (fun (j : Nat) => tr (j + ar)) (fun (j : Nat) => vr (j + ar))
 (fun (j : Nat) => gr (j + ar)) no (fun (j : Nat) => to (j + ao)) nl fun (j : Nat) =>
 tl (j + al))))
 j)))) =
 S.mkl
 (List.length
 (Prod.fst
 (Prod.snd
 (S.histS nr (fun (j : Nat) => tr (j + ar)) (fun (j : Nat) => vr (j + ar))
 (fun (j : Nat) => gr (j + ar)) no (fun (j : Nat) => to (j + ao)) nl fun (j : Nat) => tl (j + al)))))
 fun (j : Nat) =>
 (Prod.fst
 (S.at'
 (Prod.fst
 (Prod.snd
 (S.histS nr (fun (j : Nat) => tr (j + ar)) (fun (j : Nat) => vr (j + ar))
 (fun (j : Nat) => gr (j + ar)) no (fun (j : Nat) => to (j + ao)) nl fun (j : Nat) => tl (j + al))))
 j),
 Prod.fst
 (Prod.snd
 (S.at'
 (Prod.fst
 (Prod.snd
 (S.histS nr (fun (j : Nat) => tr (j + ar)) (fun (j : Nat) => vr (j + ar))
 (fun (j : Nat) => gr (j + ar)) no (fun (j : Nat) => to (j + ao)) nl fun (j : Nat) =>
 tl (j + al))))
 j)),
 Prod.snd
 (Prod.snd
 (S.at'
 (Prod.fst
 (Prod.snd
 (S.histS nr (fun (j : Nat) => tr (j + ar)) (fun (j : Nat) => vr (j + ar))
 (fun (j : Nat) => gr (j + ar)) no (fun (j : Nat) => to (j + ao)) nl fun (j : Nat) =>
 tl (j + al))))
 j)))) &&
 decide
 ((S.mkl
 (List.length
 (Prod.snd
 (Prod.snd
 (S.histS nr (fun (j : Nat) => tr (j + ar)) (fun (j : Nat) => vr (j + ar))
 (fun (j : Nat) => gr (j + ar)) no (fun (j : Nat) => to (j + ao)) nl fun (j : Nat) => tl (j + al)))))
 fun (j : Nat) =>
 S.at'
 (Prod.snd
 (Prod.snd
 (S.histS nr (fun (j : Nat) => tr (j + ar)) (fun (j : Nat) => vr (j + ar))
 (fun (j : Nat) => gr (j + ar)) no (fun (j : Nat) => to (j + ao)) nl fun (j : Nat) => tl (j + al))))
 j) =
 S.mkl
 (List.length
 (Prod.snd
 (Prod.snd
 (S.histS nr (fun (j : Nat) => tr (j + ar)) (fun (j : Nat) => vr (j + ar))
 (fun (j : Nat) => gr (j + ar)) no (fun (j : Nat) => to (j + ao)) nl fun (j : Nat) => tl (j + al)))))
 fun (j : Nat) =>
 S.at'
 (Prod.snd
 (Prod.snd
 (S.histS nr (fun (j : Nat) => tr (j + ar)) (fun (j : Nat) => vr (j + ar))
 (fun (j : Nat) => gr (j + ar)) no (fun (j : Nat) => to (j + ao)) nl fun (j : Nat) => tl (j + al))))
 j))
 then (bif (Prod.fst
 (S.histS nr (fun (j : Nat) => tr (j + ar)) (fun (j : Nat) => vr (j + ar)) (fun (j : Nat) => gr (j + ar)) no
 (fun (j : Nat) => to (j + ao)) nl fun (j : Nat) => tl (j + al)) !=
 (0 : Int))
 then (bif (Prod.fst
 (S.histS nr (fun (j : Nat) => tr (j + ar)) (fun (j : Nat) => vr (j + ar)) (fun (j : Nat) => gr (j + ar)) no
 (fun (j : Nat) => to (j + ao)) nl fun (j : Nat) => tl (j + al)) ==
 Prod.fst
 (S.histS nr (fun (j : Nat) => tr (j + ar)) (fun (j : Nat) => vr (j + ar)) (fun (j : Nat) => gr (j + ar)) no
 (fun (j : Nat) => to (j + ao)) nl fun (j : Nat) => tl (j + al)))
 then (some (.inr (true)))
 else (some (.inr (false))))
 else (some (.inl (.h0 (Prod.fst
 (Prod.snd
 (S.histS nr (fun (j : Nat) => tr (j + ar)) (fun (j : Nat) => vr (j + ar)) (fun (j : Nat) => gr (j + ar)) no
 (fun (j : Nat) => to (j + ao)) nl fun (j : Nat) => tl (j + al)))) (Prod.snd
 (Prod.snd
 (S.histS nr (fun (j : Nat) => tr (j + ar)) (fun (j : Nat) => vr (j + ar)) (fun (j : Nat) => gr (j + ar)) no
 (fun (j : Nat) => to (j + ao)) nl fun (j : Nat) => tl (j + al))))))))
 else (bif (Prod.fst
 (S.histS nr (fun (j : Nat) => tr (j + ar)) (fun (j : Nat) => vr (j + ar)) (fun (j : Nat) => gr (j + ar)) no
 (fun (j : Nat) => to (j + ao)) nl fun (j : Nat) => tl (j + al)) ==
 Prod.fst
 (S.histS nr (fun (j : Nat) => tr (j + ar)) (fun (j : Nat) => vr (j + ar)) (fun (j : Nat) => gr (j + ar)) no
 (fun (j : Nat) => to (j + ao)) nl fun (j : Nat) => tl (j + al)))
 then (some (.inr (false)))
 else (some (.inr (false)))))
 else (none)))
 else (none))
 else (none))
 else (none))
 else (none))
 else (none))))
 else (bif (decide ((↑nl : Int) > (1010 : Int)))
 then (some (.inr (true)))
 else (bif (decide (ar + nr ≤ mr ∧ nr ≤ 1000000))
 then (bif (decide (ao + no ≤ mo ∧ no ≤ 1000000))
 then (bif (decide (al + nl ≤ ml ∧ nl ≤ 1000000))
 then (bif (decide
 (0 + nr ≤ nr ∧
 nr ≤ 1000000 ∧ 0 + no ≤ no ∧ no ≤ 1000000 ∧ 0 + nl ≤ nl ∧ nl ≤ 1000000))
 then (bif (decide
 (ar + nr ≤ mr ∧ nr ≤ 1000000 ∧ ao + no ≤ mo ∧ no ≤ 1000000 ∧ al + nl ≤ ml ∧ nl ≤ 1000000))
 then (bif (Prod.fst
 (S.histS nr (fun (j : Nat) => tr (j + ar)) (fun (j : Nat) => vr (j + ar)) (fun (j : Nat) => gr (j + ar)) no
 (fun (j : Nat) => to (j + ao)) nl fun (j : Nat) => tl (j + al)) !=
 Prod.fst
 (S.histS nr (fun (j : Nat) => tr (j + ar)) (fun (j : Nat) => vr (j + ar)) (fun (j : Nat) => gr (j + ar)) no
 (fun (j : Nat) => to (j + ao)) nl fun (j : Nat) => tl (j + al)))
 then (bif (Prod.fst
 (S.histS nr (fun (j : Nat) => tr (j + ar)) (fun (j : Nat) => vr (j + ar)) (fun (j : Nat) => gr (j + ar)) no
 (fun (j : Nat) => to (j + ao)) nl fun (j : Nat) => tl (j + al)) ==
 Prod.fst
 (S.histS nr (fun (j : Nat) => tr (j + ar)) (fun (j : Nat) => vr (j + ar)) (fun (j : Nat) => gr (j + ar)) no
 (fun (j : Nat) => to (j + ao)) nl fun (j : Nat) => tl (j + al)))
 then (bif (decide
 (0 +
 List.length
 (Prod.fst
 (Prod.snd
 (S.histS nr (fun (j : Nat) => tr (j + ar)) (fun (j : Nat) => vr (j + ar))
 (fun (j : Nat) => gr (j + ar)) no (fun (j : Nat) => to (j + ao)) nl fun (j : Nat) => tl (j + al)))) ≤
 List.length
 (Prod.fst
 (Prod.snd
 (S.histS nr (fun (j : Nat) => tr (j + ar)) (fun (j : Nat) => vr (j + ar))
 (fun (j : Nat) => gr (j + ar)) no (fun (j : Nat) => to (j + ao)) nl fun (j : Nat) => tl (j + al)))) ∧
 List.length
 (Prod.fst
 (Prod.snd
 (S.histS nr (fun (j : Nat) => tr (j + ar)) (fun (j : Nat) => vr (j + ar))
 (fun (j : Nat) => gr (j + ar)) no (fun (j : Nat) => to (j + ao)) nl fun (j : Nat) => tl (j + al)))) ≤
 1000000 ∧
 0 +
 List.length
 (Prod.snd
 (Prod.snd
 (S.histS nr (fun (j : Nat) => tr (j + ar)) (fun (j : Nat) => vr (j + ar))
 (fun (j : Nat) => gr (j + ar)) no (fun (j : Nat) => to (j + ao)) nl fun (j : Nat) =>
 tl (j + al)))) ≤
 List.length
 (Prod.snd
 (Prod.snd
 (S.histS nr (fun (j : Nat) => tr (j + ar)) (fun (j : Nat) => vr (j + ar))
 (fun (j : Nat) => gr (j + ar)) no (fun (j : Nat) => to (j + ao)) nl fun (j : Nat) => tl (j + al)))) ∧
 List.length
 (Prod.snd
 (Prod.snd
 (S.histS nr (fun (j : Nat) => tr (j + ar)) (fun (j : Nat) => vr (j + ar))
 (fun (j : Nat) => gr (j + ar)) no (fun (j : Nat) => to (j + ao)) nl fun (j : Nat) =>
 tl (j + al)))) ≤
 1000000 ∧
 0 +
 List.length
 (Prod.fst
 (Prod.snd
 (S.histS nr (fun (j : Nat) => tr (j + ar)) (fun (j : Nat) => vr (j + ar))
 (fun (j : Nat) => gr (j + ar)) no (fun (j : Nat) => to (j + ao)) nl fun (j : Nat) =>
 tl (j + al)))) ≤
 List.length
 (Prod.fst
 (Prod.snd
 (S.histS nr (fun (j : Nat) => tr (j + ar)) (fun (j : Nat) => vr (j + ar))
 (fun (j : Nat) => gr (j + ar)) no (fun (j : Nat) => to (j + ao)) nl fun (j : Nat) =>
 tl (j + al)))) ∧
 List.length
 (Prod.fst
 (Prod.snd
 (S.histS nr (fun (j : Nat) => tr (j + ar)) (fun (j : Nat) => vr (j + ar))
 (fun (j : Nat) => gr (j + ar)) no (fun (j : Nat) => to (j + ao)) nl fun (j : Nat) =>
 tl (j + al)))) ≤
 1000000 ∧
 0 +
 List.length
 (Prod.snd
 (Prod.snd
 (S.histS nr (fun (j : Nat) => tr (j + ar)) (fun (j : Nat) => vr (j + ar))
 (fun (j : Nat) => gr (j + ar)) no (fun (j : Nat) => to (j + ao)) nl fun (j : Nat) =>
 tl (j + al)))) ≤
 List.length
 (Prod.snd
 (Prod.snd
 (S.histS nr (fun (j : Nat) => tr (j + ar)) (fun (j : Nat) => vr (j + ar))
 (fun (j : Nat) => gr (j + ar)) no (fun (j : Nat) => to (j + ao)) nl fun (j : Nat) =>
 tl (j + al)))) ∧
 List.length
 (Prod.snd
 (Prod.snd
 (S.histS nr (fun (j : Nat) => tr (j + ar)) (fun (j : Nat) => vr (j + ar))
 (fun (j : Nat) => gr (j + ar)) no (fun (j : Nat) => to (j + ao)) nl fun (j : Nat) =>
 tl (j + al)))) ≤
 1000000))
 then (bif (decide
 ((S.mkl
 (List.length
 (Prod.fst
 (Prod.snd
 (S.histS nr (fun (j : Nat) => tr (j + ar)) (fun (j : Nat) => vr (j + ar))
 (fun (j : Nat) => gr (j + ar)) no (fun (j : Nat) => to (j + ao)) nl fun (j : Nat) => tl (j + al)))))
 fun (j : Nat) =>
 (Prod.fst
 (S.at'
 (Prod.fst
 (Prod.snd
 (S.histS nr (fun (j : Nat) => tr (j + ar)) (fun (j : Nat) => vr (j + ar))
 (fun (j : Nat) => gr (j + ar)) no (fun (j : Nat) => to (j + ao)) nl fun (j : Nat) => tl (j + al))))
 j),
 Prod.fst
 (Prod.snd
 (S.at'
 (Prod.fst
 (Prod.snd
 (S.histS nr (fun (j : Nat) => tr (j + ar)) (fun (j : Nat) => vr (j + ar))
 (fun (j : Nat) => gr (j + ar)) no (fun (j : Nat) => to (j + ao)) nl fun (j : Nat) =>
 tl (j + al))))
 j)),
 Prod.snd
 (Prod.snd
 (S.at'
 (Prod.fst
 (Prod.snd
 (S.histS nr (fun (j : Nat) => tr (j + ar)) (fun (j : Nat) => vr (j + ar))
 (fun (j : Nat) => gr (j + ar)) no (fun (j : Nat) => to (j + ao)) nl fun (j : Nat) =>
 tl (j + al))))
 j)))) =
 S.mkl
 (List.length
 (Prod.fst
 (Prod.snd
 (S.histS nr (fun (j : Nat) => tr (j + ar)) (fun (j : Nat) => vr (j + ar))
 (fun (j : Nat) => gr (j + ar)) no (fun (j : Nat) => to (j + ao)) nl fun (j : Nat) => tl (j + al)))))
 fun (j : Nat) =>
 (Prod.fst
 (S.at'
 (Prod.fst
 (Prod.snd
 (S.histS nr (fun (j : Nat) => tr (j + ar)) (fun (j : Nat) => vr (j + ar))
 (fun (j : Nat) => gr (j + ar)) no (fun (j : Nat) => to (j + ao)) nl fun (j : Nat) => tl (j + al))))
 j),
 Prod.fst
 (Prod.snd
 (S.at'
 (Prod.fst
 (Prod.snd
 (S.histS nr (fun (j : Nat) => tr (j + ar)) (fun (j : Nat) => vr (j + ar))
 (fun (j : Nat) => gr (j + ar)) no (fun (j : Nat) => to (j + ao)) nl fun (j : Nat) =>
 tl (j + al))))
 j)),
 Prod.snd
 (Prod.snd
 (S.at'
 (Prod.fst
 (Prod.snd
 (S.histS nr (fun (j : Nat) => tr (j + ar)) (fun (j : Nat) => vr (j + ar))
 (fun (j : Nat) => gr (j + ar)) no (fun (j : Nat) => to (j + ao)) nl fun (j : Nat) =>
 tl (j + al))))
 j)))) &&
 decide
 ((S.mkl
 (List.length
 (Prod.snd
 (Prod.snd
 (S.histS nr (fun (j : Nat) => tr (j + ar)) (fun (j : Nat) => vr (j + ar))
 (fun (j : Nat) => gr (j + ar)) no (fun (j : Nat) => to (j + ao)) nl fun (j : Nat) => tl (j + al)))))
 fun (j : Nat) =>
 S.at'
 (Prod.snd
 (Prod.snd
 (S.histS nr (fun (j : Nat) => tr (j + ar)) (fun (j : Nat) => vr (j + ar))
 (fun (j : Nat) => gr (j + ar)) no (fun (j : Nat) => to (j + ao)) nl fun (j : Nat) => tl (j + al))))
 j) =
 S.mkl
 (List.length
 (Prod.snd
 (Prod.snd
 (S.histS nr (fun (j : Nat) => tr (j + ar)) (fun (j : Nat) => vr (j + ar))
 (fun (j : Nat) => gr (j + ar)) no (fun (j : Nat) => to (j + ao)) nl fun (j : Nat) => tl (j + al)))))
 fun (j : Nat) =>
 S.at'
 (Prod.snd
 (Prod.snd
 (S.histS nr (fun (j : Nat) => tr (j + ar)) (fun (j : Nat) => vr (j + ar))
 (fun (j : Nat) => gr (j + ar)) no (fun (j : Nat) => to (j + ao)) nl fun (j : Nat) => tl (j + al))))
 j))
 then (some (.inr (true)))
 else (some (.inr (false))))
 else (none))
 else (some (.inr (false))))
 else (bif (decide
 (0 +
 List.length
 (Prod.fst
 (Prod.snd
 (S.histS nr (fun (j : Nat) => tr (j + ar)) (fun (j : Nat) => vr (j + ar))
 (fun (j : Nat) => gr (j + ar)) no (fun (j : Nat) => to (j + ao)) nl fun (j : Nat) => tl (j + al)))) ≤
 List.length
 (Prod.fst
 (Prod.snd
 (S.histS nr (fun (j : Nat) => tr (j + ar)) (fun (j : Nat) => vr (j + ar))
 (fun (j : Nat) => gr (j + ar)) no (fun (j : Nat) => to (j + ao)) nl fun (j : Nat) => tl (j + al)))) ∧
 List.length
 (Prod.fst
 (Prod.snd
 (S.histS nr (fun (j : Nat) => tr (j + ar)) (fun (j : Nat) => vr (j + ar))
 (fun (j : Nat) => gr (j + ar)) no (fun (j : Nat) => to (j + ao)) nl fun (j : Nat) => tl (j + al)))) ≤
 1000000 ∧
 0 +
 List.length
 (Prod.snd
 (Prod.snd
 (S.histS nr (fun (j : Nat) => tr (j + ar)) (fun (j : Nat) => vr (j + ar))
 (fun (j : Nat) => gr (j + ar)) no (fun (j : Nat) => to (j + ao)) nl fun (j : Nat) =>
 tl (j + al)))) ≤
 List.length
 (Prod.snd
 (Prod.snd
 (S.histS nr (fun (j : Nat) => tr (j + ar)) (fun (j : Nat) => vr (j + ar))
 (fun (j : Nat) => gr (j + ar)) no (fun (j : Nat) => to (j + ao)) nl fun (j : Nat) => tl (j + al)))) ∧
 List.length
 (Prod.snd
 (Prod.snd
 (S.histS nr (fun (j : Nat) => tr (j + ar)) (fun (j : Nat) => vr (j + ar))
 (fun (j : Nat) => gr (j + ar)) no (fun (j : Nat) => to (j + ao)) nl fun (j : Nat) =>
 tl (j + al)))) ≤
 1000000 ∧
 0 +
 List.length
 (Prod.fst
 (Prod.snd
 (S.histS nr (fun (j : Nat) => tr (j + ar)) (fun (j : Nat) => vr (j + ar))
 (fun (j : Nat) => gr (j + ar)) no (fun (j : Nat) => to (j + ao)) nl fun (j : Nat) =>
 tl (j + al)))) ≤
 List.length
 (Prod.fst
 (Prod.snd
 (S.histS nr (fun (j : Nat) => tr (j + ar)) (fun (j : Nat) => vr (j + ar))
 (fun (j : Nat) => gr (j + ar)) no (fun (j : Nat) => to (j + ao)) nl fun (j : Nat) =>
 tl (j + al)))) ∧
 List.length
 (Prod.fst
 (Prod.snd
 (S.histS nr (fun (j : Nat) => tr (j + ar)) (fun (j : Nat) => vr (j + ar))
 (fun (j : Nat) => gr (j + ar)) no (fun (j : Nat) => to (j + ao)) nl fun (j : Nat) =>
 tl (j + al)))) ≤
 1000000 ∧
 0 +
 List.length
 (Prod.snd
 (Prod.snd
 (S.histS nr (fun (j : Nat) => tr (j + ar)) (fun (j : Nat) => vr (j + ar))
 (fun (j : Nat) => gr (j + ar)) no (fun (j : Nat) => to (j + ao)) nl fun (j : Nat) =>
 tl (j + al)))) ≤
 List.length
 (Prod.snd
 (Prod.snd
 (S.histS nr (fun (j : Nat) => tr (j + ar)) (fun (j : Nat) => vr (j + ar))
 (fun (j : Nat) => gr (j + ar)) no (fun (j : Nat) => to (j + ao)) nl fun (j : Nat) =>
 tl (j + al)))) ∧
 List.length
 (Prod.snd
 (Prod.snd
 (S.histS nr (fun (j : Nat) => tr (j + ar)) (fun (j : Nat) => vr (j + ar))
 (fun (j : Nat) => gr (j + ar)) no (fun (j : Nat) => to (j + ao)) nl fun (j : Nat) =>
 tl (j + al)))) ≤
 1000000))
 then (bif (decide
 ((S.mkl
 (List.length
 (Prod.fst
 (Prod.snd
 (S.histS nr (fun (j : Nat) => tr (j + ar)) (fun (j : Nat) => vr (j + ar))
 (fun (j : Nat) => gr (j + ar)) no (fun (j : Nat) => to (j + ao)) nl fun (j : Nat) => tl (j + al)))))
 fun (j : Nat) =>
 (Prod.fst
 (S.at'
 (Prod.fst
 (Prod.snd
 (S.histS nr (fun (j : Nat) => tr (j + ar)) (fun (j : Nat) => vr (j + ar))
 (fun (j : Nat) => gr (j + ar)) no (fun (j : Nat) => to (j + ao)) nl fun (j : Nat) => tl (j + al))))
 j),
 Prod.fst
 (Prod.snd
 (S.at'
 (Prod.fst
 (Prod.snd
 (S.histS nr (fun (j : Nat) => tr (j + ar)) (fun (j : Nat) => vr (j + ar))
 (fun (j : Nat) => gr (j + ar)) no (fun (j : Nat) => to (j + ao)) nl fun (j : Nat) =>
 tl (j + al))))
 j)),
 Prod.snd
 (Prod.snd
 (S.at'
 (Prod.fst
 (Prod.snd
 (S.histS nr (fun (j : Nat) => tr (j + ar)) (fun (j : Nat) => vr (j + ar))
 (fun (j : Nat) => gr (j + ar)) no (fun (j : Nat) => to (j + ao)) nl fun (j : Nat) =>
 tl (j + al))))
 j)))) =
 S.mkl
 (List.length
 (Prod.fst
 (Prod.snd
 (S.histS nr (fun (j : Nat) => tr (j + ar)) (fun (j : Nat) => vr (j + ar))
 (fun (j : Nat) => gr (j + ar)) no (fun (j : Nat) => to (j + ao)) nl fun (j : Nat) => tl (j + al)))))
 fun (j : Nat) =>
 (Prod.fst
 (S.at'
 (Prod.fst
 (Prod.snd
 (S.histS nr (fun (j : Nat) => tr (j + ar)) (fun (j : Nat) => vr (j + ar))
 (fun (j : Nat) => gr (j + ar)) no (fun (j : Nat) => to (j + ao)) nl fun (j : Nat) => tl (j + al))))
 j),
 Prod.fst
 (Prod.snd
 (S.at'
 (Prod.fst
 (Prod.snd
 (S.histS nr (fun (j : Nat) => tr (j + ar)) (fun (j : Nat) => vr (j + ar))
 (fun (j : Nat) => gr (j + ar)) no (fun (j : Nat) => to (j + ao)) nl fun (j : Nat) =>
 tl (j + al))))
 j)),
 Prod.snd
 (Prod.snd
 (S.at'
 (Prod.fst
 (Prod.snd
 (S.histS nr (fun (j : Nat) => tr (j + ar)) (fun (j : Nat) => vr (j + ar))
 (fun (j : Nat) => gr (j + ar)) no (fun (j : Nat) => to (j + ao)) nl fun (j : Nat) =>
 tl (j + al))))
 j)))) &&
 decide
 ((S.mkl
 (List.length
 (Prod.snd
 (Prod.snd
 (S.histS nr (fun (j : Nat) => tr (j + ar)) (fun (j : Nat) => vr (j + ar))
 (fun (j : Nat) => gr (j + ar)) no (fun (j : Nat) => to (j + ao)) nl fun (j : Nat) => tl (j + al)))))
 fun (j : Nat) =>
 S.at'
 (Prod.snd
 (Prod.snd
 (S.histS nr (fun (j : Nat) => tr (j + ar)) (fun (j : Nat) => vr (j + ar))
 (fun (j : Nat) => gr (j + ar)) no (fun (j : Nat) => to (j + ao)) nl fun (j : Nat) => tl (j + al))))
 j) =
 S.mkl
 (List.length
 (Prod.snd
 (Prod.snd
 (S.histS nr (fun (j : Nat) => tr (j + ar)) (fun (j : Nat) => vr (j + ar))
 (fun (j : Nat) => gr (j + ar)) no (fun (j : Nat) => to (j + ao)) nl fun (j : Nat) => tl (j + al)))))
 fun (j : Nat) =>
 S.at'
 (Prod.snd
 (Prod.snd
 (S.histS nr (fun (j : Nat) => tr (j + ar)) (fun (j : Nat) => vr (j + ar))
 (fun (j : Nat) => gr (j + ar)) no (fun (j : Nat) => to (j + ao)) nl fun (j : Nat) => tl (j + al))))
 j))
 then (bif (Prod.fst
 (S.histS nr (fun (j : Nat) => tr (j + ar)) (fun (j : Nat) => vr (j + ar)) (fun (j : Nat) => gr (j + ar)) no
 (fun (j : Nat) => to (j + ao)) nl fun (j : Nat) => tl (j + al)) !=
 (0 : Int))
 then (bif (Prod.fst
 (S.histS nr (fun (j : Nat) => tr (j + ar)) (fun (j : Nat) => vr (j + ar)) (fun (j : Nat) => gr (j + ar)) no
 (fun (j : Nat) => to (j + ao)) nl fun (j : Nat) => tl (j + al)) ==
 Prod.fst
 (S.histS nr (fun (j : Nat) => tr (j + ar)) (fun (j : Nat) => vr (j + ar)) (fun (j : Nat) => gr (j + ar)) no
 (fun (j : Nat) => to (j + ao)) nl fun (j : Nat) => tl (j + al)))
 then (some (.inr (true)))
 else (some (.inr (false))))
 else (some (.inl (.h0 (Prod.fst
 (Prod.snd
 (S.histS nr (fun (j : Nat) => tr (j + ar)) (fun (j : Nat) => vr (j + ar)) (fun (j : Nat) => gr (j + ar)) no
 (fun (j : Nat) => to (j + ao)) nl fun (j : Nat) => tl (j + al)))) (Prod.snd
 (Prod.snd
 (S.histS nr (fun (j : Nat) => tr (j + ar)) (fun (j : Nat) => vr (j + ar)) (fun (j : Nat) => gr (j + ar)) no
 (fun (j : Nat) => to (j + ao)) nl fun (j : Nat) => tl (j + al))))))))
 else (bif (Prod.fst
 (S.histS nr (fun (j : Nat) => tr (j + ar)) (fun (j : Nat) => vr (j + ar)) (fun (j : Nat) => gr (j + ar)) no
 (fun (j : Nat) => to (j + ao)) nl fun (j : Nat) => tl (j + al)) ==
 Prod.fst
 (S.histS nr (fun (j : Nat) => tr (j + ar)) (fun (j : Nat) => vr (j + ar)) (fun (j : Nat) => gr (j + ar)) no
 (fun (j : Nat) => to (j + ao)) nl fun (j : Nat) => tl (j + al)))
 then (some (.inr (false)))
 else (some (.inr (false)))))
 else (none)))
 else (none))
 else (none))
 else (none))
 else (none))
 else (none))))
 else (some (.inr (true))))
 else (some (.inr (true)))
noncomputable def Te4 (test : Bool → Prop → Prop → Prop) (Kst : KS) (Kret : KR) (ar nr mr : Nat) (tr : Nat → Int) (vr : Nat → Int) (gr : Nat → Int) (ao no mo : Nat) (to : Nat → Bool) (al nl ml : Nat) (tl : Nat → Int) : Prop :=
  test (true)
 (test (true)
 (test (decide ((↑nr : Int) ≤ (45 : Int)))
 (test (decide ((↑no : Int) ≤ (50 : Int)))
 (test (decide ((↑nl : Int) > (60 : Int)))
 (test (decide ((↑nl : Int) ≤ (1000 : Int)))
 (test (true)
 (test (true)
 (Kret (PV.tf true) ([[(2, false, Blk.cols ml [Col.int IntKind.i64 tl]),
 (1, false, Blk.cols mo [Col.bool to]),
 (0, false,
 Blk.cols mr
 [Col.int IntKind.i64 tr, Col.int IntKind.i64 vr, Col.int IntKind.i64 gr])]]) (7))
 (Kret (PV.tf false) ([[(2, false, Blk.cols ml [Col.int IntKind.i64 tl]),
 (1, false, Blk.cols mo [Col.bool to]),
 (0, false,
 Blk.cols mr
 [Col.int IntKind.i64 tr, Col.int IntKind.i64 vr, Col.int IntKind.i64 gr])]]) (7)))
 (False))
 (test (decide ((↑nl : Int) > (1010 : Int)))
 (test (true)
 (test (true)
 (Kret (PV.tf true) ([[(2, false, Blk.cols ml [Col.int IntKind.i64 tl]),
 (1, false, Blk.cols mo [Col.bool to]),
 (0, false,
 Blk.cols mr
 [Col.int IntKind.i64 tr, Col.int IntKind.i64 vr, Col.int IntKind.i64 gr])]]) (7))
 (Kret (PV.tf false) ([[(2, false, Blk.cols ml [Col.int IntKind.i64 tl]),
 (1, false, Blk.cols mo [Col.bool to]),
 (0, false,
 Blk.cols mr
 [Col.int IntKind.i64 tr, Col.int IntKind.i64 vr, Col.int IntKind.i64 gr])]]) (7)))
 (False))
 (test (decide (ar + nr ≤ mr ∧ nr ≤ 1000000))
 (test (decide (ao + no ≤ mo ∧ no ≤ 1000000))
 (test (decide (al + nl ≤ ml ∧ nl ≤ 1000000))
 (test (decide
 (0 + nr ≤ nr ∧
 nr ≤ 1000000 ∧ 0 + no ≤ no ∧ no ≤ 1000000 ∧ 0 + nl ≤ nl ∧ nl ≤ 1000000))
 (test (decide
 (ar + nr ≤ mr ∧ nr ≤ 1000000 ∧ ao + no ≤ mo ∧ no ≤ 1000000 ∧ al + nl ≤ ml ∧ nl ≤ 1000000))
 (test (Prod.fst
 (S.histS nr (fun (j : Nat) => tr (j + ar)) (fun (j : Nat) => vr (j + ar)) (fun (j : Nat) => gr (j + ar)) no
 (fun (j : Nat) => to (j + ao)) nl fun (j : Nat) => tl (j + al)) !=
 Prod.fst
 (S.histS nr (fun (j : Nat) => tr (j + ar)) (fun (j : Nat) => vr (j + ar)) (fun (j : Nat) => gr (j + ar)) no
 (fun (j : Nat) => to (j + ao)) nl fun (j : Nat) => tl (j + al)))
 (test (Prod.fst
 (S.histS nr (fun (j : Nat) => tr (j + ar)) (fun (j : Nat) => vr (j + ar)) (fun (j : Nat) => gr (j + ar)) no
 (fun (j : Nat) => to (j + ao)) nl fun (j : Nat) => tl (j + al)) ==
 Prod.fst
 (S.histS nr (fun (j : Nat) => tr (j + ar)) (fun (j : Nat) => vr (j + ar)) (fun (j : Nat) => gr (j + ar)) no
 (fun (j : Nat) => to (j + ao)) nl fun (j : Nat) => tl (j + al)))
 (test (decide
 (0 +
 List.length
 (Prod.fst
 (Prod.snd
 (S.histS nr (fun (j : Nat) => tr (j + ar)) (fun (j : Nat) => vr (j + ar))
 (fun (j : Nat) => gr (j + ar)) no (fun (j : Nat) => to (j + ao)) nl fun (j : Nat) => tl (j + al)))) ≤
 List.length
 (Prod.fst
 (Prod.snd
 (S.histS nr (fun (j : Nat) => tr (j + ar)) (fun (j : Nat) => vr (j + ar))
 (fun (j : Nat) => gr (j + ar)) no (fun (j : Nat) => to (j + ao)) nl fun (j : Nat) => tl (j + al)))) ∧
 List.length
 (Prod.fst
 (Prod.snd
 (S.histS nr (fun (j : Nat) => tr (j + ar)) (fun (j : Nat) => vr (j + ar))
 (fun (j : Nat) => gr (j + ar)) no (fun (j : Nat) => to (j + ao)) nl fun (j : Nat) => tl (j + al)))) ≤
 1000000 ∧
 0 +
 List.length
 (Prod.snd
 (Prod.snd
 (S.histS nr (fun (j : Nat) => tr (j + ar)) (fun (j : Nat) => vr (j + ar))
 (fun (j : Nat) => gr (j + ar)) no (fun (j : Nat) => to (j + ao)) nl fun (j : Nat) =>
 tl (j + al)))) ≤
 List.length
 (Prod.snd
 (Prod.snd
 (S.histS nr (fun (j : Nat) => tr (j + ar)) (fun (j : Nat) => vr (j + ar))
 (fun (j : Nat) => gr (j + ar)) no (fun (j : Nat) => to (j + ao)) nl fun (j : Nat) => tl (j + al)))) ∧
 List.length
 (Prod.snd
 (Prod.snd
 (S.histS nr (fun (j : Nat) => tr (j + ar)) (fun (j : Nat) => vr (j + ar))
 (fun (j : Nat) => gr (j + ar)) no (fun (j : Nat) => to (j + ao)) nl fun (j : Nat) =>
 tl (j + al)))) ≤
 1000000 ∧
 0 +
 List.length
 (Prod.fst
 (Prod.snd
 (S.histS nr (fun (j : Nat) => tr (j + ar)) (fun (j : Nat) => vr (j + ar))
 (fun (j : Nat) => gr (j + ar)) no (fun (j : Nat) => to (j + ao)) nl fun (j : Nat) =>
 tl (j + al)))) ≤
 List.length
 (Prod.fst
 (Prod.snd
 (S.histS nr (fun (j : Nat) => tr (j + ar)) (fun (j : Nat) => vr (j + ar))
 (fun (j : Nat) => gr (j + ar)) no (fun (j : Nat) => to (j + ao)) nl fun (j : Nat) =>
 tl (j + al)))) ∧
 List.length
 (Prod.fst
 (Prod.snd
 (S.histS nr (fun (j : Nat) => tr (j + ar)) (fun (j : Nat) => vr (j + ar))
 (fun (j : Nat) => gr (j + ar)) no (fun (j : Nat) => to (j + ao)) nl fun (j : Nat) =>
 tl (j + al)))) ≤
 1000000 ∧
 0 +
 List.length
 (Prod.snd
 (Prod.snd
 (S.histS nr (fun (j : Nat) => tr (j + ar)) (fun (j : Nat) => vr (j + ar))
 (fun (j : Nat) => gr (j + ar)) no (fun (j : Nat) => to (j + ao)) nl fun (j : Nat) =>
 tl (j + al)))) ≤
 List.length
 (Prod.snd
 (Prod.snd
 (S.histS nr (fun (j : Nat) => tr (j + ar)) (fun (j : Nat) => vr (j + ar))
 (fun (j : Nat) => gr (j + ar)) no (fun (j : Nat) => to (j + ao)) nl fun (j : Nat) =>
 tl (j + al)))) ∧
 List.length
 (Prod.snd
 (Prod.snd
 (S.histS nr (fun (j : Nat) => tr (j + ar)) (fun (j : Nat) => vr (j + ar))
 (fun (j : Nat) => gr (j + ar)) no (fun (j : Nat) => to (j + ao)) nl fun (j : Nat) =>
 tl (j + al)))) ≤
 1000000))
 (test (decide
 ((S.mkl
 (List.length
 (Prod.fst
 (Prod.snd
 (S.histS nr (fun (j : Nat) => tr (j + ar)) (fun (j : Nat) => vr (j + ar))
 (fun (j : Nat) => gr (j + ar)) no (fun (j : Nat) => to (j + ao)) nl fun (j : Nat) => tl (j + al)))))
 fun (j : Nat) =>
 (Prod.fst
 (S.at'
 (Prod.fst
 (Prod.snd
 (S.histS nr (fun (j : Nat) => tr (j + ar)) (fun (j : Nat) => vr (j + ar))
 (fun (j : Nat) => gr (j + ar)) no (fun (j : Nat) => to (j + ao)) nl fun (j : Nat) => tl (j + al))))
 j),
 Prod.fst
 (Prod.snd
 (S.at'
 (Prod.fst
 (Prod.snd
 (S.histS nr (fun (j : Nat) => tr (j + ar)) (fun (j : Nat) => vr (j + ar))
 (fun (j : Nat) => gr (j + ar)) no (fun (j : Nat) => to (j + ao)) nl fun (j : Nat) =>
 tl (j + al))))
 j)),
 Prod.snd
 (Prod.snd
 (S.at'
 (Prod.fst
 (Prod.snd
 (S.histS nr (fun (j : Nat) => tr (j + ar)) (fun (j : Nat) => vr (j + ar))
 (fun (j : Nat) => gr (j + ar)) no (fun (j : Nat) => to (j + ao)) nl fun (j : Nat) =>
 tl (j + al))))
 j)))) =
 S.mkl
 (List.length
 (Prod.fst
 (Prod.snd
 (S.histS nr (fun (j : Nat) => tr (j + ar)) (fun (j : Nat) => vr (j + ar))
 (fun (j : Nat) => gr (j + ar)) no (fun (j : Nat) => to (j + ao)) nl fun (j : Nat) => tl (j + al)))))
 fun (j : Nat) =>
 (Prod.fst
 (S.at'
 (Prod.fst
 (Prod.snd
 (S.histS nr (fun (j : Nat) => tr (j + ar)) (fun (j : Nat) => vr (j + ar))
 (fun (j : Nat) => gr (j + ar)) no (fun (j : Nat) => to (j + ao)) nl fun (j : Nat) => tl (j + al))))
 j),
 Prod.fst
 (Prod.snd
 (S.at'
 (Prod.fst
 (Prod.snd
 (S.histS nr (fun (j : Nat) => tr (j + ar)) (fun (j : Nat) => vr (j + ar))
 (fun (j : Nat) => gr (j + ar)) no (fun (j : Nat) => to (j + ao)) nl fun (j : Nat) =>
 tl (j + al))))
 j)),
 Prod.snd
 (Prod.snd
 (S.at'
 (Prod.fst
 (Prod.snd
 (S.histS nr (fun (j : Nat) => tr (j + ar)) (fun (j : Nat) => vr (j + ar))
 (fun (j : Nat) => gr (j + ar)) no (fun (j : Nat) => to (j + ao)) nl fun (j : Nat) =>
 tl (j + al))))
 j)))) &&
 decide
 ((S.mkl
 (List.length
 (Prod.snd
 (Prod.snd
 (S.histS nr (fun (j : Nat) => tr (j + ar)) (fun (j : Nat) => vr (j + ar))
 (fun (j : Nat) => gr (j + ar)) no (fun (j : Nat) => to (j + ao)) nl fun (j : Nat) => tl (j + al)))))
 fun (j : Nat) =>
 S.at'
 (Prod.snd
 (Prod.snd
 (S.histS nr (fun (j : Nat) => tr (j + ar)) (fun (j : Nat) => vr (j + ar))
 (fun (j : Nat) => gr (j + ar)) no (fun (j : Nat) => to (j + ao)) nl fun (j : Nat) => tl (j + al))))
 j) =
 S.mkl
 (List.length
 (Prod.snd
 (Prod.snd
 (S.histS nr (fun (j : Nat) => tr (j + ar)) (fun (j : Nat) => vr (j + ar))
 (fun (j : Nat) => gr (j + ar)) no (fun (j : Nat) => to (j + ao)) nl fun (j : Nat) => tl (j + al)))))
 fun (j : Nat) =>
 S.at'
 (Prod.snd
 (Prod.snd
 (S.histS nr (fun (j : Nat) => tr (j + ar)) (fun (j : Nat) => vr (j + ar))
 (fun (j : Nat) => gr (j + ar)) no (fun (j : Nat) => to (j + ao)) nl fun (j : Nat) => tl (j + al))))
 j))
 (Kret (PV.tf true) ([[(2, false, Blk.cols ml [Col.int IntKind.i64 tl]),
 (1, false, Blk.cols mo [Col.bool to]),
 (0, false,
 Blk.cols mr
 [Col.int IntKind.i64 tr, Col.int IntKind.i64 vr, Col.int IntKind.i64 gr])]]) (23))
 (Kret (PV.tf false) ([[(2, false, Blk.cols ml [Col.int IntKind.i64 tl]),
 (1, false, Blk.cols mo [Col.bool to]),
 (0, false,
 Blk.cols mr
 [Col.int IntKind.i64 tr, Col.int IntKind.i64 vr, Col.int IntKind.i64 gr])]]) (23)))
 (False))
 (Kret (PV.tf false) ([[(2, false, Blk.cols ml [Col.int IntKind.i64 tl]),
 (1, false, Blk.cols mo [Col.bool to]),
 (0, false,
 Blk.cols mr
 [Col.int IntKind.i64 tr, Col.int IntKind.i64 vr, Col.int IntKind.i64 gr])]]) (22)))
 (test (decide
 (0 +
 List.length
 (Prod.fst
 (Prod.snd
 (S.histS nr (fun (j : Nat) => tr (j + ar)) (fun (j : Nat) => vr (j + ar))
 (fun (j : Nat) => gr (j + ar)) no (fun (j : Nat) => to (j + ao)) nl fun (j : Nat) => tl (j + al)))) ≤
 List.length
 (Prod.fst
 (Prod.snd
 (S.histS nr (fun (j : Nat) => tr (j + ar)) (fun (j : Nat) => vr (j + ar))
 (fun (j : Nat) => gr (j + ar)) no (fun (j : Nat) => to (j + ao)) nl fun (j : Nat) => tl (j + al)))) ∧
 List.length
 (Prod.fst
 (Prod.snd
 (S.histS nr (fun (j : Nat) => tr (j + ar)) (fun (j : Nat) => vr (j + ar))
 (fun (j : Nat) => gr (j + ar)) no (fun (j : Nat) => to (j + ao)) nl fun (j : Nat) => tl (j + al)))) ≤
 1000000 ∧
 0 +
 List.length
 (Prod.snd
 (Prod.snd
 (S.histS nr (fun (j : Nat) => tr (j + ar)) (fun (j : Nat) => vr (j + ar))
 (fun (j : Nat) => gr (j + ar)) no (fun (j : Nat) => to (j + ao)) nl fun (j : Nat) =>
 tl (j + al)))) ≤
 List.length
 (Prod.snd
 (Prod.snd
 (S.histS nr (fun (j : Nat) => tr (j + ar)) (fun (j : Nat) => vr (j + ar))
 (fun (j : Nat) => gr (j + ar)) no (fun (j : Nat) => to (j + ao)) nl fun (j : Nat) => tl (j + al)))) ∧
 List.length
 (Prod.snd
 (Prod.snd
 (S.histS nr (fun (j : Nat) => tr (j + ar)) (fun (j : Nat) => vr (j + ar))
 (fun (j : Nat) => gr (j + ar)) no (fun (j : Nat) => to (j + ao)) nl fun (j : Nat) =>
 tl (j + al)))) ≤
 1000000 ∧
 0 +
 List.length
 (Prod.fst
 (Prod.snd
 (S.histS nr (fun (j : Nat) => tr (j + ar)) (fun (j : Nat) => vr (j + ar))
 (fun (j : Nat) => gr (j + ar)) no (fun (j : Nat) => to (j + ao)) nl fun (j : Nat) =>
 tl (j + al)))) ≤
 List.length
 (Prod.fst
 (Prod.snd
 (S.histS nr (fun (j : Nat) => tr (j + ar)) (fun (j : Nat) => vr (j + ar))
 (fun (j : Nat) => gr (j + ar)) no (fun (j : Nat) => to (j + ao)) nl fun (j : Nat) =>
 tl (j + al)))) ∧
 List.length
 (Prod.fst
 (Prod.snd
 (S.histS nr (fun (j : Nat) => tr (j + ar)) (fun (j : Nat) => vr (j + ar))
 (fun (j : Nat) => gr (j + ar)) no (fun (j : Nat) => to (j + ao)) nl fun (j : Nat) =>
 tl (j + al)))) ≤
 1000000 ∧
 0 +
 List.length
 (Prod.snd
 (Prod.snd
 (S.histS nr (fun (j : Nat) => tr (j + ar)) (fun (j : Nat) => vr (j + ar))
 (fun (j : Nat) => gr (j + ar)) no (fun (j : Nat) => to (j + ao)) nl fun (j : Nat) =>
 tl (j + al)))) ≤
 List.length
 (Prod.snd
 (Prod.snd
 (S.histS nr (fun (j : Nat) => tr (j + ar)) (fun (j : Nat) => vr (j + ar))
 (fun (j : Nat) => gr (j + ar)) no (fun (j : Nat) => to (j + ao)) nl fun (j : Nat) =>
 tl (j + al)))) ∧
 List.length
 (Prod.snd
 (Prod.snd
 (S.histS nr (fun (j : Nat) => tr (j + ar)) (fun (j : Nat) => vr (j + ar))
 (fun (j : Nat) => gr (j + ar)) no (fun (j : Nat) => to (j + ao)) nl fun (j : Nat) =>
 tl (j + al)))) ≤
 1000000))
 (test (decide
 ((S.mkl
 (List.length
 (Prod.fst
 (Prod.snd
 (S.histS nr (fun (j : Nat) => tr (j + ar)) (fun (j : Nat) => vr (j + ar))
 (fun (j : Nat) => gr (j + ar)) no (fun (j : Nat) => to (j + ao)) nl fun (j : Nat) => tl (j + al)))))
 fun (j : Nat) =>
 (Prod.fst
 (S.at'
 (Prod.fst
 (Prod.snd
 (S.histS nr (fun (j : Nat) => tr (j + ar)) (fun (j : Nat) => vr (j + ar))
 (fun (j : Nat) => gr (j + ar)) no (fun (j : Nat) => to (j + ao)) nl fun (j : Nat) => tl (j + al))))
 j),
 Prod.fst
 (Prod.snd
 (S.at'
 (Prod.fst
 (Prod.snd
 (S.histS nr (fun (j : Nat) => tr (j + ar)) (fun (j : Nat) => vr (j + ar))
 (fun (j : Nat) => gr (j + ar)) no (fun (j : Nat) => to (j + ao)) nl fun (j : Nat) =>
 tl (j + al))))
 j)),
 Prod.snd
 (Prod.snd
 (S.at'
 (Prod.fst
 (Prod.snd
 (S.histS nr (fun (j : Nat) => tr (j + ar)) (fun (j : Nat) => vr (j + ar))
 (fun (j : Nat) => gr (j + ar)) no (fun (j : Nat) => to (j + ao)) nl fun (j : Nat) =>
 tl (j + al))))
 j)))) =
 S.mkl
 (List.length
 (Prod.fst
 (Prod.snd
 (S.histS nr (fun (j : Nat) => tr (j + ar)) (fun (j : Nat) => vr (j + ar))
 (fun (j : Nat) => gr (j + ar)) no (fun (j : Nat) => to (j + ao)) nl fun (j : Nat) => tl (j + al)))))
 fun (j : Nat) =>
 (Prod.fst
 (S.at'
 (Prod.fst
 (Prod.snd
 (S.histS nr (fun (j : Nat) => tr (j + ar)) (fun (j : Nat) => vr (j + ar))
 (fun (j : Nat) => gr (j + ar)) no (fun (j : Nat) => to (j + ao)) nl fun (j : Nat) => tl (j + al))))
 j),
 Prod.fst
 (Prod.snd
 (S.at'
 (Prod.fst
 (Prod.snd
 (S.histS nr (fun (j : Nat) => tr (j + ar)) (fun (j : Nat) => vr (j + ar))
 (fun (j : Nat) => gr (j + ar)) no (fun (j : Nat) => to (j + ao)) nl fun (j : Nat) =>
 tl (j + al))))
 j)),
 Prod.snd
 (Prod.snd
 (S.at'
 (Prod.fst
 (Prod.snd
 (S.histS nr (fun (j : Nat) => tr (j + ar)) (fun (j : Nat) => vr (j + ar))
 (fun (j : Nat) => gr (j + ar)) no (fun (j : Nat) => to (j + ao)) nl fun (j : Nat) =>
 tl (j + al))))
 j)))) &&
 decide
 ((S.mkl
 (List.length
 (Prod.snd
 (Prod.snd
 (S.histS nr (fun (j : Nat) => tr (j + ar)) (fun (j : Nat) => vr (j + ar))
 (fun (j : Nat) => gr (j + ar)) no (fun (j : Nat) => to (j + ao)) nl fun (j : Nat) => tl (j + al)))))
 fun (j : Nat) =>
 S.at'
 (Prod.snd
 (Prod.snd
 (S.histS nr (fun (j : Nat) => tr (j + ar)) (fun (j : Nat) => vr (j + ar))
 (fun (j : Nat) => gr (j + ar)) no (fun (j : Nat) => to (j + ao)) nl fun (j : Nat) => tl (j + al))))
 j) =
 S.mkl
 (List.length
 (Prod.snd
 (Prod.snd
 (S.histS nr (fun (j : Nat) => tr (j + ar)) (fun (j : Nat) => vr (j + ar))
 (fun (j : Nat) => gr (j + ar)) no (fun (j : Nat) => to (j + ao)) nl fun (j : Nat) => tl (j + al)))))
 fun (j : Nat) =>
 S.at'
 (Prod.snd
 (Prod.snd
 (S.histS nr (fun (j : Nat) => tr (j + ar)) (fun (j : Nat) => vr (j + ar))
 (fun (j : Nat) => gr (j + ar)) no (fun (j : Nat) => to (j + ao)) nl fun (j : Nat) => tl (j + al))))
 j))
 (test (Prod.fst
 (S.histS nr (fun (j : Nat) => tr (j + ar)) (fun (j : Nat) => vr (j + ar)) (fun (j : Nat) => gr (j + ar)) no
 (fun (j : Nat) => to (j + ao)) nl fun (j : Nat) => tl (j + al)) !=
 (0 : Int))
 (test (Prod.fst
 (S.histS nr (fun (j : Nat) => tr (j + ar)) (fun (j : Nat) => vr (j + ar)) (fun (j : Nat) => gr (j + ar)) no
 (fun (j : Nat) => to (j + ao)) nl fun (j : Nat) => tl (j + al)) ==
 Prod.fst
 (S.histS nr (fun (j : Nat) => tr (j + ar)) (fun (j : Nat) => vr (j + ar)) (fun (j : Nat) => gr (j + ar)) no
 (fun (j : Nat) => to (j + ao)) nl fun (j : Nat) => tl (j + al)))
 (test (decide
 (0 +
 List.length
 (Prod.fst
 (Prod.snd
 (S.histS nr (fun (j : Nat) => tr (j + ar)) (fun (j : Nat) => vr (j + ar))
 (fun (j : Nat) => gr (j + ar)) no (fun (j : Nat) => to (j + ao)) nl fun (j : Nat) => tl (j + al)))) ≤
 List.length
 (Prod.fst
 (Prod.snd
 (S.histS nr (fun (j : Nat) => tr (j + ar)) (fun (j : Nat) => vr (j + ar))
 (fun (j : Nat) => gr (j + ar)) no (fun (j : Nat) => to (j + ao)) nl fun (j : Nat) => tl (j + al)))) ∧
 List.length
 (Prod.fst
 (Prod.snd
 (S.histS nr (fun (j : Nat) => tr (j + ar)) (fun (j : Nat) => vr (j + ar))
 (fun (j : Nat) => gr (j + ar)) no (fun (j : Nat) => to (j + ao)) nl fun (j : Nat) => tl (j + al)))) ≤
 1000000 ∧
 0 +
 List.length
 (Prod.snd
 (Prod.snd
 (S.histS nr (fun (j : Nat) => tr (j + ar)) (fun (j : Nat) => vr (j + ar))
 (fun (j : Nat) => gr (j + ar)) no (fun (j : Nat) => to (j + ao)) nl fun (j : Nat) =>
 tl (j + al)))) ≤
 List.length
 (Prod.snd
 (Prod.snd
 (S.histS nr (fun (j : Nat) => tr (j + ar)) (fun (j : Nat) => vr (j + ar))
 (fun (j : Nat) => gr (j + ar)) no (fun (j : Nat) => to (j + ao)) nl fun (j : Nat) => tl (j + al)))) ∧
 List.length
 (Prod.snd
 (Prod.snd
 (S.histS nr (fun (j : Nat) => tr (j + ar)) (fun (j : Nat) => vr (j + ar))
 (fun (j : Nat) => gr (j + ar)) no (fun (j : Nat) => to (j + ao)) nl fun (j : Nat) =>
 tl (j + al)))) ≤
 1000000 ∧
 0 +
 List.length
 (Prod.fst
 (Prod.snd
 (S.histS nr (fun (j : Nat) => tr (j + ar)) (fun (j : Nat) => vr (j + ar))
 (fun (j : Nat) => gr (j + ar)) no (fun (j : Nat) => to (j + ao)) nl fun (j : Nat) =>
 tl (j + al)))) ≤
 List.length
 (Prod.fst
 (Prod.snd
 (S.histS nr (fun (j : Nat) => tr (j + ar)) (fun (j : Nat) => vr (j + ar))
 (fun (j : Nat) => gr (j + ar)) no (fun (j : Nat) => to (j + ao)) nl fun (j : Nat) =>
 tl (j + al)))) ∧
 List.length
 (Prod.fst
 (Prod.snd
 (S.histS nr (fun (j : Nat) => tr (j + ar)) (fun (j : Nat) => vr (j + ar))
 (fun (j : Nat) => gr (j + ar)) no (fun (j : Nat) => to (j + ao)) nl fun (j : Nat) =>
 tl (j + al)))) ≤
 1000000 ∧
 0 +
 List.length
 (Prod.snd
 (Prod.snd
 (S.histS nr (fun (j : Nat) => tr (j + ar)) (fun (j : Nat) => vr (j + ar))
 (fun (j : Nat) => gr (j + ar)) no (fun (j : Nat) => to (j + ao)) nl fun (j : Nat) =>
 tl (j + al)))) ≤
 List.length
 (Prod.snd
 (Prod.snd
 (S.histS nr (fun (j : Nat) => tr (j + ar)) (fun (j : Nat) => vr (j + ar))
 (fun (j : Nat) => gr (j + ar)) no (fun (j : Nat) => to (j + ao)) nl fun (j : Nat) =>
 tl (j + al)))) ∧
 List.length
 (Prod.snd
 (Prod.snd
 (S.histS nr (fun (j : Nat) => tr (j + ar)) (fun (j : Nat) => vr (j + ar))
 (fun (j : Nat) => gr (j + ar)) no (fun (j : Nat) => to (j + ao)) nl fun (j : Nat) =>
 tl (j + al)))) ≤
 1000000))
 (test (decide
 ((S.mkl
 (List.length
 (Prod.fst
 (Prod.snd
 (S.histS nr (fun (j : Nat) => tr (j + ar)) (fun (j : Nat) => vr (j + ar))
 (fun (j : Nat) => gr (j + ar)) no (fun (j : Nat) => to (j + ao)) nl fun (j : Nat) => tl (j + al)))))
 fun (j : Nat) =>
 (Prod.fst
 (S.at'
 (Prod.fst
 (Prod.snd
 (S.histS nr (fun (j : Nat) => tr (j + ar)) (fun (j : Nat) => vr (j + ar))
 (fun (j : Nat) => gr (j + ar)) no (fun (j : Nat) => to (j + ao)) nl fun (j : Nat) => tl (j + al))))
 j),
 Prod.fst
 (Prod.snd
 (S.at'
 (Prod.fst
 (Prod.snd
 (S.histS nr (fun (j : Nat) => tr (j + ar)) (fun (j : Nat) => vr (j + ar))
 (fun (j : Nat) => gr (j + ar)) no (fun (j : Nat) => to (j + ao)) nl fun (j : Nat) =>
 tl (j + al))))
 j)),
 Prod.snd
 (Prod.snd
 (S.at'
 (Prod.fst
 (Prod.snd
 (S.histS nr (fun (j : Nat) => tr (j + ar)) (fun (j : Nat) => vr (j + ar))
 (fun (j : Nat) => gr (j + ar)) no (fun (j : Nat) => to (j + ao)) nl fun (j : Nat) =>
 tl (j + al))))
 j)))) =
 S.mkl
 (List.length
 (Prod.fst
 (Prod.snd
 (S.histS nr (fun (j : Nat) => tr (j + ar)) (fun (j : Nat) => vr (j + ar))
 (fun (j : Nat) => gr (j + ar)) no (fun (j : Nat) => to (j + ao)) nl fun (j : Nat) => tl (j + al)))))
 fun (j : Nat) =>
 (Prod.fst
 (S.at'
 (Prod.fst
 (Prod.snd
 (S.histS nr (fun (j : Nat) => tr (j + ar)) (fun (j : Nat) => vr (j + ar))
 (fun (j : Nat) => gr (j + ar)) no (fun (j : Nat) => to (j + ao)) nl fun (j : Nat) => tl (j + al))))
 j),
 Prod.fst
 (Prod.snd
 (S.at'
 (Prod.fst
 (Prod.snd
 (S.histS nr (fun (j : Nat) => tr (j + ar)) (fun (j : Nat) => vr (j + ar))
 (fun (j : Nat) => gr (j + ar)) no (fun (j : Nat) => to (j + ao)) nl fun (j : Nat) =>
 tl (j + al))))
 j)),
 Prod.snd
 (Prod.snd
 (S.at'
 (Prod.fst
 (Prod.snd
 (S.histS nr (fun (j : Nat) => tr (j + ar)) (fun (j : Nat) => vr (j + ar))
 (fun (j : Nat) => gr (j + ar)) no (fun (j : Nat) => to (j + ao)) nl fun (j : Nat) =>
 tl (j + al))))
 j)))) &&
 decide
 ((S.mkl
 (List.length
 (Prod.snd
 (Prod.snd
 (S.histS nr (fun (j : Nat) => tr (j + ar)) (fun (j : Nat) => vr (j + ar))
 (fun (j : Nat) => gr (j + ar)) no (fun (j : Nat) => to (j + ao)) nl fun (j : Nat) => tl (j + al)))))
 fun (j : Nat) =>
 S.at'
 (Prod.snd
 (Prod.snd
 (S.histS nr (fun (j : Nat) => tr (j + ar)) (fun (j : Nat) => vr (j + ar))
 (fun (j : Nat) => gr (j + ar)) no (fun (j : Nat) => to (j + ao)) nl fun (j : Nat) => tl (j + al))))
 j) =
 S.mkl
 (List.length
 (Prod.snd
 (Prod.snd
 (S.histS nr (fun (j : Nat) => tr (j + ar)) (fun (j : Nat) => vr (j + ar))
 (fun (j : Nat) => gr (j + ar)) no (fun (j : Nat) => to (j + ao)) nl fun (j : Nat) => tl (j + al)))))
 fun (j : Nat) =>
 S.at'
 (Prod.snd
 (Prod.snd
 (S.histS nr (fun (j : Nat) => tr (j + ar)) (fun (j : Nat) => vr (j + ar))
 (fun (j : Nat) => gr (j + ar)) no (fun (j : Nat) => to (j + ao)) nl fun (j : Nat) => tl (j + al))))
 j))
 (Kret (PV.tf true) ([[(2, false, Blk.cols ml [Col.int IntKind.i64 tl]),
 (1, false, Blk.cols mo [Col.bool to]),
 (0, false,
 Blk.cols mr
 [Col.int IntKind.i64 tr, Col.int IntKind.i64 vr, Col.int IntKind.i64 gr])]]) (24))
 (Kret (PV.tf false) ([[(2, false, Blk.cols ml [Col.int IntKind.i64 tl]),
 (1, false, Blk.cols mo [Col.bool to]),
 (0, false,
 Blk.cols mr
 [Col.int IntKind.i64 tr, Col.int IntKind.i64 vr, Col.int IntKind.i64 gr])]]) (24)))
 (False))
 (Kret (PV.tf false) ([[(2, false, Blk.cols ml [Col.int IntKind.i64 tl]),
 (1, false, Blk.cols mo [Col.bool to]),
 (0, false,
 Blk.cols mr
 [Col.int IntKind.i64 tr, Col.int IntKind.i64 vr, Col.int IntKind.i64 gr])]]) (23)))
 (Kst (hd Try.f4 0) ([PV.loose (PA.mk (2) (1) al (0)) nl,
 PV.ptr (PA.mk (3) (0) (0) (0)),
 PV.ptr (PA.mk (17) (0) (0) (0)),
 PV.ptr (PA.mk (23) (0) (0) (0)),
 PV.loose (PA.mk (2) (1) al (0)) nl, PV.int IntKind.i64 (↑nl : Int),
 PV.int IntKind.i64 (0 : Int)]) ([[(2, false, Blk.cols ml [Col.int IntKind.i64 tl]),
 (1, false, Blk.cols mo [Col.bool to]),
 (0, false,
 Blk.cols mr
 [Col.int IntKind.i64 tr, Col.int IntKind.i64 vr, Col.int IntKind.i64 gr]),
 (23, true,
 Blk.cells
 [PV.loose (PA.mk (0) (3) ar (0)) nr,
 PV.loose (PA.mk (1) (1) ao (0)) no]),
 (17, true,
 Blk.cells
 [PV.own (15) (3)
 (List.length
 (Prod.fst
 (Prod.snd
 (S.histS nr (fun (j : Nat) => tr (j + ar)) (fun (j : Nat) => vr (j + ar))
 (fun (j : Nat) => gr (j + ar)) no (fun (j : Nat) => to (j + ao)) nl fun (j : Nat) =>
 tl (j + al))))),
 PV.own (16) (1)
 (List.length
 (Prod.snd
 (Prod.snd
 (S.histS nr (fun (j : Nat) => tr (j + ar)) (fun (j : Nat) => vr (j + ar))
 (fun (j : Nat) => gr (j + ar)) no (fun (j : Nat) => to (j + ao)) nl fun (j : Nat) =>
 tl (j + al)))))]),
 (3, true,
 Blk.cells
 [PV.loose (PA.mk (0) (3) ar (0)) nr,
 PV.loose (PA.mk (1) (1) ao (0)) no]),
 (16, true,
 Blk.cols
 (List.length
 (Prod.snd
 (Prod.snd
 (S.histS nr (fun (j : Nat) => tr (j + ar)) (fun (j : Nat) => vr (j + ar))
 (fun (j : Nat) => gr (j + ar)) no (fun (j : Nat) => to (j + ao)) nl fun (j : Nat) => tl (j + al)))))
 [Col.bool fun (j : Nat) =>
 S.at'
 (Prod.snd
 (Prod.snd
 (S.histS nr (fun (j : Nat) => tr (j + ar)) (fun (j : Nat) => vr (j + ar))
 (fun (j : Nat) => gr (j + ar)) no (fun (j : Nat) => to (j + ao)) nl fun (j : Nat) => tl (j + al))))
 j]),
 (15, true,
 Blk.cols
 (List.length
 (Prod.fst
 (Prod.snd
 (S.histS nr (fun (j : Nat) => tr (j + ar)) (fun (j : Nat) => vr (j + ar))
 (fun (j : Nat) => gr (j + ar)) no (fun (j : Nat) => to (j + ao)) nl fun (j : Nat) => tl (j + al)))))
 [Col.int IntKind.i64 fun (j : Nat) =>
 Prod.fst
 (S.at'
 (Prod.fst
 (Prod.snd
 (S.histS nr (fun (j : Nat) => tr (j + ar)) (fun (j : Nat) => vr (j + ar))
 (fun (j : Nat) => gr (j + ar)) no (fun (j : Nat) => to (j + ao)) nl fun (j : Nat) =>
 tl (j + al))))
 j),
 Col.int IntKind.i64 fun (j : Nat) =>
 Prod.fst
 (Prod.snd
 (S.at'
 (Prod.fst
 (Prod.snd
 (S.histS nr (fun (j : Nat) => tr (j + ar)) (fun (j : Nat) => vr (j + ar))
 (fun (j : Nat) => gr (j + ar)) no (fun (j : Nat) => to (j + ao)) nl fun (j : Nat) =>
 tl (j + al))))
 j)),
 Col.int IntKind.i64 fun (j : Nat) =>
 Prod.snd
 (Prod.snd
 (S.at'
 (Prod.fst
 (Prod.snd
 (S.histS nr (fun (j : Nat) => tr (j + ar)) (fun (j : Nat) => vr (j + ar))
 (fun (j : Nat) => gr (j + ar)) no (fun (j : Nat) => to (j + ao)) nl fun (j : Nat) =>
 tl (j + al))))
 j))])]]) (24)))
 (test (Prod.fst
 (S.histS nr (fun (j : Nat) => tr (j + ar)) (fun (j : Nat) => vr (j + ar)) (fun (j : Nat) => gr (j + ar)) no
 (fun (j : Nat) => to (j + ao)) nl fun (j : Nat) => tl (j + al)) ==
 Prod.fst
 (S.histS nr (fun (j : Nat) => tr (j + ar)) (fun (j : Nat) => vr (j + ar)) (fun (j : Nat) => gr (j + ar)) no
 (fun (j : Nat) => to (j + ao)) nl fun (j : Nat) => tl (j + al)))
 (test (decide
 (0 +
 List.length
 (Prod.fst
 (Prod.snd
 (S.histS nr (fun (j : Nat) => tr (j + ar)) (fun (j : Nat) => vr (j + ar))
 (fun (j : Nat) => gr (j + ar)) no (fun (j : Nat) => to (j + ao)) nl fun (j : Nat) => tl (j + al)))) ≤
 List.length
 (Prod.fst
 (Prod.snd
 (S.histS nr (fun (j : Nat) => tr (j + ar)) (fun (j : Nat) => vr (j + ar))
 (fun (j : Nat) => gr (j + ar)) no (fun (j : Nat) => to (j + ao)) nl fun (j : Nat) => tl (j + al)))) ∧
 List.length
 (Prod.fst
 (Prod.snd
 (S.histS nr (fun (j : Nat) => tr (j + ar)) (fun (j : Nat) => vr (j + ar))
 (fun (j : Nat) => gr (j + ar)) no (fun (j : Nat) => to (j + ao)) nl fun (j : Nat) => tl (j + al)))) ≤
 1000000 ∧
 0 +
 List.length
 (Prod.snd
 (Prod.snd
 (S.histS nr (fun (j : Nat) => tr (j + ar)) (fun (j : Nat) => vr (j + ar))
 (fun (j : Nat) => gr (j + ar)) no (fun (j : Nat) => to (j + ao)) nl fun (j : Nat) =>
 tl (j + al)))) ≤
 List.length
 (Prod.snd
 (Prod.snd
 (S.histS nr (fun (j : Nat) => tr (j + ar)) (fun (j : Nat) => vr (j + ar))
 (fun (j : Nat) => gr (j + ar)) no (fun (j : Nat) => to (j + ao)) nl fun (j : Nat) => tl (j + al)))) ∧
 List.length
 (Prod.snd
 (Prod.snd
 (S.histS nr (fun (j : Nat) => tr (j + ar)) (fun (j : Nat) => vr (j + ar))
 (fun (j : Nat) => gr (j + ar)) no (fun (j : Nat) => to (j + ao)) nl fun (j : Nat) =>
 tl (j + al)))) ≤
 1000000 ∧
 0 +
 List.length
 (Prod.fst
 (Prod.snd
 (S.histS nr (fun (j : Nat) => tr (j + ar)) (fun (j : Nat) => vr (j + ar))
 (fun (j : Nat) => gr (j + ar)) no (fun (j : Nat) => to (j + ao)) nl fun (j : Nat) =>
 tl (j + al)))) ≤
 List.length
 (Prod.fst
 (Prod.snd
 (S.histS nr (fun (j : Nat) => tr (j + ar)) (fun (j : Nat) => vr (j + ar))
 (fun (j : Nat) => gr (j + ar)) no (fun (j : Nat) => to (j + ao)) nl fun (j : Nat) =>
 tl (j + al)))) ∧
 List.length
 (Prod.fst
 (Prod.snd
 (S.histS nr (fun (j : Nat) => tr (j + ar)) (fun (j : Nat) => vr (j + ar))
 (fun (j : Nat) => gr (j + ar)) no (fun (j : Nat) => to (j + ao)) nl fun (j : Nat) =>
 tl (j + al)))) ≤
 1000000 ∧
 0 +
 List.length
 (Prod.snd
 (Prod.snd
 (S.histS nr (fun (j : Nat) => tr (j + ar)) (fun (j : Nat) => vr (j + ar))
 (fun (j : Nat) => gr (j + ar)) no (fun (j : Nat) => to (j + ao)) nl fun (j : Nat) =>
 tl (j + al)))) ≤
 List.length
 (Prod.snd
 (Prod.snd
 (S.histS nr (fun (j : Nat) => tr (j + ar)) (fun (j : Nat) => vr (j + ar))
 (fun (j : Nat) => gr (j + ar)) no (fun (j : Nat) => to (j + ao)) nl fun (j : Nat) =>
 tl (j + al)))) ∧
 List.length
 (Prod.snd
 (Prod.snd
 (S.histS nr (fun (j : Nat) => tr (j + ar)) (fun (j : Nat) => vr (j + ar))
 (fun (j : Nat) => gr (j + ar)) no (fun (j : Nat) => to (j + ao)) nl fun (j : Nat) =>
 tl (j + al)))) ≤
 1000000))
 (test (decide
 ((S.mkl
 (List.length
 (Prod.fst
 (Prod.snd
 (S.histS nr (fun (j : Nat) => tr (j + ar)) (fun (j : Nat) => vr (j + ar))
 (fun (j : Nat) => gr (j + ar)) no (fun (j : Nat) => to (j + ao)) nl fun (j : Nat) => tl (j + al)))))
 fun (j : Nat) =>
 (Prod.fst
 (S.at'
 (Prod.fst
 (Prod.snd
 (S.histS nr (fun (j : Nat) => tr (j + ar)) (fun (j : Nat) => vr (j + ar))
 (fun (j : Nat) => gr (j + ar)) no (fun (j : Nat) => to (j + ao)) nl fun (j : Nat) => tl (j + al))))
 j),
 Prod.fst
 (Prod.snd
 (S.at'
 (Prod.fst
 (Prod.snd
 (S.histS nr (fun (j : Nat) => tr (j + ar)) (fun (j : Nat) => vr (j + ar))
 (fun (j : Nat) => gr (j + ar)) no (fun (j : Nat) => to (j + ao)) nl fun (j : Nat) =>
 tl (j + al))))
 j)),
 Prod.snd
 (Prod.snd
 (S.at'
 (Prod.fst
 (Prod.snd
 (S.histS nr (fun (j : Nat) => tr (j + ar)) (fun (j : Nat) => vr (j + ar))
 (fun (j : Nat) => gr (j + ar)) no (fun (j : Nat) => to (j + ao)) nl fun (j : Nat) =>
 tl (j + al))))
 j)))) =
 S.mkl
 (List.length
 (Prod.fst
 (Prod.snd
 (S.histS nr (fun (j : Nat) => tr (j + ar)) (fun (j : Nat) => vr (j + ar))
 (fun (j : Nat) => gr (j + ar)) no (fun (j : Nat) => to (j + ao)) nl fun (j : Nat) => tl (j + al)))))
 fun (j : Nat) =>
 (Prod.fst
 (S.at'
 (Prod.fst
 (Prod.snd
 (S.histS nr (fun (j : Nat) => tr (j + ar)) (fun (j : Nat) => vr (j + ar))
 (fun (j : Nat) => gr (j + ar)) no (fun (j : Nat) => to (j + ao)) nl fun (j : Nat) => tl (j + al))))
 j),
 Prod.fst
 (Prod.snd
 (S.at'
 (Prod.fst
 (Prod.snd
 (S.histS nr (fun (j : Nat) => tr (j + ar)) (fun (j : Nat) => vr (j + ar))
 (fun (j : Nat) => gr (j + ar)) no (fun (j : Nat) => to (j + ao)) nl fun (j : Nat) =>
 tl (j + al))))
 j)),
 Prod.snd
 (Prod.snd
 (S.at'
 (Prod.fst
 (Prod.snd
 (S.histS nr (fun (j : Nat) => tr (j + ar)) (fun (j : Nat) => vr (j + ar))
 (fun (j : Nat) => gr (j + ar)) no (fun (j : Nat) => to (j + ao)) nl fun (j : Nat) =>
 tl (j + al))))
 j)))) &&
 decide
 ((S.mkl
 (List.length
 (Prod.snd
 (Prod.snd
 (S.histS nr (fun (j : Nat) => tr (j + ar)) (fun (j : Nat) => vr (j + ar))
 (fun (j : Nat) => gr (j + ar)) no (fun (j : Nat) => to (j + ao)) nl fun (j : Nat) => tl (j + al)))))
 fun (j : Nat) =>
 S.at'
 (Prod.snd
 (Prod.snd
 (S.histS nr (fun (j : Nat) => tr (j + ar)) (fun (j : Nat) => vr (j + ar))
 (fun (j : Nat) => gr (j + ar)) no (fun (j : Nat) => to (j + ao)) nl fun (j : Nat) => tl (j + al))))
 j) =
 S.mkl
 (List.length
 (Prod.snd
 (Prod.snd
 (S.histS nr (fun (j : Nat) => tr (j + ar)) (fun (j : Nat) => vr (j + ar))
 (fun (j : Nat) => gr (j + ar)) no (fun (j : Nat) => to (j + ao)) nl fun (j : Nat) => tl (j + al)))))
 fun (j : Nat) =>
 S.at'
 (Prod.snd
 (Prod.snd
 (S.histS nr (fun (j : Nat) => tr (j + ar)) (fun (j : Nat) => vr (j + ar))
 (fun (j : Nat) => gr (j + ar)) no (fun (j : Nat) => to (j + ao)) nl fun (j : Nat) => tl (j + al))))
 j))
 (Kret (PV.tf true) ([[(2, false, Blk.cols ml [Col.int IntKind.i64 tl]),
 (1, false, Blk.cols mo [Col.bool to]),
 (0, false,
 Blk.cols mr
 [Col.int IntKind.i64 tr, Col.int IntKind.i64 vr, Col.int IntKind.i64 gr])]]) (24))
 (Kret (PV.tf false) ([[(2, false, Blk.cols ml [Col.int IntKind.i64 tl]),
 (1, false, Blk.cols mo [Col.bool to]),
 (0, false,
 Blk.cols mr
 [Col.int IntKind.i64 tr, Col.int IntKind.i64 vr, Col.int IntKind.i64 gr])]]) (24)))
 (False))
 (Kret (PV.tf false) ([[(2, false, Blk.cols ml [Col.int IntKind.i64 tl]),
 (1, false, Blk.cols mo [Col.bool to]),
 (0, false,
 Blk.cols mr
 [Col.int IntKind.i64 tr, Col.int IntKind.i64 vr, Col.int IntKind.i64 gr])]]) (23))))
 (False)))
 (False))
 (False))
 (False))
 (False))
 (False))))
 (test (decide ((↑nl : Int) > (1010 : Int)))
 (test (true)
 (test (true)
 (Kret (PV.tf true) ([[(2, false, Blk.cols ml [Col.int IntKind.i64 tl]),
 (1, false, Blk.cols mo [Col.bool to]),
 (0, false,
 Blk.cols mr
 [Col.int IntKind.i64 tr, Col.int IntKind.i64 vr, Col.int IntKind.i64 gr])]]) (7))
 (Kret (PV.tf false) ([[(2, false, Blk.cols ml [Col.int IntKind.i64 tl]),
 (1, false, Blk.cols mo [Col.bool to]),
 (0, false,
 Blk.cols mr
 [Col.int IntKind.i64 tr, Col.int IntKind.i64 vr, Col.int IntKind.i64 gr])]]) (7)))
 (False))
 (test (decide (ar + nr ≤ mr ∧ nr ≤ 1000000))
 (test (decide (ao + no ≤ mo ∧ no ≤ 1000000))
 (test (decide (al + nl ≤ ml ∧ nl ≤ 1000000))
 (test (decide
 (0 + nr ≤ nr ∧
 nr ≤ 1000000 ∧ 0 + no ≤ no ∧ no ≤ 1000000 ∧ 0 + nl ≤ nl ∧ nl ≤ 1000000))
 (test (decide
 (ar + nr ≤ mr ∧ nr ≤ 1000000 ∧ ao + no ≤ mo ∧ no ≤ 1000000 ∧ al + nl ≤ ml ∧ nl ≤ 1000000))
 (test (Prod.fst
 (S.histS nr (fun (j : Nat) => tr (j + ar)) (fun (j : Nat) => vr (j + ar)) (fun (j : Nat) => gr (j + ar)) no
 (fun (j : Nat) => to (j + ao)) nl fun (j : Nat) => tl (j + al)) !=
 Prod.fst
 (S.histS nr (fun (j : Nat) => tr (j + ar)) (fun (j : Nat) => vr (j + ar)) (fun (j : Nat) => gr (j + ar)) no
 (fun (j : Nat) => to (j + ao)) nl fun (j : Nat) => tl (j + al)))
 (test (Prod.fst
 (S.histS nr (fun (j : Nat) => tr (j + ar)) (fun (j : Nat) => vr (j + ar)) (fun (j : Nat) => gr (j + ar)) no
 (fun (j : Nat) => to (j + ao)) nl fun (j : Nat) => tl (j + al)) ==
 Prod.fst
 (S.histS nr (fun (j : Nat) => tr (j + ar)) (fun (j : Nat) => vr (j + ar)) (fun (j : Nat) => gr (j + ar)) no
 (fun (j : Nat) => to (j + ao)) nl fun (j : Nat) => tl (j + al)))
 (test (decide
 (0 +
 List.length
 (Prod.fst
 (Prod.snd
 (S.histS nr (fun (j : Nat) => tr (j + ar)) (fun (j : Nat) => vr (j + ar))
 (fun (j : Nat) => gr (j + ar)) no (fun (j : Nat) => to (j + ao)) nl fun (j : Nat) => tl (j + al)))) ≤
 List.length
 (Prod.fst
 (Prod.snd
 (S.histS nr (fun (j : Nat) => tr (j + ar)) (fun (j : Nat) => vr (j + ar))
 (fun (j : Nat) => gr (j + ar)) no (fun (j : Nat) => to (j + ao)) nl fun (j : Nat) => tl (j + al)))) ∧
 List.length
 (Prod.fst
 (Prod.snd
 (S.histS nr (fun (j : Nat) => tr (j + ar)) (fun (j : Nat) => vr (j + ar))
 (fun (j : Nat) => gr (j + ar)) no (fun (j : Nat) => to (j + ao)) nl fun (j : Nat) => tl (j + al)))) ≤
 1000000 ∧
 0 +
 List.length
 (Prod.snd
 (Prod.snd
 (S.histS nr (fun (j : Nat) => tr (j + ar)) (fun (j : Nat) => vr (j + ar))
 (fun (j : Nat) => gr (j + ar)) no (fun (j : Nat) => to (j + ao)) nl fun (j : Nat) =>
 tl (j + al)))) ≤
 List.length
 (Prod.snd
 (Prod.snd
 (S.histS nr (fun (j : Nat) => tr (j + ar)) (fun (j : Nat) => vr (j + ar))
 (fun (j : Nat) => gr (j + ar)) no (fun (j : Nat) => to (j + ao)) nl fun (j : Nat) => tl (j + al)))) ∧
 List.length
 (Prod.snd
 (Prod.snd
 (S.histS nr (fun (j : Nat) => tr (j + ar)) (fun (j : Nat) => vr (j + ar))
 (fun (j : Nat) => gr (j + ar)) no (fun (j : Nat) => to (j + ao)) nl fun (j : Nat) =>
 tl (j + al)))) ≤
 1000000 ∧
 0 +
 List.length
 (Prod.fst
 (Prod.snd
 (S.histS nr (fun (j : Nat) => tr (j + ar)) (fun (j : Nat) => vr (j + ar))
 (fun (j : Nat) => gr (j + ar)) no (fun (j : Nat) => to (j + ao)) nl fun (j : Nat) =>
 tl (j + al)))) ≤
 List.length
 (Prod.fst
 (Prod.snd
 (S.histS nr (fun (j : Nat) => tr (j + ar)) (fun (j : Nat) => vr (j + ar))
 (fun (j : Nat) => gr (j + ar)) no (fun (j : Nat) => to (j + ao)) nl fun (j : Nat) =>
 tl (j + al)))) ∧
 List.length
 (Prod.fst
 (Prod.snd
 (S.histS nr (fun (j : Nat) => tr (j + ar)) (fun (j : Nat) => vr (j + ar))
 (fun (j : Nat) => gr (j + ar)) no (fun (j : Nat) => to (j + ao)) nl fun (j : Nat) =>
 tl (j + al)))) ≤
 1000000 ∧
 0 +
 List.length
 (Prod.snd
 (Prod.snd
 (S.histS nr (fun (j : Nat) => tr (j + ar)) (fun (j : Nat) => vr (j + ar))
 (fun (j : Nat) => gr (j + ar)) no (fun (j : Nat) => to (j + ao)) nl fun (j : Nat) =>
 tl (j + al)))) ≤
 List.length
 (Prod.snd
 (Prod.snd
 (S.histS nr (fun (j : Nat) => tr (j + ar)) (fun (j : Nat) => vr (j + ar))
 (fun (j : Nat) => gr (j + ar)) no (fun (j : Nat) => to (j + ao)) nl fun (j : Nat) =>
 tl (j + al)))) ∧
 List.length
 (Prod.snd
 (Prod.snd
 (S.histS nr (fun (j : Nat) => tr (j + ar)) (fun (j : Nat) => vr (j + ar))
 (fun (j : Nat) => gr (j + ar)) no (fun (j : Nat) => to (j + ao)) nl fun (j : Nat) =>
 tl (j + al)))) ≤
 1000000))
 (test (decide
 ((S.mkl
 (List.length
 (Prod.fst
 (Prod.snd
 (S.histS nr (fun (j : Nat) => tr (j + ar)) (fun (j : Nat) => vr (j + ar))
 (fun (j : Nat) => gr (j + ar)) no (fun (j : Nat) => to (j + ao)) nl fun (j : Nat) => tl (j + al)))))
 fun (j : Nat) =>
 (Prod.fst
 (S.at'
 (Prod.fst
 (Prod.snd
 (S.histS nr (fun (j : Nat) => tr (j + ar)) (fun (j : Nat) => vr (j + ar))
 (fun (j : Nat) => gr (j + ar)) no (fun (j : Nat) => to (j + ao)) nl fun (j : Nat) => tl (j + al))))
 j),
 Prod.fst
 (Prod.snd
 (S.at'
 (Prod.fst
 (Prod.snd
 (S.histS nr (fun (j : Nat) => tr (j + ar)) (fun (j : Nat) => vr (j + ar))
 (fun (j : Nat) => gr (j + ar)) no (fun (j : Nat) => to (j + ao)) nl fun (j : Nat) =>
 tl (j + al))))
 j)),
 Prod.snd
 (Prod.snd
 (S.at'
 (Prod.fst
 (Prod.snd
 (S.histS nr (fun (j : Nat) => tr (j + ar)) (fun (j : Nat) => vr (j + ar))
 (fun (j : Nat) => gr (j + ar)) no (fun (j : Nat) => to (j + ao)) nl fun (j : Nat) =>
 tl (j + al))))
 j)))) =
 S.mkl
 (List.length
 (Prod.fst
 (Prod.snd
 (S.histS nr (fun (j : Nat) => tr (j + ar)) (fun (j : Nat) => vr (j + ar))
 (fun (j : Nat) => gr (j + ar)) no (fun (j : Nat) => to (j + ao)) nl fun (j : Nat) => tl (j + al)))))
 fun (j : Nat) =>
 (Prod.fst
 (S.at'
 (Prod.fst
 (Prod.snd
 (S.histS nr (fun (j : Nat) => tr (j + ar)) (fun (j : Nat) => vr (j + ar))
 (fun (j : Nat) => gr (j + ar)) no (fun (j : Nat) => to (j + ao)) nl fun (j : Nat) => tl (j + al))))
 j),
 Prod.fst
 (Prod.snd
 (S.at'
 (Prod.fst
 (Prod.snd
 (S.histS nr (fun (j : Nat) => tr (j + ar)) (fun (j : Nat) => vr (j + ar))
 (fun (j : Nat) => gr (j + ar)) no (fun (j : Nat) => to (j + ao)) nl fun (j : Nat) =>
 tl (j + al))))
 j)),
 Prod.snd
 (Prod.snd
 (S.at'
 (Prod.fst
 (Prod.snd
 (S.histS nr (fun (j : Nat) => tr (j + ar)) (fun (j : Nat) => vr (j + ar))
 (fun (j : Nat) => gr (j + ar)) no (fun (j : Nat) => to (j + ao)) nl fun (j : Nat) =>
 tl (j + al))))
 j)))) &&
 decide
 ((S.mkl
 (List.length
 (Prod.snd
 (Prod.snd
 (S.histS nr (fun (j : Nat) => tr (j + ar)) (fun (j : Nat) => vr (j + ar))
 (fun (j : Nat) => gr (j + ar)) no (fun (j : Nat) => to (j + ao)) nl fun (j : Nat) => tl (j + al)))))
 fun (j : Nat) =>
 S.at'
 (Prod.snd
 (Prod.snd
 (S.histS nr (fun (j : Nat) => tr (j + ar)) (fun (j : Nat) => vr (j + ar))
 (fun (j : Nat) => gr (j + ar)) no (fun (j : Nat) => to (j + ao)) nl fun (j : Nat) => tl (j + al))))
 j) =
 S.mkl
 (List.length
 (Prod.snd
 (Prod.snd
 (S.histS nr (fun (j : Nat) => tr (j + ar)) (fun (j : Nat) => vr (j + ar))
 (fun (j : Nat) => gr (j + ar)) no (fun (j : Nat) => to (j + ao)) nl fun (j : Nat) => tl (j + al)))))
 fun (j : Nat) =>
 S.at'
 (Prod.snd
 (Prod.snd
 (S.histS nr (fun (j : Nat) => tr (j + ar)) (fun (j : Nat) => vr (j + ar))
 (fun (j : Nat) => gr (j + ar)) no (fun (j : Nat) => to (j + ao)) nl fun (j : Nat) => tl (j + al))))
 j))
 (Kret (PV.tf true) ([[(2, false, Blk.cols ml [Col.int IntKind.i64 tl]),
 (1, false, Blk.cols mo [Col.bool to]),
 (0, false,
 Blk.cols mr
 [Col.int IntKind.i64 tr, Col.int IntKind.i64 vr, Col.int IntKind.i64 gr])]]) (23))
 (Kret (PV.tf false) ([[(2, false, Blk.cols ml [Col.int IntKind.i64 tl]),
 (1, false, Blk.cols mo [Col.bool to]),
 (0, false,
 Blk.cols mr
 [Col.int IntKind.i64 tr, Col.int IntKind.i64 vr, Col.int IntKind.i64 gr])]]) (23)))
 (False))
 (Kret (PV.tf false) ([[(2, false, Blk.cols ml [Col.int IntKind.i64 tl]),
 (1, false, Blk.cols mo [Col.bool to]),
 (0, false,
 Blk.cols mr
 [Col.int IntKind.i64 tr, Col.int IntKind.i64 vr, Col.int IntKind.i64 gr])]]) (22)))
 (test (decide
 (0 +
 List.length
 (Prod.fst
 (Prod.snd
 (S.histS nr (fun (j : Nat) => tr (j + ar)) (fun (j : Nat) => vr (j + ar))
 (fun (j : Nat) => gr (j + ar)) no (fun (j : Nat) => to (j + ao)) nl fun (j : Nat) => tl (j + al)))) ≤
 List.length
 (Prod.fst
 (Prod.snd
 (S.histS nr (fun (j : Nat) => tr (j + ar)) (fun (j : Nat) => vr (j + ar))
 (fun (j : Nat) => gr (j + ar)) no (fun (j : Nat) => to (j + ao)) nl fun (j : Nat) => tl (j + al)))) ∧
 List.length
 (Prod.fst
 (Prod.snd
 (S.histS nr (fun (j : Nat) => tr (j + ar)) (fun (j : Nat) => vr (j + ar))
 (fun (j : Nat) => gr (j + ar)) no (fun (j : Nat) => to (j + ao)) nl fun (j : Nat) => tl (j + al)))) ≤
 1000000 ∧
 0 +
 List.length
 (Prod.snd
 (Prod.snd
 (S.histS nr (fun (j : Nat) => tr (j + ar)) (fun (j : Nat) => vr (j + ar))
 (fun (j : Nat) => gr (j + ar)) no (fun (j : Nat) => to (j + ao)) nl fun (j : Nat) =>
 tl (j + al)))) ≤
 List.length
 (Prod.snd
 (Prod.snd
 (S.histS nr (fun (j : Nat) => tr (j + ar)) (fun (j : Nat) => vr (j + ar))
 (fun (j : Nat) => gr (j + ar)) no (fun (j : Nat) => to (j + ao)) nl fun (j : Nat) => tl (j + al)))) ∧
 List.length
 (Prod.snd
 (Prod.snd
 (S.histS nr (fun (j : Nat) => tr (j + ar)) (fun (j : Nat) => vr (j + ar))
 (fun (j : Nat) => gr (j + ar)) no (fun (j : Nat) => to (j + ao)) nl fun (j : Nat) =>
 tl (j + al)))) ≤
 1000000 ∧
 0 +
 List.length
 (Prod.fst
 (Prod.snd
 (S.histS nr (fun (j : Nat) => tr (j + ar)) (fun (j : Nat) => vr (j + ar))
 (fun (j : Nat) => gr (j + ar)) no (fun (j : Nat) => to (j + ao)) nl fun (j : Nat) =>
 tl (j + al)))) ≤
 List.length
 (Prod.fst
 (Prod.snd
 (S.histS nr (fun (j : Nat) => tr (j + ar)) (fun (j : Nat) => vr (j + ar))
 (fun (j : Nat) => gr (j + ar)) no (fun (j : Nat) => to (j + ao)) nl fun (j : Nat) =>
 tl (j + al)))) ∧
 List.length
 (Prod.fst
 (Prod.snd
 (S.histS nr (fun (j : Nat) => tr (j + ar)) (fun (j : Nat) => vr (j + ar))
 (fun (j : Nat) => gr (j + ar)) no (fun (j : Nat) => to (j + ao)) nl fun (j : Nat) =>
 tl (j + al)))) ≤
 1000000 ∧
 0 +
 List.length
 (Prod.snd
 (Prod.snd
 (S.histS nr (fun (j : Nat) => tr (j + ar)) (fun (j : Nat) => vr (j + ar))
 (fun (j : Nat) => gr (j + ar)) no (fun (j : Nat) => to (j + ao)) nl fun (j : Nat) =>
 tl (j + al)))) ≤
 List.length
 (Prod.snd
 (Prod.snd
 (S.histS nr (fun (j : Nat) => tr (j + ar)) (fun (j : Nat) => vr (j + ar))
 (fun (j : Nat) => gr (j + ar)) no (fun (j : Nat) => to (j + ao)) nl fun (j : Nat) =>
 tl (j + al)))) ∧
 List.length
 (Prod.snd
 (Prod.snd
 (S.histS nr (fun (j : Nat) => tr (j + ar)) (fun (j : Nat) => vr (j + ar))
 (fun (j : Nat) => gr (j + ar)) no (fun (j : Nat) => to (j + ao)) nl fun (j : Nat) =>
 tl (j + al)))) ≤
 1000000))
 (test (decide
 ((S.mkl
 (List.length
 (Prod.fst
 (Prod.snd
 (S.histS nr (fun (j : Nat) => tr (j + ar)) (fun (j : Nat) => vr (j + ar))
 (fun (j : Nat) => gr (j + ar)) no (fun (j : Nat) => to (j + ao)) nl fun (j : Nat) => tl (j + al)))))
 fun (j : Nat) =>
 (Prod.fst
 (S.at'
 (Prod.fst
 (Prod.snd
 (S.histS nr (fun (j : Nat) => tr (j + ar)) (fun (j : Nat) => vr (j + ar))
 (fun (j : Nat) => gr (j + ar)) no (fun (j : Nat) => to (j + ao)) nl fun (j : Nat) => tl (j + al))))
 j),
 Prod.fst
 (Prod.snd
 (S.at'
 (Prod.fst
 (Prod.snd
 (S.histS nr (fun (j : Nat) => tr (j + ar)) (fun (j : Nat) => vr (j + ar))
 (fun (j : Nat) => gr (j + ar)) no (fun (j : Nat) => to (j + ao)) nl fun (j : Nat) =>
 tl (j + al))))
 j)),
 Prod.snd
 (Prod.snd
 (S.at'
 (Prod.fst
 (Prod.snd
 (S.histS nr (fun (j : Nat) => tr (j + ar)) (fun (j : Nat) => vr (j + ar))
 (fun (j : Nat) => gr (j + ar)) no (fun (j : Nat) => to (j + ao)) nl fun (j : Nat) =>
 tl (j + al))))
 j)))) =
 S.mkl
 (List.length
 (Prod.fst
 (Prod.snd
 (S.histS nr (fun (j : Nat) => tr (j + ar)) (fun (j : Nat) => vr (j + ar))
 (fun (j : Nat) => gr (j + ar)) no (fun (j : Nat) => to (j + ao)) nl fun (j : Nat) => tl (j + al)))))
 fun (j : Nat) =>
 (Prod.fst
 (S.at'
 (Prod.fst
 (Prod.snd
 (S.histS nr (fun (j : Nat) => tr (j + ar)) (fun (j : Nat) => vr (j + ar))
 (fun (j : Nat) => gr (j + ar)) no (fun (j : Nat) => to (j + ao)) nl fun (j : Nat) => tl (j + al))))
 j),
 Prod.fst
 (Prod.snd
 (S.at'
 (Prod.fst
 (Prod.snd
 (S.histS nr (fun (j : Nat) => tr (j + ar)) (fun (j : Nat) => vr (j + ar))
 (fun (j : Nat) => gr (j + ar)) no (fun (j : Nat) => to (j + ao)) nl fun (j : Nat) =>
 tl (j + al))))
 j)),
 Prod.snd
 (Prod.snd
 (S.at'
 (Prod.fst
 (Prod.snd
 (S.histS nr (fun (j : Nat) => tr (j + ar)) (fun (j : Nat) => vr (j + ar))
 (fun (j : Nat) => gr (j + ar)) no (fun (j : Nat) => to (j + ao)) nl fun (j : Nat) =>
 tl (j + al))))
 j)))) &&
 decide
 ((S.mkl
 (List.length
 (Prod.snd
 (Prod.snd
 (S.histS nr (fun (j : Nat) => tr (j + ar)) (fun (j : Nat) => vr (j + ar))
 (fun (j : Nat) => gr (j + ar)) no (fun (j : Nat) => to (j + ao)) nl fun (j : Nat) => tl (j + al)))))
 fun (j : Nat) =>
 S.at'
 (Prod.snd
 (Prod.snd
 (S.histS nr (fun (j : Nat) => tr (j + ar)) (fun (j : Nat) => vr (j + ar))
 (fun (j : Nat) => gr (j + ar)) no (fun (j : Nat) => to (j + ao)) nl fun (j : Nat) => tl (j + al))))
 j) =
 S.mkl
 (List.length
 (Prod.snd
 (Prod.snd
 (S.histS nr (fun (j : Nat) => tr (j + ar)) (fun (j : Nat) => vr (j + ar))
 (fun (j : Nat) => gr (j + ar)) no (fun (j : Nat) => to (j + ao)) nl fun (j : Nat) => tl (j + al)))))
 fun (j : Nat) =>
 S.at'
 (Prod.snd
 (Prod.snd
 (S.histS nr (fun (j : Nat) => tr (j + ar)) (fun (j : Nat) => vr (j + ar))
 (fun (j : Nat) => gr (j + ar)) no (fun (j : Nat) => to (j + ao)) nl fun (j : Nat) => tl (j + al))))
 j))
 (test (Prod.fst
 (S.histS nr (fun (j : Nat) => tr (j + ar)) (fun (j : Nat) => vr (j + ar)) (fun (j : Nat) => gr (j + ar)) no
 (fun (j : Nat) => to (j + ao)) nl fun (j : Nat) => tl (j + al)) !=
 (0 : Int))
 (test (Prod.fst
 (S.histS nr (fun (j : Nat) => tr (j + ar)) (fun (j : Nat) => vr (j + ar)) (fun (j : Nat) => gr (j + ar)) no
 (fun (j : Nat) => to (j + ao)) nl fun (j : Nat) => tl (j + al)) ==
 Prod.fst
 (S.histS nr (fun (j : Nat) => tr (j + ar)) (fun (j : Nat) => vr (j + ar)) (fun (j : Nat) => gr (j + ar)) no
 (fun (j : Nat) => to (j + ao)) nl fun (j : Nat) => tl (j + al)))
 (test (decide
 (0 +
 List.length
 (Prod.fst
 (Prod.snd
 (S.histS nr (fun (j : Nat) => tr (j + ar)) (fun (j : Nat) => vr (j + ar))
 (fun (j : Nat) => gr (j + ar)) no (fun (j : Nat) => to (j + ao)) nl fun (j : Nat) => tl (j + al)))) ≤
 List.length
 (Prod.fst
 (Prod.snd
 (S.histS nr (fun (j : Nat) => tr (j + ar)) (fun (j : Nat) => vr (j + ar))
 (fun (j : Nat) => gr (j + ar)) no (fun (j : Nat) => to (j + ao)) nl fun (j : Nat) => tl (j + al)))) ∧
 List.length
 (Prod.fst
 (Prod.snd
 (S.histS nr (fun (j : Nat) => tr (j + ar)) (fun (j : Nat) => vr (j + ar))
 (fun (j : Nat) => gr (j + ar)) no (fun (j : Nat) => to (j + ao)) nl fun (j : Nat) => tl (j + al)))) ≤
 1000000 ∧
 0 +
 List.length
 (Prod.snd
 (Prod.snd
 (S.histS nr (fun (j : Nat) => tr (j + ar)) (fun (j : Nat) => vr (j + ar))
 (fun (j : Nat) => gr (j + ar)) no (fun (j : Nat) => to (j + ao)) nl fun (j : Nat) =>
 tl (j + al)))) ≤
 List.length
 (Prod.snd
 (Prod.snd
 (S.histS nr (fun (j : Nat) => tr (j + ar)) (fun (j : Nat) => vr (j + ar))
 (fun (j : Nat) => gr (j + ar)) no (fun (j : Nat) => to (j + ao)) nl fun (j : Nat) => tl (j + al)))) ∧
 List.length
 (Prod.snd
 (Prod.snd
 (S.histS nr (fun (j : Nat) => tr (j + ar)) (fun (j : Nat) => vr (j + ar))
 (fun (j : Nat) => gr (j + ar)) no (fun (j : Nat) => to (j + ao)) nl fun (j : Nat) =>
 tl (j + al)))) ≤
 1000000 ∧
 0 +
 List.length
 (Prod.fst
 (Prod.snd
 (S.histS nr (fun (j : Nat) => tr (j + ar)) (fun (j : Nat) => vr (j + ar))
 (fun (j : Nat) => gr (j + ar)) no (fun (j : Nat) => to (j + ao)) nl fun (j : Nat) =>
 tl (j + al)))) ≤
 List.length
 (Prod.fst
 (Prod.snd
 (S.histS nr (fun (j : Nat) => tr (j + ar)) (fun (j : Nat) => vr (j + ar))
 (fun (j : Nat) => gr (j + ar)) no (fun (j : Nat) => to (j + ao)) nl fun (j : Nat) =>
 tl (j + al)))) ∧
 List.length
 (Prod.fst
 (Prod.snd
 (S.histS nr (fun (j : Nat) => tr (j + ar)) (fun (j : Nat) => vr (j + ar))
 (fun (j : Nat) => gr (j + ar)) no (fun (j : Nat) => to (j + ao)) nl fun (j : Nat) =>
 tl (j + al)))) ≤
 1000000 ∧
 0 +
 List.length
 (Prod.snd
 (Prod.snd
 (S.histS nr (fun (j : Nat) => tr (j + ar)) (fun (j : Nat) => vr (j + ar))
 (fun (j : Nat) => gr (j + ar)) no (fun (j : Nat) => to (j + ao)) nl fun (j : Nat) =>
 tl (j + al)))) ≤
 List.length
 (Prod.snd
 (Prod.snd
 (S.histS nr (fun (j : Nat) => tr (j + ar)) (fun (j : Nat) => vr (j + ar))
 (fun (j : Nat) => gr (j + ar)) no (fun (j : Nat) => to (j + ao)) nl fun (j : Nat) =>
 tl (j + al)))) ∧
 List.length
 (Prod.snd
 (Prod.snd
 (S.histS nr (fun (j : Nat) => tr (j + ar)) (fun (j : Nat) => vr (j + ar))
 (fun (j : Nat) => gr (j + ar)) no (fun (j : Nat) => to (j + ao)) nl fun (j : Nat) =>
 tl (j + al)))) ≤
 1000000))
 (test (decide
 ((S.mkl
 (List.length
 (Prod.fst
 (Prod.snd
 (S.histS nr (fun (j : Nat) => tr (j + ar)) (fun (j : Nat) => vr (j + ar))
 (fun (j : Nat) => gr (j + ar)) no (fun (j : Nat) => to (j + ao)) nl fun (j : Nat) => tl (j + al)))))
 fun (j : Nat) =>
 (Prod.fst
 (S.at'
 (Prod.fst
 (Prod.snd
 (S.histS nr (fun (j : Nat) => tr (j + ar)) (fun (j : Nat) => vr (j + ar))
 (fun (j : Nat) => gr (j + ar)) no (fun (j : Nat) => to (j + ao)) nl fun (j : Nat) => tl (j + al))))
 j),
 Prod.fst
 (Prod.snd
 (S.at'
 (Prod.fst
 (Prod.snd
 (S.histS nr (fun (j : Nat) => tr (j + ar)) (fun (j : Nat) => vr (j + ar))
 (fun (j : Nat) => gr (j + ar)) no (fun (j : Nat) => to (j + ao)) nl fun (j : Nat) =>
 tl (j + al))))
 j)),
 Prod.snd
 (Prod.snd
 (S.at'
 (Prod.fst
 (Prod.snd
 (S.histS nr (fun (j : Nat) => tr (j + ar)) (fun (j : Nat) => vr (j + ar))
 (fun (j : Nat) => gr (j + ar)) no (fun (j : Nat) => to (j + ao)) nl fun (j : Nat) =>
 tl (j + al))))
 j)))) =
 S.mkl
 (List.length
 (Prod.fst
 (Prod.snd
 (S.histS nr (fun (j : Nat) => tr (j + ar)) (fun (j : Nat) => vr (j + ar))
 (fun (j : Nat) => gr (j + ar)) no (fun (j : Nat) => to (j + ao)) nl fun (j : Nat) => tl (j + al)))))
 fun (j : Nat) =>
 (Prod.fst
 (S.at'
 (Prod.fst
 (Prod.snd
 (S.histS nr (fun (j : Nat) => tr (j + ar)) (fun (j : Nat) => vr (j + ar))
 (fun (j : Nat) => gr (j + ar)) no (fun (j : Nat) => to (j + ao)) nl fun (j : Nat) => tl (j + al))))
 j),
 Prod.fst
 (Prod.snd
 (S.at'
 (Prod.fst
 (Prod.snd
 (S.histS nr (fun (j : Nat) => tr (j + ar)) (fun (j : Nat) => vr (j + ar))
 (fun (j : Nat) => gr (j + ar)) no (fun (j : Nat) => to (j + ao)) nl fun (j : Nat) =>
 tl (j + al))))
 j)),
 Prod.snd
 (Prod.snd
 (S.at'
 (Prod.fst
 (Prod.snd
 (S.histS nr (fun (j : Nat) => tr (j + ar)) (fun (j : Nat) => vr (j + ar))
 (fun (j : Nat) => gr (j + ar)) no (fun (j : Nat) => to (j + ao)) nl fun (j : Nat) =>
 tl (j + al))))
 j)))) &&
 decide
 ((S.mkl
 (List.length
 (Prod.snd
 (Prod.snd
 (S.histS nr (fun (j : Nat) => tr (j + ar)) (fun (j : Nat) => vr (j + ar))
 (fun (j : Nat) => gr (j + ar)) no (fun (j : Nat) => to (j + ao)) nl fun (j : Nat) => tl (j + al)))))
 fun (j : Nat) =>
 S.at'
 (Prod.snd
 (Prod.snd
 (S.histS nr (fun (j : Nat) => tr (j + ar)) (fun (j : Nat) => vr (j + ar))
 (fun (j : Nat) => gr (j + ar)) no (fun (j : Nat) => to (j + ao)) nl fun (j : Nat) => tl (j + al))))
 j) =
 S.mkl
 (List.length
 (Prod.snd
 (Prod.snd
 (S.histS nr (fun (j : Nat) => tr (j + ar)) (fun (j : Nat) => vr (j + ar))
 (fun (j : Nat) => gr (j + ar)) no (fun (j : Nat) => to (j + ao)) nl fun (j : Nat) => tl (j + al)))))
 fun (j : Nat) =>
 S.at'
 (Prod.snd
 (Prod.snd
 (S.histS nr (fun (j : Nat) => tr (j + ar)) (fun (j : Nat) => vr (j + ar))
 (fun (j : Nat) => gr (j + ar)) no (fun (j : Nat) => to (j + ao)) nl fun (j : Nat) => tl (j + al))))
 j))
 (Kret (PV.tf true) ([[(2, false, Blk.cols ml [Col.int IntKind.i64 tl]),
 (1, false, Blk.cols mo [Col.bool to]),
 (0, false,
 Blk.cols mr
 [Col.int IntKind.i64 tr, Col.int IntKind.i64 vr, Col.int IntKind.i64 gr])]]) (24))
 (Kret (PV.tf false) ([[(2, false, Blk.cols ml [Col.int IntKind.i64 tl]),
 (1, false, Blk.cols mo [Col.bool to]),
 (0, false,
 Blk.cols mr
 [Col.int IntKind.i64 tr, Col.int IntKind.i64 vr, Col.int IntKind.i64 gr])]]) (24)))
 (False))
 (Kret (PV.tf false) ([[(2, false, Blk.cols ml [Col.int IntKind.i64 tl]),
 (1, false, Blk.cols mo [Col.bool to]),
 (0, false,
 Blk.cols mr
 [Col.int IntKind.i64 tr, Col.int IntKind.i64 vr, Col.int IntKind.i64 gr])]]) (23)))
 (Kst (hd Try.f4 0) ([PV.loose (PA.mk (2) (1) al (0)) nl,
 PV.ptr (PA.mk (3) (0) (0) (0)),
 PV.ptr (PA.mk (17) (0) (0) (0)),
 PV.ptr (PA.mk (23) (0) (0) (0)),
 PV.loose (PA.mk (2) (1) al (0)) nl, PV.int IntKind.i64 (↑nl : Int),
 PV.int IntKind.i64 (0 : Int)]) ([[(2, false, Blk.cols ml [Col.int IntKind.i64 tl]),
 (1, false, Blk.cols mo [Col.bool to]),
 (0, false,
 Blk.cols mr
 [Col.int IntKind.i64 tr, Col.int IntKind.i64 vr, Col.int IntKind.i64 gr]),
 (23, true,
 Blk.cells
 [PV.loose (PA.mk (0) (3) ar (0)) nr,
 PV.loose (PA.mk (1) (1) ao (0)) no]),
 (17, true,
 Blk.cells
 [PV.own (15) (3)
 (List.length
 (Prod.fst
 (Prod.snd
 (S.histS nr (fun (j : Nat) => tr (j + ar)) (fun (j : Nat) => vr (j + ar))
 (fun (j : Nat) => gr (j + ar)) no (fun (j : Nat) => to (j + ao)) nl fun (j : Nat) =>
 tl (j + al))))),
 PV.own (16) (1)
 (List.length
 (Prod.snd
 (Prod.snd
 (S.histS nr (fun (j : Nat) => tr (j + ar)) (fun (j : Nat) => vr (j + ar))
 (fun (j : Nat) => gr (j + ar)) no (fun (j : Nat) => to (j + ao)) nl fun (j : Nat) =>
 tl (j + al)))))]),
 (3, true,
 Blk.cells
 [PV.loose (PA.mk (0) (3) ar (0)) nr,
 PV.loose (PA.mk (1) (1) ao (0)) no]),
 (16, true,
 Blk.cols
 (List.length
 (Prod.snd
 (Prod.snd
 (S.histS nr (fun (j : Nat) => tr (j + ar)) (fun (j : Nat) => vr (j + ar))
 (fun (j : Nat) => gr (j + ar)) no (fun (j : Nat) => to (j + ao)) nl fun (j : Nat) => tl (j + al)))))
 [Col.bool fun (j : Nat) =>
 S.at'
 (Prod.snd
 (Prod.snd
 (S.histS nr (fun (j : Nat) => tr (j + ar)) (fun (j : Nat) => vr (j + ar))
 (fun (j : Nat) => gr (j + ar)) no (fun (j : Nat) => to (j + ao)) nl fun (j : Nat) => tl (j + al))))
 j]),
 (15, true,
 Blk.cols
 (List.length
 (Prod.fst
 (Prod.snd
 (S.histS nr (fun (j : Nat) => tr (j + ar)) (fun (j : Nat) => vr (j + ar))
 (fun (j : Nat) => gr (j + ar)) no (fun (j : Nat) => to (j + ao)) nl fun (j : Nat) => tl (j + al)))))
 [Col.int IntKind.i64 fun (j : Nat) =>
 Prod.fst
 (S.at'
 (Prod.fst
 (Prod.snd
 (S.histS nr (fun (j : Nat) => tr (j + ar)) (fun (j : Nat) => vr (j + ar))
 (fun (j : Nat) => gr (j + ar)) no (fun (j : Nat) => to (j + ao)) nl fun (j : Nat) =>
 tl (j + al))))
 j),
 Col.int IntKind.i64 fun (j : Nat) =>
 Prod.fst
 (Prod.snd
 (S.at'
 (Prod.fst
 (Prod.snd
 (S.histS nr (fun (j : Nat) => tr (j + ar)) (fun (j : Nat) => vr (j + ar))
 (fun (j : Nat) => gr (j + ar)) no (fun (j : Nat) => to (j + ao)) nl fun (j : Nat) =>
 tl (j + al))))
 j)),
 Col.int IntKind.i64 fun (j : Nat) =>
 Prod.snd
 (Prod.snd
 (S.at'
 (Prod.fst
 (Prod.snd
 (S.histS nr (fun (j : Nat) => tr (j + ar)) (fun (j : Nat) => vr (j + ar))
 (fun (j : Nat) => gr (j + ar)) no (fun (j : Nat) => to (j + ao)) nl fun (j : Nat) =>
 tl (j + al))))
 j))])]]) (24)))
 (test (Prod.fst
 (S.histS nr (fun (j : Nat) => tr (j + ar)) (fun (j : Nat) => vr (j + ar)) (fun (j : Nat) => gr (j + ar)) no
 (fun (j : Nat) => to (j + ao)) nl fun (j : Nat) => tl (j + al)) ==
 Prod.fst
 (S.histS nr (fun (j : Nat) => tr (j + ar)) (fun (j : Nat) => vr (j + ar)) (fun (j : Nat) => gr (j + ar)) no
 (fun (j : Nat) => to (j + ao)) nl fun (j : Nat) => tl (j + al)))
 (test (decide
 (0 +
 List.length
 (Prod.fst
 (Prod.snd
 (S.histS nr (fun (j : Nat) => tr (j + ar)) (fun (j : Nat) => vr (j + ar))
 (fun (j : Nat) => gr (j + ar)) no (fun (j : Nat) => to (j + ao)) nl fun (j : Nat) => tl (j + al)))) ≤
 List.length
 (Prod.fst
 (Prod.snd
 (S.histS nr (fun (j : Nat) => tr (j + ar)) (fun (j : Nat) => vr (j + ar))
 (fun (j : Nat) => gr (j + ar)) no (fun (j : Nat) => to (j + ao)) nl fun (j : Nat) => tl (j + al)))) ∧
 List.length
 (Prod.fst
 (Prod.snd
 (S.histS nr (fun (j : Nat) => tr (j + ar)) (fun (j : Nat) => vr (j + ar))
 (fun (j : Nat) => gr (j + ar)) no (fun (j : Nat) => to (j + ao)) nl fun (j : Nat) => tl (j + al)))) ≤
 1000000 ∧
 0 +
 List.length
 (Prod.snd
 (Prod.snd
 (S.histS nr (fun (j : Nat) => tr (j + ar)) (fun (j : Nat) => vr (j + ar))
 (fun (j : Nat) => gr (j + ar)) no (fun (j : Nat) => to (j + ao)) nl fun (j : Nat) =>
 tl (j + al)))) ≤
 List.length
 (Prod.snd
 (Prod.snd
 (S.histS nr (fun (j : Nat) => tr (j + ar)) (fun (j : Nat) => vr (j + ar))
 (fun (j : Nat) => gr (j + ar)) no (fun (j : Nat) => to (j + ao)) nl fun (j : Nat) => tl (j + al)))) ∧
 List.length
 (Prod.snd
 (Prod.snd
 (S.histS nr (fun (j : Nat) => tr (j + ar)) (fun (j : Nat) => vr (j + ar))
 (fun (j : Nat) => gr (j + ar)) no (fun (j : Nat) => to (j + ao)) nl fun (j : Nat) =>
 tl (j + al)))) ≤
 1000000 ∧
 0 +
 List.length
 (Prod.fst
 (Prod.snd
 (S.histS nr (fun (j : Nat) => tr (j + ar)) (fun (j : Nat) => vr (j + ar))
 (fun (j : Nat) => gr (j + ar)) no (fun (j : Nat) => to (j + ao)) nl fun (j : Nat) =>
 tl (j + al)))) ≤
 List.length
 (Prod.fst
 (Prod.snd
 (S.histS nr (fun (j : Nat) => tr (j + ar)) (fun (j : Nat) => vr (j + ar))
 (fun (j : Nat) => gr (j + ar)) no (fun (j : Nat) => to (j + ao)) nl fun (j : Nat) =>
 tl (j + al)))) ∧
 List.length
 (Prod.fst
 (Prod.snd
 (S.histS nr (fun (j : Nat) => tr (j + ar)) (fun (j : Nat) => vr (j + ar))
 (fun (j : Nat) => gr (j + ar)) no (fun (j : Nat) => to (j + ao)) nl fun (j : Nat) =>
 tl (j + al)))) ≤
 1000000 ∧
 0 +
 List.length
 (Prod.snd
 (Prod.snd
 (S.histS nr (fun (j : Nat) => tr (j + ar)) (fun (j : Nat) => vr (j + ar))
 (fun (j : Nat) => gr (j + ar)) no (fun (j : Nat) => to (j + ao)) nl fun (j : Nat) =>
 tl (j + al)))) ≤
 List.length
 (Prod.snd
 (Prod.snd
 (S.histS nr (fun (j : Nat) => tr (j + ar)) (fun (j : Nat) => vr (j + ar))
 (fun (j : Nat) => gr (j + ar)) no (fun (j : Nat) => to (j + ao)) nl fun (j : Nat) =>
 tl (j + al)))) ∧
 List.length
 (Prod.snd
 (Prod.snd
 (S.histS nr (fun (j : Nat) => tr (j + ar)) (fun (j : Nat) => vr (j + ar))
 (fun (j : Nat) => gr (j + ar)) no (fun (j : Nat) => to (j + ao)) nl fun (j : Nat) =>
 tl (j + al)))) ≤
 1000000))
 (test (decide
 ((S.mkl
 (List.length
 (Prod.fst
 (Prod.snd
 (S.histS nr (fun (j : Nat) => tr (j + ar)) (fun (j : Nat) => vr (j + ar))
 (fun (j : Nat) => gr (j + ar)) no (fun (j : Nat) => to (j + ao)) nl fun (j : Nat) => tl (j + al)))))
 fun (j : Nat) =>
 (Prod.fst
 (S.at'
 (Prod.fst
 (Prod.snd
 (S.histS nr (fun (j : Nat) => tr (j + ar)) (fun (j : Nat) => vr (j + ar))
 (fun (j : Nat) => gr (j + ar)) no (fun (j : Nat) => to (j + ao)) nl fun (j : Nat) => tl (j + al))))
 j),
 Prod.fst
 (Prod.snd
 (S.at'
 (Prod.fst
 (Prod.snd
 (S.histS nr (fun (j : Nat) => tr (j + ar)) (fun (j : Nat) => vr (j + ar))
 (fun (j : Nat) => gr (j + ar)) no (fun (j : Nat) => to (j + ao)) nl fun (j : Nat) =>
 tl (j + al))))
 j)),
 Prod.snd
 (Prod.snd
 (S.at'
 (Prod.fst
 (Prod.snd
 (S.histS nr (fun (j : Nat) => tr (j + ar)) (fun (j : Nat) => vr (j + ar))
 (fun (j : Nat) => gr (j + ar)) no (fun (j : Nat) => to (j + ao)) nl fun (j : Nat) =>
 tl (j + al))))
 j)))) =
 S.mkl
 (List.length
 (Prod.fst
 (Prod.snd
 (S.histS nr (fun (j : Nat) => tr (j + ar)) (fun (j : Nat) => vr (j + ar))
 (fun (j : Nat) => gr (j + ar)) no (fun (j : Nat) => to (j + ao)) nl fun (j : Nat) => tl (j + al)))))
 fun (j : Nat) =>
 (Prod.fst
 (S.at'
 (Prod.fst
 (Prod.snd
 (S.histS nr (fun (j : Nat) => tr (j + ar)) (fun (j : Nat) => vr (j + ar))
 (fun (j : Nat) => gr (j + ar)) no (fun (j : Nat) => to (j + ao)) nl fun (j : Nat) => tl (j + al))))
 j),
 Prod.fst
 (Prod.snd
 (S.at'
 (Prod.fst
 (Prod.snd
 (S.histS nr (fun (j : Nat) => tr (j + ar)) (fun (j : Nat) => vr (j + ar))
 (fun (j : Nat) => gr (j + ar)) no (fun (j : Nat) => to (j + ao)) nl fun (j : Nat) =>
 tl (j + al))))
 j)),
 Prod.snd
 (Prod.snd
 (S.at'
 (Prod.fst
 (Prod.snd
 (S.histS nr (fun (j : Nat) => tr (j + ar)) (fun (j : Nat) => vr (j + ar))
 (fun (j : Nat) => gr (j + ar)) no (fun (j : Nat) => to (j + ao)) nl fun (j : Nat) =>
 tl (j + al))))
 j)))) &&
 decide
 ((S.mkl
 (List.length
 (Prod.snd
 (Prod.snd
 (S.histS nr (fun (j : Nat) => tr (j + ar)) (fun (j : Nat) => vr (j + ar))
 (fun (j : Nat) => gr (j + ar)) no (fun (j : Nat) => to (j + ao)) nl fun (j : Nat) => tl (j + al)))))
 fun (j : Nat) =>
 S.at'
 (Prod.snd
 (Prod.snd
 (S.histS nr (fun (j : Nat) => tr (j + ar)) (fun (j : Nat) => vr (j + ar))
 (fun (j : Nat) => gr (j + ar)) no (fun (j : Nat) => to (j + ao)) nl fun (j : Nat) => tl (j + al))))
 j) =
 S.mkl
 (List.length
 (Prod.snd
 (Prod.snd
 (S.histS nr (fun (j : Nat) => tr (j + ar)) (fun (j : Nat) => vr (j + ar))
 (fun (j : Nat) => gr (j + ar)) no (fun (j : Nat) => to (j + ao)) nl fun (j : Nat) => tl (j + al)))))
 fun (j : Nat) =>
 S.at'
 (Prod.snd
 (Prod.snd
 (S.histS nr (fun (j : Nat) => tr (j + ar)) (fun (j : Nat) => vr (j + ar))
 (fun (j : Nat) => gr (j + ar)) no (fun (j : Nat) => to (j + ao)) nl fun (j : Nat) => tl (j + al))))
 j))
 (Kret (PV.tf true) ([[(2, false, Blk.cols ml [Col.int IntKind.i64 tl]),
 (1, false, Blk.cols mo [Col.bool to]),
 (0, false,
 Blk.cols mr
 [Col.int IntKind.i64 tr, Col.int IntKind.i64 vr, Col.int IntKind.i64 gr])]]) (24))
 (Kret (PV.tf false) ([[(2, false, Blk.cols ml [Col.int IntKind.i64 tl]),
 (1, false, Blk.cols mo [Col.bool to]),
 (0, false,
 Blk.cols mr
 [Col.int IntKind.i64 tr, Col.int IntKind.i64 vr, Col.int IntKind.i64 gr])]]) (24)))
 (False))
 (Kret (PV.tf false) ([[(2, false, Blk.cols ml [Col.int IntKind.i64 tl]),
 (1, false, Blk.cols mo [Col.bool to]),
 (0, false,
 Blk.cols mr
 [Col.int IntKind.i64 tr, Col.int IntKind.i64 vr, Col.int IntKind.i64 gr])]]) (23))))
 (False)))
 (False))
 (False))
 (False))
 (False))
 (False))))
 (test (true)
 (test (true)
 (Kret (PV.tf true) ([[(2, false, Blk.cols ml [Col.int IntKind.i64 tl]),
 (1, false, Blk.cols mo [Col.bool to]),
 (0, false,
 Blk.cols mr
 [Col.int IntKind.i64 tr, Col.int IntKind.i64 vr, Col.int IntKind.i64 gr])]]) (7))
 (Kret (PV.tf false) ([[(2, false, Blk.cols ml [Col.int IntKind.i64 tl]),
 (1, false, Blk.cols mo [Col.bool to]),
 (0, false,
 Blk.cols mr
 [Col.int IntKind.i64 tr, Col.int IntKind.i64 vr, Col.int IntKind.i64 gr])]]) (7)))
 (False)))
 (test (true)
 (test (true)
 (Kret (PV.tf true) ([[(2, false, Blk.cols ml [Col.int IntKind.i64 tl]),
 (1, false, Blk.cols mo [Col.bool to]),
 (0, false,
 Blk.cols mr
 [Col.int IntKind.i64 tr, Col.int IntKind.i64 vr, Col.int IntKind.i64 gr])]]) (7))
 (Kret (PV.tf false) ([[(2, false, Blk.cols ml [Col.int IntKind.i64 tl]),
 (1, false, Blk.cols mo [Col.bool to]),
 (0, false,
 Blk.cols mr
 [Col.int IntKind.i64 tr, Col.int IntKind.i64 vr, Col.int IntKind.i64 gr])]]) (7)))
 (False)))
 (test (true)
 (test (true)
 (Kret (PV.tf true) ([[(2, false, Blk.cols ml [Col.int IntKind.i64 tl]),
 (1, false, Blk.cols mo [Col.bool to]),
 (0, false,
 Blk.cols mr
 [Col.int IntKind.i64 tr, Col.int IntKind.i64 vr, Col.int IntKind.i64 gr])]]) (6))
 (Kret (PV.tf false) ([[(2, false, Blk.cols ml [Col.int IntKind.i64 tl]),
 (1, false, Blk.cols mo [Col.bool to]),
 (0, false,
 Blk.cols mr
 [Col.int IntKind.i64 tr, Col.int IntKind.i64 vr, Col.int IntKind.i64 gr])]]) (6)))
 (False)))
 (False)
set_option maxRecDepth 100000 in
theorem te4 (test : Bool → Prop → Prop → Prop) (Kst : KS) (Kret : KR) (ar nr mr : Nat) (tr : Nat → Int) (vr : Nat → Int) (gr : Nat → Int) (ao no mo : Nat) (to : Nat → Bool) (al nl ml : Nat) (tl : Nat → Int) : run test Try.env true (yC4 test) true 400 ⟨4, [.cd (mkFn Try.f4).body], argT 0 [.agg [.loose ⟨0, 3, ar, 0⟩ nr, .loose ⟨1, 1, ao, 0⟩ no], .loose ⟨2, 1, al, 0⟩ nl], [[], [(0, (false, .cols mr [.int .i64 tr, .int .i64 vr, .int .i64 gr])), (1, (false, .cols mo [.bool to])), (2, (false, .cols ml [.int .i64 tl]))]], 3⟩ (proj 3 [1, 2, 5, 9, 71, 72, 73] Kst Kret) =
  Te4 test Kst Kret ar nr mr tr vr gr ao no mo to al nl ml tl := by kernel_rfl
noncomputable def T4_0 (test : Bool → Prop → Prop → Prop) (Kst : KS) (Kret : KR) (ar nr mr : Nat) (tr : Nat → Int) (vr : Nat → Int) (gr : Nat → Int) (ao no mo : Nat) (to : Nat → Bool) (al nl ml : Nat) (tl : Nat → Int) (x0 : List (Int × Int × Int)) (x1 : List Bool) : Prop :=
  test (decide ((0 : Int) < (↑nl : Int)))
 (test (decide ((0 : Int) ≤ (0 : Int) ∧ (0 : Int) < (↑nl : Int)))
 (test (decide (0 + al < ml))
 (test (decide (ar + nr ≤ mr ∧ nr ≤ 1000000 ∧ ao + no ≤ mo ∧ no ≤ 1000000))
 (test (Prod.fst
 (S.histS nr (fun (j : Nat) => tr (j + ar)) (fun (j : Nat) => vr (j + ar)) (fun (j : Nat) => gr (j + ar)) no
 (fun (j : Nat) => to (j + ao)) (1) fun (j : Nat) => S.lit [tl (0 + al)] (0 : Int) j) !=
 (0 : Int))
 (Kret (PV.tf false) ([[(2, false, Blk.cols ml [Col.int IntKind.i64 tl]),
 (1, false, Blk.cols mo [Col.bool to]),
 (0, false,
 Blk.cols mr
 [Col.int IntKind.i64 tr, Col.int IntKind.i64 vr, Col.int IntKind.i64 gr])]]) (11))
 (test (true)
 (Kst (hd Try.f4 0) ([PV.loose (PA.mk (2) (1) al (0)) nl,
 PV.ptr (PA.mk (3) (0) (0) (0)),
 PV.ptr (PA.mk (4) (0) (0) (0)),
 PV.ptr (PA.mk (7) (0) (0) (0)),
 PV.loose (PA.mk (2) (1) al (0)) nl, PV.int IntKind.i64 (↑nl : Int),
 PV.int IntKind.i64 (1 : Int)]) ([[(2, false, Blk.cols ml [Col.int IntKind.i64 tl]),
 (1, false, Blk.cols mo [Col.bool to]),
 (0, false,
 Blk.cols mr
 [Col.int IntKind.i64 tr, Col.int IntKind.i64 vr, Col.int IntKind.i64 gr]),
 (7, true,
 Blk.cells
 [PV.own (9) (3)
 (List.length
 (Prod.fst
 (Prod.snd
 (S.histS nr (fun (j : Nat) => tr (j + ar)) (fun (j : Nat) => vr (j + ar))
 (fun (j : Nat) => gr (j + ar)) no (fun (j : Nat) => to (j + ao)) (1) fun (j : Nat) =>
 S.lit [tl (0 + al)] (0 : Int) j)))),
 PV.own (10) (1)
 (List.length
 (Prod.snd
 (Prod.snd
 (S.histS nr (fun (j : Nat) => tr (j + ar)) (fun (j : Nat) => vr (j + ar))
 (fun (j : Nat) => gr (j + ar)) no (fun (j : Nat) => to (j + ao)) (1) fun (j : Nat) =>
 S.lit [tl (0 + al)] (0 : Int) j))))]),
 (4, true,
 Blk.cells
 [PV.own (5) (3) (List.length x0), PV.own (6) (1) (List.length x1)]),
 (3, true,
 Blk.cells
 [PV.loose (PA.mk (0) (3) ar (0)) nr,
 PV.loose (PA.mk (1) (1) ao (0)) no]),
 (6, true, Blk.cols (List.length x1) [Col.bool fun (j : Nat) => S.at' x1 j]),
 (5, true,
 Blk.cols (List.length x0)
 [Col.int IntKind.i64 fun (j : Nat) => (S.at' x0 j).1,
 Col.int IntKind.i64 fun (j : Nat) => (S.at' x0 j).2.1,
 Col.int IntKind.i64 fun (j : Nat) => (S.at' x0 j).2.2]),
 (10, true,
 Blk.cols
 (List.length
 (Prod.snd
 (Prod.snd
 (S.histS nr (fun (j : Nat) => tr (j + ar)) (fun (j : Nat) => vr (j + ar))
 (fun (j : Nat) => gr (j + ar)) no (fun (j : Nat) => to (j + ao)) (1) fun (j : Nat) =>
 S.lit [tl (0 + al)] (0 : Int) j))))
 [Col.bool fun (j : Nat) =>
 S.at'
 (Prod.snd
 (Prod.snd
 (S.histS nr (fun (j : Nat) => tr (j + ar)) (fun (j : Nat) => vr (j + ar))
 (fun (j : Nat) => gr (j + ar)) no (fun (j : Nat) => to (j + ao)) (1) fun (j : Nat) =>
 S.lit [tl (0 + al)] (0 : Int) j)))
 j]),
 (9, true,
 Blk.cols
 (List.length
 (Prod.fst
 (Prod.snd
 (S.histS nr (fun (j : Nat) => tr (j + ar)) (fun (j : Nat) => vr (j + ar))
 (fun (j : Nat) => gr (j + ar)) no (fun (j : Nat) => to (j + ao)) (1) fun (j : Nat) =>
 S.lit [tl (0 + al)] (0 : Int) j))))
 [Col.int IntKind.i64 fun (j : Nat) =>
 Prod.fst
 (S.at'
 (Prod.fst
 (Prod.snd
 (S.histS nr (fun (j : Nat) => tr (j + ar)) (fun (j : Nat) => vr (j + ar))
 (fun (j : Nat) => gr (j + ar)) no (fun (j : Nat) => to (j + ao)) (1) fun (j : Nat) =>
 S.lit [tl (0 + al)] (0 : Int) j)))
 j),
 Col.int IntKind.i64 fun (j : Nat) =>
 Prod.fst
 (Prod.snd
 (S.at'
 (Prod.fst
 (Prod.snd
 (S.histS nr (fun (j : Nat) => tr (j + ar)) (fun (j : Nat) => vr (j + ar))
 (fun (j : Nat) => gr (j + ar)) no (fun (j : Nat) => to (j + ao)) (1) fun (j : Nat) =>
 S.lit [tl (0 + al)] (0 : Int) j)))
 j)),
 Col.int IntKind.i64 fun (j : Nat) =>
 Prod.snd
 (Prod.snd
 (S.at'
 (Prod.fst
 (Prod.snd
 (S.histS nr (fun (j : Nat) => tr (j + ar)) (fun (j : Nat) => vr (j + ar))
 (fun (j : Nat) => gr (j + ar)) no (fun (j : Nat) => to (j + ao)) (1) fun (j : Nat) =>
 S.lit [tl (0 + al)] (0 : Int) j)))
 j))])]]) (11))
 (False)))
 (False))
 (False))
 (False))
 (test (decide
 (ar + nr ≤ mr ∧
 nr ≤ 1000000 ∧
 ao + no ≤ mo ∧
 no ≤ 1000000 ∧
 0 + List.length x0 ≤ List.length x0 ∧
 List.length x0 ≤ 1000000 ∧
 0 + List.length x1 ≤ List.length x1 ∧ List.length x1 ≤ 1000000))
 (test (decide
 ((S.mkl nr fun (j : Nat) => (tr (j + ar), vr (j + ar), gr (j + ar))) =
 S.mkl (List.length x0) fun (j : Nat) =>
 ((S.at' x0 j).1, (S.at' x0 j).2.1,
 (S.at' x0 j).2.2)) &&
 decide
 ((S.mkl no fun (j : Nat) => to (j + ao)) = S.mkl (List.length x1) fun (j : Nat) => S.at' x1 j))
 (Kret (PV.tf true) ([[(2, false, Blk.cols ml [Col.int IntKind.i64 tl]),
 (1, false, Blk.cols mo [Col.bool to]),
 (0, false,
 Blk.cols mr
 [Col.int IntKind.i64 tr, Col.int IntKind.i64 vr, Col.int IntKind.i64 gr])]]) (9))
 (test ((↑nl : Int) == (0 : Int))
 (test (decide
 (ar + nr ≤ mr ∧
 nr ≤ 1000000 ∧
 ao + no ≤ mo ∧
 no ≤ 1000000 ∧
 0 + List.length x0 ≤ List.length x0 ∧
 List.length x0 ≤ 1000000 ∧
 0 + List.length x1 ≤ List.length x1 ∧ List.length x1 ≤ 1000000))
 (test (decide
 ((S.mkl nr fun (j : Nat) => (tr (j + ar), vr (j + ar), gr (j + ar))) =
 S.mkl (List.length x0) fun (j : Nat) =>
 ((S.at' x0 j).1, (S.at' x0 j).2.1,
 (S.at' x0 j).2.2)) &&
 decide
 ((S.mkl no fun (j : Nat) => to (j + ao)) = S.mkl (List.length x1) fun (j : Nat) => S.at' x1 j))
 (Kret (PV.tf true) ([[(2, false, Blk.cols ml [Col.int IntKind.i64 tl]),
 (1, false, Blk.cols mo [Col.bool to]),
 (0, false,
 Blk.cols mr
 [Col.int IntKind.i64 tr, Col.int IntKind.i64 vr, Col.int IntKind.i64 gr])]]) (10))
 (Kret (PV.tf false) ([[(2, false, Blk.cols ml [Col.int IntKind.i64 tl]),
 (1, false, Blk.cols mo [Col.bool to]),
 (0, false,
 Blk.cols mr
 [Col.int IntKind.i64 tr, Col.int IntKind.i64 vr, Col.int IntKind.i64 gr])]]) (10)))
 (False))
 (Kret (PV.tf false) ([[(2, false, Blk.cols ml [Col.int IntKind.i64 tl]),
 (1, false, Blk.cols mo [Col.bool to]),
 (0, false,
 Blk.cols mr
 [Col.int IntKind.i64 tr, Col.int IntKind.i64 vr, Col.int IntKind.i64 gr])]]) (9))))
 (False))
set_option maxRecDepth 100000 in
theorem t4_0 (test : Bool → Prop → Prop → Prop) (Kst : KS) (Kret : KR) (ar nr mr : Nat) (tr : Nat → Int) (vr : Nat → Int) (gr : Nat → Int) (ao no mo : Nat) (to : Nat → Bool) (al nl ml : Nat) (tl : Nat → Int) (x0 : List (Int × Int × Int)) (x1 : List Bool) : run test Try.env true (yC4 test) true 400 ⟨4, hd Try.f4 0, zipT [1, 2, 5, 9, 71, 72, 73] [PV.loose (PA.mk (2) (1) al (0)) nl,
 PV.ptr (PA.mk (3) (0) (0) (0)),
 PV.ptr (PA.mk (4) (0) (0) (0)),
 PV.ptr (PA.mk (7) (0) (0) (0)),
 PV.loose (PA.mk (2) (1) al (0)) nl, PV.int IntKind.i64 (↑nl : Int),
 PV.int IntKind.i64 (0 : Int)], [[(3, (true, Blk.cells
 [PV.loose (PA.mk (0) (3) ar (0)) nr,
 PV.loose (PA.mk (1) (1) ao (0)) no])), (4, (true, Blk.cells
 [PV.own (5) (3) (List.length x0), PV.own (6) (1) (List.length x1)])), (5, (true, Blk.cols (List.length x0)
 [Col.int IntKind.i64 fun (j : Nat) => (S.at' x0 j).1,
 Col.int IntKind.i64 fun (j : Nat) => (S.at' x0 j).2.1,
 Col.int IntKind.i64 fun (j : Nat) => (S.at' x0 j).2.2])), (6, (true, Blk.cols (List.length x1) [Col.bool fun (j : Nat) => S.at' x1 j])), (7, (true, Blk.cells
 [PV.loose (PA.mk (0) (3) ar (0)) nr,
 PV.loose (PA.mk (1) (1) ao (0)) no]))], [(0, (false, .cols mr [.int .i64 tr, .int .i64 vr, .int .i64 gr])), (1, (false, .cols mo [.bool to])), (2, (false, .cols ml [.int .i64 tl]))]], 8⟩ (proj 3 [1, 2, 5, 9, 71, 72, 73] Kst Kret) =
  T4_0 test Kst Kret ar nr mr tr vr gr ao no mo to al nl ml tl x0 x1 := by kernel_rfl
noncomputable def T4_1 (test : Bool → Prop → Prop → Prop) (Kst : KS) (Kret : KR) (ar nr mr : Nat) (tr : Nat → Int) (vr : Nat → Int) (gr : Nat → Int) (ao no mo : Nat) (to : Nat → Bool) (al nl ml : Nat) (tl : Nat → Int) (x0 : Int) (x1 : List (Int × Int × Int)) (x2 : List Bool) (x3 : List (Int × Int × Int)) (x4 : List Bool) : Prop :=
  test (decide (x0 < (↑nl : Int)))
 (test (decide ((0 : Int) ≤ x0 ∧ x0 < (↑nl : Int)))
 (test (decide (Int.toNat x0 + al < ml))
 (test (decide
 (0 + List.length x3 ≤ List.length x3 ∧
 List.length x3 ≤ 1000000 ∧ 0 + List.length x4 ≤ List.length x4 ∧ List.length x4 ≤ 1000000))
 (test (Prod.fst
 (S.histS (List.length x3) (fun (j : Nat) => (S.at' x3 j).1)
 (fun (j : Nat) => (S.at' x3 j).2.1)
 (fun (j : Nat) => (S.at' x3 j).2.2) (List.length x4) (fun (j : Nat) => S.at' x4 j)
 (1) fun (j : Nat) => S.lit [tl (Int.toNat x0 + al)] (0 : Int) j) !=
 (0 : Int))
 (Kret (PV.tf false) ([[(2, false, Blk.cols ml [Col.int IntKind.i64 tl]),
 (1, false, Blk.cols mo [Col.bool to]),
 (0, false,
 Blk.cols mr
 [Col.int IntKind.i64 tr, Col.int IntKind.i64 vr, Col.int IntKind.i64 gr])]]) (13))
 (test (lim IntKind.i64 (x0 + (1 : Int)))
 (Kst (hd Try.f4 0) ([PV.loose (PA.mk (2) (1) al (0)) nl,
 PV.ptr (PA.mk (3) (0) (0) (0)),
 PV.ptr (PA.mk (4) (0) (0) (0)),
 PV.ptr (PA.mk (7) (0) (0) (0)),
 PV.loose (PA.mk (2) (1) al (0)) nl, PV.int IntKind.i64 (↑nl : Int),
 PV.int IntKind.i64 (x0 + (1 : Int))]) ([[(2, false, Blk.cols ml [Col.int IntKind.i64 tl]),
 (1, false, Blk.cols mo [Col.bool to]),
 (0, false,
 Blk.cols mr
 [Col.int IntKind.i64 tr, Col.int IntKind.i64 vr, Col.int IntKind.i64 gr]),
 (7, true,
 Blk.cells
 [PV.own (11) (3)
 (List.length
 (Prod.fst
 (Prod.snd
 (S.histS (List.length x3) (fun (j : Nat) => (S.at' x3 j).1)
 (fun (j : Nat) => (S.at' x3 j).2.1)
 (fun (j : Nat) => (S.at' x3 j).2.2) (List.length x4)
 (fun (j : Nat) => S.at' x4 j) (1) fun (j : Nat) =>
 S.lit [tl (Int.toNat x0 + al)] (0 : Int) j)))),
 PV.own (12) (1)
 (List.length
 (Prod.snd
 (Prod.snd
 (S.histS (List.length x3) (fun (j : Nat) => (S.at' x3 j).1)
 (fun (j : Nat) => (S.at' x3 j).2.1)
 (fun (j : Nat) => (S.at' x3 j).2.2) (List.length x4)
 (fun (j : Nat) => S.at' x4 j) (1) fun (j : Nat) =>
 S.lit [tl (Int.toNat x0 + al)] (0 : Int) j))))]),
 (4, true,
 Blk.cells
 [PV.own (5) (3) (List.length x1), PV.own (6) (1) (List.length x2)]),
 (3, true,
 Blk.cells
 [PV.loose (PA.mk (0) (3) ar (0)) nr,
 PV.loose (PA.mk (1) (1) ao (0)) no]),
 (6, true, Blk.cols (List.length x2) [Col.bool fun (j : Nat) => S.at' x2 j]),
 (5, true,
 Blk.cols (List.length x1)
 [Col.int IntKind.i64 fun (j : Nat) => (S.at' x1 j).1,
 Col.int IntKind.i64 fun (j : Nat) => (S.at' x1 j).2.1,
 Col.int IntKind.i64 fun (j : Nat) => (S.at' x1 j).2.2]),
 (12, true,
 Blk.cols
 (List.length
 (Prod.snd
 (Prod.snd
 (S.histS (List.length x3) (fun (j : Nat) => (S.at' x3 j).1)
 (fun (j : Nat) => (S.at' x3 j).2.1)
 (fun (j : Nat) => (S.at' x3 j).2.2) (List.length x4)
 (fun (j : Nat) => S.at' x4 j) (1) fun (j : Nat) =>
 S.lit [tl (Int.toNat x0 + al)] (0 : Int) j))))
 [Col.bool fun (j : Nat) =>
 S.at'
 (Prod.snd
 (Prod.snd
 (S.histS (List.length x3) (fun (j : Nat) => (S.at' x3 j).1)
 (fun (j : Nat) => (S.at' x3 j).2.1)
 (fun (j : Nat) => (S.at' x3 j).2.2) (List.length x4)
 (fun (j : Nat) => S.at' x4 j) (1) fun (j : Nat) =>
 S.lit [tl (Int.toNat x0 + al)] (0 : Int) j)))
 j]),
 (11, true,
 Blk.cols
 (List.length
 (Prod.fst
 (Prod.snd
 (S.histS (List.length x3) (fun (j : Nat) => (S.at' x3 j).1)
 (fun (j : Nat) => (S.at' x3 j).2.1)
 (fun (j : Nat) => (S.at' x3 j).2.2) (List.length x4)
 (fun (j : Nat) => S.at' x4 j) (1) fun (j : Nat) =>
 S.lit [tl (Int.toNat x0 + al)] (0 : Int) j))))
 [Col.int IntKind.i64 fun (j : Nat) =>
 Prod.fst
 (S.at'
 (Prod.fst
 (Prod.snd
 (S.histS (List.length x3) (fun (j : Nat) => (S.at' x3 j).1)
 (fun (j : Nat) => (S.at' x3 j).2.1)
 (fun (j : Nat) => (S.at' x3 j).2.2) (List.length x4)
 (fun (j : Nat) => S.at' x4 j) (1) fun (j : Nat) =>
 S.lit [tl (Int.toNat x0 + al)] (0 : Int) j)))
 j),
 Col.int IntKind.i64 fun (j : Nat) =>
 Prod.fst
 (Prod.snd
 (S.at'
 (Prod.fst
 (Prod.snd
 (S.histS (List.length x3) (fun (j : Nat) => (S.at' x3 j).1)
 (fun (j : Nat) => (S.at' x3 j).2.1)
 (fun (j : Nat) => (S.at' x3 j).2.2) (List.length x4)
 (fun (j : Nat) => S.at' x4 j) (1) fun (j : Nat) =>
 S.lit [tl (Int.toNat x0 + al)] (0 : Int) j)))
 j)),
 Col.int IntKind.i64 fun (j : Nat) =>
 Prod.snd
 (Prod.snd
 (S.at'
 (Prod.fst
 (Prod.snd
 (S.histS (List.length x3) (fun (j : Nat) => (S.at' x3 j).1)
 (fun (j : Nat) => (S.at' x3 j).2.1)
 (fun (j : Nat) => (S.at' x3 j).2.2) (List.length x4)
 (fun (j : Nat) => S.at' x4 j) (1) fun (j : Nat) =>
 S.lit [tl (Int.toNat x0 + al)] (0 : Int) j)))
 j))])]]) (13))
 (False)))
 (False))
 (False))
 (False))
 (test (decide
 (0 + List.length x3 ≤ List.length x3 ∧
 List.length x3 ≤ 1000000 ∧
 0 + List.length x4 ≤ List.length x4 ∧
 List.length x4 ≤ 1000000 ∧
 0 + List.length x1 ≤ List.length x1 ∧
 List.length x1 ≤ 1000000 ∧
 0 + List.length x2 ≤ List.length x2 ∧ List.length x2 ≤ 1000000))
 (test (decide
 ((S.mkl (List.length x3) fun (j : Nat) =>
 ((S.at' x3 j).1, (S.at' x3 j).2.1, (S.at' x3 j).2.2)) =
 S.mkl (List.length x1) fun (j : Nat) =>
 ((S.at' x1 j).1, (S.at' x1 j).2.1,
 (S.at' x1 j).2.2)) &&
 decide
 ((S.mkl (List.length x4) fun (j : Nat) => S.at' x4 j) =
 S.mkl (List.length x2) fun (j : Nat) => S.at' x2 j))
 (Kret (PV.tf true) ([[(2, false, Blk.cols ml [Col.int IntKind.i64 tl]),
 (1, false, Blk.cols mo [Col.bool to]),
 (0, false,
 Blk.cols mr
 [Col.int IntKind.i64 tr, Col.int IntKind.i64 vr, Col.int IntKind.i64 gr])]]) (11))
 (test ((↑nl : Int) == (0 : Int))
 (test (decide
 (ar + nr ≤ mr ∧
 nr ≤ 1000000 ∧
 ao + no ≤ mo ∧
 no ≤ 1000000 ∧
 0 + List.length x1 ≤ List.length x1 ∧
 List.length x1 ≤ 1000000 ∧
 0 + List.length x2 ≤ List.length x2 ∧ List.length x2 ≤ 1000000))
 (test (decide
 ((S.mkl nr fun (j : Nat) => (tr (j + ar), vr (j + ar), gr (j + ar))) =
 S.mkl (List.length x1) fun (j : Nat) =>
 ((S.at' x1 j).1, (S.at' x1 j).2.1,
 (S.at' x1 j).2.2)) &&
 decide
 ((S.mkl no fun (j : Nat) => to (j + ao)) = S.mkl (List.length x2) fun (j : Nat) => S.at' x2 j))
 (Kret (PV.tf true) ([[(2, false, Blk.cols ml [Col.int IntKind.i64 tl]),
 (1, false, Blk.cols mo [Col.bool to]),
 (0, false,
 Blk.cols mr
 [Col.int IntKind.i64 tr, Col.int IntKind.i64 vr, Col.int IntKind.i64 gr])]]) (12))
 (Kret (PV.tf false) ([[(2, false, Blk.cols ml [Col.int IntKind.i64 tl]),
 (1, false, Blk.cols mo [Col.bool to]),
 (0, false,
 Blk.cols mr
 [Col.int IntKind.i64 tr, Col.int IntKind.i64 vr, Col.int IntKind.i64 gr])]]) (12)))
 (False))
 (Kret (PV.tf false) ([[(2, false, Blk.cols ml [Col.int IntKind.i64 tl]),
 (1, false, Blk.cols mo [Col.bool to]),
 (0, false,
 Blk.cols mr
 [Col.int IntKind.i64 tr, Col.int IntKind.i64 vr, Col.int IntKind.i64 gr])]]) (11))))
 (False))
set_option maxRecDepth 100000 in
theorem t4_1 (test : Bool → Prop → Prop → Prop) (Kst : KS) (Kret : KR) (ar nr mr : Nat) (tr : Nat → Int) (vr : Nat → Int) (gr : Nat → Int) (ao no mo : Nat) (to : Nat → Bool) (al nl ml : Nat) (tl : Nat → Int) (x0 : Int) (x1 : List (Int × Int × Int)) (x2 : List Bool) (x3 : List (Int × Int × Int)) (x4 : List Bool) : run test Try.env true (yC4 test) true 400 ⟨4, hd Try.f4 0, zipT [1, 2, 5, 9, 71, 72, 73] [PV.loose (PA.mk (2) (1) al (0)) nl,
 PV.ptr (PA.mk (3) (0) (0) (0)),
 PV.ptr (PA.mk (4) (0) (0) (0)),
 PV.ptr (PA.mk (7) (0) (0) (0)),
 PV.loose (PA.mk (2) (1) al (0)) nl, PV.int IntKind.i64 (↑nl : Int),
 PV.int IntKind.i64 x0], [[(3, (true, Blk.cells
 [PV.loose (PA.mk (0) (3) ar (0)) nr,
 PV.loose (PA.mk (1) (1) ao (0)) no])), (4, (true, Blk.cells
 [PV.own (5) (3) (List.length x1), PV.own (6) (1) (List.length x2)])), (5, (true, Blk.cols (List.length x1)
 [Col.int IntKind.i64 fun (j : Nat) => (S.at' x1 j).1,
 Col.int IntKind.i64 fun (j : Nat) => (S.at' x1 j).2.1,
 Col.int IntKind.i64 fun (j : Nat) => (S.at' x1 j).2.2])), (6, (true, Blk.cols (List.length x2) [Col.bool fun (j : Nat) => S.at' x2 j])), (7, (true, Blk.cells
 [PV.own (8) (3) (List.length x3), PV.own (9) (1) (List.length x4)])), (8, (true, Blk.cols (List.length x3)
 [Col.int IntKind.i64 fun (j : Nat) => (S.at' x3 j).1,
 Col.int IntKind.i64 fun (j : Nat) => (S.at' x3 j).2.1,
 Col.int IntKind.i64 fun (j : Nat) => (S.at' x3 j).2.2])), (9, (true, Blk.cols (List.length x4) [Col.bool fun (j : Nat) => S.at' x4 j]))], [(0, (false, .cols mr [.int .i64 tr, .int .i64 vr, .int .i64 gr])), (1, (false, .cols mo [.bool to])), (2, (false, .cols ml [.int .i64 tl]))]], 10⟩ (proj 3 [1, 2, 5, 9, 71, 72, 73] Kst Kret) =
  T4_1 test Kst Kret ar nr mr tr vr gr ao no mo to al nl ml tl x0 x1 x2 x3 x4 := by kernel_rfl
set_option maxRecDepth 100000 in
theorem be4 (ar nr mr : Nat) (tr : Nat → Int) (vr : Nat → Int) (gr : Nat → Int) (ao no mo : Nat) (to : Nat → Bool) (al nl ml : Nat) (tl : Nat → Int) (Kst : KS) (Kret : KR) (x : St4 ⊕ Rt4) (hS : HS 3 400 ((I4 ar nr mr tr vr gr ao no mo to al nl ml tl)) Kst x) (hR : HR 3 400 ((V4 ar nr mr tr vr gr ao no mo to al nl ml tl)) (fun r => [newL (3 + 1) ((N4 ar nr mr tr vr gr ao no mo to al nl ml tl) r) ++ [(0, (false, .cols mr [.int .i64 tr, .int .i64 vr, .int .i64 gr])), (1, (false, .cols mo [.bool to])), (2, (false, .cols ml [.int .i64 tl]))]]) Kret x) (h : (bif (decide ((↑nr : Int) ≤ (45 : Int)))
 then (bif (decide ((↑no : Int) ≤ (50 : Int)))
 then (bif (decide ((↑nl : Int) > (60 : Int)))
 then (bif (decide ((↑nl : Int) ≤ (1000 : Int)))
 then (some (.inr (true)))
 else (bif (decide ((↑nl : Int) > (1010 : Int)))
 then (some (.inr (true)))
 else (bif (decide (ar + nr ≤ mr ∧ nr ≤ 1000000))
 then (bif (decide (ao + no ≤ mo ∧ no ≤ 1000000))
 then (bif (decide (al + nl ≤ ml ∧ nl ≤ 1000000))
 then (bif (decide
 (0 + nr ≤ nr ∧
 nr ≤ 1000000 ∧ 0 + no ≤ no ∧ no ≤ 1000000 ∧ 0 + nl ≤ nl ∧ nl ≤ 1000000))
 then (bif (decide
 (ar + nr ≤ mr ∧ nr ≤ 1000000 ∧ ao + no ≤ mo ∧ no ≤ 1000000 ∧ al + nl ≤ ml ∧ nl ≤ 1000000))
 then (bif (Prod.fst
 (S.histS nr (fun (j : Nat) => tr (j + ar)) (fun (j : Nat) => vr (j + ar)) (fun (j : Nat) => gr (j + ar)) no
 (fun (j : Nat) => to (j + ao)) nl fun (j : Nat) => tl (j + al)) !=
 Prod.fst
 (S.histS nr (fun (j : Nat) => tr (j + ar)) (fun (j : Nat) => vr (j + ar)) (fun (j : Nat) => gr (j + ar)) no
 (fun (j : Nat) => to (j + ao)) nl fun (j : Nat) => tl (j + al)))
 then (bif (Prod.fst
 (S.histS nr (fun (j : Nat) => tr (j + ar)) (fun (j : Nat) => vr (j + ar)) (fun (j : Nat) => gr (j + ar)) no
 (fun (j : Nat) => to (j + ao)) nl fun (j : Nat) => tl (j + al)) ==
 Prod.fst
 (S.histS nr (fun (j : Nat) => tr (j + ar)) (fun (j : Nat) => vr (j + ar)) (fun (j : Nat) => gr (j + ar)) no
 (fun (j : Nat) => to (j + ao)) nl fun (j : Nat) => tl (j + al)))
 then (bif (decide
 (0 +
 List.length
 (Prod.fst
 (Prod.snd
 (S.histS nr (fun (j : Nat) => tr (j + ar)) (fun (j : Nat) => vr (j + ar))
 (fun (j : Nat) => gr (j + ar)) no (fun (j : Nat) => to (j + ao)) nl fun (j : Nat) => tl (j + al)))) ≤
 List.length
 (Prod.fst
 (Prod.snd
 (S.histS nr (fun (j : Nat) => tr (j + ar)) (fun (j : Nat) => vr (j + ar))
 (fun (j : Nat) => gr (j + ar)) no (fun (j : Nat) => to (j + ao)) nl fun (j : Nat) => tl (j + al)))) ∧
 List.length
 (Prod.fst
 (Prod.snd
 (S.histS nr (fun (j : Nat) => tr (j + ar)) (fun (j : Nat) => vr (j + ar))
 (fun (j : Nat) => gr (j + ar)) no (fun (j : Nat) => to (j + ao)) nl fun (j : Nat) => tl (j + al)))) ≤
 1000000 ∧
 0 +
 List.length
 (Prod.snd
 (Prod.snd
 (S.histS nr (fun (j : Nat) => tr (j + ar)) (fun (j : Nat) => vr (j + ar))
 (fun (j : Nat) => gr (j + ar)) no (fun (j : Nat) => to (j + ao)) nl fun (j : Nat) =>
 tl (j + al)))) ≤
 List.length
 (Prod.snd
 (Prod.snd
 (S.histS nr (fun (j : Nat) => tr (j + ar)) (fun (j : Nat) => vr (j + ar))
 (fun (j : Nat) => gr (j + ar)) no (fun (j : Nat) => to (j + ao)) nl fun (j : Nat) => tl (j + al)))) ∧
 List.length
 (Prod.snd
 (Prod.snd
 (S.histS nr (fun (j : Nat) => tr (j + ar)) (fun (j : Nat) => vr (j + ar))
 (fun (j : Nat) => gr (j + ar)) no (fun (j : Nat) => to (j + ao)) nl fun (j : Nat) =>
 tl (j + al)))) ≤
 1000000 ∧
 0 +
 List.length
 (Prod.fst
 (Prod.snd
 (S.histS nr (fun (j : Nat) => tr (j + ar)) (fun (j : Nat) => vr (j + ar))
 (fun (j : Nat) => gr (j + ar)) no (fun (j : Nat) => to (j + ao)) nl fun (j : Nat) =>
 tl (j + al)))) ≤
 List.length
 (Prod.fst
 (Prod.snd
 (S.histS nr (fun (j : Nat) => tr (j + ar)) (fun (j : Nat) => vr (j + ar))
 (fun (j : Nat) => gr (j + ar)) no (fun (j : Nat) => to (j + ao)) nl fun (j : Nat) =>
 tl (j + al)))) ∧
 List.length
 (Prod.fst
 (Prod.snd
 (S.histS nr (fun (j : Nat) => tr (j + ar)) (fun (j : Nat) => vr (j + ar))
 (fun (j : Nat) => gr (j + ar)) no (fun (j : Nat) => to (j + ao)) nl fun (j : Nat) =>
 tl (j + al)))) ≤
 1000000 ∧
 0 +
 List.length
 (Prod.snd
 (Prod.snd
 (S.histS nr (fun (j : Nat) => tr (j + ar)) (fun (j : Nat) => vr (j + ar))
 (fun (j : Nat) => gr (j + ar)) no (fun (j : Nat) => to (j + ao)) nl fun (j : Nat) =>
 tl (j + al)))) ≤
 List.length
 (Prod.snd
 (Prod.snd
 (S.histS nr (fun (j : Nat) => tr (j + ar)) (fun (j : Nat) => vr (j + ar))
 (fun (j : Nat) => gr (j + ar)) no (fun (j : Nat) => to (j + ao)) nl fun (j : Nat) =>
 tl (j + al)))) ∧
 List.length
 (Prod.snd
 (Prod.snd
 (S.histS nr (fun (j : Nat) => tr (j + ar)) (fun (j : Nat) => vr (j + ar))
 (fun (j : Nat) => gr (j + ar)) no (fun (j : Nat) => to (j + ao)) nl fun (j : Nat) =>
 tl (j + al)))) ≤
 1000000))
 then (bif (decide
 ((S.mkl
 (List.length
 (Prod.fst
 (Prod.snd
 (S.histS nr (fun (j : Nat) => tr (j + ar)) (fun (j : Nat) => vr (j + ar))
 (fun (j : Nat) => gr (j + ar)) no (fun (j : Nat) => to (j + ao)) nl fun (j : Nat) => tl (j + al)))))
 fun (j : Nat) =>
 (Prod.fst
 (S.at'
 (Prod.fst
 (Prod.snd
 (S.histS nr (fun (j : Nat) => tr (j + ar)) (fun (j : Nat) => vr (j + ar))
 (fun (j : Nat) => gr (j + ar)) no (fun (j : Nat) => to (j + ao)) nl fun (j : Nat) => tl (j + al))))
 j),
 Prod.fst
 (Prod.snd
 (S.at'
 (Prod.fst
 (Prod.snd
 (S.histS nr (fun (j : Nat) => tr (j + ar)) (fun (j : Nat) => vr (j + ar))
 (fun (j : Nat) => gr (j + ar)) no (fun (j : Nat) => to (j + ao)) nl fun (j : Nat) =>
 tl (j + al))))
 j)),
 Prod.snd
 (Prod.snd
 (S.at'
 (Prod.fst
 (Prod.snd
 (S.histS nr (fun (j : Nat) => tr (j + ar)) (fun (j : Nat) => vr (j + ar))
 (fun (j : Nat) => gr (j + ar)) no (fun (j : Nat) => to (j + ao)) nl fun (j : Nat) =>
 tl (j + al))))
 j)))) =
 S.mkl
 (List.length
 (Prod.fst
 (Prod.snd
 (S.histS nr (fun (j : Nat) => tr (j + ar)) (fun (j : Nat) => vr (j + ar))
 (fun (j : Nat) => gr (j + ar)) no (fun (j : Nat) => to (j + ao)) nl fun (j : Nat) => tl (j + al)))))
 fun (j : Nat) =>
 (Prod.fst
 (S.at'
 (Prod.fst
 (Prod.snd
 (S.histS nr (fun (j : Nat) => tr (j + ar)) (fun (j : Nat) => vr (j + ar))
 (fun (j : Nat) => gr (j + ar)) no (fun (j : Nat) => to (j + ao)) nl fun (j : Nat) => tl (j + al))))
 j),
 Prod.fst
 (Prod.snd
 (S.at'
 (Prod.fst
 (Prod.snd
 (S.histS nr (fun (j : Nat) => tr (j + ar)) (fun (j : Nat) => vr (j + ar))
 (fun (j : Nat) => gr (j + ar)) no (fun (j : Nat) => to (j + ao)) nl fun (j : Nat) =>
 tl (j + al))))
 j)),
 Prod.snd
 (Prod.snd
 (S.at'
 (Prod.fst
 (Prod.snd
 (S.histS nr (fun (j : Nat) => tr (j + ar)) (fun (j : Nat) => vr (j + ar))
 (fun (j : Nat) => gr (j + ar)) no (fun (j : Nat) => to (j + ao)) nl fun (j : Nat) =>
 tl (j + al))))
 j)))) &&
 decide
 ((S.mkl
 (List.length
 (Prod.snd
 (Prod.snd
 (S.histS nr (fun (j : Nat) => tr (j + ar)) (fun (j : Nat) => vr (j + ar))
 (fun (j : Nat) => gr (j + ar)) no (fun (j : Nat) => to (j + ao)) nl fun (j : Nat) => tl (j + al)))))
 fun (j : Nat) =>
 S.at'
 (Prod.snd
 (Prod.snd
 (S.histS nr (fun (j : Nat) => tr (j + ar)) (fun (j : Nat) => vr (j + ar))
 (fun (j : Nat) => gr (j + ar)) no (fun (j : Nat) => to (j + ao)) nl fun (j : Nat) => tl (j + al))))
 j) =
 S.mkl
 (List.length
 (Prod.snd
 (Prod.snd
 (S.histS nr (fun (j : Nat) => tr (j + ar)) (fun (j : Nat) => vr (j + ar))
 (fun (j : Nat) => gr (j + ar)) no (fun (j : Nat) => to (j + ao)) nl fun (j : Nat) => tl (j + al)))))
 fun (j : Nat) =>
 S.at'
 (Prod.snd
 (Prod.snd
 (S.histS nr (fun (j : Nat) => tr (j + ar)) (fun (j : Nat) => vr (j + ar))
 (fun (j : Nat) => gr (j + ar)) no (fun (j : Nat) => to (j + ao)) nl fun (j : Nat) => tl (j + al))))
 j))
 then (some (.inr (true)))
 else (some (.inr (false))))
 else (none))
 else (some (.inr (false))))
 else (bif (decide
 (0 +
 List.length
 (Prod.fst
 (Prod.snd
 (S.histS nr (fun (j : Nat) => tr (j + ar)) (fun (j : Nat) => vr (j + ar))
 (fun (j : Nat) => gr (j + ar)) no (fun (j : Nat) => to (j + ao)) nl fun (j : Nat) => tl (j + al)))) ≤
 List.length
 (Prod.fst
 (Prod.snd
 (S.histS nr (fun (j : Nat) => tr (j + ar)) (fun (j : Nat) => vr (j + ar))
 (fun (j : Nat) => gr (j + ar)) no (fun (j : Nat) => to (j + ao)) nl fun (j : Nat) => tl (j + al)))) ∧
 List.length
 (Prod.fst
 (Prod.snd
 (S.histS nr (fun (j : Nat) => tr (j + ar)) (fun (j : Nat) => vr (j + ar))
 (fun (j : Nat) => gr (j + ar)) no (fun (j : Nat) => to (j + ao)) nl fun (j : Nat) => tl (j + al)))) ≤
 1000000 ∧
 0 +
 List.length
 (Prod.snd
 (Prod.snd
 (S.histS nr (fun (j : Nat) => tr (j + ar)) (fun (j : Nat) => vr (j + ar))
 (fun (j : Nat) => gr (j + ar)) no (fun (j : Nat) => to (j + ao)) nl fun (j : Nat) =>
 tl (j + al)))) ≤
 List.length
 (Prod.snd
 (Prod.snd
 (S.histS nr (fun (j : Nat) => tr (j + ar)) (fun (j : Nat) => vr (j + ar))
 (fun (j : Nat) => gr (j + ar)) no (fun (j : Nat) => to (j + ao)) nl fun (j : Nat) => tl (j + al)))) ∧
 List.length
 (Prod.snd
 (Prod.snd
 (S.histS nr (fun (j : Nat) => tr (j + ar)) (fun (j : Nat) => vr (j + ar))
 (fun (j : Nat) => gr (j + ar)) no (fun (j : Nat) => to (j + ao)) nl fun (j : Nat) =>
 tl (j + al)))) ≤
 1000000 ∧
 0 +
 List.length
 (Prod.fst
 (Prod.snd
 (S.histS nr (fun (j : Nat) => tr (j + ar)) (fun (j : Nat) => vr (j + ar))
 (fun (j : Nat) => gr (j + ar)) no (fun (j : Nat) => to (j + ao)) nl fun (j : Nat) =>
 tl (j + al)))) ≤
 List.length
 (Prod.fst
 (Prod.snd
 (S.histS nr (fun (j : Nat) => tr (j + ar)) (fun (j : Nat) => vr (j + ar))
 (fun (j : Nat) => gr (j + ar)) no (fun (j : Nat) => to (j + ao)) nl fun (j : Nat) =>
 tl (j + al)))) ∧
 List.length
 (Prod.fst
 (Prod.snd
 (S.histS nr (fun (j : Nat) => tr (j + ar)) (fun (j : Nat) => vr (j + ar))
 (fun (j : Nat) => gr (j + ar)) no (fun (j : Nat) => to (j + ao)) nl fun (j : Nat) =>
 tl (j + al)))) ≤
 1000000 ∧
 0 +
 List.length
 (Prod.snd
 (Prod.snd
 (S.histS nr (fun (j : Nat) => tr (j + ar)) (fun (j : Nat) => vr (j + ar))
 (fun (j : Nat) => gr (j + ar)) no (fun (j : Nat) => to (j + ao)) nl fun (j : Nat) =>
 tl (j + al)))) ≤
 List.length
 (Prod.snd
 (Prod.snd
 (S.histS nr (fun (j : Nat) => tr (j + ar)) (fun (j : Nat) => vr (j + ar))
 (fun (j : Nat) => gr (j + ar)) no (fun (j : Nat) => to (j + ao)) nl fun (j : Nat) =>
 tl (j + al)))) ∧
 List.length
 (Prod.snd
 (Prod.snd
 (S.histS nr (fun (j : Nat) => tr (j + ar)) (fun (j : Nat) => vr (j + ar))
 (fun (j : Nat) => gr (j + ar)) no (fun (j : Nat) => to (j + ao)) nl fun (j : Nat) =>
 tl (j + al)))) ≤
 1000000))
 then (bif (decide
 ((S.mkl
 (List.length
 (Prod.fst
 (Prod.snd
 (S.histS nr (fun (j : Nat) => tr (j + ar)) (fun (j : Nat) => vr (j + ar))
 (fun (j : Nat) => gr (j + ar)) no (fun (j : Nat) => to (j + ao)) nl fun (j : Nat) => tl (j + al)))))
 fun (j : Nat) =>
 (Prod.fst
 (S.at'
 (Prod.fst
 (Prod.snd
 (S.histS nr (fun (j : Nat) => tr (j + ar)) (fun (j : Nat) => vr (j + ar))
 (fun (j : Nat) => gr (j + ar)) no (fun (j : Nat) => to (j + ao)) nl fun (j : Nat) => tl (j + al))))
 j),
 Prod.fst
 (Prod.snd
 (S.at'
 (Prod.fst
 (Prod.snd
 (S.histS nr (fun (j : Nat) => tr (j + ar)) (fun (j : Nat) => vr (j + ar))
 (fun (j : Nat) => gr (j + ar)) no (fun (j : Nat) => to (j + ao)) nl fun (j : Nat) =>
 tl (j + al))))
 j)),
 Prod.snd
 (Prod.snd
 (S.at'
 (Prod.fst
 (Prod.snd
 (S.histS nr (fun (j : Nat) => tr (j + ar)) (fun (j : Nat) => vr (j + ar))
 (fun (j : Nat) => gr (j + ar)) no (fun (j : Nat) => to (j + ao)) nl fun (j : Nat) =>
 tl (j + al))))
 j)))) =
 S.mkl
 (List.length
 (Prod.fst
 (Prod.snd
 (S.histS nr (fun (j : Nat) => tr (j + ar)) (fun (j : Nat) => vr (j + ar))
 (fun (j : Nat) => gr (j + ar)) no (fun (j : Nat) => to (j + ao)) nl fun (j : Nat) => tl (j + al)))))
 fun (j : Nat) =>
 (Prod.fst
 (S.at'
 (Prod.fst
 (Prod.snd
 (S.histS nr (fun (j : Nat) => tr (j + ar)) (fun (j : Nat) => vr (j + ar))
 (fun (j : Nat) => gr (j + ar)) no (fun (j : Nat) => to (j + ao)) nl fun (j : Nat) => tl (j + al))))
 j),
 Prod.fst
 (Prod.snd
 (S.at'
 (Prod.fst
 (Prod.snd
 (S.histS nr (fun (j : Nat) => tr (j + ar)) (fun (j : Nat) => vr (j + ar))
 (fun (j : Nat) => gr (j + ar)) no (fun (j : Nat) => to (j + ao)) nl fun (j : Nat) =>
 tl (j + al))))
 j)),
 Prod.snd
 (Prod.snd
 (S.at'
 (Prod.fst
 (Prod.snd
 (S.histS nr (fun (j : Nat) => tr (j + ar)) (fun (j : Nat) => vr (j + ar))
 (fun (j : Nat) => gr (j + ar)) no (fun (j : Nat) => to (j + ao)) nl fun (j : Nat) =>
 tl (j + al))))
 j)))) &&
 decide
 ((S.mkl
 (List.length
 (Prod.snd
 (Prod.snd
 (S.histS nr (fun (j : Nat) => tr (j + ar)) (fun (j : Nat) => vr (j + ar))
 (fun (j : Nat) => gr (j + ar)) no (fun (j : Nat) => to (j + ao)) nl fun (j : Nat) => tl (j + al)))))
 fun (j : Nat) =>
 S.at'
 (Prod.snd
 (Prod.snd
 (S.histS nr (fun (j : Nat) => tr (j + ar)) (fun (j : Nat) => vr (j + ar))
 (fun (j : Nat) => gr (j + ar)) no (fun (j : Nat) => to (j + ao)) nl fun (j : Nat) => tl (j + al))))
 j) =
 S.mkl
 (List.length
 (Prod.snd
 (Prod.snd
 (S.histS nr (fun (j : Nat) => tr (j + ar)) (fun (j : Nat) => vr (j + ar))
 (fun (j : Nat) => gr (j + ar)) no (fun (j : Nat) => to (j + ao)) nl fun (j : Nat) => tl (j + al)))))
 fun (j : Nat) =>
 S.at'
 (Prod.snd
 (Prod.snd
 (S.histS nr (fun (j : Nat) => tr (j + ar)) (fun (j : Nat) => vr (j + ar))
 (fun (j : Nat) => gr (j + ar)) no (fun (j : Nat) => to (j + ao)) nl fun (j : Nat) => tl (j + al))))
 j))
 then (bif (Prod.fst
 (S.histS nr (fun (j : Nat) => tr (j + ar)) (fun (j : Nat) => vr (j + ar)) (fun (j : Nat) => gr (j + ar)) no
 (fun (j : Nat) => to (j + ao)) nl fun (j : Nat) => tl (j + al)) !=
 (0 : Int))
 then (bif (Prod.fst
 (S.histS nr (fun (j : Nat) => tr (j + ar)) (fun (j : Nat) => vr (j + ar)) (fun (j : Nat) => gr (j + ar)) no
 (fun (j : Nat) => to (j + ao)) nl fun (j : Nat) => tl (j + al)) ==
 Prod.fst
 (S.histS nr (fun (j : Nat) => tr (j + ar)) (fun (j : Nat) => vr (j + ar)) (fun (j : Nat) => gr (j + ar)) no
 (fun (j : Nat) => to (j + ao)) nl fun (j : Nat) => tl (j + al)))
 then (some (.inr (true)))
 else (some (.inr (false))))
 else (some (.inl (.h0 (Prod.fst
 (Prod.snd
 (S.histS nr (fun (j : Nat) => tr (j + ar)) (fun (j : Nat) => vr (j + ar)) (fun (j : Nat) => gr (j + ar)) no
 (fun (j : Nat) => to (j + ao)) nl fun (j : Nat) => tl (j + al)))) (Prod.snd
 (Prod.snd
 (S.histS nr (fun (j : Nat) => tr (j + ar)) (fun (j : Nat) => vr (j + ar)) (fun (j : Nat) => gr (j + ar)) no
 (fun (j : Nat) => to (j + ao)) nl fun (j : Nat) => tl (j + al))))))))
 else (bif (Prod.fst
 (S.histS nr (fun (j : Nat) => tr (j + ar)) (fun (j : Nat) => vr (j + ar)) (fun (j : Nat) => gr (j + ar)) no
 (fun (j : Nat) => to (j + ao)) nl fun (j : Nat) => tl (j + al)) ==
 Prod.fst
 (S.histS nr (fun (j : Nat) => tr (j + ar)) (fun (j : Nat) => vr (j + ar)) (fun (j : Nat) => gr (j + ar)) no
 (fun (j : Nat) => to (j + ao)) nl fun (j : Nat) => tl (j + al)))
 then (some (.inr (false)))
 else (some (.inr (false)))))
 else (none)))
 else (none))
 else (none))
 else (none))
 else (none))
 else (none))))
 else (bif (decide ((↑nl : Int) > (1010 : Int)))
 then (some (.inr (true)))
 else (bif (decide (ar + nr ≤ mr ∧ nr ≤ 1000000))
 then (bif (decide (ao + no ≤ mo ∧ no ≤ 1000000))
 then (bif (decide (al + nl ≤ ml ∧ nl ≤ 1000000))
 then (bif (decide
 (0 + nr ≤ nr ∧
 nr ≤ 1000000 ∧ 0 + no ≤ no ∧ no ≤ 1000000 ∧ 0 + nl ≤ nl ∧ nl ≤ 1000000))
 then (bif (decide
 (ar + nr ≤ mr ∧ nr ≤ 1000000 ∧ ao + no ≤ mo ∧ no ≤ 1000000 ∧ al + nl ≤ ml ∧ nl ≤ 1000000))
 then (bif (Prod.fst
 (S.histS nr (fun (j : Nat) => tr (j + ar)) (fun (j : Nat) => vr (j + ar)) (fun (j : Nat) => gr (j + ar)) no
 (fun (j : Nat) => to (j + ao)) nl fun (j : Nat) => tl (j + al)) !=
 Prod.fst
 (S.histS nr (fun (j : Nat) => tr (j + ar)) (fun (j : Nat) => vr (j + ar)) (fun (j : Nat) => gr (j + ar)) no
 (fun (j : Nat) => to (j + ao)) nl fun (j : Nat) => tl (j + al)))
 then (bif (Prod.fst
 (S.histS nr (fun (j : Nat) => tr (j + ar)) (fun (j : Nat) => vr (j + ar)) (fun (j : Nat) => gr (j + ar)) no
 (fun (j : Nat) => to (j + ao)) nl fun (j : Nat) => tl (j + al)) ==
 Prod.fst
 (S.histS nr (fun (j : Nat) => tr (j + ar)) (fun (j : Nat) => vr (j + ar)) (fun (j : Nat) => gr (j + ar)) no
 (fun (j : Nat) => to (j + ao)) nl fun (j : Nat) => tl (j + al)))
 then (bif (decide
 (0 +
 List.length
 (Prod.fst
 (Prod.snd
 (S.histS nr (fun (j : Nat) => tr (j + ar)) (fun (j : Nat) => vr (j + ar))
 (fun (j : Nat) => gr (j + ar)) no (fun (j : Nat) => to (j + ao)) nl fun (j : Nat) => tl (j + al)))) ≤
 List.length
 (Prod.fst
 (Prod.snd
 (S.histS nr (fun (j : Nat) => tr (j + ar)) (fun (j : Nat) => vr (j + ar))
 (fun (j : Nat) => gr (j + ar)) no (fun (j : Nat) => to (j + ao)) nl fun (j : Nat) => tl (j + al)))) ∧
 List.length
 (Prod.fst
 (Prod.snd
 (S.histS nr (fun (j : Nat) => tr (j + ar)) (fun (j : Nat) => vr (j + ar))
 (fun (j : Nat) => gr (j + ar)) no (fun (j : Nat) => to (j + ao)) nl fun (j : Nat) => tl (j + al)))) ≤
 1000000 ∧
 0 +
 List.length
 (Prod.snd
 (Prod.snd
 (S.histS nr (fun (j : Nat) => tr (j + ar)) (fun (j : Nat) => vr (j + ar))
 (fun (j : Nat) => gr (j + ar)) no (fun (j : Nat) => to (j + ao)) nl fun (j : Nat) =>
 tl (j + al)))) ≤
 List.length
 (Prod.snd
 (Prod.snd
 (S.histS nr (fun (j : Nat) => tr (j + ar)) (fun (j : Nat) => vr (j + ar))
 (fun (j : Nat) => gr (j + ar)) no (fun (j : Nat) => to (j + ao)) nl fun (j : Nat) => tl (j + al)))) ∧
 List.length
 (Prod.snd
 (Prod.snd
 (S.histS nr (fun (j : Nat) => tr (j + ar)) (fun (j : Nat) => vr (j + ar))
 (fun (j : Nat) => gr (j + ar)) no (fun (j : Nat) => to (j + ao)) nl fun (j : Nat) =>
 tl (j + al)))) ≤
 1000000 ∧
 0 +
 List.length
 (Prod.fst
 (Prod.snd
 (S.histS nr (fun (j : Nat) => tr (j + ar)) (fun (j : Nat) => vr (j + ar))
 (fun (j : Nat) => gr (j + ar)) no (fun (j : Nat) => to (j + ao)) nl fun (j : Nat) =>
 tl (j + al)))) ≤
 List.length
 (Prod.fst
 (Prod.snd
 (S.histS nr (fun (j : Nat) => tr (j + ar)) (fun (j : Nat) => vr (j + ar))
 (fun (j : Nat) => gr (j + ar)) no (fun (j : Nat) => to (j + ao)) nl fun (j : Nat) =>
 tl (j + al)))) ∧
 List.length
 (Prod.fst
 (Prod.snd
 (S.histS nr (fun (j : Nat) => tr (j + ar)) (fun (j : Nat) => vr (j + ar))
 (fun (j : Nat) => gr (j + ar)) no (fun (j : Nat) => to (j + ao)) nl fun (j : Nat) =>
 tl (j + al)))) ≤
 1000000 ∧
 0 +
 List.length
 (Prod.snd
 (Prod.snd
 (S.histS nr (fun (j : Nat) => tr (j + ar)) (fun (j : Nat) => vr (j + ar))
 (fun (j : Nat) => gr (j + ar)) no (fun (j : Nat) => to (j + ao)) nl fun (j : Nat) =>
 tl (j + al)))) ≤
 List.length
 (Prod.snd
 (Prod.snd
 (S.histS nr (fun (j : Nat) => tr (j + ar)) (fun (j : Nat) => vr (j + ar))
 (fun (j : Nat) => gr (j + ar)) no (fun (j : Nat) => to (j + ao)) nl fun (j : Nat) =>
 tl (j + al)))) ∧
 List.length
 (Prod.snd
 (Prod.snd
 (S.histS nr (fun (j : Nat) => tr (j + ar)) (fun (j : Nat) => vr (j + ar))
 (fun (j : Nat) => gr (j + ar)) no (fun (j : Nat) => to (j + ao)) nl fun (j : Nat) =>
 tl (j + al)))) ≤
 1000000))
 then (bif (decide
 ((S.mkl
 (List.length
 (Prod.fst
 (Prod.snd
 (S.histS nr (fun (j : Nat) => tr (j + ar)) (fun (j : Nat) => vr (j + ar))
 (fun (j : Nat) => gr (j + ar)) no (fun (j : Nat) => to (j + ao)) nl fun (j : Nat) => tl (j + al)))))
 fun (j : Nat) =>
 (Prod.fst
 (S.at'
 (Prod.fst
 (Prod.snd
 (S.histS nr (fun (j : Nat) => tr (j + ar)) (fun (j : Nat) => vr (j + ar))
 (fun (j : Nat) => gr (j + ar)) no (fun (j : Nat) => to (j + ao)) nl fun (j : Nat) => tl (j + al))))
 j),
 Prod.fst
 (Prod.snd
 (S.at'
 (Prod.fst
 (Prod.snd
 (S.histS nr (fun (j : Nat) => tr (j + ar)) (fun (j : Nat) => vr (j + ar))
 (fun (j : Nat) => gr (j + ar)) no (fun (j : Nat) => to (j + ao)) nl fun (j : Nat) =>
 tl (j + al))))
 j)),
 Prod.snd
 (Prod.snd
 (S.at'
 (Prod.fst
 (Prod.snd
 (S.histS nr (fun (j : Nat) => tr (j + ar)) (fun (j : Nat) => vr (j + ar))
 (fun (j : Nat) => gr (j + ar)) no (fun (j : Nat) => to (j + ao)) nl fun (j : Nat) =>
 tl (j + al))))
 j)))) =
 S.mkl
 (List.length
 (Prod.fst
 (Prod.snd
 (S.histS nr (fun (j : Nat) => tr (j + ar)) (fun (j : Nat) => vr (j + ar))
 (fun (j : Nat) => gr (j + ar)) no (fun (j : Nat) => to (j + ao)) nl fun (j : Nat) => tl (j + al)))))
 fun (j : Nat) =>
 (Prod.fst
 (S.at'
 (Prod.fst
 (Prod.snd
 (S.histS nr (fun (j : Nat) => tr (j + ar)) (fun (j : Nat) => vr (j + ar))
 (fun (j : Nat) => gr (j + ar)) no (fun (j : Nat) => to (j + ao)) nl fun (j : Nat) => tl (j + al))))
 j),
 Prod.fst
 (Prod.snd
 (S.at'
 (Prod.fst
 (Prod.snd
 (S.histS nr (fun (j : Nat) => tr (j + ar)) (fun (j : Nat) => vr (j + ar))
 (fun (j : Nat) => gr (j + ar)) no (fun (j : Nat) => to (j + ao)) nl fun (j : Nat) =>
 tl (j + al))))
 j)),
 Prod.snd
 (Prod.snd
 (S.at'
 (Prod.fst
 (Prod.snd
 (S.histS nr (fun (j : Nat) => tr (j + ar)) (fun (j : Nat) => vr (j + ar))
 (fun (j : Nat) => gr (j + ar)) no (fun (j : Nat) => to (j + ao)) nl fun (j : Nat) =>
 tl (j + al))))
 j)))) &&
 decide
 ((S.mkl
 (List.length
 (Prod.snd
 (Prod.snd
 (S.histS nr (fun (j : Nat) => tr (j + ar)) (fun (j : Nat) => vr (j + ar))
 (fun (j : Nat) => gr (j + ar)) no (fun (j : Nat) => to (j + ao)) nl fun (j : Nat) => tl (j + al)))))
 fun (j : Nat) =>
 S.at'
 (Prod.snd
 (Prod.snd
 (S.histS nr (fun (j : Nat) => tr (j + ar)) (fun (j : Nat) => vr (j + ar))
 (fun (j : Nat) => gr (j + ar)) no (fun (j : Nat) => to (j + ao)) nl fun (j : Nat) => tl (j + al))))
 j) =
 S.mkl
 (List.length
 (Prod.snd
 (Prod.snd
 (S.histS nr (fun (j : Nat) => tr (j + ar)) (fun (j : Nat) => vr (j + ar))
 (fun (j : Nat) => gr (j + ar)) no (fun (j : Nat) => to (j + ao)) nl fun (j : Nat) => tl (j + al)))))
 fun (j : Nat) =>
 S.at'
 (Prod.snd
 (Prod.snd
 (S.histS nr (fun (j : Nat) => tr (j + ar)) (fun (j : Nat) => vr (j + ar))
 (fun (j : Nat) => gr (j + ar)) no (fun (j : Nat) => to (j + ao)) nl fun (j : Nat) => tl (j + al))))
 j))
 then (some (.inr (true)))
 else (some (.inr (false))))
 else (none))
 else (some (.inr (false))))
 else (bif (decide
 (0 +
 List.length
 (Prod.fst
 (Prod.snd
 (S.histS nr (fun (j : Nat) => tr (j + ar)) (fun (j : Nat) => vr (j + ar))
 (fun (j : Nat) => gr (j + ar)) no (fun (j : Nat) => to (j + ao)) nl fun (j : Nat) => tl (j + al)))) ≤
 List.length
 (Prod.fst
 (Prod.snd
 (S.histS nr (fun (j : Nat) => tr (j + ar)) (fun (j : Nat) => vr (j + ar))
 (fun (j : Nat) => gr (j + ar)) no (fun (j : Nat) => to (j + ao)) nl fun (j : Nat) => tl (j + al)))) ∧
 List.length
 (Prod.fst
 (Prod.snd
 (S.histS nr (fun (j : Nat) => tr (j + ar)) (fun (j : Nat) => vr (j + ar))
 (fun (j : Nat) => gr (j + ar)) no (fun (j : Nat) => to (j + ao)) nl fun (j : Nat) => tl (j + al)))) ≤
 1000000 ∧
 0 +
 List.length
 (Prod.snd
 (Prod.snd
 (S.histS nr (fun (j : Nat) => tr (j + ar)) (fun (j : Nat) => vr (j + ar))
 (fun (j : Nat) => gr (j + ar)) no (fun (j : Nat) => to (j + ao)) nl fun (j : Nat) =>
 tl (j + al)))) ≤
 List.length
 (Prod.snd
 (Prod.snd
 (S.histS nr (fun (j : Nat) => tr (j + ar)) (fun (j : Nat) => vr (j + ar))
 (fun (j : Nat) => gr (j + ar)) no (fun (j : Nat) => to (j + ao)) nl fun (j : Nat) => tl (j + al)))) ∧
 List.length
 (Prod.snd
 (Prod.snd
 (S.histS nr (fun (j : Nat) => tr (j + ar)) (fun (j : Nat) => vr (j + ar))
 (fun (j : Nat) => gr (j + ar)) no (fun (j : Nat) => to (j + ao)) nl fun (j : Nat) =>
 tl (j + al)))) ≤
 1000000 ∧
 0 +
 List.length
 (Prod.fst
 (Prod.snd
 (S.histS nr (fun (j : Nat) => tr (j + ar)) (fun (j : Nat) => vr (j + ar))
 (fun (j : Nat) => gr (j + ar)) no (fun (j : Nat) => to (j + ao)) nl fun (j : Nat) =>
 tl (j + al)))) ≤
 List.length
 (Prod.fst
 (Prod.snd
 (S.histS nr (fun (j : Nat) => tr (j + ar)) (fun (j : Nat) => vr (j + ar))
 (fun (j : Nat) => gr (j + ar)) no (fun (j : Nat) => to (j + ao)) nl fun (j : Nat) =>
 tl (j + al)))) ∧
 List.length
 (Prod.fst
 (Prod.snd
 (S.histS nr (fun (j : Nat) => tr (j + ar)) (fun (j : Nat) => vr (j + ar))
 (fun (j : Nat) => gr (j + ar)) no (fun (j : Nat) => to (j + ao)) nl fun (j : Nat) =>
 tl (j + al)))) ≤
 1000000 ∧
 0 +
 List.length
 (Prod.snd
 (Prod.snd
 (S.histS nr (fun (j : Nat) => tr (j + ar)) (fun (j : Nat) => vr (j + ar))
 (fun (j : Nat) => gr (j + ar)) no (fun (j : Nat) => to (j + ao)) nl fun (j : Nat) =>
 tl (j + al)))) ≤
 List.length
 (Prod.snd
 (Prod.snd
 (S.histS nr (fun (j : Nat) => tr (j + ar)) (fun (j : Nat) => vr (j + ar))
 (fun (j : Nat) => gr (j + ar)) no (fun (j : Nat) => to (j + ao)) nl fun (j : Nat) =>
 tl (j + al)))) ∧
 List.length
 (Prod.snd
 (Prod.snd
 (S.histS nr (fun (j : Nat) => tr (j + ar)) (fun (j : Nat) => vr (j + ar))
 (fun (j : Nat) => gr (j + ar)) no (fun (j : Nat) => to (j + ao)) nl fun (j : Nat) =>
 tl (j + al)))) ≤
 1000000))
 then (bif (decide
 ((S.mkl
 (List.length
 (Prod.fst
 (Prod.snd
 (S.histS nr (fun (j : Nat) => tr (j + ar)) (fun (j : Nat) => vr (j + ar))
 (fun (j : Nat) => gr (j + ar)) no (fun (j : Nat) => to (j + ao)) nl fun (j : Nat) => tl (j + al)))))
 fun (j : Nat) =>
 (Prod.fst
 (S.at'
 (Prod.fst
 (Prod.snd
 (S.histS nr (fun (j : Nat) => tr (j + ar)) (fun (j : Nat) => vr (j + ar))
 (fun (j : Nat) => gr (j + ar)) no (fun (j : Nat) => to (j + ao)) nl fun (j : Nat) => tl (j + al))))
 j),
 Prod.fst
 (Prod.snd
 (S.at'
 (Prod.fst
 (Prod.snd
 (S.histS nr (fun (j : Nat) => tr (j + ar)) (fun (j : Nat) => vr (j + ar))
 (fun (j : Nat) => gr (j + ar)) no (fun (j : Nat) => to (j + ao)) nl fun (j : Nat) =>
 tl (j + al))))
 j)),
 Prod.snd
 (Prod.snd
 (S.at'
 (Prod.fst
 (Prod.snd
 (S.histS nr (fun (j : Nat) => tr (j + ar)) (fun (j : Nat) => vr (j + ar))
 (fun (j : Nat) => gr (j + ar)) no (fun (j : Nat) => to (j + ao)) nl fun (j : Nat) =>
 tl (j + al))))
 j)))) =
 S.mkl
 (List.length
 (Prod.fst
 (Prod.snd
 (S.histS nr (fun (j : Nat) => tr (j + ar)) (fun (j : Nat) => vr (j + ar))
 (fun (j : Nat) => gr (j + ar)) no (fun (j : Nat) => to (j + ao)) nl fun (j : Nat) => tl (j + al)))))
 fun (j : Nat) =>
 (Prod.fst
 (S.at'
 (Prod.fst
 (Prod.snd
 (S.histS nr (fun (j : Nat) => tr (j + ar)) (fun (j : Nat) => vr (j + ar))
 (fun (j : Nat) => gr (j + ar)) no (fun (j : Nat) => to (j + ao)) nl fun (j : Nat) => tl (j + al))))
 j),
 Prod.fst
 (Prod.snd
 (S.at'
 (Prod.fst
 (Prod.snd
 (S.histS nr (fun (j : Nat) => tr (j + ar)) (fun (j : Nat) => vr (j + ar))
 (fun (j : Nat) => gr (j + ar)) no (fun (j : Nat) => to (j + ao)) nl fun (j : Nat) =>
 tl (j + al))))
 j)),
 Prod.snd
 (Prod.snd
 (S.at'
 (Prod.fst
 (Prod.snd
 (S.histS nr (fun (j : Nat) => tr (j + ar)) (fun (j : Nat) => vr (j + ar))
 (fun (j : Nat) => gr (j + ar)) no (fun (j : Nat) => to (j + ao)) nl fun (j : Nat) =>
 tl (j + al))))
 j)))) &&
 decide
 ((S.mkl
 (List.length
 (Prod.snd
 (Prod.snd
 (S.histS nr (fun (j : Nat) => tr (j + ar)) (fun (j : Nat) => vr (j + ar))
 (fun (j : Nat) => gr (j + ar)) no (fun (j : Nat) => to (j + ao)) nl fun (j : Nat) => tl (j + al)))))
 fun (j : Nat) =>
 S.at'
 (Prod.snd
 (Prod.snd
 (S.histS nr (fun (j : Nat) => tr (j + ar)) (fun (j : Nat) => vr (j + ar))
 (fun (j : Nat) => gr (j + ar)) no (fun (j : Nat) => to (j + ao)) nl fun (j : Nat) => tl (j + al))))
 j) =
 S.mkl
 (List.length
 (Prod.snd
 (Prod.snd
 (S.histS nr (fun (j : Nat) => tr (j + ar)) (fun (j : Nat) => vr (j + ar))
 (fun (j : Nat) => gr (j + ar)) no (fun (j : Nat) => to (j + ao)) nl fun (j : Nat) => tl (j + al)))))
 fun (j : Nat) =>
 S.at'
 (Prod.snd
 (Prod.snd
 (S.histS nr (fun (j : Nat) => tr (j + ar)) (fun (j : Nat) => vr (j + ar))
 (fun (j : Nat) => gr (j + ar)) no (fun (j : Nat) => to (j + ao)) nl fun (j : Nat) => tl (j + al))))
 j))
 then (bif (Prod.fst
 (S.histS nr (fun (j : Nat) => tr (j + ar)) (fun (j : Nat) => vr (j + ar)) (fun (j : Nat) => gr (j + ar)) no
 (fun (j : Nat) => to (j + ao)) nl fun (j : Nat) => tl (j + al)) !=
 (0 : Int))
 then (bif (Prod.fst
 (S.histS nr (fun (j : Nat) => tr (j + ar)) (fun (j : Nat) => vr (j + ar)) (fun (j : Nat) => gr (j + ar)) no
 (fun (j : Nat) => to (j + ao)) nl fun (j : Nat) => tl (j + al)) ==
 Prod.fst
 (S.histS nr (fun (j : Nat) => tr (j + ar)) (fun (j : Nat) => vr (j + ar)) (fun (j : Nat) => gr (j + ar)) no
 (fun (j : Nat) => to (j + ao)) nl fun (j : Nat) => tl (j + al)))
 then (some (.inr (true)))
 else (some (.inr (false))))
 else (some (.inl (.h0 (Prod.fst
 (Prod.snd
 (S.histS nr (fun (j : Nat) => tr (j + ar)) (fun (j : Nat) => vr (j + ar)) (fun (j : Nat) => gr (j + ar)) no
 (fun (j : Nat) => to (j + ao)) nl fun (j : Nat) => tl (j + al)))) (Prod.snd
 (Prod.snd
 (S.histS nr (fun (j : Nat) => tr (j + ar)) (fun (j : Nat) => vr (j + ar)) (fun (j : Nat) => gr (j + ar)) no
 (fun (j : Nat) => to (j + ao)) nl fun (j : Nat) => tl (j + al))))))))
 else (bif (Prod.fst
 (S.histS nr (fun (j : Nat) => tr (j + ar)) (fun (j : Nat) => vr (j + ar)) (fun (j : Nat) => gr (j + ar)) no
 (fun (j : Nat) => to (j + ao)) nl fun (j : Nat) => tl (j + al)) ==
 Prod.fst
 (S.histS nr (fun (j : Nat) => tr (j + ar)) (fun (j : Nat) => vr (j + ar)) (fun (j : Nat) => gr (j + ar)) no
 (fun (j : Nat) => to (j + ao)) nl fun (j : Nat) => tl (j + al)))
 then (some (.inr (false)))
 else (some (.inr (false)))))
 else (none)))
 else (none))
 else (none))
 else (none))
 else (none))
 else (none))))
 else (some (.inr (true))))
 else (some (.inr (true))) : Option (St4 ⊕ Rt4)) = some x) : Te4 cond Kst Kret ar nr mr tr vr gr ao no mo to al nl ml tl := by
  unfold Te4
  exact cond_yes rfl (cond_yes rfl (bif_split h
   (fun c0 h => bif_split h
   (fun c1 h => bif_split h
   (fun c2 h => bif_split h
   (fun c3 h => cond_yes rfl (cond_yes rfl (ret_at hR _ h (fun n => n) rfl rfl rfl (rn_bool_tf rfl) rfl (entl_bor (use_lo rfl) rfl rfl (entl_bor (use_lo rfl) rfl rfl (entl_bor (use_lo rfl) rfl rfl entl_nil))))))
   (fun c3 h => bif_split h
   (fun c4 h => cond_yes rfl (cond_yes rfl (ret_at hR _ h (fun n => n) rfl rfl rfl (rn_bool_tf rfl) rfl (entl_bor (use_lo rfl) rfl rfl (entl_bor (use_lo rfl) rfl rfl (entl_bor (use_lo rfl) rfl rfl entl_nil))))))
   (fun c4 h => bif_split h
   (fun c5 h => bif_split h
   (fun c6 h => bif_split h
   (fun c7 h => bif_split h
   (fun c8 h => bif_split h
   (fun c9 h => bif_split h
   (fun c10 h => bif_split h
   (fun c11 h => bif_split h
   (fun c12 h => bif_split h
   (fun c13 h => ret_at hR _ h (fun n => n) rfl rfl rfl (rn_bool_tf rfl) rfl (entl_bor (use_lo rfl) rfl rfl (entl_bor (use_lo rfl) rfl rfl (entl_bor (use_lo rfl) rfl rfl entl_nil))))
   (fun c13 h => ret_at hR _ h (fun n => n) rfl rfl rfl (rn_bool_tf rfl) rfl (entl_bor (use_lo rfl) rfl rfl (entl_bor (use_lo rfl) rfl rfl (entl_bor (use_lo rfl) rfl rfl entl_nil)))))
   (fun c12 h => no_some h))
   (fun c11 h => ret_at hR _ h (fun n => n) rfl rfl rfl (rn_bool_tf rfl) rfl (entl_bor (use_lo rfl) rfl rfl (entl_bor (use_lo rfl) rfl rfl (entl_bor (use_lo rfl) rfl rfl entl_nil)))))
   (fun c10 h => bif_split h
   (fun c11 h => bif_split h
   (fun c12 h => bif_split h
   (fun c13 h => bif_split h
   (fun c14 h => cond_yes c11 (cond_yes c12 (ret_at hR _ h (fun n => n) rfl rfl rfl (rn_bool_tf rfl) rfl (entl_bor (use_lo rfl) rfl rfl (entl_bor (use_lo rfl) rfl rfl (entl_bor (use_lo rfl) rfl rfl entl_nil))))))
   (fun c14 h => ret_at hR _ h (fun n => n) rfl rfl rfl (rn_bool_tf rfl) rfl (entl_bor (use_lo rfl) rfl rfl (entl_bor (use_lo rfl) rfl rfl (entl_bor (use_lo rfl) rfl rfl entl_nil)))))
   (fun c13 h => stop_at hS _ h (fun n => bif Nat.beq n 3 then 3 else bif Nat.beq n 4 then 17 else bif Nat.beq n 5 then 15 else bif Nat.beq n 6 then 16 else bif Nat.beq n 7 then 23 else n) rfl rfl rfl ⟨(rn_loose (use_lo rfl) rfl rfl rfl), ⟨(rn_ptr (use_own rfl) rfl rfl), ⟨(rn_ptr (use_own rfl) rfl rfl), ⟨(rn_ptr (use_own rfl) rfl rfl), ⟨(rn_loose (use_lo rfl) rfl rfl rfl), ⟨(rn_int rfl), ⟨(rn_int rfl), trivial⟩⟩⟩⟩⟩⟩⟩ rfl (entl_b (use_own rfl) rfl (by simp) (rb_cells ⟨(rn_loose (use_lo rfl) rfl rfl rfl), (rn_loose (use_lo rfl) rfl rfl rfl), trivial⟩) (entl_b (use_own rfl) rfl (by simp) (rb_cells ⟨(rn_own (use_own rfl) rfl rfl), (rn_own (use_own rfl) rfl rfl), trivial⟩) (entl_new (use_own rfl) rfl (Nat.le_of_eq rfl) (rcs_int (fun _ _ => rfl) (rcs_int (fun _ _ => rfl) (rcs_int (fun _ _ => rfl) rcs_nil))) (entl_new (use_own rfl) rfl (Nat.le_of_eq rfl) (rcs_bool (fun _ _ => rfl) rcs_nil) (entl_b (use_own rfl) rfl (by simp) (rb_cells ⟨(rn_loose (use_lo rfl) rfl rfl rfl), (rn_loose (use_lo rfl) rfl rfl rfl), trivial⟩) (entl_bor (use_lo rfl) rfl rfl (entl_bor (use_lo rfl) rfl rfl (entl_bor (use_lo rfl) rfl rfl entl_nil))))))))))
   (fun c12 h => bif_split h
   (fun c13 h => cond_yes c11 (cond_no c12 (ret_at hR _ h (fun n => n) rfl rfl rfl (rn_bool_tf rfl) rfl (entl_bor (use_lo rfl) rfl rfl (entl_bor (use_lo rfl) rfl rfl (entl_bor (use_lo rfl) rfl rfl entl_nil))))))
   (fun c13 h => ret_at hR _ h (fun n => n) rfl rfl rfl (rn_bool_tf rfl) rfl (entl_bor (use_lo rfl) rfl rfl (entl_bor (use_lo rfl) rfl rfl (entl_bor (use_lo rfl) rfl rfl entl_nil))))))
   (fun c11 h => no_some h)))
   (fun c9 h => no_some h))
   (fun c8 h => no_some h))
   (fun c7 h => no_some h))
   (fun c6 h => no_some h))
   (fun c5 h => no_some h))))
   (fun c2 h => bif_split h
   (fun c3 h => cond_yes rfl (cond_yes rfl (ret_at hR _ h (fun n => n) rfl rfl rfl (rn_bool_tf rfl) rfl (entl_bor (use_lo rfl) rfl rfl (entl_bor (use_lo rfl) rfl rfl (entl_bor (use_lo rfl) rfl rfl entl_nil))))))
   (fun c3 h => bif_split h
   (fun c4 h => bif_split h
   (fun c5 h => bif_split h
   (fun c6 h => bif_split h
   (fun c7 h => bif_split h
   (fun c8 h => bif_split h
   (fun c9 h => bif_split h
   (fun c10 h => bif_split h
   (fun c11 h => bif_split h
   (fun c12 h => ret_at hR _ h (fun n => n) rfl rfl rfl (rn_bool_tf rfl) rfl (entl_bor (use_lo rfl) rfl rfl (entl_bor (use_lo rfl) rfl rfl (entl_bor (use_lo rfl) rfl rfl entl_nil))))
   (fun c12 h => ret_at hR _ h (fun n => n) rfl rfl rfl (rn_bool_tf rfl) rfl (entl_bor (use_lo rfl) rfl rfl (entl_bor (use_lo rfl) rfl rfl (entl_bor (use_lo rfl) rfl rfl entl_nil)))))
   (fun c11 h => no_some h))
   (fun c10 h => ret_at hR _ h (fun n => n) rfl rfl rfl (rn_bool_tf rfl) rfl (entl_bor (use_lo rfl) rfl rfl (entl_bor (use_lo rfl) rfl rfl (entl_bor (use_lo rfl) rfl rfl entl_nil)))))
   (fun c9 h => bif_split h
   (fun c10 h => bif_split h
   (fun c11 h => bif_split h
   (fun c12 h => bif_split h
   (fun c13 h => cond_yes c10 (cond_yes c11 (ret_at hR _ h (fun n => n) rfl rfl rfl (rn_bool_tf rfl) rfl (entl_bor (use_lo rfl) rfl rfl (entl_bor (use_lo rfl) rfl rfl (entl_bor (use_lo rfl) rfl rfl entl_nil))))))
   (fun c13 h => ret_at hR _ h (fun n => n) rfl rfl rfl (rn_bool_tf rfl) rfl (entl_bor (use_lo rfl) rfl rfl (entl_bor (use_lo rfl) rfl rfl (entl_bor (use_lo rfl) rfl rfl entl_nil)))))
   (fun c12 h => stop_at hS _ h (fun n => bif Nat.beq n 3 then 3 else bif Nat.beq n 4 then 17 else bif Nat.beq n 5 then 15 else bif Nat.beq n 6 then 16 else bif Nat.beq n 7 then 23 else n) rfl rfl rfl ⟨(rn_loose (use_lo rfl) rfl rfl rfl), ⟨(rn_ptr (use_own rfl) rfl rfl), ⟨(rn_ptr (use_own rfl) rfl rfl), ⟨(rn_ptr (use_own rfl) rfl rfl), ⟨(rn_loose (use_lo rfl) rfl rfl rfl), ⟨(rn_int rfl), ⟨(rn_int rfl), trivial⟩⟩⟩⟩⟩⟩⟩ rfl (entl_b (use_own rfl) rfl (by simp) (rb_cells ⟨(rn_loose (use_lo rfl) rfl rfl rfl), (rn_loose (use_lo rfl) rfl rfl rfl), trivial⟩) (entl_b (use_own rfl) rfl (by simp) (rb_cells ⟨(rn_own (use_own rfl) rfl rfl), (rn_own (use_own rfl) rfl rfl), trivial⟩) (entl_new (use_own rfl) rfl (Nat.le_of_eq rfl) (rcs_int (fun _ _ => rfl) (rcs_int (fun _ _ => rfl) (rcs_int (fun _ _ => rfl) rcs_nil))) (entl_new (use_own rfl) rfl (Nat.le_of_eq rfl) (rcs_bool (fun _ _ => rfl) rcs_nil) (entl_b (use_own rfl) rfl (by simp) (rb_cells ⟨(rn_loose (use_lo rfl) rfl rfl rfl), (rn_loose (use_lo rfl) rfl rfl rfl), trivial⟩) (entl_bor (use_lo rfl) rfl rfl (entl_bor (use_lo rfl) rfl rfl (entl_bor (use_lo rfl) rfl rfl entl_nil))))))))))
   (fun c11 h => bif_split h
   (fun c12 h => cond_yes c10 (cond_no c11 (ret_at hR _ h (fun n => n) rfl rfl rfl (rn_bool_tf rfl) rfl (entl_bor (use_lo rfl) rfl rfl (entl_bor (use_lo rfl) rfl rfl (entl_bor (use_lo rfl) rfl rfl entl_nil))))))
   (fun c12 h => ret_at hR _ h (fun n => n) rfl rfl rfl (rn_bool_tf rfl) rfl (entl_bor (use_lo rfl) rfl rfl (entl_bor (use_lo rfl) rfl rfl (entl_bor (use_lo rfl) rfl rfl entl_nil))))))
   (fun c10 h => no_some h)))
   (fun c8 h => no_some h))
   (fun c7 h => no_some h))
   (fun c6 h => no_some h))
   (fun c5 h => no_some h))
   (fun c4 h => no_some h))))
   (fun c1 h => cond_yes rfl (cond_yes rfl (ret_at hR _ h (fun n => n) rfl rfl rfl (rn_bool_tf rfl) rfl (entl_bor (use_lo rfl) rfl rfl (entl_bor (use_lo rfl) rfl rfl (entl_bor (use_lo rfl) rfl rfl entl_nil)))))))
   (fun c0 h => cond_yes rfl (cond_yes rfl (ret_at hR _ h (fun n => n) rfl rfl rfl (rn_bool_tf rfl) rfl (entl_bor (use_lo rfl) rfl rfl (entl_bor (use_lo rfl) rfl rfl (entl_bor (use_lo rfl) rfl rfl entl_nil))))))))
set_option maxRecDepth 100000 in
theorem b4_0 (ar nr mr : Nat) (tr : Nat → Int) (vr : Nat → Int) (gr : Nat → Int) (ao no mo : Nat) (to : Nat → Bool) (al nl ml : Nat) (tl : Nat → Int) (Kst : KS) (Kret : KR) (x : St4 ⊕ Rt4) (hS : HS 3 400 ((I4 ar nr mr tr vr gr ao no mo to al nl ml tl)) Kst x) (hR : HR 3 400 ((V4 ar nr mr tr vr gr ao no mo to al nl ml tl)) (fun r => [newL (3 + 1) ((N4 ar nr mr tr vr gr ao no mo to al nl ml tl) r) ++ [(0, (false, .cols mr [.int .i64 tr, .int .i64 vr, .int .i64 gr])), (1, (false, .cols mo [.bool to])), (2, (false, .cols ml [.int .i64 tl]))]]) Kret x) (x0 : List (Int × Int × Int)) (x1 : List Bool) (h : (bif (decide ((0 : Int) < (↑nl : Int)))
 then (bif (decide ((0 : Int) ≤ (0 : Int) ∧ (0 : Int) < (↑nl : Int)))
 then (bif (decide (0 + al < ml))
 then (bif (decide (ar + nr ≤ mr ∧ nr ≤ 1000000 ∧ ao + no ≤ mo ∧ no ≤ 1000000))
 then (bif (Prod.fst
 (S.histS nr (fun (j : Nat) => tr (j + ar)) (fun (j : Nat) => vr (j + ar)) (fun (j : Nat) => gr (j + ar)) no
 (fun (j : Nat) => to (j + ao)) (1) fun (j : Nat) => S.lit [tl (0 + al)] (0 : Int) j) !=
 (0 : Int))
 then (some (.inr (false)))
 else (some (.inl (.h1 ((1 : Int)) (x0) (x1) (Prod.fst
 (Prod.snd
 (S.histS nr (fun (j : Nat) => tr (j + ar)) (fun (j : Nat) => vr (j + ar)) (fun (j : Nat) => gr (j + ar)) no
 (fun (j : Nat) => to (j + ao)) (1) fun (j : Nat) => S.lit [tl (0 + al)] (0 : Int) j))) (Prod.snd
 (Prod.snd
 (S.histS nr (fun (j : Nat) => tr (j + ar)) (fun (j : Nat) => vr (j + ar)) (fun (j : Nat) => gr (j + ar)) no
 (fun (j : Nat) => to (j + ao)) (1) fun (j : Nat) => S.lit [tl (0 + al)] (0 : Int) j)))))))
 else (none))
 else (none))
 else (none))
 else (bif (decide
 (ar + nr ≤ mr ∧
 nr ≤ 1000000 ∧
 ao + no ≤ mo ∧
 no ≤ 1000000 ∧
 0 + List.length x0 ≤ List.length x0 ∧
 List.length x0 ≤ 1000000 ∧
 0 + List.length x1 ≤ List.length x1 ∧ List.length x1 ≤ 1000000))
 then (bif (decide
 ((S.mkl nr fun (j : Nat) => (tr (j + ar), vr (j + ar), gr (j + ar))) =
 S.mkl (List.length x0) fun (j : Nat) =>
 ((S.at' x0 j).1, (S.at' x0 j).2.1,
 (S.at' x0 j).2.2)) &&
 decide
 ((S.mkl no fun (j : Nat) => to (j + ao)) = S.mkl (List.length x1) fun (j : Nat) => S.at' x1 j))
 then (some (.inr (true)))
 else (bif ((↑nl : Int) == (0 : Int))
 then (some (.inr (false)))
 else (some (.inr (false)))))
 else (none)) : Option (St4 ⊕ Rt4)) = some x) : T4_0 cond Kst Kret ar nr mr tr vr gr ao no mo to al nl ml tl x0 x1 := by
  unfold T4_0
  exact bif_split h
   (fun c0 h => bif_split h
   (fun c1 h => bif_split h
   (fun c2 h => bif_split h
   (fun c3 h => bif_split h
   (fun c4 h => ret_at hR _ h (fun n => n) rfl rfl rfl (rn_bool_tf rfl) rfl (entl_bor (use_lo rfl) rfl rfl (entl_bor (use_lo rfl) rfl rfl (entl_bor (use_lo rfl) rfl rfl entl_nil))))
   (fun c4 h => cond_yes rfl (stop_at hS _ h (fun n => bif Nat.beq n 3 then 3 else bif Nat.beq n 4 then 4 else bif Nat.beq n 5 then 5 else bif Nat.beq n 6 then 6 else bif Nat.beq n 7 then 7 else bif Nat.beq n 8 then 9 else bif Nat.beq n 9 then 10 else n) rfl rfl rfl ⟨(rn_loose (use_lo rfl) rfl rfl rfl), ⟨(rn_ptr (use_own rfl) rfl rfl), ⟨(rn_ptr (use_own rfl) rfl rfl), ⟨(rn_ptr (use_own rfl) rfl rfl), ⟨(rn_loose (use_lo rfl) rfl rfl rfl), ⟨(rn_int rfl), ⟨(rn_int rfl), trivial⟩⟩⟩⟩⟩⟩⟩ rfl (entl_b (use_own rfl) rfl (by simp) (rb_cells ⟨(rn_loose (use_lo rfl) rfl rfl rfl), (rn_loose (use_lo rfl) rfl rfl rfl), trivial⟩) (entl_b (use_own rfl) rfl (by simp) (rb_cells ⟨(rn_own (use_own rfl) rfl rfl), (rn_own (use_own rfl) rfl rfl), trivial⟩) (entl_new (use_own rfl) rfl (Nat.le_of_eq rfl) (rcs_int (fun _ _ => rfl) (rcs_int (fun _ _ => rfl) (rcs_int (fun _ _ => rfl) rcs_nil))) (entl_new (use_own rfl) rfl (Nat.le_of_eq rfl) (rcs_bool (fun _ _ => rfl) rcs_nil) (entl_b (use_own rfl) rfl (by simp) (rb_cells ⟨(rn_own (use_own rfl) rfl rfl), (rn_own (use_own rfl) rfl rfl), trivial⟩) (entl_new (use_own rfl) rfl (Nat.le_of_eq rfl) (rcs_int (fun _ _ => rfl) (rcs_int (fun _ _ => rfl) (rcs_int (fun _ _ => rfl) rcs_nil))) (entl_new (use_own rfl) rfl (Nat.le_of_eq rfl) (rcs_bool (fun _ _ => rfl) rcs_nil) (entl_bor (use_lo rfl) rfl rfl (entl_bor (use_lo rfl) rfl rfl (entl_bor (use_lo rfl) rfl rfl entl_nil)))))))))))))
   (fun c3 h => no_some h))
   (fun c2 h => no_some h))
   (fun c1 h => no_some h))
   (fun c0 h => bif_split h
   (fun c1 h => bif_split h
   (fun c2 h => ret_at hR _ h (fun n => n) rfl rfl rfl (rn_bool_tf rfl) rfl (entl_bor (use_lo rfl) rfl rfl (entl_bor (use_lo rfl) rfl rfl (entl_bor (use_lo rfl) rfl rfl entl_nil))))
   (fun c2 h => bif_split h
   (fun c3 h => cond_yes c1 (cond_no c2 (ret_at hR _ h (fun n => n) rfl rfl rfl (rn_bool_tf rfl) rfl (entl_bor (use_lo rfl) rfl rfl (entl_bor (use_lo rfl) rfl rfl (entl_bor (use_lo rfl) rfl rfl entl_nil))))))
   (fun c3 h => ret_at hR _ h (fun n => n) rfl rfl rfl (rn_bool_tf rfl) rfl (entl_bor (use_lo rfl) rfl rfl (entl_bor (use_lo rfl) rfl rfl (entl_bor (use_lo rfl) rfl rfl entl_nil))))))
   (fun c1 h => no_some h))
set_option maxRecDepth 100000 in
theorem b4_1 (ar nr mr : Nat) (tr : Nat → Int) (vr : Nat → Int) (gr : Nat → Int) (ao no mo : Nat) (to : Nat → Bool) (al nl ml : Nat) (tl : Nat → Int) (Kst : KS) (Kret : KR) (x : St4 ⊕ Rt4) (hS : HS 3 400 ((I4 ar nr mr tr vr gr ao no mo to al nl ml tl)) Kst x) (hR : HR 3 400 ((V4 ar nr mr tr vr gr ao no mo to al nl ml tl)) (fun r => [newL (3 + 1) ((N4 ar nr mr tr vr gr ao no mo to al nl ml tl) r) ++ [(0, (false, .cols mr [.int .i64 tr, .int .i64 vr, .int .i64 gr])), (1, (false, .cols mo [.bool to])), (2, (false, .cols ml [.int .i64 tl]))]]) Kret x) (x0 : Int) (x1 : List (Int × Int × Int)) (x2 : List Bool) (x3 : List (Int × Int × Int)) (x4 : List Bool) (h : (bif (decide (x0 < (↑nl : Int)))
 then (bif (decide ((0 : Int) ≤ x0 ∧ x0 < (↑nl : Int)))
 then (bif (decide (Int.toNat x0 + al < ml))
 then (bif (decide
 (0 + List.length x3 ≤ List.length x3 ∧
 List.length x3 ≤ 1000000 ∧ 0 + List.length x4 ≤ List.length x4 ∧ List.length x4 ≤ 1000000))
 then (bif (Prod.fst
 (S.histS (List.length x3) (fun (j : Nat) => (S.at' x3 j).1)
 (fun (j : Nat) => (S.at' x3 j).2.1)
 (fun (j : Nat) => (S.at' x3 j).2.2) (List.length x4) (fun (j : Nat) => S.at' x4 j)
 (1) fun (j : Nat) => S.lit [tl (Int.toNat x0 + al)] (0 : Int) j) !=
 (0 : Int))
 then (some (.inr (false)))
 else (bif (lim IntKind.i64 (x0 + (1 : Int)))
 then (some (.inl (.h1 (x0 + (1 : Int)) (x1) (x2) (Prod.fst
 (Prod.snd
 (S.histS (List.length x3) (fun (j : Nat) => (S.at' x3 j).1)
 (fun (j : Nat) => (S.at' x3 j).2.1)
 (fun (j : Nat) => (S.at' x3 j).2.2) (List.length x4) (fun (j : Nat) => S.at' x4 j)
 (1) fun (j : Nat) => S.lit [tl (Int.toNat x0 + al)] (0 : Int) j))) (Prod.snd
 (Prod.snd
 (S.histS (List.length x3) (fun (j : Nat) => (S.at' x3 j).1)
 (fun (j : Nat) => (S.at' x3 j).2.1)
 (fun (j : Nat) => (S.at' x3 j).2.2) (List.length x4) (fun (j : Nat) => S.at' x4 j)
 (1) fun (j : Nat) => S.lit [tl (Int.toNat x0 + al)] (0 : Int) j))))))
 else (none)))
 else (none))
 else (none))
 else (none))
 else (bif (decide
 (0 + List.length x3 ≤ List.length x3 ∧
 List.length x3 ≤ 1000000 ∧
 0 + List.length x4 ≤ List.length x4 ∧
 List.length x4 ≤ 1000000 ∧
 0 + List.length x1 ≤ List.length x1 ∧
 List.length x1 ≤ 1000000 ∧
 0 + List.length x2 ≤ List.length x2 ∧ List.length x2 ≤ 1000000))
 then (bif (decide
 ((S.mkl (List.length x3) fun (j : Nat) =>
 ((S.at' x3 j).1, (S.at' x3 j).2.1, (S.at' x3 j).2.2)) =
 S.mkl (List.length x1) fun (j : Nat) =>
 ((S.at' x1 j).1, (S.at' x1 j).2.1,
 (S.at' x1 j).2.2)) &&
 decide
 ((S.mkl (List.length x4) fun (j : Nat) => S.at' x4 j) =
 S.mkl (List.length x2) fun (j : Nat) => S.at' x2 j))
 then (some (.inr (true)))
 else (bif ((↑nl : Int) == (0 : Int))
 then (bif (decide
 (ar + nr ≤ mr ∧
 nr ≤ 1000000 ∧
 ao + no ≤ mo ∧
 no ≤ 1000000 ∧
 0 + List.length x1 ≤ List.length x1 ∧
 List.length x1 ≤ 1000000 ∧
 0 + List.length x2 ≤ List.length x2 ∧ List.length x2 ≤ 1000000))
 then (bif (decide
 ((S.mkl nr fun (j : Nat) => (tr (j + ar), vr (j + ar), gr (j + ar))) =
 S.mkl (List.length x1) fun (j : Nat) =>
 ((S.at' x1 j).1, (S.at' x1 j).2.1,
 (S.at' x1 j).2.2)) &&
 decide
 ((S.mkl no fun (j : Nat) => to (j + ao)) = S.mkl (List.length x2) fun (j : Nat) => S.at' x2 j))
 then (some (.inr (true)))
 else (some (.inr (false))))
 else (none))
 else (some (.inr (false)))))
 else (none)) : Option (St4 ⊕ Rt4)) = some x) : T4_1 cond Kst Kret ar nr mr tr vr gr ao no mo to al nl ml tl x0 x1 x2 x3 x4 := by
  unfold T4_1
  exact bif_split h
   (fun c0 h => bif_split h
   (fun c1 h => bif_split h
   (fun c2 h => bif_split h
   (fun c3 h => bif_split h
   (fun c4 h => ret_at hR _ h (fun n => n) rfl rfl rfl (rn_bool_tf rfl) rfl (entl_bor (use_lo rfl) rfl rfl (entl_bor (use_lo rfl) rfl rfl (entl_bor (use_lo rfl) rfl rfl entl_nil))))
   (fun c4 h => bif_split h
   (fun c5 h => stop_at hS _ h (fun n => bif Nat.beq n 3 then 3 else bif Nat.beq n 4 then 4 else bif Nat.beq n 5 then 5 else bif Nat.beq n 6 then 6 else bif Nat.beq n 7 then 7 else bif Nat.beq n 8 then 11 else bif Nat.beq n 9 then 12 else n) rfl rfl rfl ⟨(rn_loose (use_lo rfl) rfl rfl rfl), ⟨(rn_ptr (use_own rfl) rfl rfl), ⟨(rn_ptr (use_own rfl) rfl rfl), ⟨(rn_ptr (use_own rfl) rfl rfl), ⟨(rn_loose (use_lo rfl) rfl rfl rfl), ⟨(rn_int rfl), ⟨(rn_int rfl), trivial⟩⟩⟩⟩⟩⟩⟩ rfl (entl_b (use_own rfl) rfl (by simp) (rb_cells ⟨(rn_loose (use_lo rfl) rfl rfl rfl), (rn_loose (use_lo rfl) rfl rfl rfl), trivial⟩) (entl_b (use_own rfl) rfl (by simp) (rb_cells ⟨(rn_own (use_own rfl) rfl rfl), (rn_own (use_own rfl) rfl rfl), trivial⟩) (entl_new (use_own rfl) rfl (Nat.le_of_eq rfl) (rcs_int (fun _ _ => rfl) (rcs_int (fun _ _ => rfl) (rcs_int (fun _ _ => rfl) rcs_nil))) (entl_new (use_own rfl) rfl (Nat.le_of_eq rfl) (rcs_bool (fun _ _ => rfl) rcs_nil) (entl_b (use_own rfl) rfl (by simp) (rb_cells ⟨(rn_own (use_own rfl) rfl rfl), (rn_own (use_own rfl) rfl rfl), trivial⟩) (entl_new (use_own rfl) rfl (Nat.le_of_eq rfl) (rcs_int (fun _ _ => rfl) (rcs_int (fun _ _ => rfl) (rcs_int (fun _ _ => rfl) rcs_nil))) (entl_new (use_own rfl) rfl (Nat.le_of_eq rfl) (rcs_bool (fun _ _ => rfl) rcs_nil) (entl_bor (use_lo rfl) rfl rfl (entl_bor (use_lo rfl) rfl rfl (entl_bor (use_lo rfl) rfl rfl entl_nil)))))))))))
   (fun c5 h => no_some h)))
   (fun c3 h => no_some h))
   (fun c2 h => no_some h))
   (fun c1 h => no_some h))
   (fun c0 h => bif_split h
   (fun c1 h => bif_split h
   (fun c2 h => ret_at hR _ h (fun n => n) rfl rfl rfl (rn_bool_tf rfl) rfl (entl_bor (use_lo rfl) rfl rfl (entl_bor (use_lo rfl) rfl rfl (entl_bor (use_lo rfl) rfl rfl entl_nil))))
   (fun c2 h => bif_split h
   (fun c3 h => bif_split h
   (fun c4 h => bif_split h
   (fun c5 h => ret_at hR _ h (fun n => n) rfl rfl rfl (rn_bool_tf rfl) rfl (entl_bor (use_lo rfl) rfl rfl (entl_bor (use_lo rfl) rfl rfl (entl_bor (use_lo rfl) rfl rfl entl_nil))))
   (fun c5 h => ret_at hR _ h (fun n => n) rfl rfl rfl (rn_bool_tf rfl) rfl (entl_bor (use_lo rfl) rfl rfl (entl_bor (use_lo rfl) rfl rfl (entl_bor (use_lo rfl) rfl rfl entl_nil)))))
   (fun c4 h => no_some h))
   (fun c3 h => ret_at hR _ h (fun n => n) rfl rfl rfl (rn_bool_tf rfl) rfl (entl_bor (use_lo rfl) rfl rfl (entl_bor (use_lo rfl) rfl rfl (entl_bor (use_lo rfl) rfl rfl entl_nil))))))
   (fun c1 h => no_some h))
theorem a4 (ar nr mr : Nat) (tr : Nat → Int) (vr : Nat → Int) (gr : Nat → Int) (ao no mo : Nat) (to : Nat → Bool) (al nl ml : Nat) (tl : Nat → Int) {r : Rt4} (h : Goes ((q4 ar nr mr tr vr gr ao no mo to al nl ml tl)) ((p4 ar nr mr tr vr gr ao no mo to al nl ml tl)) r) : CallR Try.prog 4 [.agg [.loose ⟨0, 3, ar, 0⟩ nr, .loose ⟨1, 1, ao, 0⟩ no], .loose ⟨2, 1, al, 0⟩ nl] [[(0, (false, .cols mr [.int .i64 tr, .int .i64 vr, .int .i64 gr])), (1, (false, .cols mo [.bool to])), (2, (false, .cols ml [.int .i64 tl]))]] 3 ((V4 ar nr mr tr vr gr ao no mo to al nl ml tl) r) ((fun r => [newL (3 + 1) ((N4 ar nr mr tr vr gr ao no mo to al nl ml tl) r) ++ [(0, (false, .cols mr [.int .i64 tr, .int .i64 vr, .int .i64 gr])), (1, (false, .cols mo [.bool to])), (2, (false, .cols ml [.int .i64 tl]))]]) r) 400 ∧ ∃ F, Try.prog.funcs[4]? = some F ∧ F.body.isSome = true ∧ (F.name == "runtime.NumGoroutine") = false := by
  refine dec_calls (f := 4) (lo := 3) (hi := 400) (H := [[(0, (false, .cols mr [.int .i64 tr, .int .i64 vr, .int .i64 gr])), (1, (false, .cols mo [.bool to])), (2, (false, .cols ml [.int .i64 tl]))]]) (args := [.agg [.loose ⟨0, 3, ar, 0⟩ nr, .loose ⟨1, 1, ao, 0⟩ no], .loose ⟨2, 1, al, 0⟩ nl]) Try.envOk Try.mixed yC4_ok ((I4 ar nr mr tr vr gr ao no mo to al nl ml tl)) ((V4 ar nr mr tr vr gr ao no mo to al nl ml tl)) (fun r => [newL (3 + 1) ((N4 ar nr mr tr vr gr ao no mo to al nl ml tl) r) ++ [(0, (false, .cols mr [.int .i64 tr, .int .i64 vr, .int .i64 gr])), (1, (false, .cols mo [.bool to])), (2, (false, .cols ml [.int .i64 tl]))]]) (fn := mkFn Try.f4) (ts := [1, 2, 5, 9, 71, 72, 73]) (n := 400) rfl (by decide) (by simp) (names_of rfl) ?_ ?_ ?_ h
  · intro s; cases s <;> exact ⟨hd_ok _ _, by simp [I4], names_of rfl, Nat.le_of_ble_eq_true rfl⟩
  · intro Kst Kret x hS hR h
    exact Holds.eq (te4 cond Kst Kret ar nr mr tr vr gr ao no mo to al nl ml tl) (be4 ar nr mr tr vr gr ao no mo to al nl ml tl Kst Kret x hS hR h)
  · intro Kst Kret x hS hR s h
    cases s with
    | h0 x0 x1 => exact Holds.eq (t4_0 cond Kst Kret ar nr mr tr vr gr ao no mo to al nl ml tl x0 x1) (b4_0 ar nr mr tr vr gr ao no mo to al nl ml tl Kst Kret x hS hR x0 x1 h)
    | h1 x0 x1 x2 x3 x4 => exact Holds.eq (t4_1 cond Kst Kret ar nr mr tr vr gr ao no mo to al nl ml tl x0 x1 x2 x3 x4) (b4_1 ar nr mr tr vr gr ao no mo to al nl ml tl Kst Kret x hS hR x0 x1 x2 x3 x4 h)
noncomputable def k4 : Con := ⟨4, [.agg [.list [.int .i64, .int .i64, .int .i64], .list [.bool]], .one (.list [.int .i64])], fun (x : ((Nat × Nat × Nat × (Nat → Int) × (Nat → Int) × (Nat → Int) × Unit) × (Nat × Nat × Nat × (Nat → Bool) × Unit) × Unit) × (Nat × Nat × Nat × (Nat → Int) × Unit) × Unit) => (fun (ar nr mr : Nat) (tr : Nat → Int) (vr : Nat → Int) (gr : Nat → Int) (ao no mo : Nat) (to : Nat → Bool) (al nl ml : Nat) (tl : Nat → Int) => decide (ar + nr ≤ mr ∧ ao + no ≤ mo ∧ al + nl ≤ ml)) x.1.1.1 x.1.1.2.1 x.1.1.2.2.1 x.1.1.2.2.2.1 x.1.1.2.2.2.2.1 x.1.1.2.2.2.2.2.1 x.1.2.1.1 x.1.2.1.2.1 x.1.2.1.2.2.1 x.1.2.1.2.2.2.1 x.2.1.1 x.2.1.2.1 x.2.1.2.2.1 x.2.1.2.2.2.1, fun (x : ((Nat × Nat × Nat × (Nat → Int) × (Nat → Int) × (Nat → Int) × Unit) × (Nat × Nat × Nat × (Nat → Bool) × Unit) × Unit) × (Nat × Nat × Nat × (Nat → Int) × Unit) × Unit) => (fun (ar nr mr : Nat) (tr : Nat → Int) (vr : Nat → Int) (gr : Nat → Int) (ao no mo : Nat) (to : Nat → Bool) (al nl ml : Nat) (tl : Nat → Int) => (V4 ar nr mr tr vr gr ao no mo to al nl ml tl) (true)) x.1.1.1 x.1.1.2.1 x.1.1.2.2.1 x.1.1.2.2.2.1 x.1.1.2.2.2.2.1 x.1.1.2.2.2.2.2.1 x.1.2.1.1 x.1.2.1.2.1 x.1.2.1.2.2.1 x.1.2.1.2.2.2.1 x.2.1.1 x.2.1.2.1 x.2.1.2.2.1 x.2.1.2.2.2.1, fun (x : ((Nat × Nat × Nat × (Nat → Int) × (Nat → Int) × (Nat → Int) × Unit) × (Nat × Nat × Nat × (Nat → Bool) × Unit) × Unit) × (Nat × Nat × Nat × (Nat → Int) × Unit) × Unit) => (fun (ar nr mr : Nat) (tr : Nat → Int) (vr : Nat → Int) (gr : Nat → Int) (ao no mo : Nat) (to : Nat → Bool) (al nl ml : Nat) (tl : Nat → Int) => (N4 ar nr mr tr vr gr ao no mo to al nl ml tl) (true)) x.1.1.1 x.1.1.2.1 x.1.1.2.2.1 x.1.1.2.2.2.1 x.1.1.2.2.2.2.1 x.1.1.2.2.2.2.2.1 x.1.2.1.1 x.1.2.1.2.1 x.1.2.1.2.2.1 x.1.2.1.2.2.2.1 x.2.1.1 x.2.1.2.1 x.2.1.2.2.1 x.2.1.2.2.2.1, fun _ _ => .dead⟩
set_option maxRecDepth 100000 in
theorem s4b (ar nr mr : Nat) (tr : Nat → Int) (vr : Nat → Int) (gr : Nat → Int) (ao no mo : Nat) (to : Nat → Bool) (al nl ml : Nat) (tl : Nat → Int) (hp : ar + nr ≤ mr ∧ ao + no ≤ mo ∧ al + nl ≤ ml) (hn : nl ≤ 1000) (hv : S.histE nr (fun j => tr (j + ar)) (fun j => vr (j + ar)) (fun j => gr (j + ar)) no nl (fun j => tl (j + al)) = 0) : ∀ (k i : Nat), i + k = nl → Comes (q4 ar nr mr tr vr gr ao no mo to al nl ml tl) (.h1 (i : Int) (S.mkl nr fun j => (tr (j + ar), vr (j + ar), gr (j + ar))) (S.mkl no fun j => S.aftN (tr (j + ar)) (vr (j + ar)) (fun j => tl (j + al)) (to (j + ao)) nl) (S.mkl nr fun j => (tr (j + ar), vr (j + ar), gr (j + ar))) (S.mkl no fun j => S.aftN (tr (j + ar)) (vr (j + ar)) (fun j => tl (j + al)) (to (j + ao)) i)) true := by
  obtain ⟨hp1, hp2, hp3⟩ := hp
  obtain ⟨hm, -, hx⟩ := hist_ok hv
  obtain ⟨v1, v2, v3, v4⟩ := mag_ok hm
  intro k
  induction k with
  | zero =>
    intro i hi
    obtain rfl : nl = i := by omega
    refine Comes.done ?_
    unfold q4
    refine bif_f (by apply decide_eq_false; omega) ?_
    have e1 : ∀ {n : Nat} {f : Nat → Int × Int × Int}, (S.mkl (S.mkl n f).length fun j => ((S.at' (S.mkl n f) j).1, (S.at' (S.mkl n f) j).2.1, (S.at' (S.mkl n f) j).2.2)) = S.mkl n f := mkl3_at _
    have e2 : ∀ {n : Nat} {f : Nat → Bool}, (S.mkl (S.mkl n f).length fun j => S.at' (S.mkl n f) j) = S.mkl n f := mkl1_at _
    simp only [e1, e2]
    repeat' first
      | with_reducible rfl
      | (refine bif_t ?_ ?_; first | with_reducible exact beq_self_eq_true _ | with_reducible exact decide_eq_true trivial | with_reducible exact decide_eq_true rfl | (simp only [eq_self, decide_true, Bool.and_self, Bool.and_true, Bool.true_and]; done) | (apply decide_eq_true; omega) | (rw [lim64]; apply decide_eq_true; omega) | (apply decide_eq_true; simp only [mkl_len, mkl_zero, List.length_nil, true_and, and_true, and_self, Nat.zero_add, Nat.add_zero, Nat.le_refl]; done) | (apply decide_eq_true; simp only [mkl_len, mkl_zero, List.length_nil, true_and, and_true, and_self, Nat.zero_add, Nat.add_zero, Nat.le_refl]; omega) | (simp only [Bool.and_eq_true, decide_eq_true_eq, and_self, eq_self]; done) | decide)
      | (refine bif_f ?_ ?_; first | with_reducible exact bne_self_eq_false _ | (apply decide_eq_false; omega) | decide)

  | succ k ih =>
    intro i hi
    have ih := ih (i + 1) (by omega)
    have e : S.histS (S.mkl nr fun j => (tr (j + ar), vr (j + ar), gr (j + ar))).length (fun j => (S.at' (S.mkl nr fun j => (tr (j + ar), vr (j + ar), gr (j + ar))) j).1) (fun j => (S.at' (S.mkl nr fun j => (tr (j + ar), vr (j + ar), gr (j + ar))) j).2.1) (fun j => (S.at' (S.mkl nr fun j => (tr (j + ar), vr (j + ar), gr (j + ar))) j).2.2) (S.mkl no fun j => S.aftN (tr (j + ar)) (vr (j + ar)) (fun j => tl (j + al)) (to (j + ao)) i).length (fun j => S.at' (S.mkl no fun j => S.aftN (tr (j + ar)) (vr (j + ar)) (fun j => tl (j + al)) (to (j + ao)) i) j) 1 (fun j => S.lit [tl (i + al)] 0 j) = (0, S.mkl nr fun j => (tr (j + ar), vr (j + ar), gr (j + ar)), S.mkl no fun j => S.aftN (tr (j + ar)) (vr (j + ar)) (fun j => tl (j + al)) (to (j + ao)) (i + 1)) := hist_cl.trans (hist1_yes (hist_one_ok hm (hx i (by omega))))
    refine Comes.next (s' := .h1 ((i : Int) + 1) (S.mkl nr fun j => (tr (j + ar), vr (j + ar), gr (j + ar))) (S.mkl no fun j => S.aftN (tr (j + ar)) (vr (j + ar)) (fun j => tl (j + al)) (to (j + ao)) nl) (S.mkl nr fun j => (tr (j + ar), vr (j + ar), gr (j + ar))) (S.mkl no fun j => S.aftN (tr (j + ar)) (vr (j + ar)) (fun j => tl (j + al)) (to (j + ao)) (i + 1))) ?_ ih
    unfold q4
    simp only [Int.toNat_natCast, e]
    repeat' first
      | with_reducible rfl
      | (refine bif_t ?_ ?_; first | with_reducible exact beq_self_eq_true _ | with_reducible exact decide_eq_true trivial | with_reducible exact decide_eq_true rfl | (simp only [eq_self, decide_true, Bool.and_self, Bool.and_true, Bool.true_and]; done) | (apply decide_eq_true; omega) | (rw [lim64]; apply decide_eq_true; omega) | (apply decide_eq_true; simp only [mkl_len, mkl_zero, List.length_nil, true_and, and_true, and_self, Nat.zero_add, Nat.add_zero, Nat.le_refl]; done) | (apply decide_eq_true; simp only [mkl_len, mkl_zero, List.length_nil, true_and, and_true, and_self, Nat.zero_add, Nat.add_zero, Nat.le_refl]; omega) | (simp only [Bool.and_eq_true, decide_eq_true_eq, and_self, eq_self]; done) | decide)
      | (refine bif_f ?_ ?_; first | with_reducible exact bne_self_eq_false _ | (apply decide_eq_false; omega) | decide)
theorem s4a (ar nr mr : Nat) (tr : Nat → Int) (vr : Nat → Int) (gr : Nat → Int) (ao no mo : Nat) (to : Nat → Bool) (al nl ml : Nat) (tl : Nat → Int) (hp : ar + nr ≤ mr ∧ ao + no ≤ mo ∧ al + nl ≤ ml) (hn : nl ≤ 1000) (hv : S.histE nr (fun j => tr (j + ar)) (fun j => vr (j + ar)) (fun j => gr (j + ar)) no nl (fun j => tl (j + al)) = 0) : Comes (q4 ar nr mr tr vr gr ao no mo to al nl ml tl) (.h0 (S.mkl nr fun j => (tr (j + ar), vr (j + ar), gr (j + ar))) (S.mkl no fun j => S.aftN (tr (j + ar)) (vr (j + ar)) (fun j => tl (j + al)) (to (j + ao)) nl)) true := by
  have hp' := hp
  obtain ⟨hp1, hp2, hp3⟩ := hp
  obtain ⟨hm, -, hx⟩ := hist_ok hv
  obtain ⟨v1, v2, v3, v4⟩ := mag_ok hm
  have hb := s4b ar nr mr tr vr gr ao no mo to al nl ml tl hp' hn hv
  by_cases h0 : nl = 0
  · subst h0
    refine Comes.done ?_
    unfold q4
    refine bif_f (by apply decide_eq_false; omega) ?_
    have e0 : (S.mkl no fun j => S.aftN (tr (j + ar)) (vr (j + ar)) (fun j => tl (j + al)) (to (j + ao)) 0) = S.mkl no fun j => to (j + ao) := rfl
    rw [e0]
    have e1 : ∀ {n : Nat} {f : Nat → Int × Int × Int}, (S.mkl (S.mkl n f).length fun j => ((S.at' (S.mkl n f) j).1, (S.at' (S.mkl n f) j).2.1, (S.at' (S.mkl n f) j).2.2)) = S.mkl n f := mkl3_at _
    have e2 : ∀ {n : Nat} {f : Nat → Bool}, (S.mkl (S.mkl n f).length fun j => S.at' (S.mkl n f) j) = S.mkl n f := mkl1_at _
    simp only [e1, e2]
    repeat' first
      | with_reducible rfl
      | (refine bif_t ?_ ?_; first | with_reducible exact beq_self_eq_true _ | with_reducible exact decide_eq_true trivial | with_reducible exact decide_eq_true rfl | (simp only [eq_self, decide_true, Bool.and_self, Bool.and_true, Bool.true_and]; done) | (apply decide_eq_true; omega) | (rw [lim64]; apply decide_eq_true; omega) | (apply decide_eq_true; simp only [mkl_len, mkl_zero, List.length_nil, true_and, and_true, and_self, Nat.zero_add, Nat.add_zero, Nat.le_refl]; done) | (apply decide_eq_true; simp only [mkl_len, mkl_zero, List.length_nil, true_and, and_true, and_self, Nat.zero_add, Nat.add_zero, Nat.le_refl]; omega) | (simp only [Bool.and_eq_true, decide_eq_true_eq, and_self, eq_self]; done) | decide)
      | (refine bif_f ?_ ?_; first | with_reducible exact bne_self_eq_false _ | (apply decide_eq_false; omega) | decide)

  · have e : S.histS nr (fun j => tr (j + ar)) (fun j => vr (j + ar)) (fun j => gr (j + ar)) no (fun j => to (j + ao)) 1 (fun j => S.lit [tl (0 + al)] 0 j) = (0, S.mkl nr fun j => (tr (j + ar), vr (j + ar), gr (j + ar)), S.mkl no fun j => S.aftN (tr (j + ar)) (vr (j + ar)) (fun j => tl (j + al)) (to (j + ao)) 1) := hist1_yes (hist_one_ok hm (hx 0 (by omega)))
    refine Comes.next (s' := .h1 1 (S.mkl nr fun j => (tr (j + ar), vr (j + ar), gr (j + ar))) (S.mkl no fun j => S.aftN (tr (j + ar)) (vr (j + ar)) (fun j => tl (j + al)) (to (j + ao)) nl) (S.mkl nr fun j => (tr (j + ar), vr (j + ar), gr (j + ar))) (S.mkl no fun j => S.aftN (tr (j + ar)) (vr (j + ar)) (fun j => tl (j + al)) (to (j + ao)) 1)) ?_ (hb (nl - 1) 1 (by omega))
    unfold q4
    simp only [e]
    repeat' first
      | with_reducible rfl
      | (refine bif_t ?_ ?_; first | with_reducible exact beq_self_eq_true _ | with_reducible exact decide_eq_true trivial | with_reducible exact decide_eq_true rfl | (simp only [eq_self, decide_true, Bool.and_self, Bool.and_true, Bool.true_and]; done) | (apply decide_eq_true; omega) | (rw [lim64]; apply decide_eq_true; omega) | (apply decide_eq_true; simp only [mkl_len, mkl_zero, List.length_nil, true_and, and_true, and_self, Nat.zero_add, Nat.add_zero, Nat.le_refl]; done) | (apply decide_eq_true; simp only [mkl_len, mkl_zero, List.length_nil, true_and, and_true, and_self, Nat.zero_add, Nat.add_zero, Nat.le_refl]; omega) | (simp only [Bool.and_eq_true, decide_eq_true_eq, and_self, eq_self]; done) | decide)
      | (refine bif_f ?_ ?_; first | with_reducible exact bne_self_eq_false _ | (apply decide_eq_false; omega) | decide)
theorem s4 (ar nr mr : Nat) (tr : Nat → Int) (vr : Nat → Int) (gr : Nat → Int) (ao no mo : Nat) (to : Nat → Bool) (al nl ml : Nat) (tl : Nat → Int) (hp : ar + nr ≤ mr ∧ ao + no ≤ mo ∧ al + nl ≤ ml) : Goes ((q4 ar nr mr tr vr gr ao no mo to al nl ml tl)) ((p4 ar nr mr tr vr gr ao no mo to al nl ml tl)) (true) := by
  obtain ⟨hp1, hp2, hp3⟩ := hp
  unfold p4
  by_cases h1 : (nr : Int) ≤ 45
  case neg => exact goes_no (decide_eq_false h1) rfl
  refine goes_ok (decide_eq_true h1) ?_
  by_cases h2 : (no : Int) ≤ 50
  case neg => exact goes_no (decide_eq_false h2) rfl
  refine goes_ok (decide_eq_true h2) ?_
  by_cases h3 : (nl : Int) > 60
  · refine goes_ok (decide_eq_true h3) ?_
    by_cases h4 : (nl : Int) ≤ 1000
    · exact goes_ok (decide_eq_true h4) rfl
    refine goes_no (decide_eq_false h4) ?_
    by_cases h5 : (nl : Int) > 1010
    · exact goes_ok (decide_eq_true h5) rfl
    refine goes_no (decide_eq_false h5) ?_
    have hv : ¬ S.histE nr (fun j => tr (j + ar)) (fun j => vr (j + ar)) (fun j => gr (j + ar)) no nl (fun j => tl (j + al)) = 0 := fun hv => by have := (hist_ok hv).2.1; omega
    rw [show S.histS nr (fun j => tr (j + ar)) (fun j => vr (j + ar)) (fun j => gr (j + ar)) no (fun j => to (j + ao)) nl (fun j => tl (j + al)) = (S.histE nr (fun j => tr (j + ar)) (fun j => vr (j + ar)) (fun j => gr (j + ar)) no nl (fun j => tl (j + al)), [], []) by unfold S.histS; rw [if_neg hv]]
    generalize S.histE nr (fun j => tr (j + ar)) (fun j => vr (j + ar)) (fun j => gr (j + ar)) no nl (fun j => tl (j + al)) = e at hv ⊢
    have he : (e != 0) = true := by simpa using hv
    generalize q4 ar nr mr tr vr gr ao no mo to al nl ml tl = Q
    simp only [List.length_nil, mkl_zero]
    repeat' first
      | with_reducible exact goes_inr.mpr rfl
      | (refine goes_ok ?_ ?_; first | with_reducible exact beq_self_eq_true _ | with_reducible exact decide_eq_true trivial | with_reducible exact decide_eq_true rfl | (simp only [eq_self, decide_true, Bool.and_self, Bool.and_true, Bool.true_and]; done) | (apply decide_eq_true; omega) | (rw [lim64]; apply decide_eq_true; omega) | (apply decide_eq_true; simp only [mkl_len, mkl_zero, List.length_nil, true_and, and_true, and_self, Nat.zero_add, Nat.add_zero, Nat.le_refl]; done) | (apply decide_eq_true; simp only [mkl_len, mkl_zero, List.length_nil, true_and, and_true, and_self, Nat.zero_add, Nat.add_zero, Nat.le_refl]; omega) | (simp only [Bool.and_eq_true, decide_eq_true_eq, and_self, eq_self]; done) | decide)
      | (refine goes_no ?_ ?_; first | with_reducible exact bne_self_eq_false _ | (apply decide_eq_false; omega) | decide)
    refine goes_ok he ?_
    repeat' first
      | with_reducible exact goes_inr.mpr rfl
      | (refine goes_ok ?_ ?_; first | with_reducible exact beq_self_eq_true _ | with_reducible exact decide_eq_true trivial | with_reducible exact decide_eq_true rfl | (simp only [eq_self, decide_true, Bool.and_self, Bool.and_true, Bool.true_and]; done) | (apply decide_eq_true; omega) | (rw [lim64]; apply decide_eq_true; omega) | (apply decide_eq_true; simp only [mkl_len, mkl_zero, List.length_nil, true_and, and_true, and_self, Nat.zero_add, Nat.add_zero, Nat.le_refl]; done) | (apply decide_eq_true; simp only [mkl_len, mkl_zero, List.length_nil, true_and, and_true, and_self, Nat.zero_add, Nat.add_zero, Nat.le_refl]; omega) | (simp only [Bool.and_eq_true, decide_eq_true_eq, and_self, eq_self]; done) | decide)
      | (refine goes_no ?_ ?_; first | with_reducible exact bne_self_eq_false _ | (apply decide_eq_false; omega) | decide)

  · refine goes_no (decide_eq_false h3) ?_
    by_cases h5 : (nl : Int) > 1010
    · exact goes_ok (decide_eq_true h5) rfl
    refine goes_no (decide_eq_false h5) ?_
    refine goes_ok (by apply decide_eq_true; omega) (goes_ok (by apply decide_eq_true; omega) (goes_ok (by apply decide_eq_true; omega) (goes_ok (by apply decide_eq_true; omega) (goes_ok (by apply decide_eq_true; omega) ?_))))
    by_cases hv : S.histE nr (fun j => tr (j + ar)) (fun j => vr (j + ar)) (fun j => gr (j + ar)) no nl (fun j => tl (j + al)) = 0
    · rw [show S.histS nr (fun j => tr (j + ar)) (fun j => vr (j + ar)) (fun j => gr (j + ar)) no (fun j => to (j + ao)) nl (fun j => tl (j + al)) = (0, S.mkl nr fun j => (tr (j + ar), vr (j + ar), gr (j + ar)), S.mkl no fun j => S.aftN (tr (j + ar)) (vr (j + ar)) (fun j => tl (j + al)) (to (j + ao)) nl) by unfold S.histS; rw [if_pos hv]]
      have e1 : ∀ {n : Nat} {f : Nat → Int × Int × Int}, (S.mkl (S.mkl n f).length fun j => ((S.at' (S.mkl n f) j).1, (S.at' (S.mkl n f) j).2.1, (S.at' (S.mkl n f) j).2.2)) = S.mkl n f := mkl3_at _
      have e2 : ∀ {n : Nat} {f : Nat → Bool}, (S.mkl (S.mkl n f).length fun j => S.at' (S.mkl n f) j) = S.mkl n f := mkl1_at _
      have hm := s4a ar nr mr tr vr gr ao no mo to al nl ml tl ⟨hp1, hp2, hp3⟩ (by omega) hv
      generalize q4 ar nr mr tr vr gr ao no mo to al nl ml tl = Q at hm ⊢
      simp only [e1, e2]
      repeat' first
        | with_reducible exact goes_inr.mpr rfl
        | (refine goes_ok ?_ ?_; first | with_reducible exact beq_self_eq_true _ | with_reducible exact decide_eq_true trivial | with_reducible exact decide_eq_true rfl | (simp only [eq_self, decide_true, Bool.and_self, Bool.and_true, Bool.true_and]; done) | (apply decide_eq_true; omega) | (rw [lim64]; apply decide_eq_true; omega) | (apply decide_eq_true; simp only [mkl_len, mkl_zero, List.length_nil, true_and, and_true, and_self, Nat.zero_add, Nat.add_zero, Nat.le_refl]; done) | (apply decide_eq_true; simp only [mkl_len, mkl_zero, List.length_nil, true_and, and_true, and_self, Nat.zero_add, Nat.add_zero, Nat.le_refl]; omega) | (simp only [Bool.and_eq_true, decide_eq_true_eq, and_self, eq_self]; done) | decide)
        | (refine goes_no ?_ ?_; first | with_reducible exact bne_self_eq_false _ | (apply decide_eq_false; omega) | decide)
      exact hm
    · rw [show S.histS nr (fun j => tr (j + ar)) (fun j => vr (j + ar)) (fun j => gr (j + ar)) no (fun j => to (j + ao)) nl (fun j => tl (j + al)) = (S.histE nr (fun j => tr (j + ar)) (fun j => vr (j + ar)) (fun j => gr (j + ar)) no nl (fun j => tl (j + al)), [], []) by unfold S.histS; rw [if_neg hv]]
      generalize S.histE nr (fun j => tr (j + ar)) (fun j => vr (j + ar)) (fun j => gr (j + ar)) no nl (fun j => tl (j + al)) = e at hv ⊢
      have he : (e != 0) = true := by simpa using hv
      generalize q4 ar nr mr tr vr gr ao no mo to al nl ml tl = Q
      simp only [List.length_nil, mkl_zero]
      repeat' first
        | with_reducible exact goes_inr.mpr rfl
        | (refine goes_ok ?_ ?_; first | with_reducible exact beq_self_eq_true _ | with_reducible exact decide_eq_true trivial | with_reducible exact decide_eq_true rfl | (simp only [eq_self, decide_true, Bool.and_self, Bool.and_true, Bool.true_and]; done) | (apply decide_eq_true; omega) | (rw [lim64]; apply decide_eq_true; omega) | (apply decide_eq_true; simp only [mkl_len, mkl_zero, List.length_nil, true_and, and_true, and_self, Nat.zero_add, Nat.add_zero, Nat.le_refl]; done) | (apply decide_eq_true; simp only [mkl_len, mkl_zero, List.length_nil, true_and, and_true, and_self, Nat.zero_add, Nat.add_zero, Nat.le_refl]; omega) | (simp only [Bool.and_eq_true, decide_eq_true_eq, and_self, eq_self]; done) | decide)
        | (refine goes_no ?_ ?_; first | with_reducible exact bne_self_eq_false _ | (apply decide_eq_false; omega) | decide)
      refine goes_ok he ?_
      repeat' first
        | with_reducible exact goes_inr.mpr rfl
        | (refine goes_ok ?_ ?_; first | with_reducible exact beq_self_eq_true _ | with_reducible exact decide_eq_true trivial | with_reducible exact decide_eq_true rfl | (simp only [eq_self, decide_true, Bool.and_self, Bool.and_true, Bool.true_and]; done) | (apply decide_eq_true; omega) | (rw [lim64]; apply decide_eq_true; omega) | (apply decide_eq_true; simp only [mkl_len, mkl_zero, List.length_nil, true_and, and_true, and_self, Nat.zero_add, Nat.add_zero, Nat.le_refl]; done) | (apply decide_eq_true; simp only [mkl_len, mkl_zero, List.length_nil, true_and, and_true, and_self, Nat.zero_add, Nat.add_zero, Nat.le_refl]; omega) | (simp only [Bool.and_eq_true, decide_eq_true_eq, and_self, eq_self]; done) | decide)
        | (refine goes_no ?_ ?_; first | with_reducible exact bne_self_eq_false _ | (apply decide_eq_false; omega) | decide)


theorem k4_ok : k4.ok Try.prog := by
  intro x hx
  obtain ⟨⟨⟨ar, nr, mr, tr, vr, gr, _⟩, ⟨ao, no, mo, to, _⟩, _⟩, ⟨al, nl, ml, tl, _⟩, _⟩ := x
  obtain ⟨h1, h2⟩ := a4 ar nr mr tr vr gr ao no mo to al nl ml tl (s4 ar nr mr tr vr gr ao no mo to al nl ml tl (of_decide_eq_true hx))
  exact ⟨⟨400, (by decide : 3 + 1 + 0 ≤ 400), h1⟩, h2⟩


end Go.Ev
