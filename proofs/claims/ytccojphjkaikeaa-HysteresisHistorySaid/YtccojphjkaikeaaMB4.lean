/-
  History, in the reference.
-/
import Derived.Test.YtccojphjkaikeaaMA4
namespace Go.Ev
open Go.Proofs
set_option linter.unusedVariables false
set_option linter.unusedSimpArgs false
set_option maxRecDepth 100000
noncomputable def yB4 (test : Bool → Prop → Prop → Prop) : Ext := consX test [k45]
theorem yB4_ok : ExtOk Try.prog (yB4 cond) := consX_ok (l := [k45]) ⟨k45_ok, trivial⟩
inductive St26 where
  | h0 (x0 : Int) (x1 : List (Int × Int × Int)) (x2 : List Bool)
  | h1 (x0 : Int) (x1 : Bool) (x2 : Int) (x3 : List (Int × Int × Int)) (x4 : List Bool)
abbrev Rt26 := Int × List (Int × Int × Int) × List Bool
noncomputable def V26 (ar nr mr : Nat) (tr : Nat → Int) (vr : Nat → Int) (gr : Nat → Int) (ao no mo : Nat) (to : Nat → Bool) (al nl ml : Nat) (tl : Nat → Int) (r : Rt26) : PV := PV.tup
 [PV.agg
 [PV.own (4) (3) (List.length r.2.1), PV.own (5) (1) (List.length r.2.2)],
 PV.int IntKind.i64 r.1]
noncomputable def N26 (ar nr mr : Nat) (tr : Nat → Int) (vr : Nat → Int) (gr : Nat → Int) (ao no mo : Nat) (to : Nat → Bool) (al nl ml : Nat) (tl : Nat → Int) (r : Rt26) : List Blk := [Blk.cols (List.length r.2.1)
 [Col.int IntKind.i64 fun (j : Nat) => (S.at' r.2.1 j).1,
 Col.int IntKind.i64 fun (j : Nat) => (S.at' r.2.1 j).2.1,
 Col.int IntKind.i64 fun (j : Nat) => (S.at' r.2.1 j).2.2], Blk.cols (List.length r.2.2) [Col.bool fun (j : Nat) => S.at' r.2.2 j]]
noncomputable def I26 (ar nr mr : Nat) (tr : Nat → Int) (vr : Nat → Int) (gr : Nat → Int) (ao no mo : Nat) (to : Nat → Bool) (al nl ml : Nat) (tl : Nat → Int) : St26 → Hd
  | .h0 x0 x1 x2 => ⟨hd Try.f26 0, [PV.loose (PA.mk (2) (1) al (0)) nl,
 PV.ptr (PA.mk (3) (0) (0) (0)),
 PV.ptr (PA.mk (4) (0) (0) (0)),
 PV.ptr (PA.mk (5) (0) (0) (0)), PV.int IntKind.i64 x0,
 PV.unk, PV.unk], [[(3, (true, Blk.cells
 [PV.loose (PA.mk (0) (3) ar (0)) nr,
 PV.loose (PA.mk (1) (1) ao (0)) no])), (4, (true, Blk.cells [PV.nils, PV.nils])), (5, (true, Blk.cells
 [PV.own (6) (3) (List.length x1), PV.own (7) (1) (List.length x2)])), (6, (true, Blk.cols (List.length x1)
 [Col.int IntKind.i64 fun (j : Nat) => (S.at' x1 j).1,
 Col.int IntKind.i64 fun (j : Nat) => (S.at' x1 j).2.1,
 Col.int IntKind.i64 fun (j : Nat) => (S.at' x1 j).2.2])), (7, (true, Blk.cols (List.length x2) [Col.bool fun (j : Nat) => S.at' x2 j]))], [(0, (false, .cols mr [.int .i64 tr, .int .i64 vr, .int .i64 gr])), (1, (false, .cols mo [.bool to])), (2, (false, .cols ml [.int .i64 tl]))]], 8⟩
  | .h1 x0 x1 x2 x3 x4 => ⟨hd Try.f26 1, [PV.loose (PA.mk (2) (1) al (0)) nl,
 PV.ptr (PA.mk (3) (0) (0) (0)),
 PV.ptr (PA.mk (4) (0) (0) (0)),
 PV.ptr (PA.mk (5) (0) (0) (0)), PV.int IntKind.i64 x0,
 PV.bool x1, PV.int IntKind.i64 x2], [[(3, (true, Blk.cells
 [PV.loose (PA.mk (0) (3) ar (0)) nr,
 PV.loose (PA.mk (1) (1) ao (0)) no])), (4, (true, Blk.cells [PV.nils, PV.nils])), (5, (true, Blk.cells
 [PV.own (6) (3) (List.length x3), PV.own (7) (1) (List.length x4)])), (6, (true, Blk.cols (List.length x3)
 [Col.int IntKind.i64 fun (j : Nat) => (S.at' x3 j).1,
 Col.int IntKind.i64 fun (j : Nat) => (S.at' x3 j).2.1,
 Col.int IntKind.i64 fun (j : Nat) => (S.at' x3 j).2.2])), (7, (true, Blk.cols (List.length x4) [Col.bool fun (j : Nat) => S.at' x4 j]))], [(0, (false, .cols mr [.int .i64 tr, .int .i64 vr, .int .i64 gr])), (1, (false, .cols mo [.bool to])), (2, (false, .cols ml [.int .i64 tl]))]], 8⟩
noncomputable def q26 (ar nr mr : Nat) (tr : Nat → Int) (vr : Nat → Int) (gr : Nat → Int) (ao no mo : Nat) (to : Nat → Bool) (al nl ml : Nat) (tl : Nat → Int) : St26 → Option (St26 ⊕ Rt26)
  | .h0 x0 x1 x2 => bif (decide (x0 < (↑nr : Int)))
 then (bif (decide ((0 : Int) ≤ x0 ∧ x0 < (↑no : Int)))
 then (bif (decide (Int.toNat x0 + ao < mo))
 then (bif (to (Int.toNat x0 + ao))
 then (some (.inl (.h1 (x0) (true) ((0 : Int)) (x1) (x2))))
 else (some (.inl (.h1 (x0) (false) ((0 : Int)) (x1) (x2)))))
 else (none))
 else (none))
 else (some (.inr ((0 : Int), x1, x2)))
  | .h1 x0 x1 x2 x3 x4 => bif (decide (x2 < (↑nl : Int)))
 then (bif (decide ((0 : Int) ≤ x0 ∧ x0 < (↑nr : Int)))
 then (bif (decide (Int.toNat x0 + ar < mr))
 then (bif (x1)
 then (bif (decide ((0 : Int) ≤ x2 ∧ x2 < (↑nl : Int)))
 then (bif (decide (Int.toNat x2 + al < ml))
 then (bif (decide (tl (Int.toNat x2 + al) ≥ tr (Int.toNat x0 + ar)))
 then (bif (lim IntKind.i64 (x2 + (1 : Int)))
 then (some (.inl (.h1 (x0) (true) (x2 + (1 : Int)) (x3) (x4))))
 else (none))
 else (bif (decide (tl (Int.toNat x2 + al) ≤ vr (Int.toNat x0 + ar)))
 then (bif (lim IntKind.i64 (x2 + (1 : Int)))
 then (some (.inl (.h1 (x0) (false) (x2 + (1 : Int)) (x3) (x4))))
 else (none))
 else (bif (lim IntKind.i64 (x2 + (1 : Int)))
 then (some (.inl (.h1 (x0) (true) (x2 + (1 : Int)) (x3) (x4))))
 else (none))))
 else (none))
 else (none))
 else (bif (decide ((0 : Int) ≤ x2 ∧ x2 < (↑nl : Int)))
 then (bif (decide (Int.toNat x2 + al < ml))
 then (bif (decide (tl (Int.toNat x2 + al) ≥ tr (Int.toNat x0 + ar)))
 then (bif (lim IntKind.i64 (x2 + (1 : Int)))
 then (some (.inl (.h1 (x0) (true) (x2 + (1 : Int)) (x3) (x4))))
 else (none))
 else (bif (decide (tl (Int.toNat x2 + al) ≤ vr (Int.toNat x0 + ar)))
 then (bif (lim IntKind.i64 (x2 + (1 : Int)))
 then (some (.inl (.h1 (x0) (false) (x2 + (1 : Int)) (x3) (x4))))
 else (none))
 else (bif (lim IntKind.i64 (x2 + (1 : Int)))
 then (some (.inl (.h1 (x0) (false) (x2 + (1 : Int)) (x3) (x4))))
 else (none))))
 else (none))
 else (none)))
 else (none))
 else (none))
 else (bif (decide ((0 : Int) ≤ x0 ∧ x0 < (↑nr : Int)))
 then (bif (decide (Int.toNat x0 + ar < mr))
 then (bif (decide (List.length x3 + 1 ≤ 1000000))
 then (bif (decide (List.length x3 ≤ List.length x3))
 then (bif (x1)
 then (bif (decide (List.length x4 + 1 ≤ 1000000))
 then (bif (decide (List.length x4 ≤ List.length x4))
 then (bif (lim IntKind.i64 (x0 + (1 : Int)))
 then (some (.inl (.h0 (x0 + (1 : Int)) (S.snoc x3 (tr (Int.toNat x0 + ar), vr (Int.toNat x0 + ar), gr (Int.toNat x0 + ar))) (S.snoc x4 true))))
 else (none))
 else (none))
 else (none))
 else (bif (decide (List.length x4 + 1 ≤ 1000000))
 then (bif (decide (List.length x4 ≤ List.length x4))
 then (bif (lim IntKind.i64 (x0 + (1 : Int)))
 then (some (.inl (.h0 (x0 + (1 : Int)) (S.snoc x3 (tr (Int.toNat x0 + ar), vr (Int.toNat x0 + ar), gr (Int.toNat x0 + ar))) (S.snoc x4 false))))
 else (none))
 else (none))
 else (none)))
 else (none))
 else (none))
 else (none))
 else (none))
noncomputable def p26 (ar nr mr : Nat) (tr : Nat → Int) (vr : Nat → Int) (gr : Nat → Int) (ao no mo : Nat) (to : Nat → Bool) (al nl ml : Nat) (tl : Nat → Int) : Option (St26 ⊕ Rt26) := bif (decide (ar + nr ≤ mr ∧ nr ≤ 1000000 ∧ al + nl ≤ ml ∧ nl ≤ 1000000))
 then (bif ((S.histE nr (fun (j : Nat) => tr (j + ar)) (fun (j : Nat) => vr (j + ar)) (fun (j : Nat) => gr (j + ar)) no nl
 fun (j : Nat) => tl (j + al)) !=
 (0 : Int))
 then (some (.inr (S.histE nr (fun (j : Nat) => tr (j + ar)) (fun (j : Nat) => vr (j + ar)) (fun (j : Nat) => gr (j + ar)) no nl
 fun (j : Nat) => tl (j + al), [], [])))
 else (some (.inl (.h0 ((0 : Int)) ([]) ([])))))
 else (none)
noncomputable def Te26 (test : Bool → Prop → Prop → Prop) (Kst : KS) (Kret : KR) (ar nr mr : Nat) (tr : Nat → Int) (vr : Nat → Int) (gr : Nat → Int) (ao no mo : Nat) (to : Nat → Bool) (al nl ml : Nat) (tl : Nat → Int) : Prop :=
  test (decide (ar + nr ≤ mr ∧ nr ≤ 1000000 ∧ al + nl ≤ ml ∧ nl ≤ 1000000))
 (test ((S.histE nr (fun (j : Nat) => tr (j + ar)) (fun (j : Nat) => vr (j + ar)) (fun (j : Nat) => gr (j + ar)) no nl
 fun (j : Nat) => tl (j + al)) !=
 (0 : Int))
 (Kret (PV.tup
 [PV.agg [PV.nils, PV.nils],
 PV.int IntKind.i64
 (S.histE nr (fun (j : Nat) => tr (j + ar)) (fun (j : Nat) => vr (j + ar)) (fun (j : Nat) => gr (j + ar)) no
 nl fun (j : Nat) => tl (j + al))]) ([[(2, false, Blk.cols ml [Col.int IntKind.i64 tl]),
 (1, false, Blk.cols mo [Col.bool to]),
 (0, false,
 Blk.cols mr
 [Col.int IntKind.i64 tr, Col.int IntKind.i64 vr, Col.int IntKind.i64 gr])]]) (6))
 (Kst (hd Try.f26 0) ([PV.loose (PA.mk (2) (1) al (0)) nl,
 PV.ptr (PA.mk (3) (0) (0) (0)),
 PV.ptr (PA.mk (4) (0) (0) (0)),
 PV.ptr (PA.mk (6) (0) (0) (0)), PV.int IntKind.i64 (0 : Int),
 PV.unk, PV.unk]) ([[(2, false, Blk.cols ml [Col.int IntKind.i64 tl]),
 (1, false, Blk.cols mo [Col.bool to]),
 (0, false,
 Blk.cols mr
 [Col.int IntKind.i64 tr, Col.int IntKind.i64 vr, Col.int IntKind.i64 gr]),
 (6, true, Blk.cells [PV.nils, PV.nils]),
 (4, true, Blk.cells [PV.nils, PV.nils]),
 (3, true,
 Blk.cells
 [PV.loose (PA.mk (0) (3) ar (0)) nr,
 PV.loose (PA.mk (1) (1) ao (0)) no])]]) (7)))
 (False)
set_option maxRecDepth 100000 in
theorem te26 (test : Bool → Prop → Prop → Prop) (Kst : KS) (Kret : KR) (ar nr mr : Nat) (tr : Nat → Int) (vr : Nat → Int) (gr : Nat → Int) (ao no mo : Nat) (to : Nat → Bool) (al nl ml : Nat) (tl : Nat → Int) : run test Try.env true (yB4 test) true 400 ⟨26, [.cd (mkFn Try.f26).body], argT 0 [.agg [.loose ⟨0, 3, ar, 0⟩ nr, .loose ⟨1, 1, ao, 0⟩ no], .loose ⟨2, 1, al, 0⟩ nl], [[], [(0, (false, .cols mr [.int .i64 tr, .int .i64 vr, .int .i64 gr])), (1, (false, .cols mo [.bool to])), (2, (false, .cols ml [.int .i64 tl]))]], 3⟩ (proj 3 [1, 2, 4, 7, 8, 9, 10] Kst Kret) =
  Te26 test Kst Kret ar nr mr tr vr gr ao no mo to al nl ml tl := by kernel_rfl
noncomputable def T26_0 (test : Bool → Prop → Prop → Prop) (Kst : KS) (Kret : KR) (ar nr mr : Nat) (tr : Nat → Int) (vr : Nat → Int) (gr : Nat → Int) (ao no mo : Nat) (to : Nat → Bool) (al nl ml : Nat) (tl : Nat → Int) (x0 : Int) (x1 : List (Int × Int × Int)) (x2 : List Bool) : Prop :=
  test (decide (x0 < (↑nr : Int)))
 (test (decide ((0 : Int) ≤ x0 ∧ x0 < (↑no : Int)))
 (test (decide (Int.toNat x0 + ao < mo))
 (test (to (Int.toNat x0 + ao))
 (Kst (hd Try.f26 1) ([PV.loose (PA.mk (2) (1) al (0)) nl,
 PV.ptr (PA.mk (3) (0) (0) (0)),
 PV.ptr (PA.mk (4) (0) (0) (0)),
 PV.ptr (PA.mk (5) (0) (0) (0)), PV.int IntKind.i64 x0,
 PV.tf true, PV.int IntKind.i64 (0 : Int)]) ([[(2, false, Blk.cols ml [Col.int IntKind.i64 tl]),
 (1, false, Blk.cols mo [Col.bool to]),
 (0, false,
 Blk.cols mr
 [Col.int IntKind.i64 tr, Col.int IntKind.i64 vr, Col.int IntKind.i64 gr]),
 (5, true,
 Blk.cells
 [PV.own (6) (3) (List.length x1), PV.own (7) (1) (List.length x2)]),
 (4, true, Blk.cells [PV.nils, PV.nils]),
 (3, true,
 Blk.cells
 [PV.loose (PA.mk (0) (3) ar (0)) nr,
 PV.loose (PA.mk (1) (1) ao (0)) no]),
 (7, true, Blk.cols (List.length x2) [Col.bool fun (j : Nat) => S.at' x2 j]),
 (6, true,
 Blk.cols (List.length x1)
 [Col.int IntKind.i64 fun (j : Nat) => (S.at' x1 j).1,
 Col.int IntKind.i64 fun (j : Nat) => (S.at' x1 j).2.1,
 Col.int IntKind.i64 fun (j : Nat) => (S.at' x1 j).2.2])]]) (8))
 (Kst (hd Try.f26 1) ([PV.loose (PA.mk (2) (1) al (0)) nl,
 PV.ptr (PA.mk (3) (0) (0) (0)),
 PV.ptr (PA.mk (4) (0) (0) (0)),
 PV.ptr (PA.mk (5) (0) (0) (0)), PV.int IntKind.i64 x0,
 PV.tf false, PV.int IntKind.i64 (0 : Int)]) ([[(2, false, Blk.cols ml [Col.int IntKind.i64 tl]),
 (1, false, Blk.cols mo [Col.bool to]),
 (0, false,
 Blk.cols mr
 [Col.int IntKind.i64 tr, Col.int IntKind.i64 vr, Col.int IntKind.i64 gr]),
 (5, true,
 Blk.cells
 [PV.own (6) (3) (List.length x1), PV.own (7) (1) (List.length x2)]),
 (4, true, Blk.cells [PV.nils, PV.nils]),
 (3, true,
 Blk.cells
 [PV.loose (PA.mk (0) (3) ar (0)) nr,
 PV.loose (PA.mk (1) (1) ao (0)) no]),
 (7, true, Blk.cols (List.length x2) [Col.bool fun (j : Nat) => S.at' x2 j]),
 (6, true,
 Blk.cols (List.length x1)
 [Col.int IntKind.i64 fun (j : Nat) => (S.at' x1 j).1,
 Col.int IntKind.i64 fun (j : Nat) => (S.at' x1 j).2.1,
 Col.int IntKind.i64 fun (j : Nat) => (S.at' x1 j).2.2])]]) (8)))
 (False))
 (False))
 (Kret (PV.tup
 [PV.agg
 [PV.own (6) (3) (List.length x1), PV.own (7) (1) (List.length x2)],
 PV.int IntKind.i64 (0 : Int)]) ([[(2, false, Blk.cols ml [Col.int IntKind.i64 tl]),
 (1, false, Blk.cols mo [Col.bool to]),
 (0, false,
 Blk.cols mr
 [Col.int IntKind.i64 tr, Col.int IntKind.i64 vr, Col.int IntKind.i64 gr]),
 (7, true, Blk.cols (List.length x2) [Col.bool fun (j : Nat) => S.at' x2 j]),
 (6, true,
 Blk.cols (List.length x1)
 [Col.int IntKind.i64 fun (j : Nat) => (S.at' x1 j).1,
 Col.int IntKind.i64 fun (j : Nat) => (S.at' x1 j).2.1,
 Col.int IntKind.i64 fun (j : Nat) => (S.at' x1 j).2.2])]]) (8))
set_option maxRecDepth 100000 in
theorem t26_0 (test : Bool → Prop → Prop → Prop) (Kst : KS) (Kret : KR) (ar nr mr : Nat) (tr : Nat → Int) (vr : Nat → Int) (gr : Nat → Int) (ao no mo : Nat) (to : Nat → Bool) (al nl ml : Nat) (tl : Nat → Int) (x0 : Int) (x1 : List (Int × Int × Int)) (x2 : List Bool) : run test Try.env true (yB4 test) true 400 ⟨26, hd Try.f26 0, zipT [1, 2, 4, 7, 8, 9, 10] [PV.loose (PA.mk (2) (1) al (0)) nl,
 PV.ptr (PA.mk (3) (0) (0) (0)),
 PV.ptr (PA.mk (4) (0) (0) (0)),
 PV.ptr (PA.mk (5) (0) (0) (0)), PV.int IntKind.i64 x0,
 PV.unk, PV.unk], [[(3, (true, Blk.cells
 [PV.loose (PA.mk (0) (3) ar (0)) nr,
 PV.loose (PA.mk (1) (1) ao (0)) no])), (4, (true, Blk.cells [PV.nils, PV.nils])), (5, (true, Blk.cells
 [PV.own (6) (3) (List.length x1), PV.own (7) (1) (List.length x2)])), (6, (true, Blk.cols (List.length x1)
 [Col.int IntKind.i64 fun (j : Nat) => (S.at' x1 j).1,
 Col.int IntKind.i64 fun (j : Nat) => (S.at' x1 j).2.1,
 Col.int IntKind.i64 fun (j : Nat) => (S.at' x1 j).2.2])), (7, (true, Blk.cols (List.length x2) [Col.bool fun (j : Nat) => S.at' x2 j]))], [(0, (false, .cols mr [.int .i64 tr, .int .i64 vr, .int .i64 gr])), (1, (false, .cols mo [.bool to])), (2, (false, .cols ml [.int .i64 tl]))]], 8⟩ (proj 3 [1, 2, 4, 7, 8, 9, 10] Kst Kret) =
  T26_0 test Kst Kret ar nr mr tr vr gr ao no mo to al nl ml tl x0 x1 x2 := by kernel_rfl
noncomputable def T26_1 (test : Bool → Prop → Prop → Prop) (Kst : KS) (Kret : KR) (ar nr mr : Nat) (tr : Nat → Int) (vr : Nat → Int) (gr : Nat → Int) (ao no mo : Nat) (to : Nat → Bool) (al nl ml : Nat) (tl : Nat → Int) (x0 : Int) (x1 : Bool) (x2 : Int) (x3 : List (Int × Int × Int)) (x4 : List Bool) : Prop :=
  test (decide (x2 < (↑nl : Int)))
 (test (decide ((0 : Int) ≤ x0 ∧ x0 < (↑nr : Int)))
 (test (decide (Int.toNat x0 + ar < mr))
 (test (decide (Int.toNat x0 + ar < mr))
 (test (decide (Int.toNat x0 + ar < mr))
 (test (x1)
 (test (decide ((0 : Int) ≤ x2 ∧ x2 < (↑nl : Int)))
 (test (decide (Int.toNat x2 + al < ml))
 (test (decide (tl (Int.toNat x2 + al) ≥ tr (Int.toNat x0 + ar)))
 (test (lim IntKind.i64 (x2 + (1 : Int)))
 (Kst (hd Try.f26 1) ([PV.loose (PA.mk (2) (1) al (0)) nl,
 PV.ptr (PA.mk (3) (0) (0) (0)),
 PV.ptr (PA.mk (4) (0) (0) (0)),
 PV.ptr (PA.mk (5) (0) (0) (0)), PV.int IntKind.i64 x0,
 PV.tf true, PV.int IntKind.i64 (x2 + (1 : Int))]) ([[(2, false, Blk.cols ml [Col.int IntKind.i64 tl]),
 (1, false, Blk.cols mo [Col.bool to]),
 (0, false,
 Blk.cols mr
 [Col.int IntKind.i64 tr, Col.int IntKind.i64 vr, Col.int IntKind.i64 gr]),
 (5, true,
 Blk.cells
 [PV.own (6) (3) (List.length x3), PV.own (7) (1) (List.length x4)]),
 (4, true, Blk.cells [PV.nils, PV.nils]),
 (3, true,
 Blk.cells
 [PV.loose (PA.mk (0) (3) ar (0)) nr,
 PV.loose (PA.mk (1) (1) ao (0)) no]),
 (7, true, Blk.cols (List.length x4) [Col.bool fun (j : Nat) => S.at' x4 j]),
 (6, true,
 Blk.cols (List.length x3)
 [Col.int IntKind.i64 fun (j : Nat) => (S.at' x3 j).1,
 Col.int IntKind.i64 fun (j : Nat) => (S.at' x3 j).2.1,
 Col.int IntKind.i64 fun (j : Nat) => (S.at' x3 j).2.2])]]) (9))
 (False))
 (test (decide (tl (Int.toNat x2 + al) ≤ vr (Int.toNat x0 + ar)))
 (test (lim IntKind.i64 (x2 + (1 : Int)))
 (Kst (hd Try.f26 1) ([PV.loose (PA.mk (2) (1) al (0)) nl,
 PV.ptr (PA.mk (3) (0) (0) (0)),
 PV.ptr (PA.mk (4) (0) (0) (0)),
 PV.ptr (PA.mk (5) (0) (0) (0)), PV.int IntKind.i64 x0,
 PV.tf false, PV.int IntKind.i64 (x2 + (1 : Int))]) ([[(2, false, Blk.cols ml [Col.int IntKind.i64 tl]),
 (1, false, Blk.cols mo [Col.bool to]),
 (0, false,
 Blk.cols mr
 [Col.int IntKind.i64 tr, Col.int IntKind.i64 vr, Col.int IntKind.i64 gr]),
 (5, true,
 Blk.cells
 [PV.own (6) (3) (List.length x3), PV.own (7) (1) (List.length x4)]),
 (4, true, Blk.cells [PV.nils, PV.nils]),
 (3, true,
 Blk.cells
 [PV.loose (PA.mk (0) (3) ar (0)) nr,
 PV.loose (PA.mk (1) (1) ao (0)) no]),
 (7, true, Blk.cols (List.length x4) [Col.bool fun (j : Nat) => S.at' x4 j]),
 (6, true,
 Blk.cols (List.length x3)
 [Col.int IntKind.i64 fun (j : Nat) => (S.at' x3 j).1,
 Col.int IntKind.i64 fun (j : Nat) => (S.at' x3 j).2.1,
 Col.int IntKind.i64 fun (j : Nat) => (S.at' x3 j).2.2])]]) (9))
 (False))
 (test (lim IntKind.i64 (x2 + (1 : Int)))
 (Kst (hd Try.f26 1) ([PV.loose (PA.mk (2) (1) al (0)) nl,
 PV.ptr (PA.mk (3) (0) (0) (0)),
 PV.ptr (PA.mk (4) (0) (0) (0)),
 PV.ptr (PA.mk (5) (0) (0) (0)), PV.int IntKind.i64 x0,
 PV.tf true, PV.int IntKind.i64 (x2 + (1 : Int))]) ([[(2, false, Blk.cols ml [Col.int IntKind.i64 tl]),
 (1, false, Blk.cols mo [Col.bool to]),
 (0, false,
 Blk.cols mr
 [Col.int IntKind.i64 tr, Col.int IntKind.i64 vr, Col.int IntKind.i64 gr]),
 (5, true,
 Blk.cells
 [PV.own (6) (3) (List.length x3), PV.own (7) (1) (List.length x4)]),
 (4, true, Blk.cells [PV.nils, PV.nils]),
 (3, true,
 Blk.cells
 [PV.loose (PA.mk (0) (3) ar (0)) nr,
 PV.loose (PA.mk (1) (1) ao (0)) no]),
 (7, true, Blk.cols (List.length x4) [Col.bool fun (j : Nat) => S.at' x4 j]),
 (6, true,
 Blk.cols (List.length x3)
 [Col.int IntKind.i64 fun (j : Nat) => (S.at' x3 j).1,
 Col.int IntKind.i64 fun (j : Nat) => (S.at' x3 j).2.1,
 Col.int IntKind.i64 fun (j : Nat) => (S.at' x3 j).2.2])]]) (9))
 (False))))
 (False))
 (False))
 (test (decide ((0 : Int) ≤ x2 ∧ x2 < (↑nl : Int)))
 (test (decide (Int.toNat x2 + al < ml))
 (test (decide (tl (Int.toNat x2 + al) ≥ tr (Int.toNat x0 + ar)))
 (test (lim IntKind.i64 (x2 + (1 : Int)))
 (Kst (hd Try.f26 1) ([PV.loose (PA.mk (2) (1) al (0)) nl,
 PV.ptr (PA.mk (3) (0) (0) (0)),
 PV.ptr (PA.mk (4) (0) (0) (0)),
 PV.ptr (PA.mk (5) (0) (0) (0)), PV.int IntKind.i64 x0,
 PV.tf true, PV.int IntKind.i64 (x2 + (1 : Int))]) ([[(2, false, Blk.cols ml [Col.int IntKind.i64 tl]),
 (1, false, Blk.cols mo [Col.bool to]),
 (0, false,
 Blk.cols mr
 [Col.int IntKind.i64 tr, Col.int IntKind.i64 vr, Col.int IntKind.i64 gr]),
 (5, true,
 Blk.cells
 [PV.own (6) (3) (List.length x3), PV.own (7) (1) (List.length x4)]),
 (4, true, Blk.cells [PV.nils, PV.nils]),
 (3, true,
 Blk.cells
 [PV.loose (PA.mk (0) (3) ar (0)) nr,
 PV.loose (PA.mk (1) (1) ao (0)) no]),
 (7, true, Blk.cols (List.length x4) [Col.bool fun (j : Nat) => S.at' x4 j]),
 (6, true,
 Blk.cols (List.length x3)
 [Col.int IntKind.i64 fun (j : Nat) => (S.at' x3 j).1,
 Col.int IntKind.i64 fun (j : Nat) => (S.at' x3 j).2.1,
 Col.int IntKind.i64 fun (j : Nat) => (S.at' x3 j).2.2])]]) (9))
 (False))
 (test (decide (tl (Int.toNat x2 + al) ≤ vr (Int.toNat x0 + ar)))
 (test (lim IntKind.i64 (x2 + (1 : Int)))
 (Kst (hd Try.f26 1) ([PV.loose (PA.mk (2) (1) al (0)) nl,
 PV.ptr (PA.mk (3) (0) (0) (0)),
 PV.ptr (PA.mk (4) (0) (0) (0)),
 PV.ptr (PA.mk (5) (0) (0) (0)), PV.int IntKind.i64 x0,
 PV.tf false, PV.int IntKind.i64 (x2 + (1 : Int))]) ([[(2, false, Blk.cols ml [Col.int IntKind.i64 tl]),
 (1, false, Blk.cols mo [Col.bool to]),
 (0, false,
 Blk.cols mr
 [Col.int IntKind.i64 tr, Col.int IntKind.i64 vr, Col.int IntKind.i64 gr]),
 (5, true,
 Blk.cells
 [PV.own (6) (3) (List.length x3), PV.own (7) (1) (List.length x4)]),
 (4, true, Blk.cells [PV.nils, PV.nils]),
 (3, true,
 Blk.cells
 [PV.loose (PA.mk (0) (3) ar (0)) nr,
 PV.loose (PA.mk (1) (1) ao (0)) no]),
 (7, true, Blk.cols (List.length x4) [Col.bool fun (j : Nat) => S.at' x4 j]),
 (6, true,
 Blk.cols (List.length x3)
 [Col.int IntKind.i64 fun (j : Nat) => (S.at' x3 j).1,
 Col.int IntKind.i64 fun (j : Nat) => (S.at' x3 j).2.1,
 Col.int IntKind.i64 fun (j : Nat) => (S.at' x3 j).2.2])]]) (9))
 (False))
 (test (lim IntKind.i64 (x2 + (1 : Int)))
 (Kst (hd Try.f26 1) ([PV.loose (PA.mk (2) (1) al (0)) nl,
 PV.ptr (PA.mk (3) (0) (0) (0)),
 PV.ptr (PA.mk (4) (0) (0) (0)),
 PV.ptr (PA.mk (5) (0) (0) (0)), PV.int IntKind.i64 x0,
 PV.tf false, PV.int IntKind.i64 (x2 + (1 : Int))]) ([[(2, false, Blk.cols ml [Col.int IntKind.i64 tl]),
 (1, false, Blk.cols mo [Col.bool to]),
 (0, false,
 Blk.cols mr
 [Col.int IntKind.i64 tr, Col.int IntKind.i64 vr, Col.int IntKind.i64 gr]),
 (5, true,
 Blk.cells
 [PV.own (6) (3) (List.length x3), PV.own (7) (1) (List.length x4)]),
 (4, true, Blk.cells [PV.nils, PV.nils]),
 (3, true,
 Blk.cells
 [PV.loose (PA.mk (0) (3) ar (0)) nr,
 PV.loose (PA.mk (1) (1) ao (0)) no]),
 (7, true, Blk.cols (List.length x4) [Col.bool fun (j : Nat) => S.at' x4 j]),
 (6, true,
 Blk.cols (List.length x3)
 [Col.int IntKind.i64 fun (j : Nat) => (S.at' x3 j).1,
 Col.int IntKind.i64 fun (j : Nat) => (S.at' x3 j).2.1,
 Col.int IntKind.i64 fun (j : Nat) => (S.at' x3 j).2.2])]]) (9))
 (False))))
 (False))
 (False)))
 (False))
 (False))
 (False))
 (False))
 (test (decide ((0 : Int) ≤ x0 ∧ x0 < (↑nr : Int)))
 (test (decide (Int.toNat x0 + ar < mr))
 (test (decide (Int.toNat x0 + ar < mr))
 (test (decide (Int.toNat x0 + ar < mr))
 (test (decide (List.length x3 + 1 ≤ 1000000))
 (test (decide (List.length x3 ≤ List.length x3))
 (test (true)
 (test (x1)
 (test (decide (List.length x4 + 1 ≤ 1000000))
 (test (decide (List.length x4 ≤ List.length x4))
 (test (true)
 (test (lim IntKind.i64 (x0 + (1 : Int)))
 (Kst (hd Try.f26 0) ([PV.loose (PA.mk (2) (1) al (0)) nl,
 PV.ptr (PA.mk (3) (0) (0) (0)),
 PV.ptr (PA.mk (4) (0) (0) (0)),
 PV.ptr (PA.mk (5) (0) (0) (0)),
 PV.int IntKind.i64 (x0 + (1 : Int)), PV.bool x1, PV.int IntKind.i64 x2]) ([[(2, false, Blk.cols ml [Col.int IntKind.i64 tl]),
 (1, false, Blk.cols mo [Col.bool to]),
 (0, false,
 Blk.cols mr
 [Col.int IntKind.i64 tr, Col.int IntKind.i64 vr, Col.int IntKind.i64 gr]),
 (5, true,
 Blk.cells
 [PV.own (9) (3) (List.length x3 + 1),
 PV.own (11) (1) (List.length x4 + 1)]),
 (4, true, Blk.cells [PV.nils, PV.nils]),
 (3, true,
 Blk.cells
 [PV.loose (PA.mk (0) (3) ar (0)) nr,
 PV.loose (PA.mk (1) (1) ao (0)) no]),
 (11, true,
 Blk.cols (List.length x4 + 1)
 [Col.bool fun (j : Nat) => bif Nat.blt j (List.length x4) then S.at' x4 j else true]),
 (9, true,
 Blk.cols (List.length x3 + 1)
 [Col.int IntKind.i64 fun (j : Nat) =>
 bif Nat.blt j (List.length x3) then (S.at' x3 j).1 else tr (Int.toNat x0 + ar),
 Col.int IntKind.i64 fun (j : Nat) =>
 bif Nat.blt j (List.length x3) then (S.at' x3 j).2.1 else vr (Int.toNat x0 + ar),
 Col.int IntKind.i64 fun (j : Nat) =>
 bif Nat.blt j (List.length x3) then (S.at' x3 j).2.2 else gr (Int.toNat x0 + ar)])]]) (12))
 (False))
 (False))
 (False))
 (False))
 (test (decide (List.length x4 + 1 ≤ 1000000))
 (test (decide (List.length x4 ≤ List.length x4))
 (test (true)
 (test (lim IntKind.i64 (x0 + (1 : Int)))
 (Kst (hd Try.f26 0) ([PV.loose (PA.mk (2) (1) al (0)) nl,
 PV.ptr (PA.mk (3) (0) (0) (0)),
 PV.ptr (PA.mk (4) (0) (0) (0)),
 PV.ptr (PA.mk (5) (0) (0) (0)),
 PV.int IntKind.i64 (x0 + (1 : Int)), PV.bool x1, PV.int IntKind.i64 x2]) ([[(2, false, Blk.cols ml [Col.int IntKind.i64 tl]),
 (1, false, Blk.cols mo [Col.bool to]),
 (0, false,
 Blk.cols mr
 [Col.int IntKind.i64 tr, Col.int IntKind.i64 vr, Col.int IntKind.i64 gr]),
 (5, true,
 Blk.cells
 [PV.own (9) (3) (List.length x3 + 1),
 PV.own (11) (1) (List.length x4 + 1)]),
 (4, true, Blk.cells [PV.nils, PV.nils]),
 (3, true,
 Blk.cells
 [PV.loose (PA.mk (0) (3) ar (0)) nr,
 PV.loose (PA.mk (1) (1) ao (0)) no]),
 (11, true,
 Blk.cols (List.length x4 + 1)
 [Col.bool fun (j : Nat) => bif Nat.blt j (List.length x4) then S.at' x4 j else false]),
 (9, true,
 Blk.cols (List.length x3 + 1)
 [Col.int IntKind.i64 fun (j : Nat) =>
 bif Nat.blt j (List.length x3) then (S.at' x3 j).1 else tr (Int.toNat x0 + ar),
 Col.int IntKind.i64 fun (j : Nat) =>
 bif Nat.blt j (List.length x3) then (S.at' x3 j).2.1 else vr (Int.toNat x0 + ar),
 Col.int IntKind.i64 fun (j : Nat) =>
 bif Nat.blt j (List.length x3) then (S.at' x3 j).2.2 else gr (Int.toNat x0 + ar)])]]) (12))
 (False))
 (False))
 (False))
 (False)))
 (False))
 (False))
 (False))
 (False))
 (False))
 (False))
 (False))
set_option maxRecDepth 100000 in
theorem t26_1 (test : Bool → Prop → Prop → Prop) (Kst : KS) (Kret : KR) (ar nr mr : Nat) (tr : Nat → Int) (vr : Nat → Int) (gr : Nat → Int) (ao no mo : Nat) (to : Nat → Bool) (al nl ml : Nat) (tl : Nat → Int) (x0 : Int) (x1 : Bool) (x2 : Int) (x3 : List (Int × Int × Int)) (x4 : List Bool) : run test Try.env true (yB4 test) true 400 ⟨26, hd Try.f26 1, zipT [1, 2, 4, 7, 8, 9, 10] [PV.loose (PA.mk (2) (1) al (0)) nl,
 PV.ptr (PA.mk (3) (0) (0) (0)),
 PV.ptr (PA.mk (4) (0) (0) (0)),
 PV.ptr (PA.mk (5) (0) (0) (0)), PV.int IntKind.i64 x0,
 PV.bool x1, PV.int IntKind.i64 x2], [[(3, (true, Blk.cells
 [PV.loose (PA.mk (0) (3) ar (0)) nr,
 PV.loose (PA.mk (1) (1) ao (0)) no])), (4, (true, Blk.cells [PV.nils, PV.nils])), (5, (true, Blk.cells
 [PV.own (6) (3) (List.length x3), PV.own (7) (1) (List.length x4)])), (6, (true, Blk.cols (List.length x3)
 [Col.int IntKind.i64 fun (j : Nat) => (S.at' x3 j).1,
 Col.int IntKind.i64 fun (j : Nat) => (S.at' x3 j).2.1,
 Col.int IntKind.i64 fun (j : Nat) => (S.at' x3 j).2.2])), (7, (true, Blk.cols (List.length x4) [Col.bool fun (j : Nat) => S.at' x4 j]))], [(0, (false, .cols mr [.int .i64 tr, .int .i64 vr, .int .i64 gr])), (1, (false, .cols mo [.bool to])), (2, (false, .cols ml [.int .i64 tl]))]], 8⟩ (proj 3 [1, 2, 4, 7, 8, 9, 10] Kst Kret) =
  T26_1 test Kst Kret ar nr mr tr vr gr ao no mo to al nl ml tl x0 x1 x2 x3 x4 := by kernel_rfl
set_option maxRecDepth 100000 in
theorem be26 (ar nr mr : Nat) (tr : Nat → Int) (vr : Nat → Int) (gr : Nat → Int) (ao no mo : Nat) (to : Nat → Bool) (al nl ml : Nat) (tl : Nat → Int) (Kst : KS) (Kret : KR) (x : St26 ⊕ Rt26) (hS : HS 3 400 ((I26 ar nr mr tr vr gr ao no mo to al nl ml tl)) Kst x) (hR : HR 3 400 ((V26 ar nr mr tr vr gr ao no mo to al nl ml tl)) (fun r => [newL (3 + 1) ((N26 ar nr mr tr vr gr ao no mo to al nl ml tl) r) ++ [(0, (false, .cols mr [.int .i64 tr, .int .i64 vr, .int .i64 gr])), (1, (false, .cols mo [.bool to])), (2, (false, .cols ml [.int .i64 tl]))]]) Kret x) (h : (bif (decide (ar + nr ≤ mr ∧ nr ≤ 1000000 ∧ al + nl ≤ ml ∧ nl ≤ 1000000))
 then (bif ((S.histE nr (fun (j : Nat) => tr (j + ar)) (fun (j : Nat) => vr (j + ar)) (fun (j : Nat) => gr (j + ar)) no nl
 fun (j : Nat) => tl (j + al)) !=
 (0 : Int))
 then (some (.inr (S.histE nr (fun (j : Nat) => tr (j + ar)) (fun (j : Nat) => vr (j + ar)) (fun (j : Nat) => gr (j + ar)) no nl
 fun (j : Nat) => tl (j + al), [], [])))
 else (some (.inl (.h0 ((0 : Int)) ([]) ([])))))
 else (none) : Option (St26 ⊕ Rt26)) = some x) : Te26 cond Kst Kret ar nr mr tr vr gr ao no mo to al nl ml tl := by
  unfold Te26
  exact bif_split h
   (fun c0 h => bif_split h
   (fun c1 h => ret_at hR _ h (fun n => bif Nat.beq n 4 then 399 else bif Nat.beq n 5 then 398 else n) rfl rfl rfl (rn_tup ⟨(rn_agg ⟨(rn_own_nils rfl), (rn_own_nils rfl), trivial⟩), (rn_int rfl), trivial⟩) rfl (entl_fresh (use_own rfl) (fresh_ok rfl) (entl_fresh (use_own rfl) (fresh_ok rfl) (entl_bor (use_lo rfl) rfl rfl (entl_bor (use_lo rfl) rfl rfl (entl_bor (use_lo rfl) rfl rfl entl_nil))))))
   (fun c1 h => stop_at hS _ h (fun n => bif Nat.beq n 3 then 3 else bif Nat.beq n 4 then 4 else bif Nat.beq n 5 then 6 else bif Nat.beq n 6 then 399 else bif Nat.beq n 7 then 398 else n) rfl rfl rfl ⟨(rn_loose (use_lo rfl) rfl rfl rfl), ⟨(rn_ptr (use_own rfl) rfl rfl), ⟨(rn_ptr (use_own rfl) rfl rfl), ⟨(rn_ptr (use_own rfl) rfl rfl), ⟨(rn_int rfl), ⟨(rn_unk _), ⟨(rn_unk _), trivial⟩⟩⟩⟩⟩⟩⟩ rfl (entl_b (use_own rfl) rfl (by simp) (rb_cells ⟨(rn_loose (use_lo rfl) rfl rfl rfl), (rn_loose (use_lo rfl) rfl rfl rfl), trivial⟩) (entl_b (use_own rfl) rfl (by simp) (rb_cells ⟨rn_nils, rn_nils, trivial⟩) (entl_b (use_own rfl) rfl (by simp) (rb_cells ⟨(rn_own_nils rfl), (rn_own_nils rfl), trivial⟩) (entl_fresh (use_own rfl) (fresh_ok rfl) (entl_fresh (use_own rfl) (fresh_ok rfl) (entl_bor (use_lo rfl) rfl rfl (entl_bor (use_lo rfl) rfl rfl (entl_bor (use_lo rfl) rfl rfl entl_nil))))))))))
   (fun c0 h => no_some h)
set_option maxRecDepth 100000 in
theorem b26_0 (ar nr mr : Nat) (tr : Nat → Int) (vr : Nat → Int) (gr : Nat → Int) (ao no mo : Nat) (to : Nat → Bool) (al nl ml : Nat) (tl : Nat → Int) (Kst : KS) (Kret : KR) (x : St26 ⊕ Rt26) (hS : HS 3 400 ((I26 ar nr mr tr vr gr ao no mo to al nl ml tl)) Kst x) (hR : HR 3 400 ((V26 ar nr mr tr vr gr ao no mo to al nl ml tl)) (fun r => [newL (3 + 1) ((N26 ar nr mr tr vr gr ao no mo to al nl ml tl) r) ++ [(0, (false, .cols mr [.int .i64 tr, .int .i64 vr, .int .i64 gr])), (1, (false, .cols mo [.bool to])), (2, (false, .cols ml [.int .i64 tl]))]]) Kret x) (x0 : Int) (x1 : List (Int × Int × Int)) (x2 : List Bool) (h : (bif (decide (x0 < (↑nr : Int)))
 then (bif (decide ((0 : Int) ≤ x0 ∧ x0 < (↑no : Int)))
 then (bif (decide (Int.toNat x0 + ao < mo))
 then (bif (to (Int.toNat x0 + ao))
 then (some (.inl (.h1 (x0) (true) ((0 : Int)) (x1) (x2))))
 else (some (.inl (.h1 (x0) (false) ((0 : Int)) (x1) (x2)))))
 else (none))
 else (none))
 else (some (.inr ((0 : Int), x1, x2))) : Option (St26 ⊕ Rt26)) = some x) : T26_0 cond Kst Kret ar nr mr tr vr gr ao no mo to al nl ml tl x0 x1 x2 := by
  unfold T26_0
  exact bif_split h
   (fun c0 h => bif_split h
   (fun c1 h => bif_split h
   (fun c2 h => bif_split h
   (fun c3 h => stop_at hS _ h (fun n => bif Nat.beq n 3 then 3 else bif Nat.beq n 4 then 4 else bif Nat.beq n 5 then 5 else bif Nat.beq n 6 then 6 else bif Nat.beq n 7 then 7 else n) rfl rfl rfl ⟨(rn_loose (use_lo rfl) rfl rfl rfl), ⟨(rn_ptr (use_own rfl) rfl rfl), ⟨(rn_ptr (use_own rfl) rfl rfl), ⟨(rn_ptr (use_own rfl) rfl rfl), ⟨(rn_int rfl), ⟨(rn_bool_tf rfl), ⟨(rn_int rfl), trivial⟩⟩⟩⟩⟩⟩⟩ rfl (entl_b (use_own rfl) rfl (by simp) (rb_cells ⟨(rn_loose (use_lo rfl) rfl rfl rfl), (rn_loose (use_lo rfl) rfl rfl rfl), trivial⟩) (entl_b (use_own rfl) rfl (by simp) (rb_cells ⟨rn_nils, rn_nils, trivial⟩) (entl_b (use_own rfl) rfl (by simp) (rb_cells ⟨(rn_own (use_own rfl) rfl rfl), (rn_own (use_own rfl) rfl rfl), trivial⟩) (entl_new (use_own rfl) rfl (Nat.le_of_eq rfl) (rcs_int (fun _ _ => rfl) (rcs_int (fun _ _ => rfl) (rcs_int (fun _ _ => rfl) rcs_nil))) (entl_new (use_own rfl) rfl (Nat.le_of_eq rfl) (rcs_bool (fun _ _ => rfl) rcs_nil) (entl_bor (use_lo rfl) rfl rfl (entl_bor (use_lo rfl) rfl rfl (entl_bor (use_lo rfl) rfl rfl entl_nil)))))))))
   (fun c3 h => stop_at hS _ h (fun n => bif Nat.beq n 3 then 3 else bif Nat.beq n 4 then 4 else bif Nat.beq n 5 then 5 else bif Nat.beq n 6 then 6 else bif Nat.beq n 7 then 7 else n) rfl rfl rfl ⟨(rn_loose (use_lo rfl) rfl rfl rfl), ⟨(rn_ptr (use_own rfl) rfl rfl), ⟨(rn_ptr (use_own rfl) rfl rfl), ⟨(rn_ptr (use_own rfl) rfl rfl), ⟨(rn_int rfl), ⟨(rn_bool_tf rfl), ⟨(rn_int rfl), trivial⟩⟩⟩⟩⟩⟩⟩ rfl (entl_b (use_own rfl) rfl (by simp) (rb_cells ⟨(rn_loose (use_lo rfl) rfl rfl rfl), (rn_loose (use_lo rfl) rfl rfl rfl), trivial⟩) (entl_b (use_own rfl) rfl (by simp) (rb_cells ⟨rn_nils, rn_nils, trivial⟩) (entl_b (use_own rfl) rfl (by simp) (rb_cells ⟨(rn_own (use_own rfl) rfl rfl), (rn_own (use_own rfl) rfl rfl), trivial⟩) (entl_new (use_own rfl) rfl (Nat.le_of_eq rfl) (rcs_int (fun _ _ => rfl) (rcs_int (fun _ _ => rfl) (rcs_int (fun _ _ => rfl) rcs_nil))) (entl_new (use_own rfl) rfl (Nat.le_of_eq rfl) (rcs_bool (fun _ _ => rfl) rcs_nil) (entl_bor (use_lo rfl) rfl rfl (entl_bor (use_lo rfl) rfl rfl (entl_bor (use_lo rfl) rfl rfl entl_nil))))))))))
   (fun c2 h => no_some h))
   (fun c1 h => no_some h))
   (fun c0 h => ret_at hR _ h (fun n => bif Nat.beq n 4 then 6 else bif Nat.beq n 5 then 7 else n) rfl rfl rfl (rn_tup ⟨(rn_agg ⟨(rn_own (use_own rfl) rfl rfl), (rn_own (use_own rfl) rfl rfl), trivial⟩), (rn_int rfl), trivial⟩) rfl (entl_new (use_own rfl) rfl (Nat.le_of_eq rfl) (rcs_int (fun _ _ => rfl) (rcs_int (fun _ _ => rfl) (rcs_int (fun _ _ => rfl) rcs_nil))) (entl_new (use_own rfl) rfl (Nat.le_of_eq rfl) (rcs_bool (fun _ _ => rfl) rcs_nil) (entl_bor (use_lo rfl) rfl rfl (entl_bor (use_lo rfl) rfl rfl (entl_bor (use_lo rfl) rfl rfl entl_nil))))))
set_option maxRecDepth 100000 in
theorem b26_1 (ar nr mr : Nat) (tr : Nat → Int) (vr : Nat → Int) (gr : Nat → Int) (ao no mo : Nat) (to : Nat → Bool) (al nl ml : Nat) (tl : Nat → Int) (Kst : KS) (Kret : KR) (x : St26 ⊕ Rt26) (hS : HS 3 400 ((I26 ar nr mr tr vr gr ao no mo to al nl ml tl)) Kst x) (hR : HR 3 400 ((V26 ar nr mr tr vr gr ao no mo to al nl ml tl)) (fun r => [newL (3 + 1) ((N26 ar nr mr tr vr gr ao no mo to al nl ml tl) r) ++ [(0, (false, .cols mr [.int .i64 tr, .int .i64 vr, .int .i64 gr])), (1, (false, .cols mo [.bool to])), (2, (false, .cols ml [.int .i64 tl]))]]) Kret x) (x0 : Int) (x1 : Bool) (x2 : Int) (x3 : List (Int × Int × Int)) (x4 : List Bool) (h : (bif (decide (x2 < (↑nl : Int)))
 then (bif (decide ((0 : Int) ≤ x0 ∧ x0 < (↑nr : Int)))
 then (bif (decide (Int.toNat x0 + ar < mr))
 then (bif (x1)
 then (bif (decide ((0 : Int) ≤ x2 ∧ x2 < (↑nl : Int)))
 then (bif (decide (Int.toNat x2 + al < ml))
 then (bif (decide (tl (Int.toNat x2 + al) ≥ tr (Int.toNat x0 + ar)))
 then (bif (lim IntKind.i64 (x2 + (1 : Int)))
 then (some (.inl (.h1 (x0) (true) (x2 + (1 : Int)) (x3) (x4))))
 else (none))
 else (bif (decide (tl (Int.toNat x2 + al) ≤ vr (Int.toNat x0 + ar)))
 then (bif (lim IntKind.i64 (x2 + (1 : Int)))
 then (some (.inl (.h1 (x0) (false) (x2 + (1 : Int)) (x3) (x4))))
 else (none))
 else (bif (lim IntKind.i64 (x2 + (1 : Int)))
 then (some (.inl (.h1 (x0) (true) (x2 + (1 : Int)) (x3) (x4))))
 else (none))))
 else (none))
 else (none))
 else (bif (decide ((0 : Int) ≤ x2 ∧ x2 < (↑nl : Int)))
 then (bif (decide (Int.toNat x2 + al < ml))
 then (bif (decide (tl (Int.toNat x2 + al) ≥ tr (Int.toNat x0 + ar)))
 then (bif (lim IntKind.i64 (x2 + (1 : Int)))
 then (some (.inl (.h1 (x0) (true) (x2 + (1 : Int)) (x3) (x4))))
 else (none))
 else (bif (decide (tl (Int.toNat x2 + al) ≤ vr (Int.toNat x0 + ar)))
 then (bif (lim IntKind.i64 (x2 + (1 : Int)))
 then (some (.inl (.h1 (x0) (false) (x2 + (1 : Int)) (x3) (x4))))
 else (none))
 else (bif (lim IntKind.i64 (x2 + (1 : Int)))
 then (some (.inl (.h1 (x0) (false) (x2 + (1 : Int)) (x3) (x4))))
 else (none))))
 else (none))
 else (none)))
 else (none))
 else (none))
 else (bif (decide ((0 : Int) ≤ x0 ∧ x0 < (↑nr : Int)))
 then (bif (decide (Int.toNat x0 + ar < mr))
 then (bif (decide (List.length x3 + 1 ≤ 1000000))
 then (bif (decide (List.length x3 ≤ List.length x3))
 then (bif (x1)
 then (bif (decide (List.length x4 + 1 ≤ 1000000))
 then (bif (decide (List.length x4 ≤ List.length x4))
 then (bif (lim IntKind.i64 (x0 + (1 : Int)))
 then (some (.inl (.h0 (x0 + (1 : Int)) (S.snoc x3 (tr (Int.toNat x0 + ar), vr (Int.toNat x0 + ar), gr (Int.toNat x0 + ar))) (S.snoc x4 true))))
 else (none))
 else (none))
 else (none))
 else (bif (decide (List.length x4 + 1 ≤ 1000000))
 then (bif (decide (List.length x4 ≤ List.length x4))
 then (bif (lim IntKind.i64 (x0 + (1 : Int)))
 then (some (.inl (.h0 (x0 + (1 : Int)) (S.snoc x3 (tr (Int.toNat x0 + ar), vr (Int.toNat x0 + ar), gr (Int.toNat x0 + ar))) (S.snoc x4 false))))
 else (none))
 else (none))
 else (none)))
 else (none))
 else (none))
 else (none))
 else (none)) : Option (St26 ⊕ Rt26)) = some x) : T26_1 cond Kst Kret ar nr mr tr vr gr ao no mo to al nl ml tl x0 x1 x2 x3 x4 := by
  unfold T26_1
  exact bif_split h
   (fun c0 h => bif_split h
   (fun c1 h => bif_split h
   (fun c2 h => cond_yes c2 (cond_yes c2 (bif_split h
   (fun c3 h => bif_split h
   (fun c4 h => bif_split h
   (fun c5 h => bif_split h
   (fun c6 h => bif_split h
   (fun c7 h => stop_at hS _ h (fun n => bif Nat.beq n 3 then 3 else bif Nat.beq n 4 then 4 else bif Nat.beq n 5 then 5 else bif Nat.beq n 6 then 6 else bif Nat.beq n 7 then 7 else n) rfl rfl rfl ⟨(rn_loose (use_lo rfl) rfl rfl rfl), ⟨(rn_ptr (use_own rfl) rfl rfl), ⟨(rn_ptr (use_own rfl) rfl rfl), ⟨(rn_ptr (use_own rfl) rfl rfl), ⟨(rn_int rfl), ⟨(rn_bool_tf rfl), ⟨(rn_int rfl), trivial⟩⟩⟩⟩⟩⟩⟩ rfl (entl_b (use_own rfl) rfl (by simp) (rb_cells ⟨(rn_loose (use_lo rfl) rfl rfl rfl), (rn_loose (use_lo rfl) rfl rfl rfl), trivial⟩) (entl_b (use_own rfl) rfl (by simp) (rb_cells ⟨rn_nils, rn_nils, trivial⟩) (entl_b (use_own rfl) rfl (by simp) (rb_cells ⟨(rn_own (use_own rfl) rfl rfl), (rn_own (use_own rfl) rfl rfl), trivial⟩) (entl_new (use_own rfl) rfl (Nat.le_of_eq rfl) (rcs_int (fun _ _ => rfl) (rcs_int (fun _ _ => rfl) (rcs_int (fun _ _ => rfl) rcs_nil))) (entl_new (use_own rfl) rfl (Nat.le_of_eq rfl) (rcs_bool (fun _ _ => rfl) rcs_nil) (entl_bor (use_lo rfl) rfl rfl (entl_bor (use_lo rfl) rfl rfl (entl_bor (use_lo rfl) rfl rfl entl_nil)))))))))
   (fun c7 h => no_some h))
   (fun c6 h => bif_split h
   (fun c7 h => bif_split h
   (fun c8 h => stop_at hS _ h (fun n => bif Nat.beq n 3 then 3 else bif Nat.beq n 4 then 4 else bif Nat.beq n 5 then 5 else bif Nat.beq n 6 then 6 else bif Nat.beq n 7 then 7 else n) rfl rfl rfl ⟨(rn_loose (use_lo rfl) rfl rfl rfl), ⟨(rn_ptr (use_own rfl) rfl rfl), ⟨(rn_ptr (use_own rfl) rfl rfl), ⟨(rn_ptr (use_own rfl) rfl rfl), ⟨(rn_int rfl), ⟨(rn_bool_tf rfl), ⟨(rn_int rfl), trivial⟩⟩⟩⟩⟩⟩⟩ rfl (entl_b (use_own rfl) rfl (by simp) (rb_cells ⟨(rn_loose (use_lo rfl) rfl rfl rfl), (rn_loose (use_lo rfl) rfl rfl rfl), trivial⟩) (entl_b (use_own rfl) rfl (by simp) (rb_cells ⟨rn_nils, rn_nils, trivial⟩) (entl_b (use_own rfl) rfl (by simp) (rb_cells ⟨(rn_own (use_own rfl) rfl rfl), (rn_own (use_own rfl) rfl rfl), trivial⟩) (entl_new (use_own rfl) rfl (Nat.le_of_eq rfl) (rcs_int (fun _ _ => rfl) (rcs_int (fun _ _ => rfl) (rcs_int (fun _ _ => rfl) rcs_nil))) (entl_new (use_own rfl) rfl (Nat.le_of_eq rfl) (rcs_bool (fun _ _ => rfl) rcs_nil) (entl_bor (use_lo rfl) rfl rfl (entl_bor (use_lo rfl) rfl rfl (entl_bor (use_lo rfl) rfl rfl entl_nil)))))))))
   (fun c8 h => no_some h))
   (fun c7 h => bif_split h
   (fun c8 h => stop_at hS _ h (fun n => bif Nat.beq n 3 then 3 else bif Nat.beq n 4 then 4 else bif Nat.beq n 5 then 5 else bif Nat.beq n 6 then 6 else bif Nat.beq n 7 then 7 else n) rfl rfl rfl ⟨(rn_loose (use_lo rfl) rfl rfl rfl), ⟨(rn_ptr (use_own rfl) rfl rfl), ⟨(rn_ptr (use_own rfl) rfl rfl), ⟨(rn_ptr (use_own rfl) rfl rfl), ⟨(rn_int rfl), ⟨(rn_bool_tf rfl), ⟨(rn_int rfl), trivial⟩⟩⟩⟩⟩⟩⟩ rfl (entl_b (use_own rfl) rfl (by simp) (rb_cells ⟨(rn_loose (use_lo rfl) rfl rfl rfl), (rn_loose (use_lo rfl) rfl rfl rfl), trivial⟩) (entl_b (use_own rfl) rfl (by simp) (rb_cells ⟨rn_nils, rn_nils, trivial⟩) (entl_b (use_own rfl) rfl (by simp) (rb_cells ⟨(rn_own (use_own rfl) rfl rfl), (rn_own (use_own rfl) rfl rfl), trivial⟩) (entl_new (use_own rfl) rfl (Nat.le_of_eq rfl) (rcs_int (fun _ _ => rfl) (rcs_int (fun _ _ => rfl) (rcs_int (fun _ _ => rfl) rcs_nil))) (entl_new (use_own rfl) rfl (Nat.le_of_eq rfl) (rcs_bool (fun _ _ => rfl) rcs_nil) (entl_bor (use_lo rfl) rfl rfl (entl_bor (use_lo rfl) rfl rfl (entl_bor (use_lo rfl) rfl rfl entl_nil)))))))))
   (fun c8 h => no_some h))))
   (fun c5 h => no_some h))
   (fun c4 h => no_some h))
   (fun c3 h => bif_split h
   (fun c4 h => bif_split h
   (fun c5 h => bif_split h
   (fun c6 h => bif_split h
   (fun c7 h => stop_at hS _ h (fun n => bif Nat.beq n 3 then 3 else bif Nat.beq n 4 then 4 else bif Nat.beq n 5 then 5 else bif Nat.beq n 6 then 6 else bif Nat.beq n 7 then 7 else n) rfl rfl rfl ⟨(rn_loose (use_lo rfl) rfl rfl rfl), ⟨(rn_ptr (use_own rfl) rfl rfl), ⟨(rn_ptr (use_own rfl) rfl rfl), ⟨(rn_ptr (use_own rfl) rfl rfl), ⟨(rn_int rfl), ⟨(rn_bool_tf rfl), ⟨(rn_int rfl), trivial⟩⟩⟩⟩⟩⟩⟩ rfl (entl_b (use_own rfl) rfl (by simp) (rb_cells ⟨(rn_loose (use_lo rfl) rfl rfl rfl), (rn_loose (use_lo rfl) rfl rfl rfl), trivial⟩) (entl_b (use_own rfl) rfl (by simp) (rb_cells ⟨rn_nils, rn_nils, trivial⟩) (entl_b (use_own rfl) rfl (by simp) (rb_cells ⟨(rn_own (use_own rfl) rfl rfl), (rn_own (use_own rfl) rfl rfl), trivial⟩) (entl_new (use_own rfl) rfl (Nat.le_of_eq rfl) (rcs_int (fun _ _ => rfl) (rcs_int (fun _ _ => rfl) (rcs_int (fun _ _ => rfl) rcs_nil))) (entl_new (use_own rfl) rfl (Nat.le_of_eq rfl) (rcs_bool (fun _ _ => rfl) rcs_nil) (entl_bor (use_lo rfl) rfl rfl (entl_bor (use_lo rfl) rfl rfl (entl_bor (use_lo rfl) rfl rfl entl_nil)))))))))
   (fun c7 h => no_some h))
   (fun c6 h => bif_split h
   (fun c7 h => bif_split h
   (fun c8 h => stop_at hS _ h (fun n => bif Nat.beq n 3 then 3 else bif Nat.beq n 4 then 4 else bif Nat.beq n 5 then 5 else bif Nat.beq n 6 then 6 else bif Nat.beq n 7 then 7 else n) rfl rfl rfl ⟨(rn_loose (use_lo rfl) rfl rfl rfl), ⟨(rn_ptr (use_own rfl) rfl rfl), ⟨(rn_ptr (use_own rfl) rfl rfl), ⟨(rn_ptr (use_own rfl) rfl rfl), ⟨(rn_int rfl), ⟨(rn_bool_tf rfl), ⟨(rn_int rfl), trivial⟩⟩⟩⟩⟩⟩⟩ rfl (entl_b (use_own rfl) rfl (by simp) (rb_cells ⟨(rn_loose (use_lo rfl) rfl rfl rfl), (rn_loose (use_lo rfl) rfl rfl rfl), trivial⟩) (entl_b (use_own rfl) rfl (by simp) (rb_cells ⟨rn_nils, rn_nils, trivial⟩) (entl_b (use_own rfl) rfl (by simp) (rb_cells ⟨(rn_own (use_own rfl) rfl rfl), (rn_own (use_own rfl) rfl rfl), trivial⟩) (entl_new (use_own rfl) rfl (Nat.le_of_eq rfl) (rcs_int (fun _ _ => rfl) (rcs_int (fun _ _ => rfl) (rcs_int (fun _ _ => rfl) rcs_nil))) (entl_new (use_own rfl) rfl (Nat.le_of_eq rfl) (rcs_bool (fun _ _ => rfl) rcs_nil) (entl_bor (use_lo rfl) rfl rfl (entl_bor (use_lo rfl) rfl rfl (entl_bor (use_lo rfl) rfl rfl entl_nil)))))))))
   (fun c8 h => no_some h))
   (fun c7 h => bif_split h
   (fun c8 h => stop_at hS _ h (fun n => bif Nat.beq n 3 then 3 else bif Nat.beq n 4 then 4 else bif Nat.beq n 5 then 5 else bif Nat.beq n 6 then 6 else bif Nat.beq n 7 then 7 else n) rfl rfl rfl ⟨(rn_loose (use_lo rfl) rfl rfl rfl), ⟨(rn_ptr (use_own rfl) rfl rfl), ⟨(rn_ptr (use_own rfl) rfl rfl), ⟨(rn_ptr (use_own rfl) rfl rfl), ⟨(rn_int rfl), ⟨(rn_bool_tf rfl), ⟨(rn_int rfl), trivial⟩⟩⟩⟩⟩⟩⟩ rfl (entl_b (use_own rfl) rfl (by simp) (rb_cells ⟨(rn_loose (use_lo rfl) rfl rfl rfl), (rn_loose (use_lo rfl) rfl rfl rfl), trivial⟩) (entl_b (use_own rfl) rfl (by simp) (rb_cells ⟨rn_nils, rn_nils, trivial⟩) (entl_b (use_own rfl) rfl (by simp) (rb_cells ⟨(rn_own (use_own rfl) rfl rfl), (rn_own (use_own rfl) rfl rfl), trivial⟩) (entl_new (use_own rfl) rfl (Nat.le_of_eq rfl) (rcs_int (fun _ _ => rfl) (rcs_int (fun _ _ => rfl) (rcs_int (fun _ _ => rfl) rcs_nil))) (entl_new (use_own rfl) rfl (Nat.le_of_eq rfl) (rcs_bool (fun _ _ => rfl) rcs_nil) (entl_bor (use_lo rfl) rfl rfl (entl_bor (use_lo rfl) rfl rfl (entl_bor (use_lo rfl) rfl rfl entl_nil)))))))))
   (fun c8 h => no_some h))))
   (fun c5 h => no_some h))
   (fun c4 h => no_some h)))))
   (fun c2 h => no_some h))
   (fun c1 h => no_some h))
   (fun c0 h => bif_split h
   (fun c1 h => bif_split h
   (fun c2 h => cond_yes c2 (cond_yes c2 (bif_split h
   (fun c3 h => bif_split h
   (fun c4 h => cond_yes rfl (bif_split h
   (fun c5 h => bif_split h
   (fun c6 h => bif_split h
   (fun c7 h => cond_yes rfl (bif_split h
   (fun c8 h => stop_at hS _ h (fun n => bif Nat.beq n 3 then 3 else bif Nat.beq n 4 then 4 else bif Nat.beq n 5 then 5 else bif Nat.beq n 6 then 9 else bif Nat.beq n 7 then 11 else n) rfl rfl rfl ⟨(rn_loose (use_lo rfl) rfl rfl rfl), ⟨(rn_ptr (use_own rfl) rfl rfl), ⟨(rn_ptr (use_own rfl) rfl rfl), ⟨(rn_ptr (use_own rfl) rfl rfl), ⟨(rn_int rfl), ⟨(rn_unk _), ⟨(rn_unk _), trivial⟩⟩⟩⟩⟩⟩⟩ rfl (entl_b (use_own rfl) rfl (by simp) (rb_cells ⟨(rn_loose (use_lo rfl) rfl rfl rfl), (rn_loose (use_lo rfl) rfl rfl rfl), trivial⟩) (entl_b (use_own rfl) rfl (by simp) (rb_cells ⟨rn_nils, rn_nils, trivial⟩) (entl_b (use_own rfl) rfl (by simp) (rb_cells ⟨(rn_own (use_own rfl) rfl (snoc_len' rfl)), (rn_own (use_own rfl) rfl (snoc_len' rfl)), trivial⟩) (entl_new (use_own rfl) rfl (Nat.le_of_eq (snoc_len' rfl)) (rcs_int (col_snoc' (fun (t : Int × Int × Int) => t.1) rfl (fun _ _ => rfl)) (rcs_int (col_snoc' (fun (t : Int × Int × Int) => t.2.1) rfl (fun _ _ => rfl)) (rcs_int (col_snoc' (fun (t : Int × Int × Int) => t.2.2) rfl (fun _ _ => rfl)) rcs_nil))) (entl_new (use_own rfl) rfl (Nat.le_of_eq (snoc_len' rfl)) (rcs_bool (col_snoc' (fun (t : Bool) => t) rfl (fun _ _ => rfl)) rcs_nil) (entl_bor (use_lo rfl) rfl rfl (entl_bor (use_lo rfl) rfl rfl (entl_bor (use_lo rfl) rfl rfl entl_nil)))))))))
   (fun c8 h => no_some h)))
   (fun c7 h => no_some h))
   (fun c6 h => no_some h))
   (fun c5 h => bif_split h
   (fun c6 h => bif_split h
   (fun c7 h => cond_yes rfl (bif_split h
   (fun c8 h => stop_at hS _ h (fun n => bif Nat.beq n 3 then 3 else bif Nat.beq n 4 then 4 else bif Nat.beq n 5 then 5 else bif Nat.beq n 6 then 9 else bif Nat.beq n 7 then 11 else n) rfl rfl rfl ⟨(rn_loose (use_lo rfl) rfl rfl rfl), ⟨(rn_ptr (use_own rfl) rfl rfl), ⟨(rn_ptr (use_own rfl) rfl rfl), ⟨(rn_ptr (use_own rfl) rfl rfl), ⟨(rn_int rfl), ⟨(rn_unk _), ⟨(rn_unk _), trivial⟩⟩⟩⟩⟩⟩⟩ rfl (entl_b (use_own rfl) rfl (by simp) (rb_cells ⟨(rn_loose (use_lo rfl) rfl rfl rfl), (rn_loose (use_lo rfl) rfl rfl rfl), trivial⟩) (entl_b (use_own rfl) rfl (by simp) (rb_cells ⟨rn_nils, rn_nils, trivial⟩) (entl_b (use_own rfl) rfl (by simp) (rb_cells ⟨(rn_own (use_own rfl) rfl (snoc_len' rfl)), (rn_own (use_own rfl) rfl (snoc_len' rfl)), trivial⟩) (entl_new (use_own rfl) rfl (Nat.le_of_eq (snoc_len' rfl)) (rcs_int (col_snoc' (fun (t : Int × Int × Int) => t.1) rfl (fun _ _ => rfl)) (rcs_int (col_snoc' (fun (t : Int × Int × Int) => t.2.1) rfl (fun _ _ => rfl)) (rcs_int (col_snoc' (fun (t : Int × Int × Int) => t.2.2) rfl (fun _ _ => rfl)) rcs_nil))) (entl_new (use_own rfl) rfl (Nat.le_of_eq (snoc_len' rfl)) (rcs_bool (col_snoc' (fun (t : Bool) => t) rfl (fun _ _ => rfl)) rcs_nil) (entl_bor (use_lo rfl) rfl rfl (entl_bor (use_lo rfl) rfl rfl (entl_bor (use_lo rfl) rfl rfl entl_nil)))))))))
   (fun c8 h => no_some h)))
   (fun c7 h => no_some h))
   (fun c6 h => no_some h))))
   (fun c4 h => no_some h))
   (fun c3 h => no_some h))))
   (fun c2 h => no_some h))
   (fun c1 h => no_some h))
theorem a26 (ar nr mr : Nat) (tr : Nat → Int) (vr : Nat → Int) (gr : Nat → Int) (ao no mo : Nat) (to : Nat → Bool) (al nl ml : Nat) (tl : Nat → Int) {r : Rt26} (h : Goes ((q26 ar nr mr tr vr gr ao no mo to al nl ml tl)) ((p26 ar nr mr tr vr gr ao no mo to al nl ml tl)) r) : CallR Try.prog 26 [.agg [.loose ⟨0, 3, ar, 0⟩ nr, .loose ⟨1, 1, ao, 0⟩ no], .loose ⟨2, 1, al, 0⟩ nl] [[(0, (false, .cols mr [.int .i64 tr, .int .i64 vr, .int .i64 gr])), (1, (false, .cols mo [.bool to])), (2, (false, .cols ml [.int .i64 tl]))]] 3 ((V26 ar nr mr tr vr gr ao no mo to al nl ml tl) r) ((fun r => [newL (3 + 1) ((N26 ar nr mr tr vr gr ao no mo to al nl ml tl) r) ++ [(0, (false, .cols mr [.int .i64 tr, .int .i64 vr, .int .i64 gr])), (1, (false, .cols mo [.bool to])), (2, (false, .cols ml [.int .i64 tl]))]]) r) 400 ∧ ∃ F, Try.prog.funcs[26]? = some F ∧ F.body.isSome = true ∧ (F.name == "runtime.NumGoroutine") = false := by
  refine dec_calls (f := 26) (lo := 3) (hi := 400) (H := [[(0, (false, .cols mr [.int .i64 tr, .int .i64 vr, .int .i64 gr])), (1, (false, .cols mo [.bool to])), (2, (false, .cols ml [.int .i64 tl]))]]) (args := [.agg [.loose ⟨0, 3, ar, 0⟩ nr, .loose ⟨1, 1, ao, 0⟩ no], .loose ⟨2, 1, al, 0⟩ nl]) Try.envOk Try.mixed yB4_ok ((I26 ar nr mr tr vr gr ao no mo to al nl ml tl)) ((V26 ar nr mr tr vr gr ao no mo to al nl ml tl)) (fun r => [newL (3 + 1) ((N26 ar nr mr tr vr gr ao no mo to al nl ml tl) r) ++ [(0, (false, .cols mr [.int .i64 tr, .int .i64 vr, .int .i64 gr])), (1, (false, .cols mo [.bool to])), (2, (false, .cols ml [.int .i64 tl]))]]) (fn := mkFn Try.f26) (ts := [1, 2, 4, 7, 8, 9, 10]) (n := 400) rfl (by decide) (by simp) (names_of rfl) ?_ ?_ ?_ h
  · intro s; cases s <;> exact ⟨hd_ok _ _, by simp [I26], names_of rfl, Nat.le_of_ble_eq_true rfl⟩
  · intro Kst Kret x hS hR h
    exact Holds.eq (te26 cond Kst Kret ar nr mr tr vr gr ao no mo to al nl ml tl) (be26 ar nr mr tr vr gr ao no mo to al nl ml tl Kst Kret x hS hR h)
  · intro Kst Kret x hS hR s h
    cases s with
    | h0 x0 x1 x2 => exact Holds.eq (t26_0 cond Kst Kret ar nr mr tr vr gr ao no mo to al nl ml tl x0 x1 x2) (b26_0 ar nr mr tr vr gr ao no mo to al nl ml tl Kst Kret x hS hR x0 x1 x2 h)
    | h1 x0 x1 x2 x3 x4 => exact Holds.eq (t26_1 cond Kst Kret ar nr mr tr vr gr ao no mo to al nl ml tl x0 x1 x2 x3 x4) (b26_1 ar nr mr tr vr gr ao no mo to al nl ml tl Kst Kret x hS hR x0 x1 x2 x3 x4 h)
noncomputable def k26 : Con := ⟨26, [.agg [.list [.int .i64, .int .i64, .int .i64], .list [.bool]], .one (.list [.int .i64])], fun (x : ((Nat × Nat × Nat × (Nat → Int) × (Nat → Int) × (Nat → Int) × Unit) × (Nat × Nat × Nat × (Nat → Bool) × Unit) × Unit) × (Nat × Nat × Nat × (Nat → Int) × Unit) × Unit) => (fun (ar nr mr : Nat) (tr : Nat → Int) (vr : Nat → Int) (gr : Nat → Int) (ao no mo : Nat) (to : Nat → Bool) (al nl ml : Nat) (tl : Nat → Int) => decide (ar + nr ≤ mr ∧ nr ≤ 1000000 ∧ ao + no ≤ mo ∧ no ≤ 1000000 ∧ al + nl ≤ ml ∧ nl ≤ 1000000)) x.1.1.1 x.1.1.2.1 x.1.1.2.2.1 x.1.1.2.2.2.1 x.1.1.2.2.2.2.1 x.1.1.2.2.2.2.2.1 x.1.2.1.1 x.1.2.1.2.1 x.1.2.1.2.2.1 x.1.2.1.2.2.2.1 x.2.1.1 x.2.1.2.1 x.2.1.2.2.1 x.2.1.2.2.2.1, fun (x : ((Nat × Nat × Nat × (Nat → Int) × (Nat → Int) × (Nat → Int) × Unit) × (Nat × Nat × Nat × (Nat → Bool) × Unit) × Unit) × (Nat × Nat × Nat × (Nat → Int) × Unit) × Unit) => (fun (ar nr mr : Nat) (tr : Nat → Int) (vr : Nat → Int) (gr : Nat → Int) (ao no mo : Nat) (to : Nat → Bool) (al nl ml : Nat) (tl : Nat → Int) => (V26 ar nr mr tr vr gr ao no mo to al nl ml tl) (S.histS nr (fun j => tr (j + ar)) (fun j => vr (j + ar)) (fun j => gr (j + ar)) no (fun j => to (j + ao)) nl (fun j => tl (j + al)))) x.1.1.1 x.1.1.2.1 x.1.1.2.2.1 x.1.1.2.2.2.1 x.1.1.2.2.2.2.1 x.1.1.2.2.2.2.2.1 x.1.2.1.1 x.1.2.1.2.1 x.1.2.1.2.2.1 x.1.2.1.2.2.2.1 x.2.1.1 x.2.1.2.1 x.2.1.2.2.1 x.2.1.2.2.2.1, fun (x : ((Nat × Nat × Nat × (Nat → Int) × (Nat → Int) × (Nat → Int) × Unit) × (Nat × Nat × Nat × (Nat → Bool) × Unit) × Unit) × (Nat × Nat × Nat × (Nat → Int) × Unit) × Unit) => (fun (ar nr mr : Nat) (tr : Nat → Int) (vr : Nat → Int) (gr : Nat → Int) (ao no mo : Nat) (to : Nat → Bool) (al nl ml : Nat) (tl : Nat → Int) => (N26 ar nr mr tr vr gr ao no mo to al nl ml tl) (S.histS nr (fun j => tr (j + ar)) (fun j => vr (j + ar)) (fun j => gr (j + ar)) no (fun j => to (j + ao)) nl (fun j => tl (j + al)))) x.1.1.1 x.1.1.2.1 x.1.1.2.2.1 x.1.1.2.2.2.1 x.1.1.2.2.2.2.1 x.1.1.2.2.2.2.2.1 x.1.2.1.1 x.1.2.1.2.1 x.1.2.1.2.2.1 x.1.2.1.2.2.2.1 x.2.1.1 x.2.1.2.1 x.2.1.2.2.1 x.2.1.2.2.2.1, fun _ _ => .dead⟩
theorem s26b (ar nr mr : Nat) (tr : Nat → Int) (vr : Nat → Int) (gr : Nat → Int) (ao no mo : Nat) (to : Nat → Bool) (al nl ml : Nat) (tl : Nat → Int) (hp : ar + nr ≤ mr ∧ nr ≤ 1000000 ∧ ao + no ≤ mo ∧ no ≤ 1000000 ∧ al + nl ≤ ml ∧ nl ≤ 1000000) (hv : S.histE nr (fun j => tr (j + ar)) (fun j => vr (j + ar)) (fun j => gr (j + ar)) no nl (fun j => tl (j + al)) = 0) (i : Nat) (hi : i < nr) (lr : List (Int × Int × Int)) (lo : List Bool) (hlr : lr.length = i) (hlo : lo.length = i) {R : Rt26} (h1 : Comes (q26 ar nr mr tr vr gr ao no mo to al nl ml tl) (.h0 ((i : Int) + 1) (S.snoc lr (tr (i + ar), vr (i + ar), gr (i + ar))) (S.snoc lo (S.aftN (tr (i + ar)) (vr (i + ar)) (fun j => tl (j + al)) (to (i + ao)) nl))) R) : ∀ (k j : Nat) (f : Bool), j + k = nl → Holds (f = S.aftN (tr (i + ar)) (vr (i + ar)) (fun j => tl (j + al)) (to (i + ao)) j) → Comes (q26 ar nr mr tr vr gr ao no mo to al nl ml tl) (.h1 (i : Int) f (j : Int) lr lo) R := by
  obtain ⟨hp1, hp2, hp3, hp4, hp5, hp6⟩ := hp
  obtain ⟨hm, hl1, hl2⟩ := hist_ok hv
  obtain ⟨v1, v2, v3, v4⟩ := mag_ok hm
  intro k
  induction k with
  | zero =>
    intro j f hj ef
    have ef := ef.get
    obtain rfl : nl = j := by omega
    rw [← ef] at h1
    cases f
    all_goals (
      apply Comes.of
      show Goes _ _ _
      unfold q26
      repeat' first
        | with_reducible refine goes_if (fun h => ?_) (fun h => ?_) <;> (try simp only [lim64, decide_eq_true_eq, decide_eq_false_iff_not, Int.toNat_natCast, toNat_pred, toNat_succ, Option.getD_some, Option.getD_none, Bool.not_eq_true', Bool.not_eq_false', Bool.and_eq_true, Bool.or_eq_true, Bool.and_eq_false_iff, Bool.or_eq_false_iff, bne_iff_ne, beq_iff_eq, bne_eq_false_iff_eq, beq_eq_false_iff_ne, ne_eq, not_and, Int.not_le, Int.not_lt, ge_iff_le, gt_iff_lt, Nat.not_lt, Nat.not_le, Bool.not_eq_true, Bool.not_eq_false, Bool.true_eq_false, Bool.false_eq_true, not_false_eq_true, not_true_eq_false] at h)
        | exact goes_none.mpr (by omega)
      )
    all_goals first | (exfalso; omega) | (exfalso; simp_all; done) | exact h1
  | succ k ih =>
    intro j f hj ef
    have ef := ef.get
    cases f
    all_goals (
      apply Comes.of
      show Goes _ _ _
      unfold q26
      repeat' first
        | with_reducible refine goes_if (fun h => ?_) (fun h => ?_) <;> (try simp only [lim64, decide_eq_true_eq, decide_eq_false_iff_not, Int.toNat_natCast, toNat_pred, toNat_succ, Option.getD_some, Option.getD_none, Bool.not_eq_true', Bool.not_eq_false', Bool.and_eq_true, Bool.or_eq_true, Bool.and_eq_false_iff, Bool.or_eq_false_iff, bne_iff_ne, beq_iff_eq, bne_eq_false_iff_eq, beq_eq_false_iff_ne, ne_eq, not_and, Int.not_le, Int.not_lt, ge_iff_le, gt_iff_lt, Nat.not_lt, Nat.not_le, Bool.not_eq_true, Bool.not_eq_false, Bool.true_eq_false, Bool.false_eq_true, not_false_eq_true, not_true_eq_false] at h)
        | exact goes_none.mpr (by omega)
      )
    all_goals first | (exfalso; omega) | (exfalso; simp_all; done) | (refine ih (j + 1) _ (by omega) ⟨?_⟩; simp only [S.aftN, S.aft, Bool.cond_eq_ite, decide_eq_true_eq, Int.toNat_natCast, ← ef]; (repeat' split) <;> first | rfl | (exfalso; simp only [Int.toNat_natCast] at *; omega) | omega)
theorem s26' (ar nr mr : Nat) (tr : Nat → Int) (vr : Nat → Int) (gr : Nat → Int) (ao no mo : Nat) (to : Nat → Bool) (al nl ml : Nat) (tl : Nat → Int) (hp : ar + nr ≤ mr ∧ nr ≤ 1000000 ∧ ao + no ≤ mo ∧ no ≤ 1000000 ∧ al + nl ≤ ml ∧ nl ≤ 1000000) (hv : S.histE nr (fun j => tr (j + ar)) (fun j => vr (j + ar)) (fun j => gr (j + ar)) no nl (fun j => tl (j + al)) = 0) : ∀ k i : Nat, i + k = nr → Comes (q26 ar nr mr tr vr gr ao no mo to al nl ml tl) (.h0 (i : Int) (S.mkl i fun j => (tr (j + ar), vr (j + ar), gr (j + ar))) (S.mkl i fun j => S.aftN (tr (j + ar)) (vr (j + ar)) (fun j => tl (j + al)) (to (j + ao)) nl)) (0, S.mkl nr fun j => (tr (j + ar), vr (j + ar), gr (j + ar)), S.mkl nr fun j => S.aftN (tr (j + ar)) (vr (j + ar)) (fun j => tl (j + al)) (to (j + ao)) nl) := by
  have hp' := hp
  obtain ⟨hp1, hp2, hp3, hp4, hp5, hp6⟩ := hp
  obtain ⟨hm, hl1, hl2⟩ := hist_ok hv
  obtain ⟨v1, v2, v3, v4⟩ := mag_ok hm
  intro k
  induction k with
  | zero =>
    intro i hi
    apply Comes.of
    show Goes _ _ _
    unfold q26
    repeat' first
      | with_reducible refine goes_if (fun h => ?_) (fun h => ?_) <;> (try simp only [lim64, decide_eq_true_eq, decide_eq_false_iff_not, Int.toNat_natCast, toNat_pred, toNat_succ, Option.getD_some, Option.getD_none, Bool.not_eq_true', Bool.not_eq_false', Bool.and_eq_true, Bool.or_eq_true, Bool.and_eq_false_iff, Bool.or_eq_false_iff, bne_iff_ne, beq_iff_eq, bne_eq_false_iff_eq, beq_eq_false_iff_ne, ne_eq, not_and, Int.not_le, Int.not_lt, ge_iff_le, gt_iff_lt, Nat.not_lt, Nat.not_le, Bool.not_eq_true, Bool.not_eq_false, Bool.true_eq_false, Bool.false_eq_true, not_false_eq_true, not_true_eq_false] at h)
      | exact goes_none.mpr (by omega)
    all_goals first | (exfalso; omega) | (obtain rfl : nr = i := (by omega); rfl)
  | succ k ih =>
    intro i hi
    have ih := ih (i + 1) (by omega)
    rw [mkl_succ, mkl_succ] at ih
    have hb := fun f hf => s26b ar nr mr tr vr gr ao no mo to al nl ml tl hp' hv i (by omega) (S.mkl i fun j => (tr (j + ar), vr (j + ar), gr (j + ar))) (S.mkl i fun j => S.aftN (tr (j + ar)) (vr (j + ar)) (fun j => tl (j + al)) (to (j + ao)) nl) mkl_len mkl_len ih nl 0 f (by omega) ⟨hf⟩
    generalize (S.mkl i fun j => (tr (j + ar), vr (j + ar), gr (j + ar))) = lr at hb ⊢
    generalize (S.mkl i fun j => S.aftN (tr (j + ar)) (vr (j + ar)) (fun j => tl (j + al)) (to (j + ao)) nl) = lo at hb ⊢
    apply Comes.of
    show Goes _ _ _
    unfold q26
    repeat' first
      | with_reducible refine goes_if (fun h => ?_) (fun h => ?_) <;> (try simp only [lim64, decide_eq_true_eq, decide_eq_false_iff_not, Int.toNat_natCast, toNat_pred, toNat_succ, Option.getD_some, Option.getD_none, Bool.not_eq_true', Bool.not_eq_false', Bool.and_eq_true, Bool.or_eq_true, Bool.and_eq_false_iff, Bool.or_eq_false_iff, bne_iff_ne, beq_iff_eq, bne_eq_false_iff_eq, beq_eq_false_iff_ne, ne_eq, not_and, Int.not_le, Int.not_lt, ge_iff_le, gt_iff_lt, Nat.not_lt, Nat.not_le, Bool.not_eq_true, Bool.not_eq_false, Bool.true_eq_false, Bool.false_eq_true, not_false_eq_true, not_true_eq_false] at h)
      | exact goes_none.mpr (by omega)
    all_goals first | (exfalso; omega) | (refine hb _ ?_; simp only [S.aftN]; symm; assumption)
theorem s26 (ar nr mr : Nat) (tr : Nat → Int) (vr : Nat → Int) (gr : Nat → Int) (ao no mo : Nat) (to : Nat → Bool) (al nl ml : Nat) (tl : Nat → Int) (hp : ar + nr ≤ mr ∧ nr ≤ 1000000 ∧ ao + no ≤ mo ∧ no ≤ 1000000 ∧ al + nl ≤ ml ∧ nl ≤ 1000000) : Goes ((q26 ar nr mr tr vr gr ao no mo to al nl ml tl)) ((p26 ar nr mr tr vr gr ao no mo to al nl ml tl)) (S.histS nr (fun j => tr (j + ar)) (fun j => vr (j + ar)) (fun j => gr (j + ar)) no (fun j => to (j + ao)) nl (fun j => tl (j + al))) := by
  unfold S.histS
  by_cases hv : S.histE nr (fun j => tr (j + ar)) (fun j => vr (j + ar)) (fun j => gr (j + ar)) no nl (fun j => tl (j + al)) = 0
  · have hm := s26' ar nr mr tr vr gr ao no mo to al nl ml tl hp hv nr 0 (by omega)
    obtain ⟨v1, v2, v3, v4⟩ := mag_ok (hist_ok hv).1
    subst v3
    obtain ⟨hp1, hp2, hp3, hp4, hp5, hp6⟩ := hp
    rw [if_pos hv]
    show Goes _ _ _
    unfold p26
    repeat' first
      | with_reducible refine goes_if (fun h => ?_) (fun h => ?_) <;> (try simp only [lim64, decide_eq_true_eq, decide_eq_false_iff_not, Int.toNat_natCast, toNat_pred, toNat_succ, Option.getD_some, Option.getD_none, Bool.not_eq_true', Bool.not_eq_false', Bool.and_eq_true, Bool.or_eq_true, Bool.and_eq_false_iff, Bool.or_eq_false_iff, bne_iff_ne, beq_iff_eq, bne_eq_false_iff_eq, beq_eq_false_iff_ne, ne_eq, not_and, Int.not_le, Int.not_lt, ge_iff_le, gt_iff_lt, Nat.not_lt, Nat.not_le, Bool.not_eq_true, Bool.not_eq_false, Bool.true_eq_false, Bool.false_eq_true, not_false_eq_true, not_true_eq_false] at h)
      | exact goes_none.mpr (by omega)
    all_goals first | (exfalso; omega) | (exfalso; exact absurd hv (by assumption)) | exact hm
  · obtain ⟨hp1, hp2, hp3, hp4, hp5, hp6⟩ := hp
    rw [if_neg hv]
    show Goes _ _ _
    unfold p26
    repeat' first
      | with_reducible refine goes_if (fun h => ?_) (fun h => ?_) <;> (try simp only [lim64, decide_eq_true_eq, decide_eq_false_iff_not, Int.toNat_natCast, toNat_pred, toNat_succ, Option.getD_some, Option.getD_none, Bool.not_eq_true', Bool.not_eq_false', Bool.and_eq_true, Bool.or_eq_true, Bool.and_eq_false_iff, Bool.or_eq_false_iff, bne_iff_ne, beq_iff_eq, bne_eq_false_iff_eq, beq_eq_false_iff_ne, ne_eq, not_and, Int.not_le, Int.not_lt, ge_iff_le, gt_iff_lt, Nat.not_lt, Nat.not_le, Bool.not_eq_true, Bool.not_eq_false, Bool.true_eq_false, Bool.false_eq_true, not_false_eq_true, not_true_eq_false] at h)
      | exact goes_none.mpr (by omega)
    all_goals first | (exfalso; omega) | (exfalso; exact hv (by assumption)) | rfl

theorem k26_ok : k26.ok Try.prog := by
  intro x hx
  obtain ⟨⟨⟨ar, nr, mr, tr, vr, gr, _⟩, ⟨ao, no, mo, to, _⟩, _⟩, ⟨al, nl, ml, tl, _⟩, _⟩ := x
  obtain ⟨h1, h2⟩ := a26 ar nr mr tr vr gr ao no mo to al nl ml tl (s26 ar nr mr tr vr gr ao no mo to al nl ml tl (of_decide_eq_true hx))
  exact ⟨⟨400, (by decide : 3 + 1 + 2 ≤ 400), h1⟩, h2⟩


end Go.Ev
