/-
  Run, in the program and in the reference.
-/
import Derived.Test.YtedbjnojogjnkaaL8a
namespace Go.Ev
open Go.Proofs
set_option linter.unusedVariables false
set_option linter.unusedSimpArgs false
inductive St34 where
  | h0 (x0 : Int) (x1 : Int) (x2 : Int) (x3 : Int) (x4 : Int) (x5 : Int) (x6 : Bool) (x7 : List (Int × Int × Bool))
abbrev Rt34 := Int × Int × Int × Int × Bool × Int × Int × List (Int × Int × Bool)
noncomputable def V34 (ca : Int) (af : Int) (al nl ml : Nat) (tl : Nat → Int) (vl : Nat → Int) (gl : Nat → Int) (wl : Nat → Bool) (r : Rt34) : PV := PV.tup
 [PV.agg
 [PV.int IntKind.i64 r.1, PV.int IntKind.i64 r.2.1,
 PV.own (2) (3) (List.length r.2.2.2.2.2.2.2), PV.int IntKind.i64 r.2.2.1,
 PV.int IntKind.i64 r.2.2.2.1, PV.bool r.2.2.2.2.1],
 PV.int IntKind.i64 r.2.2.2.2.2.1, PV.int IntKind.i64 r.2.2.2.2.2.2.1]
noncomputable def N34 (ca : Int) (af : Int) (al nl ml : Nat) (tl : Nat → Int) (vl : Nat → Int) (gl : Nat → Int) (wl : Nat → Bool) (r : Rt34) : List Blk := [Blk.cols (List.length r.2.2.2.2.2.2.2)
 [Col.int IntKind.i64 fun (j : Nat) => (S.at' r.2.2.2.2.2.2.2 j).1,
 Col.int IntKind.i64 fun (j : Nat) => (S.at' r.2.2.2.2.2.2.2 j).2.1,
 Col.bool fun (j : Nat) => (S.at' r.2.2.2.2.2.2.2 j).2.2]]
noncomputable def I34 (ca : Int) (af : Int) (al nl ml : Nat) (tl : Nat → Int) (vl : Nat → Int) (gl : Nat → Int) (wl : Nat → Bool) : St34 → Hd
  | .h0 x0 x1 x2 x3 x4 x5 x6 x7 => ⟨hd Try.f34 0, [PV.ptr (PA.mk (1) (0) (0) (0)),
 PV.ptr (PA.mk (2) (0) (0) (0)), PV.int IntKind.i64 x0,
 PV.loose (PA.mk (0) (4) al (0)) nl, PV.int IntKind.i64 (↑nl : Int),
 PV.int IntKind.i64 x1], [[(1, (true, Blk.cells
 [PV.int IntKind.i64 (0 : Int), PV.int IntKind.i64 (0 : Int), PV.nils,
 PV.int IntKind.i64 (0 : Int), PV.int IntKind.i64 (0 : Int), PV.tf false])), (2, (true, Blk.cells
 [PV.int IntKind.i64 x2, PV.int IntKind.i64 x3,
 PV.own (3) (3) (List.length x7), PV.int IntKind.i64 x4,
 PV.int IntKind.i64 x5, PV.bool x6])), (3, (true, Blk.cols (List.length x7)
 [Col.int IntKind.i64 fun (j : Nat) => (S.at' x7 j).1,
 Col.int IntKind.i64 fun (j : Nat) => (S.at' x7 j).2.1,
 Col.bool fun (j : Nat) => (S.at' x7 j).2.2]))], [(0, (false, .cols ml [.int .i64 tl, .int .i64 vl, .int .i64 gl, .bool wl]))]], 4⟩
noncomputable def q34 (ca : Int) (af : Int) (al nl ml : Nat) (tl : Nat → Int) (vl : Nat → Int) (gl : Nat → Int) (wl : Nat → Bool) : St34 → Option (St34 ⊕ Rt34)
  | .h0 x0 x1 x2 x3 x4 x5 x6 x7 => bif (decide (x1 < (↑nl : Int)))
 then (bif (decide ((0 : Int) ≤ x1 ∧ x1 < (↑nl : Int)))
 then (bif (decide (Int.toNat x1 + al < ml))
 then (bif (decide (0 + List.length x7 ≤ List.length x7 ∧ List.length x7 ≤ 999999))
 then (bif (Prod.fst
 (Prod.snd
 (Prod.snd
 (Prod.snd
 (Prod.snd
 (Prod.snd
 (S.stepS x2 x3 (List.length x7) (fun (j : Nat) => (S.at' x7 j).1)
 (fun (j : Nat) => (S.at' x7 j).2.1)
 (fun (j : Nat) => (S.at' x7 j).2.2) x4 x5 x6 (tl (Int.toNat x1 + al))
 (vl (Int.toNat x1 + al)) (gl (Int.toNat x1 + al)) (wl (Int.toNat x1 + al)))))))) !=
 (0 : Int))
 then (bif (lim IntKind.i64 (x0 + (1 : Int)))
 then (bif (lim IntKind.i64 (x1 + (1 : Int)))
 then (some (.inl (.h0 (x0 + (1 : Int)) (x1 + (1 : Int)) (x2) (x3) (x4) (x5) (x6) (x7))))
 else (none))
 else (none))
 else (bif (lim IntKind.i64 (x1 + (1 : Int)))
 then (some (.inl (.h0 (x0) (x1 + (1 : Int)) (Prod.fst
 (S.stepS x2 x3 (List.length x7) (fun (j : Nat) => (S.at' x7 j).1)
 (fun (j : Nat) => (S.at' x7 j).2.1) (fun (j : Nat) => (S.at' x7 j).2.2)
 x4 x5 x6 (tl (Int.toNat x1 + al)) (vl (Int.toNat x1 + al)) (gl (Int.toNat x1 + al)) (wl (Int.toNat x1 + al)))) (Prod.fst
 (Prod.snd
 (S.stepS x2 x3 (List.length x7) (fun (j : Nat) => (S.at' x7 j).1)
 (fun (j : Nat) => (S.at' x7 j).2.1)
 (fun (j : Nat) => (S.at' x7 j).2.2) x4 x5 x6 (tl (Int.toNat x1 + al))
 (vl (Int.toNat x1 + al)) (gl (Int.toNat x1 + al)) (wl (Int.toNat x1 + al))))) (Prod.fst
 (Prod.snd
 (Prod.snd
 (S.stepS x2 x3 (List.length x7) (fun (j : Nat) => (S.at' x7 j).1)
 (fun (j : Nat) => (S.at' x7 j).2.1)
 (fun (j : Nat) => (S.at' x7 j).2.2) x4 x5 x6 (tl (Int.toNat x1 + al))
 (vl (Int.toNat x1 + al)) (gl (Int.toNat x1 + al)) (wl (Int.toNat x1 + al)))))) (Prod.fst
 (Prod.snd
 (Prod.snd
 (Prod.snd
 (S.stepS x2 x3 (List.length x7) (fun (j : Nat) => (S.at' x7 j).1)
 (fun (j : Nat) => (S.at' x7 j).2.1)
 (fun (j : Nat) => (S.at' x7 j).2.2) x4 x5 x6 (tl (Int.toNat x1 + al))
 (vl (Int.toNat x1 + al)) (gl (Int.toNat x1 + al)) (wl (Int.toNat x1 + al))))))) (Prod.fst
 (Prod.snd
 (Prod.snd
 (Prod.snd
 (Prod.snd
 (S.stepS x2 x3 (List.length x7) (fun (j : Nat) => (S.at' x7 j).1)
 (fun (j : Nat) => (S.at' x7 j).2.1)
 (fun (j : Nat) => (S.at' x7 j).2.2) x4 x5 x6 (tl (Int.toNat x1 + al))
 (vl (Int.toNat x1 + al)) (gl (Int.toNat x1 + al)) (wl (Int.toNat x1 + al)))))))) (Prod.snd
 (Prod.snd
 (Prod.snd
 (Prod.snd
 (Prod.snd
 (Prod.snd
 (S.stepS x2 x3 (List.length x7) (fun (j : Nat) => (S.at' x7 j).1)
 (fun (j : Nat) => (S.at' x7 j).2.1)
 (fun (j : Nat) => (S.at' x7 j).2.2) x4 x5 x6 (tl (Int.toNat x1 + al))
 (vl (Int.toNat x1 + al)) (gl (Int.toNat x1 + al)) (wl (Int.toNat x1 + al))))))))))))
 else (none)))
 else (none))
 else (none))
 else (none))
 else (some (.inr (x2, x3, x4, x5, x6, x0, (0 : Int), x7)))
noncomputable def p34 (ca : Int) (af : Int) (al nl ml : Nat) (tl : Nat → Int) (vl : Nat → Int) (gl : Nat → Int) (wl : Nat → Bool) : Option (St34 ⊕ Rt34) := bif ((S.newS ca af).2.2.2 != (0 : Int))
 then (some (.inr ((0 : Int), (0 : Int), (0 : Int), (0 : Int), false, (0 : Int), (S.newS ca af).2.2.2, [])))
 else (some (.inl (.h0 ((0 : Int)) ((0 : Int)) ((S.newS ca af).1) ((S.newS ca af).2.1) ((0 : Int)) ((S.newS ca af).2.2.1) (false) ([]))))
noncomputable def Te34 (test : Bool → Prop → Prop → Prop) (Kst : KS) (Kret : KR) (ca : Int) (af : Int) (al nl ml : Nat) (tl : Nat → Int) (vl : Nat → Int) (gl : Nat → Int) (wl : Nat → Bool) : Prop :=
  test (true)
 (test ((S.newS ca af).2.2.2 != (0 : Int))
 (Kret (PV.tup
 [PV.agg
 [PV.int IntKind.i64 (0 : Int), PV.int IntKind.i64 (0 : Int), PV.nils,
 PV.int IntKind.i64 (0 : Int), PV.int IntKind.i64 (0 : Int), PV.tf false],
 PV.int IntKind.i64 (0 : Int),
 PV.int IntKind.i64 ((S.newS ca af).2.2.2)]) ([[(0, false,
 Blk.cols ml
 [Col.int IntKind.i64 tl, Col.int IntKind.i64 vl, Col.int IntKind.i64 gl,
 Col.bool wl])]]) (4))
 (Kst (hd Try.f34 0) ([PV.ptr (PA.mk (1) (0) (0) (0)),
 PV.ptr (PA.mk (3) (0) (0) (0)), PV.int IntKind.i64 (0 : Int),
 PV.loose (PA.mk (0) (4) al (0)) nl, PV.int IntKind.i64 (↑nl : Int),
 PV.int IntKind.i64 (0 : Int)]) ([[(0, false,
 Blk.cols ml
 [Col.int IntKind.i64 tl, Col.int IntKind.i64 vl, Col.int IntKind.i64 gl,
 Col.bool wl]),
 (3, true,
 Blk.cells
 [PV.int IntKind.i64 ((S.newS ca af).1),
 PV.int IntKind.i64 ((S.newS ca af).2.1), PV.nils,
 PV.int IntKind.i64 (0 : Int),
 PV.int IntKind.i64 ((S.newS ca af).2.2.1), PV.tf false]),
 (1, true,
 Blk.cells
 [PV.int IntKind.i64 (0 : Int), PV.int IntKind.i64 (0 : Int), PV.nils,
 PV.int IntKind.i64 (0 : Int), PV.int IntKind.i64 (0 : Int), PV.tf false])]]) (4)))
 (False)
set_option maxRecDepth 100000 in
theorem te34 (test : Bool → Prop → Prop → Prop) (Kst : KS) (Kret : KR) (ca : Int) (af : Int) (al nl ml : Nat) (tl : Nat → Int) (vl : Nat → Int) (gl : Nat → Int) (wl : Nat → Bool) : run test Try.env true (xE test) true 400 ⟨34, [.cd (mkFn Try.f34).body], argT 0 [.int .i64 ca, .int .i64 af, .loose ⟨0, 4, al, 0⟩ nl], [[], [(0, (false, .cols ml [.int .i64 tl, .int .i64 vl, .int .i64 gl, .bool wl]))]], 1⟩ (proj 1 [6, 9, 11, 26, 27, 28] Kst Kret) =
  Te34 test Kst Kret ca af al nl ml tl vl gl wl := by kernel_rfl
noncomputable def T34_0 (test : Bool → Prop → Prop → Prop) (Kst : KS) (Kret : KR) (ca : Int) (af : Int) (al nl ml : Nat) (tl : Nat → Int) (vl : Nat → Int) (gl : Nat → Int) (wl : Nat → Bool) (x0 : Int) (x1 : Int) (x2 : Int) (x3 : Int) (x4 : Int) (x5 : Int) (x6 : Bool) (x7 : List (Int × Int × Bool)) : Prop :=
  test (decide (x1 < (↑nl : Int)))
 (test (decide ((0 : Int) ≤ x1 ∧ x1 < (↑nl : Int)))
 (test (decide (Int.toNat x1 + al < ml))
 (test (decide (Int.toNat x1 + al < ml))
 (test (decide (Int.toNat x1 + al < ml))
 (test (decide (Int.toNat x1 + al < ml))
 (test (decide (0 + List.length x7 ≤ List.length x7 ∧ List.length x7 ≤ 999999))
 (test (Prod.fst
 (Prod.snd
 (Prod.snd
 (Prod.snd
 (Prod.snd
 (Prod.snd
 (S.stepS x2 x3 (List.length x7) (fun (j : Nat) => (S.at' x7 j).1)
 (fun (j : Nat) => (S.at' x7 j).2.1)
 (fun (j : Nat) => (S.at' x7 j).2.2) x4 x5 x6 (tl (Int.toNat x1 + al))
 (vl (Int.toNat x1 + al)) (gl (Int.toNat x1 + al)) (wl (Int.toNat x1 + al)))))))) !=
 (0 : Int))
 (test (lim IntKind.i64 (x0 + (1 : Int)))
 (test (lim IntKind.i64 (x1 + (1 : Int)))
 (Kst (hd Try.f34 0) ([PV.ptr (PA.mk (1) (0) (0) (0)),
 PV.ptr (PA.mk (2) (0) (0) (0)),
 PV.int IntKind.i64 (x0 + (1 : Int)), PV.loose (PA.mk (0) (4) al (0)) nl,
 PV.int IntKind.i64 (↑nl : Int), PV.int IntKind.i64 (x1 + (1 : Int))]) ([[(0, false,
 Blk.cols ml
 [Col.int IntKind.i64 tl, Col.int IntKind.i64 vl, Col.int IntKind.i64 gl,
 Col.bool wl]),
 (2, true,
 Blk.cells
 [PV.int IntKind.i64 x2, PV.int IntKind.i64 x3,
 PV.own (3) (3) (List.length x7), PV.int IntKind.i64 x4,
 PV.int IntKind.i64 x5, PV.bool x6]),
 (1, true,
 Blk.cells
 [PV.int IntKind.i64 (0 : Int), PV.int IntKind.i64 (0 : Int), PV.nils,
 PV.int IntKind.i64 (0 : Int), PV.int IntKind.i64 (0 : Int), PV.tf false]),
 (3, true,
 Blk.cols (List.length x7)
 [Col.int IntKind.i64 fun (j : Nat) => (S.at' x7 j).1,
 Col.int IntKind.i64 fun (j : Nat) => (S.at' x7 j).2.1,
 Col.bool fun (j : Nat) => (S.at' x7 j).2.2])]]) (8))
 (False))
 (False))
 (test (lim IntKind.i64 (x1 + (1 : Int)))
 (Kst (hd Try.f34 0) ([PV.ptr (PA.mk (1) (0) (0) (0)),
 PV.ptr (PA.mk (2) (0) (0) (0)), PV.int IntKind.i64 x0,
 PV.loose (PA.mk (0) (4) al (0)) nl, PV.int IntKind.i64 (↑nl : Int),
 PV.int IntKind.i64 (x1 + (1 : Int))]) ([[(0, false,
 Blk.cols ml
 [Col.int IntKind.i64 tl, Col.int IntKind.i64 vl, Col.int IntKind.i64 gl,
 Col.bool wl]),
 (2, true,
 Blk.cells
 [PV.int IntKind.i64
 (Prod.fst
 (S.stepS x2 x3 (List.length x7) (fun (j : Nat) => (S.at' x7 j).1)
 (fun (j : Nat) => (S.at' x7 j).2.1)
 (fun (j : Nat) => (S.at' x7 j).2.2) x4 x5 x6 (tl (Int.toNat x1 + al))
 (vl (Int.toNat x1 + al)) (gl (Int.toNat x1 + al)) (wl (Int.toNat x1 + al)))),
 PV.int IntKind.i64
 (Prod.fst
 (Prod.snd
 (S.stepS x2 x3 (List.length x7) (fun (j : Nat) => (S.at' x7 j).1)
 (fun (j : Nat) => (S.at' x7 j).2.1)
 (fun (j : Nat) => (S.at' x7 j).2.2) x4 x5 x6 (tl (Int.toNat x1 + al))
 (vl (Int.toNat x1 + al)) (gl (Int.toNat x1 + al)) (wl (Int.toNat x1 + al))))),
 PV.own (6) (3)
 (List.length
 (Prod.snd
 (Prod.snd
 (Prod.snd
 (Prod.snd
 (Prod.snd
 (Prod.snd
 (S.stepS x2 x3 (List.length x7) (fun (j : Nat) => (S.at' x7 j).1)
 (fun (j : Nat) => (S.at' x7 j).2.1)
 (fun (j : Nat) => (S.at' x7 j).2.2) x4 x5 x6 (tl (Int.toNat x1 + al))
 (vl (Int.toNat x1 + al)) (gl (Int.toNat x1 + al)) (wl (Int.toNat x1 + al)))))))))),
 PV.int IntKind.i64
 (Prod.fst
 (Prod.snd
 (Prod.snd
 (S.stepS x2 x3 (List.length x7) (fun (j : Nat) => (S.at' x7 j).1)
 (fun (j : Nat) => (S.at' x7 j).2.1)
 (fun (j : Nat) => (S.at' x7 j).2.2) x4 x5 x6 (tl (Int.toNat x1 + al))
 (vl (Int.toNat x1 + al)) (gl (Int.toNat x1 + al)) (wl (Int.toNat x1 + al)))))),
 PV.int IntKind.i64
 (Prod.fst
 (Prod.snd
 (Prod.snd
 (Prod.snd
 (S.stepS x2 x3 (List.length x7) (fun (j : Nat) => (S.at' x7 j).1)
 (fun (j : Nat) => (S.at' x7 j).2.1)
 (fun (j : Nat) => (S.at' x7 j).2.2) x4 x5 x6 (tl (Int.toNat x1 + al))
 (vl (Int.toNat x1 + al)) (gl (Int.toNat x1 + al)) (wl (Int.toNat x1 + al))))))),
 PV.bool
 (Prod.fst
 (Prod.snd
 (Prod.snd
 (Prod.snd
 (Prod.snd
 (S.stepS x2 x3 (List.length x7) (fun (j : Nat) => (S.at' x7 j).1)
 (fun (j : Nat) => (S.at' x7 j).2.1)
 (fun (j : Nat) => (S.at' x7 j).2.2) x4 x5 x6 (tl (Int.toNat x1 + al))
 (vl (Int.toNat x1 + al)) (gl (Int.toNat x1 + al)) (wl (Int.toNat x1 + al))))))))]),
 (1, true,
 Blk.cells
 [PV.int IntKind.i64 (0 : Int), PV.int IntKind.i64 (0 : Int), PV.nils,
 PV.int IntKind.i64 (0 : Int), PV.int IntKind.i64 (0 : Int), PV.tf false]),
 (6, true,
 Blk.cols
 (List.length
 (Prod.snd
 (Prod.snd
 (Prod.snd
 (Prod.snd
 (Prod.snd
 (Prod.snd
 (S.stepS x2 x3 (List.length x7) (fun (j : Nat) => (S.at' x7 j).1)
 (fun (j : Nat) => (S.at' x7 j).2.1)
 (fun (j : Nat) => (S.at' x7 j).2.2) x4 x5 x6 (tl (Int.toNat x1 + al))
 (vl (Int.toNat x1 + al)) (gl (Int.toNat x1 + al)) (wl (Int.toNat x1 + al))))))))))
 [Col.int IntKind.i64 fun (j : Nat) =>
 Prod.fst
 (S.at'
 (Prod.snd
 (Prod.snd
 (Prod.snd
 (Prod.snd
 (Prod.snd
 (Prod.snd
 (S.stepS x2 x3 (List.length x7) (fun (j : Nat) => (S.at' x7 j).1)
 (fun (j : Nat) => (S.at' x7 j).2.1)
 (fun (j : Nat) => (S.at' x7 j).2.2) x4 x5 x6
 (tl (Int.toNat x1 + al)) (vl (Int.toNat x1 + al)) (gl (Int.toNat x1 + al))
 (wl (Int.toNat x1 + al)))))))))
 j),
 Col.int IntKind.i64 fun (j : Nat) =>
 Prod.fst
 (Prod.snd
 (S.at'
 (Prod.snd
 (Prod.snd
 (Prod.snd
 (Prod.snd
 (Prod.snd
 (Prod.snd
 (S.stepS x2 x3 (List.length x7) (fun (j : Nat) => (S.at' x7 j).1)
 (fun (j : Nat) => (S.at' x7 j).2.1)
 (fun (j : Nat) => (S.at' x7 j).2.2) x4 x5 x6
 (tl (Int.toNat x1 + al)) (vl (Int.toNat x1 + al)) (gl (Int.toNat x1 + al))
 (wl (Int.toNat x1 + al)))))))))
 j)),
 Col.bool fun (j : Nat) =>
 Prod.snd
 (Prod.snd
 (S.at'
 (Prod.snd
 (Prod.snd
 (Prod.snd
 (Prod.snd
 (Prod.snd
 (Prod.snd
 (S.stepS x2 x3 (List.length x7) (fun (j : Nat) => (S.at' x7 j).1)
 (fun (j : Nat) => (S.at' x7 j).2.1)
 (fun (j : Nat) => (S.at' x7 j).2.2) x4 x5 x6
 (tl (Int.toNat x1 + al)) (vl (Int.toNat x1 + al)) (gl (Int.toNat x1 + al))
 (wl (Int.toNat x1 + al)))))))))
 j))])]]) (8))
 (False)))
 (False))
 (False))
 (False))
 (False))
 (False))
 (False))
 (Kret (PV.tup
 [PV.agg
 [PV.int IntKind.i64 x2, PV.int IntKind.i64 x3,
 PV.own (3) (3) (List.length x7), PV.int IntKind.i64 x4,
 PV.int IntKind.i64 x5, PV.bool x6],
 PV.int IntKind.i64 x0, PV.int IntKind.i64 (0 : Int)]) ([[(0, false,
 Blk.cols ml
 [Col.int IntKind.i64 tl, Col.int IntKind.i64 vl, Col.int IntKind.i64 gl,
 Col.bool wl]),
 (3, true,
 Blk.cols (List.length x7)
 [Col.int IntKind.i64 fun (j : Nat) => (S.at' x7 j).1,
 Col.int IntKind.i64 fun (j : Nat) => (S.at' x7 j).2.1,
 Col.bool fun (j : Nat) => (S.at' x7 j).2.2])]]) (4))
set_option maxRecDepth 100000 in
theorem t34_0 (test : Bool → Prop → Prop → Prop) (Kst : KS) (Kret : KR) (ca : Int) (af : Int) (al nl ml : Nat) (tl : Nat → Int) (vl : Nat → Int) (gl : Nat → Int) (wl : Nat → Bool) (x0 : Int) (x1 : Int) (x2 : Int) (x3 : Int) (x4 : Int) (x5 : Int) (x6 : Bool) (x7 : List (Int × Int × Bool)) : run test Try.env true (xE test) true 400 ⟨34, hd Try.f34 0, zipT [6, 9, 11, 26, 27, 28] [PV.ptr (PA.mk (1) (0) (0) (0)),
 PV.ptr (PA.mk (2) (0) (0) (0)), PV.int IntKind.i64 x0,
 PV.loose (PA.mk (0) (4) al (0)) nl, PV.int IntKind.i64 (↑nl : Int),
 PV.int IntKind.i64 x1], [[(1, (true, Blk.cells
 [PV.int IntKind.i64 (0 : Int), PV.int IntKind.i64 (0 : Int), PV.nils,
 PV.int IntKind.i64 (0 : Int), PV.int IntKind.i64 (0 : Int), PV.tf false])), (2, (true, Blk.cells
 [PV.int IntKind.i64 x2, PV.int IntKind.i64 x3,
 PV.own (3) (3) (List.length x7), PV.int IntKind.i64 x4,
 PV.int IntKind.i64 x5, PV.bool x6])), (3, (true, Blk.cols (List.length x7)
 [Col.int IntKind.i64 fun (j : Nat) => (S.at' x7 j).1,
 Col.int IntKind.i64 fun (j : Nat) => (S.at' x7 j).2.1,
 Col.bool fun (j : Nat) => (S.at' x7 j).2.2]))], [(0, (false, .cols ml [.int .i64 tl, .int .i64 vl, .int .i64 gl, .bool wl]))]], 4⟩ (proj 1 [6, 9, 11, 26, 27, 28] Kst Kret) =
  T34_0 test Kst Kret ca af al nl ml tl vl gl wl x0 x1 x2 x3 x4 x5 x6 x7 := by kernel_rfl
set_option maxRecDepth 100000 in
theorem be34 (ca : Int) (af : Int) (al nl ml : Nat) (tl : Nat → Int) (vl : Nat → Int) (gl : Nat → Int) (wl : Nat → Bool) (Kst : KS) (Kret : KR) (x : St34 ⊕ Rt34) (hS : HS 1 400 ((I34 ca af al nl ml tl vl gl wl)) Kst x) (hR : HR 1 400 ((V34 ca af al nl ml tl vl gl wl)) (fun r => [newL (1 + 1) ((N34 ca af al nl ml tl vl gl wl) r) ++ [(0, (false, .cols ml [.int .i64 tl, .int .i64 vl, .int .i64 gl, .bool wl]))]]) Kret x) (h : (bif ((S.newS ca af).2.2.2 != (0 : Int))
 then (some (.inr ((0 : Int), (0 : Int), (0 : Int), (0 : Int), false, (0 : Int), (S.newS ca af).2.2.2, [])))
 else (some (.inl (.h0 ((0 : Int)) ((0 : Int)) ((S.newS ca af).1) ((S.newS ca af).2.1) ((0 : Int)) ((S.newS ca af).2.2.1) (false) ([])))) : Option (St34 ⊕ Rt34)) = some x) : Te34 cond Kst Kret ca af al nl ml tl vl gl wl := by
  unfold Te34
  exact cond_yes rfl (bif_split h
   (fun c0 h => ret_at hR _ h (fun n => bif Nat.beq n 2 then 399 else n) rfl rfl rfl (rn_tup ⟨(rn_agg ⟨(rn_int rfl), (rn_int rfl), (rn_own_nils rfl), (rn_int rfl), (rn_int rfl), (rn_bool_tf rfl), trivial⟩), (rn_int rfl), (rn_int rfl), trivial⟩) rfl (entl_fresh (use_own rfl) (fresh_ok rfl) (entl_bor (use_lo rfl) rfl rfl entl_nil)))
   (fun c0 h => stop_at hS _ h (fun n => bif Nat.beq n 1 then 1 else bif Nat.beq n 2 then 3 else bif Nat.beq n 3 then 399 else n) rfl rfl rfl ⟨(rn_ptr (use_own rfl) rfl rfl), ⟨(rn_ptr (use_own rfl) rfl rfl), ⟨(rn_int rfl), ⟨(rn_loose (use_lo rfl) rfl rfl rfl), ⟨(rn_int rfl), ⟨(rn_int rfl), trivial⟩⟩⟩⟩⟩⟩ rfl (entl_b (use_own rfl) rfl (by simp) (rb_cells ⟨(rn_int rfl), (rn_int rfl), rn_nils, (rn_int rfl), (rn_int rfl), (rn_tf rfl), trivial⟩) (entl_b (use_own rfl) rfl (by simp) (rb_cells ⟨(rn_int rfl), (rn_int rfl), (rn_own_nils rfl), (rn_int rfl), (rn_int rfl), (rn_bool_tf rfl), trivial⟩) (entl_fresh (use_own rfl) (fresh_ok rfl) (entl_bor (use_lo rfl) rfl rfl entl_nil))))))
set_option maxRecDepth 100000 in
theorem b34_0 (ca : Int) (af : Int) (al nl ml : Nat) (tl : Nat → Int) (vl : Nat → Int) (gl : Nat → Int) (wl : Nat → Bool) (Kst : KS) (Kret : KR) (x : St34 ⊕ Rt34) (hS : HS 1 400 ((I34 ca af al nl ml tl vl gl wl)) Kst x) (hR : HR 1 400 ((V34 ca af al nl ml tl vl gl wl)) (fun r => [newL (1 + 1) ((N34 ca af al nl ml tl vl gl wl) r) ++ [(0, (false, .cols ml [.int .i64 tl, .int .i64 vl, .int .i64 gl, .bool wl]))]]) Kret x) (x0 : Int) (x1 : Int) (x2 : Int) (x3 : Int) (x4 : Int) (x5 : Int) (x6 : Bool) (x7 : List (Int × Int × Bool)) (h : (bif (decide (x1 < (↑nl : Int)))
 then (bif (decide ((0 : Int) ≤ x1 ∧ x1 < (↑nl : Int)))
 then (bif (decide (Int.toNat x1 + al < ml))
 then (bif (decide (0 + List.length x7 ≤ List.length x7 ∧ List.length x7 ≤ 999999))
 then (bif (Prod.fst
 (Prod.snd
 (Prod.snd
 (Prod.snd
 (Prod.snd
 (Prod.snd
 (S.stepS x2 x3 (List.length x7) (fun (j : Nat) => (S.at' x7 j).1)
 (fun (j : Nat) => (S.at' x7 j).2.1)
 (fun (j : Nat) => (S.at' x7 j).2.2) x4 x5 x6 (tl (Int.toNat x1 + al))
 (vl (Int.toNat x1 + al)) (gl (Int.toNat x1 + al)) (wl (Int.toNat x1 + al)))))))) !=
 (0 : Int))
 then (bif (lim IntKind.i64 (x0 + (1 : Int)))
 then (bif (lim IntKind.i64 (x1 + (1 : Int)))
 then (some (.inl (.h0 (x0 + (1 : Int)) (x1 + (1 : Int)) (x2) (x3) (x4) (x5) (x6) (x7))))
 else (none))
 else (none))
 else (bif (lim IntKind.i64 (x1 + (1 : Int)))
 then (some (.inl (.h0 (x0) (x1 + (1 : Int)) (Prod.fst
 (S.stepS x2 x3 (List.length x7) (fun (j : Nat) => (S.at' x7 j).1)
 (fun (j : Nat) => (S.at' x7 j).2.1) (fun (j : Nat) => (S.at' x7 j).2.2)
 x4 x5 x6 (tl (Int.toNat x1 + al)) (vl (Int.toNat x1 + al)) (gl (Int.toNat x1 + al)) (wl (Int.toNat x1 + al)))) (Prod.fst
 (Prod.snd
 (S.stepS x2 x3 (List.length x7) (fun (j : Nat) => (S.at' x7 j).1)
 (fun (j : Nat) => (S.at' x7 j).2.1)
 (fun (j : Nat) => (S.at' x7 j).2.2) x4 x5 x6 (tl (Int.toNat x1 + al))
 (vl (Int.toNat x1 + al)) (gl (Int.toNat x1 + al)) (wl (Int.toNat x1 + al))))) (Prod.fst
 (Prod.snd
 (Prod.snd
 (S.stepS x2 x3 (List.length x7) (fun (j : Nat) => (S.at' x7 j).1)
 (fun (j : Nat) => (S.at' x7 j).2.1)
 (fun (j : Nat) => (S.at' x7 j).2.2) x4 x5 x6 (tl (Int.toNat x1 + al))
 (vl (Int.toNat x1 + al)) (gl (Int.toNat x1 + al)) (wl (Int.toNat x1 + al)))))) (Prod.fst
 (Prod.snd
 (Prod.snd
 (Prod.snd
 (S.stepS x2 x3 (List.length x7) (fun (j : Nat) => (S.at' x7 j).1)
 (fun (j : Nat) => (S.at' x7 j).2.1)
 (fun (j : Nat) => (S.at' x7 j).2.2) x4 x5 x6 (tl (Int.toNat x1 + al))
 (vl (Int.toNat x1 + al)) (gl (Int.toNat x1 + al)) (wl (Int.toNat x1 + al))))))) (Prod.fst
 (Prod.snd
 (Prod.snd
 (Prod.snd
 (Prod.snd
 (S.stepS x2 x3 (List.length x7) (fun (j : Nat) => (S.at' x7 j).1)
 (fun (j : Nat) => (S.at' x7 j).2.1)
 (fun (j : Nat) => (S.at' x7 j).2.2) x4 x5 x6 (tl (Int.toNat x1 + al))
 (vl (Int.toNat x1 + al)) (gl (Int.toNat x1 + al)) (wl (Int.toNat x1 + al)))))))) (Prod.snd
 (Prod.snd
 (Prod.snd
 (Prod.snd
 (Prod.snd
 (Prod.snd
 (S.stepS x2 x3 (List.length x7) (fun (j : Nat) => (S.at' x7 j).1)
 (fun (j : Nat) => (S.at' x7 j).2.1)
 (fun (j : Nat) => (S.at' x7 j).2.2) x4 x5 x6 (tl (Int.toNat x1 + al))
 (vl (Int.toNat x1 + al)) (gl (Int.toNat x1 + al)) (wl (Int.toNat x1 + al))))))))))))
 else (none)))
 else (none))
 else (none))
 else (none))
 else (some (.inr (x2, x3, x4, x5, x6, x0, (0 : Int), x7))) : Option (St34 ⊕ Rt34)) = some x) : T34_0 cond Kst Kret ca af al nl ml tl vl gl wl x0 x1 x2 x3 x4 x5 x6 x7 := by
  unfold T34_0
  exact bif_split h
   (fun c0 h => bif_split h
   (fun c1 h => bif_split h
   (fun c2 h => cond_yes c2 (cond_yes c2 (cond_yes c2 (bif_split h
   (fun c3 h => bif_split h
   (fun c4 h => bif_split h
   (fun c5 h => bif_split h
   (fun c6 h => stop_at hS _ h (fun n => bif Nat.beq n 1 then 1 else bif Nat.beq n 2 then 2 else bif Nat.beq n 3 then 3 else n) rfl rfl rfl ⟨(rn_ptr (use_own rfl) rfl rfl), ⟨(rn_ptr (use_own rfl) rfl rfl), ⟨(rn_int rfl), ⟨(rn_loose (use_lo rfl) rfl rfl rfl), ⟨(rn_int rfl), ⟨(rn_int rfl), trivial⟩⟩⟩⟩⟩⟩ rfl (entl_b (use_own rfl) rfl (by simp) (rb_cells ⟨(rn_int rfl), (rn_int rfl), rn_nils, (rn_int rfl), (rn_int rfl), (rn_tf rfl), trivial⟩) (entl_b (use_own rfl) rfl (by simp) (rb_cells ⟨(rn_int rfl), (rn_int rfl), (rn_own (use_own rfl) rfl rfl), (rn_int rfl), (rn_int rfl), (rn_bool rfl), trivial⟩) (entl_new (use_own rfl) rfl (Nat.le_of_eq rfl) (rcs_int (fun _ _ => rfl) (rcs_int (fun _ _ => rfl) (rcs_bool (fun _ _ => rfl) rcs_nil))) (entl_bor (use_lo rfl) rfl rfl entl_nil)))))
   (fun c6 h => no_some h))
   (fun c5 h => no_some h))
   (fun c4 h => bif_split h
   (fun c5 h => stop_at hS _ h (fun n => bif Nat.beq n 1 then 1 else bif Nat.beq n 2 then 2 else bif Nat.beq n 3 then 6 else n) rfl rfl rfl ⟨(rn_ptr (use_own rfl) rfl rfl), ⟨(rn_ptr (use_own rfl) rfl rfl), ⟨(rn_int rfl), ⟨(rn_loose (use_lo rfl) rfl rfl rfl), ⟨(rn_int rfl), ⟨(rn_int rfl), trivial⟩⟩⟩⟩⟩⟩ rfl (entl_b (use_own rfl) rfl (by simp) (rb_cells ⟨(rn_int rfl), (rn_int rfl), rn_nils, (rn_int rfl), (rn_int rfl), (rn_tf rfl), trivial⟩) (entl_b (use_own rfl) rfl (by simp) (rb_cells ⟨(rn_int rfl), (rn_int rfl), (rn_own (use_own rfl) rfl rfl), (rn_int rfl), (rn_int rfl), (rn_bool rfl), trivial⟩) (entl_new (use_own rfl) rfl (Nat.le_of_eq rfl) (rcs_int (fun _ _ => rfl) (rcs_int (fun _ _ => rfl) (rcs_bool (fun _ _ => rfl) rcs_nil))) (entl_bor (use_lo rfl) rfl rfl entl_nil)))))
   (fun c5 h => no_some h)))
   (fun c3 h => no_some h)))))
   (fun c2 h => no_some h))
   (fun c1 h => no_some h))
   (fun c0 h => ret_at hR _ h (fun n => bif Nat.beq n 2 then 3 else n) rfl rfl rfl (rn_tup ⟨(rn_agg ⟨(rn_int rfl), (rn_int rfl), (rn_own (use_own rfl) rfl rfl), (rn_int rfl), (rn_int rfl), (rn_bool rfl), trivial⟩), (rn_int rfl), (rn_int rfl), trivial⟩) rfl (entl_new (use_own rfl) rfl (Nat.le_of_eq rfl) (rcs_int (fun _ _ => rfl) (rcs_int (fun _ _ => rfl) (rcs_bool (fun _ _ => rfl) rcs_nil))) (entl_bor (use_lo rfl) rfl rfl entl_nil)))
theorem a34 (ca : Int) (af : Int) (al nl ml : Nat) (tl : Nat → Int) (vl : Nat → Int) (gl : Nat → Int) (wl : Nat → Bool) {r : Rt34} (h : Goes ((q34 ca af al nl ml tl vl gl wl)) ((p34 ca af al nl ml tl vl gl wl)) r) : CallR Try.prog 34 [.int .i64 ca, .int .i64 af, .loose ⟨0, 4, al, 0⟩ nl] [[(0, (false, .cols ml [.int .i64 tl, .int .i64 vl, .int .i64 gl, .bool wl]))]] 1 ((V34 ca af al nl ml tl vl gl wl) r) ((fun r => [newL (1 + 1) ((N34 ca af al nl ml tl vl gl wl) r) ++ [(0, (false, .cols ml [.int .i64 tl, .int .i64 vl, .int .i64 gl, .bool wl]))]]) r) 400 ∧ ∃ F, Try.prog.funcs[34]? = some F ∧ F.body.isSome = true ∧ (F.name == "runtime.NumGoroutine") = false := by
  refine dec_calls (f := 34) (lo := 1) (hi := 400) (H := [[(0, (false, .cols ml [.int .i64 tl, .int .i64 vl, .int .i64 gl, .bool wl]))]]) (args := [.int .i64 ca, .int .i64 af, .loose ⟨0, 4, al, 0⟩ nl]) Try.envOk Try.mixed xE_ok ((I34 ca af al nl ml tl vl gl wl)) ((V34 ca af al nl ml tl vl gl wl)) (fun r => [newL (1 + 1) ((N34 ca af al nl ml tl vl gl wl) r) ++ [(0, (false, .cols ml [.int .i64 tl, .int .i64 vl, .int .i64 gl, .bool wl]))]]) (fn := mkFn Try.f34) (ts := [6, 9, 11, 26, 27, 28]) (n := 400) rfl (by decide) (by simp) (names_of rfl) ?_ ?_ ?_ h
  · intro s; cases s <;> exact ⟨hd_ok _ _, by simp [I34], names_of rfl, Nat.le_of_ble_eq_true rfl⟩
  · intro Kst Kret x hS hR h
    exact Holds.eq (te34 cond Kst Kret ca af al nl ml tl vl gl wl) (be34 ca af al nl ml tl vl gl wl Kst Kret x hS hR h)
  · intro Kst Kret x hS hR s h
    cases s with
    | h0 x0 x1 x2 x3 x4 x5 x6 x7 => exact Holds.eq (t34_0 cond Kst Kret ca af al nl ml tl vl gl wl x0 x1 x2 x3 x4 x5 x6 x7) (b34_0 ca af al nl ml tl vl gl wl Kst Kret x hS hR x0 x1 x2 x3 x4 x5 x6 x7 h)
noncomputable def k34 : Con := ⟨34, [.one (.plain (.int .i64)), .one (.plain (.int .i64)), .one (.list [.int .i64, .int .i64, .int .i64, .bool])], fun (x : Int × Int × (Nat × Nat × Nat × (Nat → Int) × (Nat → Int) × (Nat → Int) × (Nat → Bool) × Unit) × Unit) => (fun (ca : Int) (af : Int) (al nl ml : Nat) (tl : Nat → Int) (vl : Nat → Int) (gl : Nat → Int) (wl : Nat → Bool) => decide (al + nl ≤ ml ∧ nl ≤ 999998)) x.1 x.2.1 x.2.2.1.1 x.2.2.1.2.1 x.2.2.1.2.2.1 x.2.2.1.2.2.2.1 x.2.2.1.2.2.2.2.1 x.2.2.1.2.2.2.2.2.1 x.2.2.1.2.2.2.2.2.2.1, fun (x : Int × Int × (Nat × Nat × Nat × (Nat → Int) × (Nat → Int) × (Nat → Int) × (Nat → Bool) × Unit) × Unit) => (fun (ca : Int) (af : Int) (al nl ml : Nat) (tl : Nat → Int) (vl : Nat → Int) (gl : Nat → Int) (wl : Nat → Bool) => (V34 ca af al nl ml tl vl gl wl) (S.runR ca af nl (fun j => tl (j + al)) (fun j => vl (j + al)) (fun j => gl (j + al)) (fun j => wl (j + al)))) x.1 x.2.1 x.2.2.1.1 x.2.2.1.2.1 x.2.2.1.2.2.1 x.2.2.1.2.2.2.1 x.2.2.1.2.2.2.2.1 x.2.2.1.2.2.2.2.2.1 x.2.2.1.2.2.2.2.2.2.1, fun (x : Int × Int × (Nat × Nat × Nat × (Nat → Int) × (Nat → Int) × (Nat → Int) × (Nat → Bool) × Unit) × Unit) => (fun (ca : Int) (af : Int) (al nl ml : Nat) (tl : Nat → Int) (vl : Nat → Int) (gl : Nat → Int) (wl : Nat → Bool) => (N34 ca af al nl ml tl vl gl wl) (S.runR ca af nl (fun j => tl (j + al)) (fun j => vl (j + al)) (fun j => gl (j + al)) (fun j => wl (j + al)))) x.1 x.2.1 x.2.2.1.1 x.2.2.1.2.1 x.2.2.1.2.2.1 x.2.2.1.2.2.2.1 x.2.2.1.2.2.2.2.1 x.2.2.1.2.2.2.2.2.1 x.2.2.1.2.2.2.2.2.2.1⟩
set_option maxHeartbeats 2000000 in
theorem s34' (ca : Int) (af : Int) (al nl ml : Nat) (tl : Nat → Int) (vl : Nat → Int) (gl : Nat → Int) (wl : Nat → Bool) (hp : al + nl ≤ ml ∧ nl ≤ 999998) : ∀ (k i : Nat) (b : S.Bu) (r : Nat), i + k = nl → b.2.2.2.2.2.2.length ≤ i → r ≤ i → Comes (q34 ca af al nl ml tl vl gl wl) (.h0 (r : Int) (i : Int) b.1 b.2.1 b.2.2.1 b.2.2.2.1 b.2.2.2.2.1 b.2.2.2.2.2.2) (S.resR (S.runS (fun j => tl (j + al)) (fun j => vl (j + al)) (fun j => gl (j + al)) (fun j => wl (j + al)) i k b r)) := by
  obtain ⟨hp1, hp2⟩ := hp
  intro k
  induction k with
  | zero =>
    intro i b r hi hb hr
    apply Comes.of
    show Goes _ _ _
    unfold q34
    repeat' first
      | with_reducible refine goes_if (fun h => ?_) (fun h => ?_) <;> (try simp only [lim64, decide_eq_true_eq, decide_eq_false_iff_not, Int.toNat_natCast, toNat_pred, toNat_succ, Option.getD_some, Option.getD_none, Bool.not_eq_true', Bool.not_eq_false', Bool.and_eq_true, Bool.or_eq_true, Bool.and_eq_false_iff, Bool.or_eq_false_iff, bne_iff_ne, beq_iff_eq, bne_eq_false_iff_eq, beq_eq_false_iff_ne, ne_eq, not_and, Int.not_le, Int.not_lt, ge_iff_le, gt_iff_lt, Nat.not_lt, Nat.not_le, Bool.not_eq_true, Bool.not_eq_false, Bool.true_eq_false, Bool.false_eq_true, not_false_eq_true, not_true_eq_false] at h)
      | exact goes_none.mpr (by omega)
    all_goals first | (exfalso; omega) | rfl
  | succ k ih =>
    intro i b r hi hb hr
    apply Comes.of
    have hl : (S.stepB b (tl (i + al)) (vl (i + al)) (gl (i + al)) (wl (i + al))).2.2.2.2.2.2.length ≤ b.2.2.2.2.2.2.length + 1 := stepS_len
    have e0 : S.runS (fun j => tl (j + al)) (fun j => vl (j + al)) (fun j => gl (j + al)) (fun j => wl (j + al)) i (k + 1) b r = if (S.stepB b (tl (i + al)) (vl (i + al)) (gl (i + al)) (wl (i + al))).2.2.2.2.2.1 = 0 then S.runS (fun j => tl (j + al)) (fun j => vl (j + al)) (fun j => gl (j + al)) (fun j => wl (j + al)) (i + 1) k (S.stepB b (tl (i + al)) (vl (i + al)) (gl (i + al)) (wl (i + al))) r else S.runS (fun j => tl (j + al)) (fun j => vl (j + al)) (fun j => gl (j + al)) (fun j => wl (j + al)) (i + 1) k b (r + 1) := rfl
    have ih1 := ih (i + 1) b (r + 1) (by omega) (by omega) (by omega)
    have ih2 := ih (i + 1) (S.stepB b (tl (i + al)) (vl (i + al)) (gl (i + al)) (wl (i + al))) r (by omega) (by omega) (by omega)
    rw [e0]
    clear e0 ih
    unfold S.stepB at *
    show Goes _ _ _
    unfold q34
    repeat' first
      | with_reducible refine goes_if (fun h => ?_) (fun h => ?_) <;> (try simp only [lim64, decide_eq_true_eq, decide_eq_false_iff_not, Int.toNat_natCast, toNat_pred, toNat_succ, Option.getD_some, Option.getD_none, Bool.not_eq_true', Bool.not_eq_false', Bool.and_eq_true, Bool.or_eq_true, Bool.and_eq_false_iff, Bool.or_eq_false_iff, bne_iff_ne, beq_iff_eq, bne_eq_false_iff_eq, beq_eq_false_iff_ne, ne_eq, not_and, Int.not_le, Int.not_lt, ge_iff_le, gt_iff_lt, Nat.not_lt, Nat.not_le, Bool.not_eq_true, Bool.not_eq_false, Bool.true_eq_false, Bool.false_eq_true, not_false_eq_true, not_true_eq_false] at h)
      | exact goes_none.mpr (by omega)
    all_goals first
      | (exfalso; omega)
      | (rw [if_neg (by first | assumption | decide)]; exact ih1)
      | (rw [if_pos (by assumption)]; exact ih2)
theorem s34 (ca : Int) (af : Int) (al nl ml : Nat) (tl : Nat → Int) (vl : Nat → Int) (gl : Nat → Int) (wl : Nat → Bool) (hp : al + nl ≤ ml ∧ nl ≤ 999998) : Goes ((q34 ca af al nl ml tl vl gl wl)) ((p34 ca af al nl ml tl vl gl wl)) (S.runR ca af nl (fun j => tl (j + al)) (fun j => vl (j + al)) (fun j => gl (j + al)) (fun j => wl (j + al))) := by
  have hm := s34' ca af al nl ml tl vl gl wl hp nl 0 (ca, af, 0, -1, false, 0, []) 0 (by omega) (by simp) (by omega)
  unfold S.runR
  by_cases h0 : (S.newS ca af).2.2.2 = 0
  · rw [if_pos h0]
    show Goes _ _ _
    unfold p34
    repeat' first
      | with_reducible refine goes_if (fun h => ?_) (fun h => ?_) <;> (try simp only [lim64, decide_eq_true_eq, decide_eq_false_iff_not, Int.toNat_natCast, toNat_pred, toNat_succ, Option.getD_some, Option.getD_none, Bool.not_eq_true', Bool.not_eq_false', Bool.and_eq_true, Bool.or_eq_true, Bool.and_eq_false_iff, Bool.or_eq_false_iff, bne_iff_ne, beq_iff_eq, bne_eq_false_iff_eq, beq_eq_false_iff_ne, ne_eq, not_and, Int.not_le, Int.not_lt, ge_iff_le, gt_iff_lt, Nat.not_lt, Nat.not_le, Bool.not_eq_true, Bool.not_eq_false, Bool.true_eq_false, Bool.false_eq_true, not_false_eq_true, not_true_eq_false] at h)
      | exact goes_none.mpr (by omega)
    all_goals first | (exfalso; exact absurd h0 (by assumption)) | (rw [newS_ok h0]; exact hm)
  · rw [if_neg h0]
    show Goes _ _ _
    unfold p34
    repeat' first
      | with_reducible refine goes_if (fun h => ?_) (fun h => ?_) <;> (try simp only [lim64, decide_eq_true_eq, decide_eq_false_iff_not, Int.toNat_natCast, toNat_pred, toNat_succ, Option.getD_some, Option.getD_none, Bool.not_eq_true', Bool.not_eq_false', Bool.and_eq_true, Bool.or_eq_true, Bool.and_eq_false_iff, Bool.or_eq_false_iff, bne_iff_ne, beq_iff_eq, bne_eq_false_iff_eq, beq_eq_false_iff_ne, ne_eq, not_and, Int.not_le, Int.not_lt, ge_iff_le, gt_iff_lt, Nat.not_lt, Nat.not_le, Bool.not_eq_true, Bool.not_eq_false, Bool.true_eq_false, Bool.false_eq_true, not_false_eq_true, not_true_eq_false] at h)
      | exact goes_none.mpr (by omega)
    all_goals first | (exfalso; exact h0 (by assumption)) | (rw [newS_no h0]; rfl)

theorem k34_ok : k34.ok Try.prog := by
  intro x hx
  obtain ⟨ca, af, ⟨al, nl, ml, tl, vl, gl, wl, _⟩, _⟩ := x
  obtain ⟨h1, h2⟩ := a34 ca af al nl ml tl vl gl wl (s34 ca af al nl ml tl vl gl wl (of_decide_eq_true hx))
  exact ⟨⟨400, (by decide : 1 + 1 + 1 ≤ 400), h1⟩, h2⟩
inductive St36 where
  | h0 (x0 : Int) (x1 : Int) (x2 : Int) (x3 : Int) (x4 : Int) (x5 : Int) (x6 : Bool) (x7 : List (Int × Int × Bool))
abbrev Rt36 := Int × Int × Int × Int × Bool × Int × Int × List (Int × Int × Bool)
noncomputable def V36 (ca : Int) (af : Int) (al nl ml : Nat) (tl : Nat → Int) (vl : Nat → Int) (gl : Nat → Int) (wl : Nat → Bool) (r : Rt36) : PV := PV.tup
 [PV.agg
 [PV.int IntKind.i64 r.1, PV.int IntKind.i64 r.2.1,
 PV.own (2) (3) (List.length r.2.2.2.2.2.2.2), PV.int IntKind.i64 r.2.2.1,
 PV.int IntKind.i64 r.2.2.2.1, PV.bool r.2.2.2.2.1],
 PV.int IntKind.i64 r.2.2.2.2.2.1, PV.int IntKind.i64 r.2.2.2.2.2.2.1]
noncomputable def N36 (ca : Int) (af : Int) (al nl ml : Nat) (tl : Nat → Int) (vl : Nat → Int) (gl : Nat → Int) (wl : Nat → Bool) (r : Rt36) : List Blk := [Blk.cols (List.length r.2.2.2.2.2.2.2)
 [Col.int IntKind.i64 fun (j : Nat) => (S.at' r.2.2.2.2.2.2.2 j).1,
 Col.int IntKind.i64 fun (j : Nat) => (S.at' r.2.2.2.2.2.2.2 j).2.1,
 Col.bool fun (j : Nat) => (S.at' r.2.2.2.2.2.2.2 j).2.2]]
noncomputable def I36 (ca : Int) (af : Int) (al nl ml : Nat) (tl : Nat → Int) (vl : Nat → Int) (gl : Nat → Int) (wl : Nat → Bool) : St36 → Hd
  | .h0 x0 x1 x2 x3 x4 x5 x6 x7 => ⟨hd Try.f36 0, [PV.loose (PA.mk (0) (4) al (0)) nl,
 PV.ptr (PA.mk (1) (0) (0) (0)),
 PV.ptr (PA.mk (2) (0) (0) (0)), PV.int IntKind.i64 x0,
 PV.int IntKind.i64 x1], [[(1, (true, Blk.cells
 [PV.int IntKind.i64 (0 : Int), PV.int IntKind.i64 (0 : Int), PV.nils,
 PV.int IntKind.i64 (0 : Int), PV.int IntKind.i64 (0 : Int), PV.tf false])), (2, (true, Blk.cells
 [PV.int IntKind.i64 x2, PV.int IntKind.i64 x3,
 PV.own (3) (3) (List.length x7), PV.int IntKind.i64 x4,
 PV.int IntKind.i64 x5, PV.bool x6])), (3, (true, Blk.cols (List.length x7)
 [Col.int IntKind.i64 fun (j : Nat) => (S.at' x7 j).1,
 Col.int IntKind.i64 fun (j : Nat) => (S.at' x7 j).2.1,
 Col.bool fun (j : Nat) => (S.at' x7 j).2.2]))], [(0, (false, .cols ml [.int .i64 tl, .int .i64 vl, .int .i64 gl, .bool wl]))]], 4⟩
noncomputable def q36 (ca : Int) (af : Int) (al nl ml : Nat) (tl : Nat → Int) (vl : Nat → Int) (gl : Nat → Int) (wl : Nat → Bool) : St36 → Option (St36 ⊕ Rt36)
  | .h0 x0 x1 x2 x3 x4 x5 x6 x7 => bif (decide (x1 < (↑nl : Int)))
 then (bif (decide ((0 : Int) ≤ x1 ∧ x1 < (↑nl : Int)))
 then (bif (decide (Int.toNat x1 + al < ml))
 then (bif (tl (Int.toNat x1 + al) == (1 : Int))
 then (bif (decide (0 + List.length x7 ≤ List.length x7 ∧ List.length x7 ≤ 1000000))
 then (bif (Prod.fst
 (Prod.snd
 (Prod.snd
 (Prod.snd
 (Prod.snd
 (Prod.snd
 (S.putS x2 x3 (List.length x7) (fun (j : Nat) => (S.at' x7 j).1)
 (fun (j : Nat) => (S.at' x7 j).2.1)
 (fun (j : Nat) => (S.at' x7 j).2.2) x4 x5 x6 (vl (Int.toNat x1 + al))
 (gl (Int.toNat x1 + al)) (wl (Int.toNat x1 + al)))))))) !=
 (0 : Int))
 then (bif (lim IntKind.i64 (x0 + (1 : Int)))
 then (bif (lim IntKind.i64 (x1 + (1 : Int)))
 then (some (.inl (.h0 (x0 + (1 : Int)) (x1 + (1 : Int)) (x2) (x3) (x4) (x5) (x6) (x7))))
 else (none))
 else (none))
 else (bif (lim IntKind.i64 (x1 + (1 : Int)))
 then (some (.inl (.h0 (x0) (x1 + (1 : Int)) (Prod.fst
 (S.putS x2 x3 (List.length x7) (fun (j : Nat) => (S.at' x7 j).1)
 (fun (j : Nat) => (S.at' x7 j).2.1) (fun (j : Nat) => (S.at' x7 j).2.2)
 x4 x5 x6 (vl (Int.toNat x1 + al)) (gl (Int.toNat x1 + al)) (wl (Int.toNat x1 + al)))) (Prod.fst
 (Prod.snd
 (S.putS x2 x3 (List.length x7) (fun (j : Nat) => (S.at' x7 j).1)
 (fun (j : Nat) => (S.at' x7 j).2.1)
 (fun (j : Nat) => (S.at' x7 j).2.2) x4 x5 x6 (vl (Int.toNat x1 + al))
 (gl (Int.toNat x1 + al)) (wl (Int.toNat x1 + al))))) (Prod.fst
 (Prod.snd
 (Prod.snd
 (S.putS x2 x3 (List.length x7) (fun (j : Nat) => (S.at' x7 j).1)
 (fun (j : Nat) => (S.at' x7 j).2.1)
 (fun (j : Nat) => (S.at' x7 j).2.2) x4 x5 x6 (vl (Int.toNat x1 + al))
 (gl (Int.toNat x1 + al)) (wl (Int.toNat x1 + al)))))) (Prod.fst
 (Prod.snd
 (Prod.snd
 (Prod.snd
 (S.putS x2 x3 (List.length x7) (fun (j : Nat) => (S.at' x7 j).1)
 (fun (j : Nat) => (S.at' x7 j).2.1)
 (fun (j : Nat) => (S.at' x7 j).2.2) x4 x5 x6 (vl (Int.toNat x1 + al))
 (gl (Int.toNat x1 + al)) (wl (Int.toNat x1 + al))))))) (Prod.fst
 (Prod.snd
 (Prod.snd
 (Prod.snd
 (Prod.snd
 (S.putS x2 x3 (List.length x7) (fun (j : Nat) => (S.at' x7 j).1)
 (fun (j : Nat) => (S.at' x7 j).2.1)
 (fun (j : Nat) => (S.at' x7 j).2.2) x4 x5 x6 (vl (Int.toNat x1 + al))
 (gl (Int.toNat x1 + al)) (wl (Int.toNat x1 + al)))))))) (Prod.snd
 (Prod.snd
 (Prod.snd
 (Prod.snd
 (Prod.snd
 (Prod.snd
 (S.putS x2 x3 (List.length x7) (fun (j : Nat) => (S.at' x7 j).1)
 (fun (j : Nat) => (S.at' x7 j).2.1)
 (fun (j : Nat) => (S.at' x7 j).2.2) x4 x5 x6 (vl (Int.toNat x1 + al))
 (gl (Int.toNat x1 + al)) (wl (Int.toNat x1 + al))))))))))))
 else (none)))
 else (none))
 else (bif (tl (Int.toNat x1 + al) == (2 : Int))
 then (bif (decide (0 + List.length x7 ≤ List.length x7 ∧ List.length x7 ≤ 1000000))
 then (bif (Prod.fst
 (Prod.snd
 (Prod.snd
 (Prod.snd
 (Prod.snd
 (Prod.snd
 (S.frzS x2 x3 (List.length x7) (fun (j : Nat) => (S.at' x7 j).1)
 (fun (j : Nat) => (S.at' x7 j).2.1)
 (fun (j : Nat) => (S.at' x7 j).2.2) x4 x5 x6 (0 : Int))))))) !=
 (0 : Int))
 then (bif (lim IntKind.i64 (x0 + (1 : Int)))
 then (bif (lim IntKind.i64 (x1 + (1 : Int)))
 then (some (.inl (.h0 (x0 + (1 : Int)) (x1 + (1 : Int)) (x2) (x3) (x4) (x5) (x6) (x7))))
 else (none))
 else (none))
 else (bif (lim IntKind.i64 (x1 + (1 : Int)))
 then (some (.inl (.h0 (x0) (x1 + (1 : Int)) (Prod.fst
 (S.frzS x2 x3 (List.length x7) (fun (j : Nat) => (S.at' x7 j).1)
 (fun (j : Nat) => (S.at' x7 j).2.1) (fun (j : Nat) => (S.at' x7 j).2.2)
 x4 x5 x6 (0 : Int))) (Prod.fst
 (Prod.snd
 (S.frzS x2 x3 (List.length x7) (fun (j : Nat) => (S.at' x7 j).1)
 (fun (j : Nat) => (S.at' x7 j).2.1)
 (fun (j : Nat) => (S.at' x7 j).2.2) x4 x5 x6 (0 : Int)))) (Prod.fst
 (Prod.snd
 (Prod.snd
 (S.frzS x2 x3 (List.length x7) (fun (j : Nat) => (S.at' x7 j).1)
 (fun (j : Nat) => (S.at' x7 j).2.1)
 (fun (j : Nat) => (S.at' x7 j).2.2) x4 x5 x6 (0 : Int))))) (Prod.fst
 (Prod.snd
 (Prod.snd
 (Prod.snd
 (S.frzS x2 x3 (List.length x7) (fun (j : Nat) => (S.at' x7 j).1)
 (fun (j : Nat) => (S.at' x7 j).2.1)
 (fun (j : Nat) => (S.at' x7 j).2.2) x4 x5 x6 (0 : Int)))))) (Prod.fst
 (Prod.snd
 (Prod.snd
 (Prod.snd
 (Prod.snd
 (S.frzS x2 x3 (List.length x7) (fun (j : Nat) => (S.at' x7 j).1)
 (fun (j : Nat) => (S.at' x7 j).2.1)
 (fun (j : Nat) => (S.at' x7 j).2.2) x4 x5 x6 (0 : Int))))))) (Prod.snd
 (Prod.snd
 (Prod.snd
 (Prod.snd
 (Prod.snd
 (Prod.snd
 (S.frzS x2 x3 (List.length x7) (fun (j : Nat) => (S.at' x7 j).1)
 (fun (j : Nat) => (S.at' x7 j).2.1)
 (fun (j : Nat) => (S.at' x7 j).2.2) x4 x5 x6 (0 : Int)))))))))))
 else (none)))
 else (none))
 else (bif (tl (Int.toNat x1 + al) == (3 : Int))
 then (bif (decide (0 + List.length x7 ≤ List.length x7 ∧ List.length x7 ≤ 1000000))
 then (bif (Prod.snd
 (Prod.snd
 (Prod.snd
 (S.reaS x2 x3 (List.length x7) (fun (j : Nat) => (S.at' x7 j).1)
 (fun (j : Nat) => (S.at' x7 j).2.1) x4 x5 x6))) !=
 (0 : Int))
 then (bif (lim IntKind.i64 (x0 + (1 : Int)))
 then (bif (lim IntKind.i64 (x1 + (1 : Int)))
 then (some (.inl (.h0 (x0 + (1 : Int)) (x1 + (1 : Int)) (x2) (x3) (x4) (x5) (x6) (x7))))
 else (none))
 else (none))
 else (bif (lim IntKind.i64 (x1 + (1 : Int)))
 then (some (.inl (.h0 (x0) (x1 + (1 : Int)) (Prod.fst
 (S.reaS x2 x3 (List.length x7) (fun (j : Nat) => (S.at' x7 j).1)
 (fun (j : Nat) => (S.at' x7 j).2.1) x4 x5 x6)) (Prod.fst
 (Prod.snd
 (S.reaS x2 x3 (List.length x7) (fun (j : Nat) => (S.at' x7 j).1)
 (fun (j : Nat) => (S.at' x7 j).2.1) x4 x5 x6))) ((0 : Int)) (Prod.fst
 (Prod.snd
 (Prod.snd
 (S.reaS x2 x3 (List.length x7) (fun (j : Nat) => (S.at' x7 j).1)
 (fun (j : Nat) => (S.at' x7 j).2.1) x4 x5 x6)))) (false) ([]))))
 else (none)))
 else (none))
 else (bif (lim IntKind.i64 (x0 + (1 : Int)))
 then (bif (lim IntKind.i64 (x1 + (1 : Int)))
 then (some (.inl (.h0 (x0 + (1 : Int)) (x1 + (1 : Int)) (x2) (x3) (x4) (x5) (x6) (x7))))
 else (none))
 else (none)))))
 else (none))
 else (none))
 else (some (.inr (x2, x3, x4, x5, x6, x0, (0 : Int), x7)))
noncomputable def p36 (ca : Int) (af : Int) (al nl ml : Nat) (tl : Nat → Int) (vl : Nat → Int) (gl : Nat → Int) (wl : Nat → Bool) : Option (St36 ⊕ Rt36) := bif ((S.newS ca af).2.2.2 != (0 : Int))
 then (some (.inr ((0 : Int), (0 : Int), (0 : Int), (0 : Int), false, (0 : Int), (S.newS ca af).2.2.2, [])))
 else (some (.inl (.h0 ((0 : Int)) ((0 : Int)) ((S.newS ca af).1) ((S.newS ca af).2.1) ((0 : Int)) ((S.newS ca af).2.2.1) (false) ([]))))
noncomputable def Te36 (test : Bool → Prop → Prop → Prop) (Kst : KS) (Kret : KR) (ca : Int) (af : Int) (al nl ml : Nat) (tl : Nat → Int) (vl : Nat → Int) (gl : Nat → Int) (wl : Nat → Bool) : Prop :=
  test (true)
 (test ((S.newS ca af).2.2.2 != (0 : Int))
 (Kret (PV.tup
 [PV.agg
 [PV.int IntKind.i64 (0 : Int), PV.int IntKind.i64 (0 : Int), PV.nils,
 PV.int IntKind.i64 (0 : Int), PV.int IntKind.i64 (0 : Int), PV.tf false],
 PV.int IntKind.i64 (0 : Int),
 PV.int IntKind.i64 ((S.newS ca af).2.2.2)]) ([[(0, false,
 Blk.cols ml
 [Col.int IntKind.i64 tl, Col.int IntKind.i64 vl, Col.int IntKind.i64 gl,
 Col.bool wl])]]) (4))
 (Kst (hd Try.f36 0) ([PV.loose (PA.mk (0) (4) al (0)) nl,
 PV.ptr (PA.mk (1) (0) (0) (0)),
 PV.ptr (PA.mk (3) (0) (0) (0)), PV.int IntKind.i64 (0 : Int),
 PV.int IntKind.i64 (0 : Int)]) ([[(0, false,
 Blk.cols ml
 [Col.int IntKind.i64 tl, Col.int IntKind.i64 vl, Col.int IntKind.i64 gl,
 Col.bool wl]),
 (3, true,
 Blk.cells
 [PV.int IntKind.i64 ((S.newS ca af).1),
 PV.int IntKind.i64 ((S.newS ca af).2.1), PV.nils,
 PV.int IntKind.i64 (0 : Int),
 PV.int IntKind.i64 ((S.newS ca af).2.2.1), PV.tf false]),
 (1, true,
 Blk.cells
 [PV.int IntKind.i64 (0 : Int), PV.int IntKind.i64 (0 : Int), PV.nils,
 PV.int IntKind.i64 (0 : Int), PV.int IntKind.i64 (0 : Int), PV.tf false])]]) (4)))
 (False)
set_option maxRecDepth 100000 in
theorem te36 (test : Bool → Prop → Prop → Prop) (Kst : KS) (Kret : KR) (ca : Int) (af : Int) (al nl ml : Nat) (tl : Nat → Int) (vl : Nat → Int) (gl : Nat → Int) (wl : Nat → Bool) : run test Try.env true (xE test) true 400 ⟨36, [.cd (mkFn Try.f36).body], argT 0 [.int .i64 ca, .int .i64 af, .loose ⟨0, 4, al, 0⟩ nl], [[], [(0, (false, .cols ml [.int .i64 tl, .int .i64 vl, .int .i64 gl, .bool wl]))]], 1⟩ (proj 1 [2, 6, 9, 11, 12] Kst Kret) =
  Te36 test Kst Kret ca af al nl ml tl vl gl wl := by kernel_rfl
noncomputable def T36_0 (test : Bool → Prop → Prop → Prop) (Kst : KS) (Kret : KR) (ca : Int) (af : Int) (al nl ml : Nat) (tl : Nat → Int) (vl : Nat → Int) (gl : Nat → Int) (wl : Nat → Bool) (x0 : Int) (x1 : Int) (x2 : Int) (x3 : Int) (x4 : Int) (x5 : Int) (x6 : Bool) (x7 : List (Int × Int × Bool)) : Prop :=
  test (decide (x1 < (↑nl : Int)))
 (test (decide ((0 : Int) ≤ x1 ∧ x1 < (↑nl : Int)))
 (test (decide (Int.toNat x1 + al < ml))
 (test (tl (Int.toNat x1 + al) == (1 : Int))
 (test (decide ((0 : Int) ≤ x1 ∧ x1 < (↑nl : Int)))
 (test (decide (Int.toNat x1 + al < ml))
 (test (decide (Int.toNat x1 + al < ml))
 (test (decide (Int.toNat x1 + al < ml))
 (test (decide (0 + List.length x7 ≤ List.length x7 ∧ List.length x7 ≤ 1000000))
 (test (Prod.fst
 (Prod.snd
 (Prod.snd
 (Prod.snd
 (Prod.snd
 (Prod.snd
 (S.putS x2 x3 (List.length x7) (fun (j : Nat) => (S.at' x7 j).1)
 (fun (j : Nat) => (S.at' x7 j).2.1)
 (fun (j : Nat) => (S.at' x7 j).2.2) x4 x5 x6 (vl (Int.toNat x1 + al))
 (gl (Int.toNat x1 + al)) (wl (Int.toNat x1 + al)))))))) !=
 (0 : Int))
 (test (lim IntKind.i64 (x0 + (1 : Int)))
 (test (lim IntKind.i64 (x1 + (1 : Int)))
 (Kst (hd Try.f36 0) ([PV.loose (PA.mk (0) (4) al (0)) nl,
 PV.ptr (PA.mk (1) (0) (0) (0)),
 PV.ptr (PA.mk (2) (0) (0) (0)),
 PV.int IntKind.i64 (x0 + (1 : Int)), PV.int IntKind.i64 (x1 + (1 : Int))]) ([[(0, false,
 Blk.cols ml
 [Col.int IntKind.i64 tl, Col.int IntKind.i64 vl, Col.int IntKind.i64 gl,
 Col.bool wl]),
 (2, true,
 Blk.cells
 [PV.int IntKind.i64 x2, PV.int IntKind.i64 x3,
 PV.own (3) (3) (List.length x7), PV.int IntKind.i64 x4,
 PV.int IntKind.i64 x5, PV.bool x6]),
 (1, true,
 Blk.cells
 [PV.int IntKind.i64 (0 : Int), PV.int IntKind.i64 (0 : Int), PV.nils,
 PV.int IntKind.i64 (0 : Int), PV.int IntKind.i64 (0 : Int), PV.tf false]),
 (3, true,
 Blk.cols (List.length x7)
 [Col.int IntKind.i64 fun (j : Nat) => (S.at' x7 j).1,
 Col.int IntKind.i64 fun (j : Nat) => (S.at' x7 j).2.1,
 Col.bool fun (j : Nat) => (S.at' x7 j).2.2])]]) (7))
 (False))
 (False))
 (test (lim IntKind.i64 (x1 + (1 : Int)))
 (Kst (hd Try.f36 0) ([PV.loose (PA.mk (0) (4) al (0)) nl,
 PV.ptr (PA.mk (1) (0) (0) (0)),
 PV.ptr (PA.mk (2) (0) (0) (0)), PV.int IntKind.i64 x0,
 PV.int IntKind.i64 (x1 + (1 : Int))]) ([[(0, false,
 Blk.cols ml
 [Col.int IntKind.i64 tl, Col.int IntKind.i64 vl, Col.int IntKind.i64 gl,
 Col.bool wl]),
 (2, true,
 Blk.cells
 [PV.int IntKind.i64
 (Prod.fst
 (S.putS x2 x3 (List.length x7) (fun (j : Nat) => (S.at' x7 j).1)
 (fun (j : Nat) => (S.at' x7 j).2.1)
 (fun (j : Nat) => (S.at' x7 j).2.2) x4 x5 x6 (vl (Int.toNat x1 + al))
 (gl (Int.toNat x1 + al)) (wl (Int.toNat x1 + al)))),
 PV.int IntKind.i64
 (Prod.fst
 (Prod.snd
 (S.putS x2 x3 (List.length x7) (fun (j : Nat) => (S.at' x7 j).1)
 (fun (j : Nat) => (S.at' x7 j).2.1)
 (fun (j : Nat) => (S.at' x7 j).2.2) x4 x5 x6 (vl (Int.toNat x1 + al))
 (gl (Int.toNat x1 + al)) (wl (Int.toNat x1 + al))))),
 PV.own (6) (3)
 (List.length
 (Prod.snd
 (Prod.snd
 (Prod.snd
 (Prod.snd
 (Prod.snd
 (Prod.snd
 (S.putS x2 x3 (List.length x7) (fun (j : Nat) => (S.at' x7 j).1)
 (fun (j : Nat) => (S.at' x7 j).2.1)
 (fun (j : Nat) => (S.at' x7 j).2.2) x4 x5 x6 (vl (Int.toNat x1 + al))
 (gl (Int.toNat x1 + al)) (wl (Int.toNat x1 + al)))))))))),
 PV.int IntKind.i64
 (Prod.fst
 (Prod.snd
 (Prod.snd
 (S.putS x2 x3 (List.length x7) (fun (j : Nat) => (S.at' x7 j).1)
 (fun (j : Nat) => (S.at' x7 j).2.1)
 (fun (j : Nat) => (S.at' x7 j).2.2) x4 x5 x6 (vl (Int.toNat x1 + al))
 (gl (Int.toNat x1 + al)) (wl (Int.toNat x1 + al)))))),
 PV.int IntKind.i64
 (Prod.fst
 (Prod.snd
 (Prod.snd
 (Prod.snd
 (S.putS x2 x3 (List.length x7) (fun (j : Nat) => (S.at' x7 j).1)
 (fun (j : Nat) => (S.at' x7 j).2.1)
 (fun (j : Nat) => (S.at' x7 j).2.2) x4 x5 x6 (vl (Int.toNat x1 + al))
 (gl (Int.toNat x1 + al)) (wl (Int.toNat x1 + al))))))),
 PV.bool
 (Prod.fst
 (Prod.snd
 (Prod.snd
 (Prod.snd
 (Prod.snd
 (S.putS x2 x3 (List.length x7) (fun (j : Nat) => (S.at' x7 j).1)
 (fun (j : Nat) => (S.at' x7 j).2.1)
 (fun (j : Nat) => (S.at' x7 j).2.2) x4 x5 x6 (vl (Int.toNat x1 + al))
 (gl (Int.toNat x1 + al)) (wl (Int.toNat x1 + al))))))))]),
 (1, true,
 Blk.cells
 [PV.int IntKind.i64 (0 : Int), PV.int IntKind.i64 (0 : Int), PV.nils,
 PV.int IntKind.i64 (0 : Int), PV.int IntKind.i64 (0 : Int), PV.tf false]),
 (6, true,
 Blk.cols
 (List.length
 (Prod.snd
 (Prod.snd
 (Prod.snd
 (Prod.snd
 (Prod.snd
 (Prod.snd
 (S.putS x2 x3 (List.length x7) (fun (j : Nat) => (S.at' x7 j).1)
 (fun (j : Nat) => (S.at' x7 j).2.1)
 (fun (j : Nat) => (S.at' x7 j).2.2) x4 x5 x6 (vl (Int.toNat x1 + al))
 (gl (Int.toNat x1 + al)) (wl (Int.toNat x1 + al))))))))))
 [Col.int IntKind.i64 fun (j : Nat) =>
 Prod.fst
 (S.at'
 (Prod.snd
 (Prod.snd
 (Prod.snd
 (Prod.snd
 (Prod.snd
 (Prod.snd
 (S.putS x2 x3 (List.length x7) (fun (j : Nat) => (S.at' x7 j).1)
 (fun (j : Nat) => (S.at' x7 j).2.1)
 (fun (j : Nat) => (S.at' x7 j).2.2) x4 x5 x6
 (vl (Int.toNat x1 + al)) (gl (Int.toNat x1 + al)) (wl (Int.toNat x1 + al)))))))))
 j),
 Col.int IntKind.i64 fun (j : Nat) =>
 Prod.fst
 (Prod.snd
 (S.at'
 (Prod.snd
 (Prod.snd
 (Prod.snd
 (Prod.snd
 (Prod.snd
 (Prod.snd
 (S.putS x2 x3 (List.length x7) (fun (j : Nat) => (S.at' x7 j).1)
 (fun (j : Nat) => (S.at' x7 j).2.1)
 (fun (j : Nat) => (S.at' x7 j).2.2) x4 x5 x6
 (vl (Int.toNat x1 + al)) (gl (Int.toNat x1 + al)) (wl (Int.toNat x1 + al)))))))))
 j)),
 Col.bool fun (j : Nat) =>
 Prod.snd
 (Prod.snd
 (S.at'
 (Prod.snd
 (Prod.snd
 (Prod.snd
 (Prod.snd
 (Prod.snd
 (Prod.snd
 (S.putS x2 x3 (List.length x7) (fun (j : Nat) => (S.at' x7 j).1)
 (fun (j : Nat) => (S.at' x7 j).2.1)
 (fun (j : Nat) => (S.at' x7 j).2.2) x4 x5 x6
 (vl (Int.toNat x1 + al)) (gl (Int.toNat x1 + al)) (wl (Int.toNat x1 + al)))))))))
 j))])]]) (7))
 (False)))
 (False))
 (False))
 (False))
 (False))
 (False))
 (test (tl (Int.toNat x1 + al) == (2 : Int))
 (test (decide (0 + List.length x7 ≤ List.length x7 ∧ List.length x7 ≤ 1000000))
 (test (Prod.fst
 (Prod.snd
 (Prod.snd
 (Prod.snd
 (Prod.snd
 (Prod.snd
 (S.frzS x2 x3 (List.length x7) (fun (j : Nat) => (S.at' x7 j).1)
 (fun (j : Nat) => (S.at' x7 j).2.1)
 (fun (j : Nat) => (S.at' x7 j).2.2) x4 x5 x6 (0 : Int))))))) !=
 (0 : Int))
 (test (lim IntKind.i64 (x0 + (1 : Int)))
 (test (lim IntKind.i64 (x1 + (1 : Int)))
 (Kst (hd Try.f36 0) ([PV.loose (PA.mk (0) (4) al (0)) nl,
 PV.ptr (PA.mk (1) (0) (0) (0)),
 PV.ptr (PA.mk (2) (0) (0) (0)),
 PV.int IntKind.i64 (x0 + (1 : Int)), PV.int IntKind.i64 (x1 + (1 : Int))]) ([[(0, false,
 Blk.cols ml
 [Col.int IntKind.i64 tl, Col.int IntKind.i64 vl, Col.int IntKind.i64 gl,
 Col.bool wl]),
 (2, true,
 Blk.cells
 [PV.int IntKind.i64 x2, PV.int IntKind.i64 x3,
 PV.own (3) (3) (List.length x7), PV.int IntKind.i64 x4,
 PV.int IntKind.i64 x5, PV.bool x6]),
 (1, true,
 Blk.cells
 [PV.int IntKind.i64 (0 : Int), PV.int IntKind.i64 (0 : Int), PV.nils,
 PV.int IntKind.i64 (0 : Int), PV.int IntKind.i64 (0 : Int), PV.tf false]),
 (3, true,
 Blk.cols (List.length x7)
 [Col.int IntKind.i64 fun (j : Nat) => (S.at' x7 j).1,
 Col.int IntKind.i64 fun (j : Nat) => (S.at' x7 j).2.1,
 Col.bool fun (j : Nat) => (S.at' x7 j).2.2])]]) (7))
 (False))
 (False))
 (test (lim IntKind.i64 (x1 + (1 : Int)))
 (Kst (hd Try.f36 0) ([PV.loose (PA.mk (0) (4) al (0)) nl,
 PV.ptr (PA.mk (1) (0) (0) (0)),
 PV.ptr (PA.mk (2) (0) (0) (0)), PV.int IntKind.i64 x0,
 PV.int IntKind.i64 (x1 + (1 : Int))]) ([[(0, false,
 Blk.cols ml
 [Col.int IntKind.i64 tl, Col.int IntKind.i64 vl, Col.int IntKind.i64 gl,
 Col.bool wl]),
 (2, true,
 Blk.cells
 [PV.int IntKind.i64
 (Prod.fst
 (S.frzS x2 x3 (List.length x7) (fun (j : Nat) => (S.at' x7 j).1)
 (fun (j : Nat) => (S.at' x7 j).2.1)
 (fun (j : Nat) => (S.at' x7 j).2.2) x4 x5 x6 (0 : Int))),
 PV.int IntKind.i64
 (Prod.fst
 (Prod.snd
 (S.frzS x2 x3 (List.length x7) (fun (j : Nat) => (S.at' x7 j).1)
 (fun (j : Nat) => (S.at' x7 j).2.1)
 (fun (j : Nat) => (S.at' x7 j).2.2) x4 x5 x6 (0 : Int)))),
 PV.own (6) (3)
 (List.length
 (Prod.snd
 (Prod.snd
 (Prod.snd
 (Prod.snd
 (Prod.snd
 (Prod.snd
 (S.frzS x2 x3 (List.length x7) (fun (j : Nat) => (S.at' x7 j).1)
 (fun (j : Nat) => (S.at' x7 j).2.1)
 (fun (j : Nat) => (S.at' x7 j).2.2) x4 x5 x6 (0 : Int))))))))),
 PV.int IntKind.i64
 (Prod.fst
 (Prod.snd
 (Prod.snd
 (S.frzS x2 x3 (List.length x7) (fun (j : Nat) => (S.at' x7 j).1)
 (fun (j : Nat) => (S.at' x7 j).2.1)
 (fun (j : Nat) => (S.at' x7 j).2.2) x4 x5 x6 (0 : Int))))),
 PV.int IntKind.i64
 (Prod.fst
 (Prod.snd
 (Prod.snd
 (Prod.snd
 (S.frzS x2 x3 (List.length x7) (fun (j : Nat) => (S.at' x7 j).1)
 (fun (j : Nat) => (S.at' x7 j).2.1)
 (fun (j : Nat) => (S.at' x7 j).2.2) x4 x5 x6 (0 : Int)))))),
 PV.bool
 (Prod.fst
 (Prod.snd
 (Prod.snd
 (Prod.snd
 (Prod.snd
 (S.frzS x2 x3 (List.length x7) (fun (j : Nat) => (S.at' x7 j).1)
 (fun (j : Nat) => (S.at' x7 j).2.1)
 (fun (j : Nat) => (S.at' x7 j).2.2) x4 x5 x6 (0 : Int)))))))]),
 (1, true,
 Blk.cells
 [PV.int IntKind.i64 (0 : Int), PV.int IntKind.i64 (0 : Int), PV.nils,
 PV.int IntKind.i64 (0 : Int), PV.int IntKind.i64 (0 : Int), PV.tf false]),
 (6, true,
 Blk.cols
 (List.length
 (Prod.snd
 (Prod.snd
 (Prod.snd
 (Prod.snd
 (Prod.snd
 (Prod.snd
 (S.frzS x2 x3 (List.length x7) (fun (j : Nat) => (S.at' x7 j).1)
 (fun (j : Nat) => (S.at' x7 j).2.1)
 (fun (j : Nat) => (S.at' x7 j).2.2) x4 x5 x6 (0 : Int)))))))))
 [Col.int IntKind.i64 fun (j : Nat) =>
 Prod.fst
 (S.at'
 (Prod.snd
 (Prod.snd
 (Prod.snd
 (Prod.snd
 (Prod.snd
 (Prod.snd
 (S.frzS x2 x3 (List.length x7) (fun (j : Nat) => (S.at' x7 j).1)
 (fun (j : Nat) => (S.at' x7 j).2.1)
 (fun (j : Nat) => (S.at' x7 j).2.2) x4 x5 x6 (0 : Int))))))))
 j),
 Col.int IntKind.i64 fun (j : Nat) =>
 Prod.fst
 (Prod.snd
 (S.at'
 (Prod.snd
 (Prod.snd
 (Prod.snd
 (Prod.snd
 (Prod.snd
 (Prod.snd
 (S.frzS x2 x3 (List.length x7) (fun (j : Nat) => (S.at' x7 j).1)
 (fun (j : Nat) => (S.at' x7 j).2.1)
 (fun (j : Nat) => (S.at' x7 j).2.2) x4 x5 x6 (0 : Int))))))))
 j)),
 Col.bool fun (j : Nat) =>
 Prod.snd
 (Prod.snd
 (S.at'
 (Prod.snd
 (Prod.snd
 (Prod.snd
 (Prod.snd
 (Prod.snd
 (Prod.snd
 (S.frzS x2 x3 (List.length x7) (fun (j : Nat) => (S.at' x7 j).1)
 (fun (j : Nat) => (S.at' x7 j).2.1)
 (fun (j : Nat) => (S.at' x7 j).2.2) x4 x5 x6 (0 : Int))))))))
 j))])]]) (7))
 (False)))
 (False))
 (test (tl (Int.toNat x1 + al) == (3 : Int))
 (test (decide (0 + List.length x7 ≤ List.length x7 ∧ List.length x7 ≤ 1000000))
 (test (Prod.snd
 (Prod.snd
 (Prod.snd
 (S.reaS x2 x3 (List.length x7) (fun (j : Nat) => (S.at' x7 j).1)
 (fun (j : Nat) => (S.at' x7 j).2.1) x4 x5 x6))) !=
 (0 : Int))
 (test (lim IntKind.i64 (x0 + (1 : Int)))
 (test (lim IntKind.i64 (x1 + (1 : Int)))
 (Kst (hd Try.f36 0) ([PV.loose (PA.mk (0) (4) al (0)) nl,
 PV.ptr (PA.mk (1) (0) (0) (0)),
 PV.ptr (PA.mk (2) (0) (0) (0)),
 PV.int IntKind.i64 (x0 + (1 : Int)), PV.int IntKind.i64 (x1 + (1 : Int))]) ([[(0, false,
 Blk.cols ml
 [Col.int IntKind.i64 tl, Col.int IntKind.i64 vl, Col.int IntKind.i64 gl,
 Col.bool wl]),
 (2, true,
 Blk.cells
 [PV.int IntKind.i64 x2, PV.int IntKind.i64 x3,
 PV.own (3) (3) (List.length x7), PV.int IntKind.i64 x4,
 PV.int IntKind.i64 x5, PV.bool x6]),
 (1, true,
 Blk.cells
 [PV.int IntKind.i64 (0 : Int), PV.int IntKind.i64 (0 : Int), PV.nils,
 PV.int IntKind.i64 (0 : Int), PV.int IntKind.i64 (0 : Int), PV.tf false]),
 (3, true,
 Blk.cols (List.length x7)
 [Col.int IntKind.i64 fun (j : Nat) => (S.at' x7 j).1,
 Col.int IntKind.i64 fun (j : Nat) => (S.at' x7 j).2.1,
 Col.bool fun (j : Nat) => (S.at' x7 j).2.2])]]) (6))
 (False))
 (False))
 (test (lim IntKind.i64 (x1 + (1 : Int)))
 (Kst (hd Try.f36 0) ([PV.loose (PA.mk (0) (4) al (0)) nl,
 PV.ptr (PA.mk (1) (0) (0) (0)),
 PV.ptr (PA.mk (2) (0) (0) (0)), PV.int IntKind.i64 x0,
 PV.int IntKind.i64 (x1 + (1 : Int))]) ([[(0, false,
 Blk.cols ml
 [Col.int IntKind.i64 tl, Col.int IntKind.i64 vl, Col.int IntKind.i64 gl,
 Col.bool wl]),
 (2, true,
 Blk.cells
 [PV.int IntKind.i64
 (Prod.fst
 (S.reaS x2 x3 (List.length x7) (fun (j : Nat) => (S.at' x7 j).1)
 (fun (j : Nat) => (S.at' x7 j).2.1) x4 x5 x6)),
 PV.int IntKind.i64
 (Prod.fst
 (Prod.snd
 (S.reaS x2 x3 (List.length x7) (fun (j : Nat) => (S.at' x7 j).1)
 (fun (j : Nat) => (S.at' x7 j).2.1) x4 x5 x6))),
 PV.nils, PV.int IntKind.i64 (0 : Int),
 PV.int IntKind.i64
 (Prod.fst
 (Prod.snd
 (Prod.snd
 (S.reaS x2 x3 (List.length x7) (fun (j : Nat) => (S.at' x7 j).1)
 (fun (j : Nat) => (S.at' x7 j).2.1) x4 x5 x6)))),
 PV.tf false]),
 (1, true,
 Blk.cells
 [PV.int IntKind.i64 (0 : Int), PV.int IntKind.i64 (0 : Int), PV.nils,
 PV.int IntKind.i64 (0 : Int), PV.int IntKind.i64 (0 : Int), PV.tf false])]]) (6))
 (False)))
 (False))
 (test (true)
 (test (lim IntKind.i64 (x0 + (1 : Int)))
 (test (lim IntKind.i64 (x1 + (1 : Int)))
 (Kst (hd Try.f36 0) ([PV.loose (PA.mk (0) (4) al (0)) nl,
 PV.ptr (PA.mk (1) (0) (0) (0)),
 PV.ptr (PA.mk (2) (0) (0) (0)),
 PV.int IntKind.i64 (x0 + (1 : Int)), PV.int IntKind.i64 (x1 + (1 : Int))]) ([[(0, false,
 Blk.cols ml
 [Col.int IntKind.i64 tl, Col.int IntKind.i64 vl, Col.int IntKind.i64 gl,
 Col.bool wl]),
 (2, true,
 Blk.cells
 [PV.int IntKind.i64 x2, PV.int IntKind.i64 x3,
 PV.own (3) (3) (List.length x7), PV.int IntKind.i64 x4,
 PV.int IntKind.i64 x5, PV.bool x6]),
 (1, true,
 Blk.cells
 [PV.int IntKind.i64 (0 : Int), PV.int IntKind.i64 (0 : Int), PV.nils,
 PV.int IntKind.i64 (0 : Int), PV.int IntKind.i64 (0 : Int), PV.tf false]),
 (3, true,
 Blk.cols (List.length x7)
 [Col.int IntKind.i64 fun (j : Nat) => (S.at' x7 j).1,
 Col.int IntKind.i64 fun (j : Nat) => (S.at' x7 j).2.1,
 Col.bool fun (j : Nat) => (S.at' x7 j).2.2])]]) (5))
 (False))
 (False))
 (test (lim IntKind.i64 (x1 + (1 : Int)))
 (Kst (hd Try.f36 0) ([PV.loose (PA.mk (0) (4) al (0)) nl,
 PV.ptr (PA.mk (1) (0) (0) (0)),
 PV.ptr (PA.mk (2) (0) (0) (0)), PV.int IntKind.i64 x0,
 PV.int IntKind.i64 (x1 + (1 : Int))]) ([[(0, false,
 Blk.cols ml
 [Col.int IntKind.i64 tl, Col.int IntKind.i64 vl, Col.int IntKind.i64 gl,
 Col.bool wl]),
 (2, true,
 Blk.cells
 [PV.int IntKind.i64 x2, PV.int IntKind.i64 x3,
 PV.own (3) (3) (List.length x7), PV.int IntKind.i64 x4,
 PV.int IntKind.i64 x5, PV.bool x6]),
 (1, true,
 Blk.cells
 [PV.int IntKind.i64 (0 : Int), PV.int IntKind.i64 (0 : Int), PV.nils,
 PV.int IntKind.i64 (0 : Int), PV.int IntKind.i64 (0 : Int), PV.tf false]),
 (3, true,
 Blk.cols (List.length x7)
 [Col.int IntKind.i64 fun (j : Nat) => (S.at' x7 j).1,
 Col.int IntKind.i64 fun (j : Nat) => (S.at' x7 j).2.1,
 Col.bool fun (j : Nat) => (S.at' x7 j).2.2])]]) (5))
 (False))))))
 (False))
 (False))
 (Kret (PV.tup
 [PV.agg
 [PV.int IntKind.i64 x2, PV.int IntKind.i64 x3,
 PV.own (3) (3) (List.length x7), PV.int IntKind.i64 x4,
 PV.int IntKind.i64 x5, PV.bool x6],
 PV.int IntKind.i64 x0, PV.int IntKind.i64 (0 : Int)]) ([[(0, false,
 Blk.cols ml
 [Col.int IntKind.i64 tl, Col.int IntKind.i64 vl, Col.int IntKind.i64 gl,
 Col.bool wl]),
 (3, true,
 Blk.cols (List.length x7)
 [Col.int IntKind.i64 fun (j : Nat) => (S.at' x7 j).1,
 Col.int IntKind.i64 fun (j : Nat) => (S.at' x7 j).2.1,
 Col.bool fun (j : Nat) => (S.at' x7 j).2.2])]]) (4))
set_option maxRecDepth 100000 in
theorem t36_0 (test : Bool → Prop → Prop → Prop) (Kst : KS) (Kret : KR) (ca : Int) (af : Int) (al nl ml : Nat) (tl : Nat → Int) (vl : Nat → Int) (gl : Nat → Int) (wl : Nat → Bool) (x0 : Int) (x1 : Int) (x2 : Int) (x3 : Int) (x4 : Int) (x5 : Int) (x6 : Bool) (x7 : List (Int × Int × Bool)) : run test Try.env true (xE test) true 400 ⟨36, hd Try.f36 0, zipT [2, 6, 9, 11, 12] [PV.loose (PA.mk (0) (4) al (0)) nl,
 PV.ptr (PA.mk (1) (0) (0) (0)),
 PV.ptr (PA.mk (2) (0) (0) (0)), PV.int IntKind.i64 x0,
 PV.int IntKind.i64 x1], [[(1, (true, Blk.cells
 [PV.int IntKind.i64 (0 : Int), PV.int IntKind.i64 (0 : Int), PV.nils,
 PV.int IntKind.i64 (0 : Int), PV.int IntKind.i64 (0 : Int), PV.tf false])), (2, (true, Blk.cells
 [PV.int IntKind.i64 x2, PV.int IntKind.i64 x3,
 PV.own (3) (3) (List.length x7), PV.int IntKind.i64 x4,
 PV.int IntKind.i64 x5, PV.bool x6])), (3, (true, Blk.cols (List.length x7)
 [Col.int IntKind.i64 fun (j : Nat) => (S.at' x7 j).1,
 Col.int IntKind.i64 fun (j : Nat) => (S.at' x7 j).2.1,
 Col.bool fun (j : Nat) => (S.at' x7 j).2.2]))], [(0, (false, .cols ml [.int .i64 tl, .int .i64 vl, .int .i64 gl, .bool wl]))]], 4⟩ (proj 1 [2, 6, 9, 11, 12] Kst Kret) =
  T36_0 test Kst Kret ca af al nl ml tl vl gl wl x0 x1 x2 x3 x4 x5 x6 x7 := by kernel_rfl
set_option maxRecDepth 100000 in
theorem be36 (ca : Int) (af : Int) (al nl ml : Nat) (tl : Nat → Int) (vl : Nat → Int) (gl : Nat → Int) (wl : Nat → Bool) (Kst : KS) (Kret : KR) (x : St36 ⊕ Rt36) (hS : HS 1 400 ((I36 ca af al nl ml tl vl gl wl)) Kst x) (hR : HR 1 400 ((V36 ca af al nl ml tl vl gl wl)) (fun r => [newL (1 + 1) ((N36 ca af al nl ml tl vl gl wl) r) ++ [(0, (false, .cols ml [.int .i64 tl, .int .i64 vl, .int .i64 gl, .bool wl]))]]) Kret x) (h : (bif ((S.newS ca af).2.2.2 != (0 : Int))
 then (some (.inr ((0 : Int), (0 : Int), (0 : Int), (0 : Int), false, (0 : Int), (S.newS ca af).2.2.2, [])))
 else (some (.inl (.h0 ((0 : Int)) ((0 : Int)) ((S.newS ca af).1) ((S.newS ca af).2.1) ((0 : Int)) ((S.newS ca af).2.2.1) (false) ([])))) : Option (St36 ⊕ Rt36)) = some x) : Te36 cond Kst Kret ca af al nl ml tl vl gl wl := by
  unfold Te36
  exact cond_yes rfl (bif_split h
   (fun c0 h => ret_at hR _ h (fun n => bif Nat.beq n 2 then 399 else n) rfl rfl rfl (rn_tup ⟨(rn_agg ⟨(rn_int rfl), (rn_int rfl), (rn_own_nils rfl), (rn_int rfl), (rn_int rfl), (rn_bool_tf rfl), trivial⟩), (rn_int rfl), (rn_int rfl), trivial⟩) rfl (entl_fresh (use_own rfl) (fresh_ok rfl) (entl_bor (use_lo rfl) rfl rfl entl_nil)))
   (fun c0 h => stop_at hS _ h (fun n => bif Nat.beq n 1 then 1 else bif Nat.beq n 2 then 3 else bif Nat.beq n 3 then 399 else n) rfl rfl rfl ⟨(rn_loose (use_lo rfl) rfl rfl rfl), ⟨(rn_ptr (use_own rfl) rfl rfl), ⟨(rn_ptr (use_own rfl) rfl rfl), ⟨(rn_int rfl), ⟨(rn_int rfl), trivial⟩⟩⟩⟩⟩ rfl (entl_b (use_own rfl) rfl (by simp) (rb_cells ⟨(rn_int rfl), (rn_int rfl), rn_nils, (rn_int rfl), (rn_int rfl), (rn_tf rfl), trivial⟩) (entl_b (use_own rfl) rfl (by simp) (rb_cells ⟨(rn_int rfl), (rn_int rfl), (rn_own_nils rfl), (rn_int rfl), (rn_int rfl), (rn_bool_tf rfl), trivial⟩) (entl_fresh (use_own rfl) (fresh_ok rfl) (entl_bor (use_lo rfl) rfl rfl entl_nil))))))
set_option maxRecDepth 100000 in
theorem b36_0 (ca : Int) (af : Int) (al nl ml : Nat) (tl : Nat → Int) (vl : Nat → Int) (gl : Nat → Int) (wl : Nat → Bool) (Kst : KS) (Kret : KR) (x : St36 ⊕ Rt36) (hS : HS 1 400 ((I36 ca af al nl ml tl vl gl wl)) Kst x) (hR : HR 1 400 ((V36 ca af al nl ml tl vl gl wl)) (fun r => [newL (1 + 1) ((N36 ca af al nl ml tl vl gl wl) r) ++ [(0, (false, .cols ml [.int .i64 tl, .int .i64 vl, .int .i64 gl, .bool wl]))]]) Kret x) (x0 : Int) (x1 : Int) (x2 : Int) (x3 : Int) (x4 : Int) (x5 : Int) (x6 : Bool) (x7 : List (Int × Int × Bool)) (h : (bif (decide (x1 < (↑nl : Int)))
 then (bif (decide ((0 : Int) ≤ x1 ∧ x1 < (↑nl : Int)))
 then (bif (decide (Int.toNat x1 + al < ml))
 then (bif (tl (Int.toNat x1 + al) == (1 : Int))
 then (bif (decide (0 + List.length x7 ≤ List.length x7 ∧ List.length x7 ≤ 1000000))
 then (bif (Prod.fst
 (Prod.snd
 (Prod.snd
 (Prod.snd
 (Prod.snd
 (Prod.snd
 (S.putS x2 x3 (List.length x7) (fun (j : Nat) => (S.at' x7 j).1)
 (fun (j : Nat) => (S.at' x7 j).2.1)
 (fun (j : Nat) => (S.at' x7 j).2.2) x4 x5 x6 (vl (Int.toNat x1 + al))
 (gl (Int.toNat x1 + al)) (wl (Int.toNat x1 + al)))))))) !=
 (0 : Int))
 then (bif (lim IntKind.i64 (x0 + (1 : Int)))
 then (bif (lim IntKind.i64 (x1 + (1 : Int)))
 then (some (.inl (.h0 (x0 + (1 : Int)) (x1 + (1 : Int)) (x2) (x3) (x4) (x5) (x6) (x7))))
 else (none))
 else (none))
 else (bif (lim IntKind.i64 (x1 + (1 : Int)))
 then (some (.inl (.h0 (x0) (x1 + (1 : Int)) (Prod.fst
 (S.putS x2 x3 (List.length x7) (fun (j : Nat) => (S.at' x7 j).1)
 (fun (j : Nat) => (S.at' x7 j).2.1) (fun (j : Nat) => (S.at' x7 j).2.2)
 x4 x5 x6 (vl (Int.toNat x1 + al)) (gl (Int.toNat x1 + al)) (wl (Int.toNat x1 + al)))) (Prod.fst
 (Prod.snd
 (S.putS x2 x3 (List.length x7) (fun (j : Nat) => (S.at' x7 j).1)
 (fun (j : Nat) => (S.at' x7 j).2.1)
 (fun (j : Nat) => (S.at' x7 j).2.2) x4 x5 x6 (vl (Int.toNat x1 + al))
 (gl (Int.toNat x1 + al)) (wl (Int.toNat x1 + al))))) (Prod.fst
 (Prod.snd
 (Prod.snd
 (S.putS x2 x3 (List.length x7) (fun (j : Nat) => (S.at' x7 j).1)
 (fun (j : Nat) => (S.at' x7 j).2.1)
 (fun (j : Nat) => (S.at' x7 j).2.2) x4 x5 x6 (vl (Int.toNat x1 + al))
 (gl (Int.toNat x1 + al)) (wl (Int.toNat x1 + al)))))) (Prod.fst
 (Prod.snd
 (Prod.snd
 (Prod.snd
 (S.putS x2 x3 (List.length x7) (fun (j : Nat) => (S.at' x7 j).1)
 (fun (j : Nat) => (S.at' x7 j).2.1)
 (fun (j : Nat) => (S.at' x7 j).2.2) x4 x5 x6 (vl (Int.toNat x1 + al))
 (gl (Int.toNat x1 + al)) (wl (Int.toNat x1 + al))))))) (Prod.fst
 (Prod.snd
 (Prod.snd
 (Prod.snd
 (Prod.snd
 (S.putS x2 x3 (List.length x7) (fun (j : Nat) => (S.at' x7 j).1)
 (fun (j : Nat) => (S.at' x7 j).2.1)
 (fun (j : Nat) => (S.at' x7 j).2.2) x4 x5 x6 (vl (Int.toNat x1 + al))
 (gl (Int.toNat x1 + al)) (wl (Int.toNat x1 + al)))))))) (Prod.snd
 (Prod.snd
 (Prod.snd
 (Prod.snd
 (Prod.snd
 (Prod.snd
 (S.putS x2 x3 (List.length x7) (fun (j : Nat) => (S.at' x7 j).1)
 (fun (j : Nat) => (S.at' x7 j).2.1)
 (fun (j : Nat) => (S.at' x7 j).2.2) x4 x5 x6 (vl (Int.toNat x1 + al))
 (gl (Int.toNat x1 + al)) (wl (Int.toNat x1 + al))))))))))))
 else (none)))
 else (none))
 else (bif (tl (Int.toNat x1 + al) == (2 : Int))
 then (bif (decide (0 + List.length x7 ≤ List.length x7 ∧ List.length x7 ≤ 1000000))
 then (bif (Prod.fst
 (Prod.snd
 (Prod.snd
 (Prod.snd
 (Prod.snd
 (Prod.snd
 (S.frzS x2 x3 (List.length x7) (fun (j : Nat) => (S.at' x7 j).1)
 (fun (j : Nat) => (S.at' x7 j).2.1)
 (fun (j : Nat) => (S.at' x7 j).2.2) x4 x5 x6 (0 : Int))))))) !=
 (0 : Int))
 then (bif (lim IntKind.i64 (x0 + (1 : Int)))
 then (bif (lim IntKind.i64 (x1 + (1 : Int)))
 then (some (.inl (.h0 (x0 + (1 : Int)) (x1 + (1 : Int)) (x2) (x3) (x4) (x5) (x6) (x7))))
 else (none))
 else (none))
 else (bif (lim IntKind.i64 (x1 + (1 : Int)))
 then (some (.inl (.h0 (x0) (x1 + (1 : Int)) (Prod.fst
 (S.frzS x2 x3 (List.length x7) (fun (j : Nat) => (S.at' x7 j).1)
 (fun (j : Nat) => (S.at' x7 j).2.1) (fun (j : Nat) => (S.at' x7 j).2.2)
 x4 x5 x6 (0 : Int))) (Prod.fst
 (Prod.snd
 (S.frzS x2 x3 (List.length x7) (fun (j : Nat) => (S.at' x7 j).1)
 (fun (j : Nat) => (S.at' x7 j).2.1)
 (fun (j : Nat) => (S.at' x7 j).2.2) x4 x5 x6 (0 : Int)))) (Prod.fst
 (Prod.snd
 (Prod.snd
 (S.frzS x2 x3 (List.length x7) (fun (j : Nat) => (S.at' x7 j).1)
 (fun (j : Nat) => (S.at' x7 j).2.1)
 (fun (j : Nat) => (S.at' x7 j).2.2) x4 x5 x6 (0 : Int))))) (Prod.fst
 (Prod.snd
 (Prod.snd
 (Prod.snd
 (S.frzS x2 x3 (List.length x7) (fun (j : Nat) => (S.at' x7 j).1)
 (fun (j : Nat) => (S.at' x7 j).2.1)
 (fun (j : Nat) => (S.at' x7 j).2.2) x4 x5 x6 (0 : Int)))))) (Prod.fst
 (Prod.snd
 (Prod.snd
 (Prod.snd
 (Prod.snd
 (S.frzS x2 x3 (List.length x7) (fun (j : Nat) => (S.at' x7 j).1)
 (fun (j : Nat) => (S.at' x7 j).2.1)
 (fun (j : Nat) => (S.at' x7 j).2.2) x4 x5 x6 (0 : Int))))))) (Prod.snd
 (Prod.snd
 (Prod.snd
 (Prod.snd
 (Prod.snd
 (Prod.snd
 (S.frzS x2 x3 (List.length x7) (fun (j : Nat) => (S.at' x7 j).1)
 (fun (j : Nat) => (S.at' x7 j).2.1)
 (fun (j : Nat) => (S.at' x7 j).2.2) x4 x5 x6 (0 : Int)))))))))))
 else (none)))
 else (none))
 else (bif (tl (Int.toNat x1 + al) == (3 : Int))
 then (bif (decide (0 + List.length x7 ≤ List.length x7 ∧ List.length x7 ≤ 1000000))
 then (bif (Prod.snd
 (Prod.snd
 (Prod.snd
 (S.reaS x2 x3 (List.length x7) (fun (j : Nat) => (S.at' x7 j).1)
 (fun (j : Nat) => (S.at' x7 j).2.1) x4 x5 x6))) !=
 (0 : Int))
 then (bif (lim IntKind.i64 (x0 + (1 : Int)))
 then (bif (lim IntKind.i64 (x1 + (1 : Int)))
 then (some (.inl (.h0 (x0 + (1 : Int)) (x1 + (1 : Int)) (x2) (x3) (x4) (x5) (x6) (x7))))
 else (none))
 else (none))
 else (bif (lim IntKind.i64 (x1 + (1 : Int)))
 then (some (.inl (.h0 (x0) (x1 + (1 : Int)) (Prod.fst
 (S.reaS x2 x3 (List.length x7) (fun (j : Nat) => (S.at' x7 j).1)
 (fun (j : Nat) => (S.at' x7 j).2.1) x4 x5 x6)) (Prod.fst
 (Prod.snd
 (S.reaS x2 x3 (List.length x7) (fun (j : Nat) => (S.at' x7 j).1)
 (fun (j : Nat) => (S.at' x7 j).2.1) x4 x5 x6))) ((0 : Int)) (Prod.fst
 (Prod.snd
 (Prod.snd
 (S.reaS x2 x3 (List.length x7) (fun (j : Nat) => (S.at' x7 j).1)
 (fun (j : Nat) => (S.at' x7 j).2.1) x4 x5 x6)))) (false) ([]))))
 else (none)))
 else (none))
 else (bif (lim IntKind.i64 (x0 + (1 : Int)))
 then (bif (lim IntKind.i64 (x1 + (1 : Int)))
 then (some (.inl (.h0 (x0 + (1 : Int)) (x1 + (1 : Int)) (x2) (x3) (x4) (x5) (x6) (x7))))
 else (none))
 else (none)))))
 else (none))
 else (none))
 else (some (.inr (x2, x3, x4, x5, x6, x0, (0 : Int), x7))) : Option (St36 ⊕ Rt36)) = some x) : T36_0 cond Kst Kret ca af al nl ml tl vl gl wl x0 x1 x2 x3 x4 x5 x6 x7 := by
  unfold T36_0
  exact bif_split h
   (fun c0 h => bif_split h
   (fun c1 h => bif_split h
   (fun c2 h => bif_split h
   (fun c3 h => cond_yes c1 (cond_yes c2 (cond_yes c2 (cond_yes c2 (bif_split h
   (fun c4 h => bif_split h
   (fun c5 h => bif_split h
   (fun c6 h => bif_split h
   (fun c7 h => stop_at hS _ h (fun n => bif Nat.beq n 1 then 1 else bif Nat.beq n 2 then 2 else bif Nat.beq n 3 then 3 else n) rfl rfl rfl ⟨(rn_loose (use_lo rfl) rfl rfl rfl), ⟨(rn_ptr (use_own rfl) rfl rfl), ⟨(rn_ptr (use_own rfl) rfl rfl), ⟨(rn_int rfl), ⟨(rn_int rfl), trivial⟩⟩⟩⟩⟩ rfl (entl_b (use_own rfl) rfl (by simp) (rb_cells ⟨(rn_int rfl), (rn_int rfl), rn_nils, (rn_int rfl), (rn_int rfl), (rn_tf rfl), trivial⟩) (entl_b (use_own rfl) rfl (by simp) (rb_cells ⟨(rn_int rfl), (rn_int rfl), (rn_own (use_own rfl) rfl rfl), (rn_int rfl), (rn_int rfl), (rn_bool rfl), trivial⟩) (entl_new (use_own rfl) rfl (Nat.le_of_eq rfl) (rcs_int (fun _ _ => rfl) (rcs_int (fun _ _ => rfl) (rcs_bool (fun _ _ => rfl) rcs_nil))) (entl_bor (use_lo rfl) rfl rfl entl_nil)))))
   (fun c7 h => no_some h))
   (fun c6 h => no_some h))
   (fun c5 h => bif_split h
   (fun c6 h => stop_at hS _ h (fun n => bif Nat.beq n 1 then 1 else bif Nat.beq n 2 then 2 else bif Nat.beq n 3 then 6 else n) rfl rfl rfl ⟨(rn_loose (use_lo rfl) rfl rfl rfl), ⟨(rn_ptr (use_own rfl) rfl rfl), ⟨(rn_ptr (use_own rfl) rfl rfl), ⟨(rn_int rfl), ⟨(rn_int rfl), trivial⟩⟩⟩⟩⟩ rfl (entl_b (use_own rfl) rfl (by simp) (rb_cells ⟨(rn_int rfl), (rn_int rfl), rn_nils, (rn_int rfl), (rn_int rfl), (rn_tf rfl), trivial⟩) (entl_b (use_own rfl) rfl (by simp) (rb_cells ⟨(rn_int rfl), (rn_int rfl), (rn_own (use_own rfl) rfl rfl), (rn_int rfl), (rn_int rfl), (rn_bool rfl), trivial⟩) (entl_new (use_own rfl) rfl (Nat.le_of_eq rfl) (rcs_int (fun _ _ => rfl) (rcs_int (fun _ _ => rfl) (rcs_bool (fun _ _ => rfl) rcs_nil))) (entl_bor (use_lo rfl) rfl rfl entl_nil)))))
   (fun c6 h => no_some h)))
   (fun c4 h => no_some h))))))
   (fun c3 h => bif_split h
   (fun c4 h => bif_split h
   (fun c5 h => bif_split h
   (fun c6 h => bif_split h
   (fun c7 h => bif_split h
   (fun c8 h => stop_at hS _ h (fun n => bif Nat.beq n 1 then 1 else bif Nat.beq n 2 then 2 else bif Nat.beq n 3 then 3 else n) rfl rfl rfl ⟨(rn_loose (use_lo rfl) rfl rfl rfl), ⟨(rn_ptr (use_own rfl) rfl rfl), ⟨(rn_ptr (use_own rfl) rfl rfl), ⟨(rn_int rfl), ⟨(rn_int rfl), trivial⟩⟩⟩⟩⟩ rfl (entl_b (use_own rfl) rfl (by simp) (rb_cells ⟨(rn_int rfl), (rn_int rfl), rn_nils, (rn_int rfl), (rn_int rfl), (rn_tf rfl), trivial⟩) (entl_b (use_own rfl) rfl (by simp) (rb_cells ⟨(rn_int rfl), (rn_int rfl), (rn_own (use_own rfl) rfl rfl), (rn_int rfl), (rn_int rfl), (rn_bool rfl), trivial⟩) (entl_new (use_own rfl) rfl (Nat.le_of_eq rfl) (rcs_int (fun _ _ => rfl) (rcs_int (fun _ _ => rfl) (rcs_bool (fun _ _ => rfl) rcs_nil))) (entl_bor (use_lo rfl) rfl rfl entl_nil)))))
   (fun c8 h => no_some h))
   (fun c7 h => no_some h))
   (fun c6 h => bif_split h
   (fun c7 h => stop_at hS _ h (fun n => bif Nat.beq n 1 then 1 else bif Nat.beq n 2 then 2 else bif Nat.beq n 3 then 6 else n) rfl rfl rfl ⟨(rn_loose (use_lo rfl) rfl rfl rfl), ⟨(rn_ptr (use_own rfl) rfl rfl), ⟨(rn_ptr (use_own rfl) rfl rfl), ⟨(rn_int rfl), ⟨(rn_int rfl), trivial⟩⟩⟩⟩⟩ rfl (entl_b (use_own rfl) rfl (by simp) (rb_cells ⟨(rn_int rfl), (rn_int rfl), rn_nils, (rn_int rfl), (rn_int rfl), (rn_tf rfl), trivial⟩) (entl_b (use_own rfl) rfl (by simp) (rb_cells ⟨(rn_int rfl), (rn_int rfl), (rn_own (use_own rfl) rfl rfl), (rn_int rfl), (rn_int rfl), (rn_bool rfl), trivial⟩) (entl_new (use_own rfl) rfl (Nat.le_of_eq rfl) (rcs_int (fun _ _ => rfl) (rcs_int (fun _ _ => rfl) (rcs_bool (fun _ _ => rfl) rcs_nil))) (entl_bor (use_lo rfl) rfl rfl entl_nil)))))
   (fun c7 h => no_some h)))
   (fun c5 h => no_some h))
   (fun c4 h => bif_split h
   (fun c5 h => bif_split h
   (fun c6 h => bif_split h
   (fun c7 h => bif_split h
   (fun c8 h => bif_split h
   (fun c9 h => stop_at hS _ h (fun n => bif Nat.beq n 1 then 1 else bif Nat.beq n 2 then 2 else bif Nat.beq n 3 then 3 else n) rfl rfl rfl ⟨(rn_loose (use_lo rfl) rfl rfl rfl), ⟨(rn_ptr (use_own rfl) rfl rfl), ⟨(rn_ptr (use_own rfl) rfl rfl), ⟨(rn_int rfl), ⟨(rn_int rfl), trivial⟩⟩⟩⟩⟩ rfl (entl_b (use_own rfl) rfl (by simp) (rb_cells ⟨(rn_int rfl), (rn_int rfl), rn_nils, (rn_int rfl), (rn_int rfl), (rn_tf rfl), trivial⟩) (entl_b (use_own rfl) rfl (by simp) (rb_cells ⟨(rn_int rfl), (rn_int rfl), (rn_own (use_own rfl) rfl rfl), (rn_int rfl), (rn_int rfl), (rn_bool rfl), trivial⟩) (entl_new (use_own rfl) rfl (Nat.le_of_eq rfl) (rcs_int (fun _ _ => rfl) (rcs_int (fun _ _ => rfl) (rcs_bool (fun _ _ => rfl) rcs_nil))) (entl_bor (use_lo rfl) rfl rfl entl_nil)))))
   (fun c9 h => no_some h))
   (fun c8 h => no_some h))
   (fun c7 h => bif_split h
   (fun c8 h => stop_at hS _ h (fun n => bif Nat.beq n 1 then 1 else bif Nat.beq n 2 then 2 else bif Nat.beq n 3 then 399 else n) rfl rfl rfl ⟨(rn_loose (use_lo rfl) rfl rfl rfl), ⟨(rn_ptr (use_own rfl) rfl rfl), ⟨(rn_ptr (use_own rfl) rfl rfl), ⟨(rn_int rfl), ⟨(rn_int rfl), trivial⟩⟩⟩⟩⟩ rfl (entl_b (use_own rfl) rfl (by simp) (rb_cells ⟨(rn_int rfl), (rn_int rfl), rn_nils, (rn_int rfl), (rn_int rfl), (rn_tf rfl), trivial⟩) (entl_b (use_own rfl) rfl (by simp) (rb_cells ⟨(rn_int rfl), (rn_int rfl), (rn_own_nils rfl), (rn_int rfl), (rn_int rfl), (rn_bool_tf rfl), trivial⟩) (entl_fresh (use_own rfl) (fresh_ok rfl) (entl_bor (use_lo rfl) rfl rfl entl_nil)))))
   (fun c8 h => no_some h)))
   (fun c6 h => no_some h))
   (fun c5 h => cond_yes rfl (bif_split h
   (fun c6 h => bif_split h
   (fun c7 h => stop_at hS _ h (fun n => bif Nat.beq n 1 then 1 else bif Nat.beq n 2 then 2 else bif Nat.beq n 3 then 3 else n) rfl rfl rfl ⟨(rn_loose (use_lo rfl) rfl rfl rfl), ⟨(rn_ptr (use_own rfl) rfl rfl), ⟨(rn_ptr (use_own rfl) rfl rfl), ⟨(rn_int rfl), ⟨(rn_int rfl), trivial⟩⟩⟩⟩⟩ rfl (entl_b (use_own rfl) rfl (by simp) (rb_cells ⟨(rn_int rfl), (rn_int rfl), rn_nils, (rn_int rfl), (rn_int rfl), (rn_tf rfl), trivial⟩) (entl_b (use_own rfl) rfl (by simp) (rb_cells ⟨(rn_int rfl), (rn_int rfl), (rn_own (use_own rfl) rfl rfl), (rn_int rfl), (rn_int rfl), (rn_bool rfl), trivial⟩) (entl_new (use_own rfl) rfl (Nat.le_of_eq rfl) (rcs_int (fun _ _ => rfl) (rcs_int (fun _ _ => rfl) (rcs_bool (fun _ _ => rfl) rcs_nil))) (entl_bor (use_lo rfl) rfl rfl entl_nil)))))
   (fun c7 h => no_some h))
   (fun c6 h => no_some h))))))
   (fun c2 h => no_some h))
   (fun c1 h => no_some h))
   (fun c0 h => ret_at hR _ h (fun n => bif Nat.beq n 2 then 3 else n) rfl rfl rfl (rn_tup ⟨(rn_agg ⟨(rn_int rfl), (rn_int rfl), (rn_own (use_own rfl) rfl rfl), (rn_int rfl), (rn_int rfl), (rn_bool rfl), trivial⟩), (rn_int rfl), (rn_int rfl), trivial⟩) rfl (entl_new (use_own rfl) rfl (Nat.le_of_eq rfl) (rcs_int (fun _ _ => rfl) (rcs_int (fun _ _ => rfl) (rcs_bool (fun _ _ => rfl) rcs_nil))) (entl_bor (use_lo rfl) rfl rfl entl_nil)))
theorem a36 (ca : Int) (af : Int) (al nl ml : Nat) (tl : Nat → Int) (vl : Nat → Int) (gl : Nat → Int) (wl : Nat → Bool) {r : Rt36} (h : Goes ((q36 ca af al nl ml tl vl gl wl)) ((p36 ca af al nl ml tl vl gl wl)) r) : CallR Try.prog 36 [.int .i64 ca, .int .i64 af, .loose ⟨0, 4, al, 0⟩ nl] [[(0, (false, .cols ml [.int .i64 tl, .int .i64 vl, .int .i64 gl, .bool wl]))]] 1 ((V36 ca af al nl ml tl vl gl wl) r) ((fun r => [newL (1 + 1) ((N36 ca af al nl ml tl vl gl wl) r) ++ [(0, (false, .cols ml [.int .i64 tl, .int .i64 vl, .int .i64 gl, .bool wl]))]]) r) 400 ∧ ∃ F, Try.prog.funcs[36]? = some F ∧ F.body.isSome = true ∧ (F.name == "runtime.NumGoroutine") = false := by
  refine dec_calls (f := 36) (lo := 1) (hi := 400) (H := [[(0, (false, .cols ml [.int .i64 tl, .int .i64 vl, .int .i64 gl, .bool wl]))]]) (args := [.int .i64 ca, .int .i64 af, .loose ⟨0, 4, al, 0⟩ nl]) Try.envOk Try.mixed xE_ok ((I36 ca af al nl ml tl vl gl wl)) ((V36 ca af al nl ml tl vl gl wl)) (fun r => [newL (1 + 1) ((N36 ca af al nl ml tl vl gl wl) r) ++ [(0, (false, .cols ml [.int .i64 tl, .int .i64 vl, .int .i64 gl, .bool wl]))]]) (fn := mkFn Try.f36) (ts := [2, 6, 9, 11, 12]) (n := 400) rfl (by decide) (by simp) (names_of rfl) ?_ ?_ ?_ h
  · intro s; cases s <;> exact ⟨hd_ok _ _, by simp [I36], names_of rfl, Nat.le_of_ble_eq_true rfl⟩
  · intro Kst Kret x hS hR h
    exact Holds.eq (te36 cond Kst Kret ca af al nl ml tl vl gl wl) (be36 ca af al nl ml tl vl gl wl Kst Kret x hS hR h)
  · intro Kst Kret x hS hR s h
    cases s with
    | h0 x0 x1 x2 x3 x4 x5 x6 x7 => exact Holds.eq (t36_0 cond Kst Kret ca af al nl ml tl vl gl wl x0 x1 x2 x3 x4 x5 x6 x7) (b36_0 ca af al nl ml tl vl gl wl Kst Kret x hS hR x0 x1 x2 x3 x4 x5 x6 x7 h)
noncomputable def k36 : Con := ⟨36, [.one (.plain (.int .i64)), .one (.plain (.int .i64)), .one (.list [.int .i64, .int .i64, .int .i64, .bool])], fun (x : Int × Int × (Nat × Nat × Nat × (Nat → Int) × (Nat → Int) × (Nat → Int) × (Nat → Bool) × Unit) × Unit) => (fun (ca : Int) (af : Int) (al nl ml : Nat) (tl : Nat → Int) (vl : Nat → Int) (gl : Nat → Int) (wl : Nat → Bool) => decide (al + nl ≤ ml ∧ nl ≤ 999998)) x.1 x.2.1 x.2.2.1.1 x.2.2.1.2.1 x.2.2.1.2.2.1 x.2.2.1.2.2.2.1 x.2.2.1.2.2.2.2.1 x.2.2.1.2.2.2.2.2.1 x.2.2.1.2.2.2.2.2.2.1, fun (x : Int × Int × (Nat × Nat × Nat × (Nat → Int) × (Nat → Int) × (Nat → Int) × (Nat → Bool) × Unit) × Unit) => (fun (ca : Int) (af : Int) (al nl ml : Nat) (tl : Nat → Int) (vl : Nat → Int) (gl : Nat → Int) (wl : Nat → Bool) => (V36 ca af al nl ml tl vl gl wl) (S.runR ca af nl (fun j => tl (j + al)) (fun j => vl (j + al)) (fun j => gl (j + al)) (fun j => wl (j + al)))) x.1 x.2.1 x.2.2.1.1 x.2.2.1.2.1 x.2.2.1.2.2.1 x.2.2.1.2.2.2.1 x.2.2.1.2.2.2.2.1 x.2.2.1.2.2.2.2.2.1 x.2.2.1.2.2.2.2.2.2.1, fun (x : Int × Int × (Nat × Nat × Nat × (Nat → Int) × (Nat → Int) × (Nat → Int) × (Nat → Bool) × Unit) × Unit) => (fun (ca : Int) (af : Int) (al nl ml : Nat) (tl : Nat → Int) (vl : Nat → Int) (gl : Nat → Int) (wl : Nat → Bool) => (N36 ca af al nl ml tl vl gl wl) (S.runR ca af nl (fun j => tl (j + al)) (fun j => vl (j + al)) (fun j => gl (j + al)) (fun j => wl (j + al)))) x.1 x.2.1 x.2.2.1.1 x.2.2.1.2.1 x.2.2.1.2.2.1 x.2.2.1.2.2.2.1 x.2.2.1.2.2.2.2.1 x.2.2.1.2.2.2.2.2.1 x.2.2.1.2.2.2.2.2.2.1⟩
set_option maxHeartbeats 2000000 in
theorem s36' (ca : Int) (af : Int) (al nl ml : Nat) (tl : Nat → Int) (vl : Nat → Int) (gl : Nat → Int) (wl : Nat → Bool) (hp : al + nl ≤ ml ∧ nl ≤ 999998) : ∀ (k i : Nat) (b : S.Bu) (r : Nat), i + k = nl → b.2.2.2.2.2.2.length ≤ i → r ≤ i → Comes (q36 ca af al nl ml tl vl gl wl) (.h0 (r : Int) (i : Int) b.1 b.2.1 b.2.2.1 b.2.2.2.1 b.2.2.2.2.1 b.2.2.2.2.2.2) (S.resR (S.runS (fun j => tl (j + al)) (fun j => vl (j + al)) (fun j => gl (j + al)) (fun j => wl (j + al)) i k b r)) := by
  obtain ⟨hp1, hp2⟩ := hp
  intro k
  induction k with
  | zero =>
    intro i b r hi hb hr
    apply Comes.of
    show Goes _ _ _
    unfold q36
    repeat' first
      | with_reducible refine goes_if (fun h => ?_) (fun h => ?_) <;> (try simp only [lim64, decide_eq_true_eq, decide_eq_false_iff_not, Int.toNat_natCast, toNat_pred, toNat_succ, Option.getD_some, Option.getD_none, Bool.not_eq_true', Bool.not_eq_false', Bool.and_eq_true, Bool.or_eq_true, Bool.and_eq_false_iff, Bool.or_eq_false_iff, bne_iff_ne, beq_iff_eq, bne_eq_false_iff_eq, beq_eq_false_iff_ne, ne_eq, not_and, Int.not_le, Int.not_lt, ge_iff_le, gt_iff_lt, Nat.not_lt, Nat.not_le, Bool.not_eq_true, Bool.not_eq_false, Bool.true_eq_false, Bool.false_eq_true, not_false_eq_true, not_true_eq_false] at h)
      | exact goes_none.mpr (by omega)
    all_goals first | (exfalso; omega) | rfl
  | succ k ih =>
    intro i b r hi hb hr
    apply Comes.of
    have hl : (S.stepB b (tl (i + al)) (vl (i + al)) (gl (i + al)) (wl (i + al))).2.2.2.2.2.2.length ≤ b.2.2.2.2.2.2.length + 1 := stepS_len
    have e0 : S.runS (fun j => tl (j + al)) (fun j => vl (j + al)) (fun j => gl (j + al)) (fun j => wl (j + al)) i (k + 1) b r = if (S.stepB b (tl (i + al)) (vl (i + al)) (gl (i + al)) (wl (i + al))).2.2.2.2.2.1 = 0 then S.runS (fun j => tl (j + al)) (fun j => vl (j + al)) (fun j => gl (j + al)) (fun j => wl (j + al)) (i + 1) k (S.stepB b (tl (i + al)) (vl (i + al)) (gl (i + al)) (wl (i + al))) r else S.runS (fun j => tl (j + al)) (fun j => vl (j + al)) (fun j => gl (j + al)) (fun j => wl (j + al)) (i + 1) k b (r + 1) := rfl
    have ih1 := ih (i + 1) b (r + 1) (by omega) (by omega) (by omega)
    have ih2 := ih (i + 1) (S.stepB b (tl (i + al)) (vl (i + al)) (gl (i + al)) (wl (i + al))) r (by omega) (by omega) (by omega)
    rw [e0]
    clear e0 ih
    unfold S.stepB S.stepS at *
    by_cases k1 : tl (i + al) = 1
    · simp only [k1, if_true] at hl ih2 ⊢
      show Goes _ _ _
      unfold q36
      repeat' first
        | with_reducible refine goes_if (fun h => ?_) (fun h => ?_) <;> (try simp only [lim64, decide_eq_true_eq, decide_eq_false_iff_not, Int.toNat_natCast, toNat_pred, toNat_succ, Option.getD_some, Option.getD_none, Bool.not_eq_true', Bool.not_eq_false', Bool.and_eq_true, Bool.or_eq_true, Bool.and_eq_false_iff, Bool.or_eq_false_iff, bne_iff_ne, beq_iff_eq, bne_eq_false_iff_eq, beq_eq_false_iff_ne, ne_eq, not_and, Int.not_le, Int.not_lt, ge_iff_le, gt_iff_lt, Nat.not_lt, Nat.not_le, Bool.not_eq_true, Bool.not_eq_false, Bool.true_eq_false, Bool.false_eq_true, not_false_eq_true, not_true_eq_false] at h)
        | exact goes_none.mpr (by omega)
      all_goals first
        | (exfalso; omega)
        | (rw [if_neg (by first | assumption | decide)]; exact ih1)
        | (rw [if_pos (by assumption)]; exact ih2)
  
    by_cases k2 : tl (i + al) = 2
    · simp only [k1, k2, if_true, if_false, show ¬ (2 : Int) = 1 by decide] at hl ih2 ⊢
      show Goes _ _ _
      unfold q36
      repeat' first
        | with_reducible refine goes_if (fun h => ?_) (fun h => ?_) <;> (try simp only [lim64, decide_eq_true_eq, decide_eq_false_iff_not, Int.toNat_natCast, toNat_pred, toNat_succ, Option.getD_some, Option.getD_none, Bool.not_eq_true', Bool.not_eq_false', Bool.and_eq_true, Bool.or_eq_true, Bool.and_eq_false_iff, Bool.or_eq_false_iff, bne_iff_ne, beq_iff_eq, bne_eq_false_iff_eq, beq_eq_false_iff_ne, ne_eq, not_and, Int.not_le, Int.not_lt, ge_iff_le, gt_iff_lt, Nat.not_lt, Nat.not_le, Bool.not_eq_true, Bool.not_eq_false, Bool.true_eq_false, Bool.false_eq_true, not_false_eq_true, not_true_eq_false] at h)
        | exact goes_none.mpr (by omega)
      all_goals first
        | (exfalso; omega)
        | (rw [if_neg (by first | assumption | decide)]; exact ih1)
        | (rw [if_pos (by assumption)]; exact ih2)
  
    by_cases k3 : tl (i + al) = 3
    · simp only [k1, k2, k3, if_true, if_false, show ¬ (3 : Int) = 1 by decide, show ¬ (3 : Int) = 2 by decide] at hl ih2 ⊢
      show Goes _ _ _
      unfold q36
      repeat' first
        | with_reducible refine goes_if (fun h => ?_) (fun h => ?_) <;> (try simp only [lim64, decide_eq_true_eq, decide_eq_false_iff_not, Int.toNat_natCast, toNat_pred, toNat_succ, Option.getD_some, Option.getD_none, Bool.not_eq_true', Bool.not_eq_false', Bool.and_eq_true, Bool.or_eq_true, Bool.and_eq_false_iff, Bool.or_eq_false_iff, bne_iff_ne, beq_iff_eq, bne_eq_false_iff_eq, beq_eq_false_iff_ne, ne_eq, not_and, Int.not_le, Int.not_lt, ge_iff_le, gt_iff_lt, Nat.not_lt, Nat.not_le, Bool.not_eq_true, Bool.not_eq_false, Bool.true_eq_false, Bool.false_eq_true, not_false_eq_true, not_true_eq_false] at h)
        | exact goes_none.mpr (by omega)
      all_goals first
        | (exfalso; omega)
        | (rw [if_neg (by first | assumption | decide)]; exact ih1)
        | (rw [if_pos (by assumption)]; exact ih2)
  
    simp only [k1, k2, k3, if_false, S.noB] at hl ih2 ⊢
    show Goes _ _ _
    unfold q36
    repeat' first
      | with_reducible refine goes_if (fun h => ?_) (fun h => ?_) <;> (try simp only [lim64, decide_eq_true_eq, decide_eq_false_iff_not, Int.toNat_natCast, toNat_pred, toNat_succ, Option.getD_some, Option.getD_none, Bool.not_eq_true', Bool.not_eq_false', Bool.and_eq_true, Bool.or_eq_true, Bool.and_eq_false_iff, Bool.or_eq_false_iff, bne_iff_ne, beq_iff_eq, bne_eq_false_iff_eq, beq_eq_false_iff_ne, ne_eq, not_and, Int.not_le, Int.not_lt, ge_iff_le, gt_iff_lt, Nat.not_lt, Nat.not_le, Bool.not_eq_true, Bool.not_eq_false, Bool.true_eq_false, Bool.false_eq_true, not_false_eq_true, not_true_eq_false] at h)
      | exact goes_none.mpr (by omega)
    all_goals first
      | (exfalso; omega)
      | (rw [if_neg (by first | assumption | decide)]; exact ih1)
      | (rw [if_pos (by assumption)]; exact ih2)
theorem s36 (ca : Int) (af : Int) (al nl ml : Nat) (tl : Nat → Int) (vl : Nat → Int) (gl : Nat → Int) (wl : Nat → Bool) (hp : al + nl ≤ ml ∧ nl ≤ 999998) : Goes ((q36 ca af al nl ml tl vl gl wl)) ((p36 ca af al nl ml tl vl gl wl)) (S.runR ca af nl (fun j => tl (j + al)) (fun j => vl (j + al)) (fun j => gl (j + al)) (fun j => wl (j + al))) := by
  have hm := s36' ca af al nl ml tl vl gl wl hp nl 0 (ca, af, 0, -1, false, 0, []) 0 (by omega) (by simp) (by omega)
  unfold S.runR
  by_cases h0 : (S.newS ca af).2.2.2 = 0
  · rw [if_pos h0]
    show Goes _ _ _
    unfold p36
    repeat' first
      | with_reducible refine goes_if (fun h => ?_) (fun h => ?_) <;> (try simp only [lim64, decide_eq_true_eq, decide_eq_false_iff_not, Int.toNat_natCast, toNat_pred, toNat_succ, Option.getD_some, Option.getD_none, Bool.not_eq_true', Bool.not_eq_false', Bool.and_eq_true, Bool.or_eq_true, Bool.and_eq_false_iff, Bool.or_eq_false_iff, bne_iff_ne, beq_iff_eq, bne_eq_false_iff_eq, beq_eq_false_iff_ne, ne_eq, not_and, Int.not_le, Int.not_lt, ge_iff_le, gt_iff_lt, Nat.not_lt, Nat.not_le, Bool.not_eq_true, Bool.not_eq_false, Bool.true_eq_false, Bool.false_eq_true, not_false_eq_true, not_true_eq_false] at h)
      | exact goes_none.mpr (by omega)
    all_goals first | (exfalso; exact absurd h0 (by assumption)) | (rw [newS_ok h0]; exact hm)
  · rw [if_neg h0]
    show Goes _ _ _
    unfold p36
    repeat' first
      | with_reducible refine goes_if (fun h => ?_) (fun h => ?_) <;> (try simp only [lim64, decide_eq_true_eq, decide_eq_false_iff_not, Int.toNat_natCast, toNat_pred, toNat_succ, Option.getD_some, Option.getD_none, Bool.not_eq_true', Bool.not_eq_false', Bool.and_eq_true, Bool.or_eq_true, Bool.and_eq_false_iff, Bool.or_eq_false_iff, bne_iff_ne, beq_iff_eq, bne_eq_false_iff_eq, beq_eq_false_iff_ne, ne_eq, not_and, Int.not_le, Int.not_lt, ge_iff_le, gt_iff_lt, Nat.not_lt, Nat.not_le, Bool.not_eq_true, Bool.not_eq_false, Bool.true_eq_false, Bool.false_eq_true, not_false_eq_true, not_true_eq_false] at h)
      | exact goes_none.mpr (by omega)
    all_goals first | (exfalso; exact h0 (by assumption)) | (rw [newS_no h0]; rfl)

theorem k36_ok : k36.ok Try.prog := by
  intro x hx
  obtain ⟨ca, af, ⟨al, nl, ml, tl, vl, gl, wl, _⟩, _⟩ := x
  obtain ⟨h1, h2⟩ := a36 ca af al nl ml tl vl gl wl (s36 ca af al nl ml tl vl gl wl (of_decide_eq_true hx))
  exact ⟨⟨400, (by decide : 1 + 1 + 1 ≤ 400), h1⟩, h2⟩

end Go.Ev
