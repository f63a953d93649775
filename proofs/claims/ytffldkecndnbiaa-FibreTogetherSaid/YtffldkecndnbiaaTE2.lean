/-
  Acts.
-/
import Derived.Test.YtffldkecndnbiaaTE1
namespace Go.Ev
open Go.Proofs
set_option linter.unusedVariables false
set_option linter.unusedSimpArgs false
set_option maxRecDepth 100000
inductive St28 where
  | h0 (x0 : Int) (x1 : List Int)
  | h1 (x0 : Int) (x1 : List Int)
  | h2 (x0 : Int) (x1 : Int) (x2 : List Int) (x3 : List Int)
  | h3 (x0 : Int) (x1 : Int) (x2 : Int) (x3 : Int) (x4 : Int) (x5 : List Int) (x6 : List Int) (x7 : List Int)
abbrev Rt28 := Int × List Int
noncomputable def V28 (ap np mp : Nat) (tp : Nat → Int) (vp : Nat → Int) (gp : Nat → Int) (wp : Nat → Int) (al nl ml : Nat) (tl : Nat → Int) (ev : Int) (ag ng mg : Nat) (tg : Nat → Int) (r : Rt28) : PV := PV.tup [PV.own (4) (1) (List.length r.2), PV.int IntKind.i64 r.1]
noncomputable def N28 (ap np mp : Nat) (tp : Nat → Int) (vp : Nat → Int) (gp : Nat → Int) (wp : Nat → Int) (al nl ml : Nat) (tl : Nat → Int) (ev : Int) (ag ng mg : Nat) (tg : Nat → Int) (r : Rt28) : List Blk := [Blk.cols (List.length r.2) [Col.int IntKind.i64 fun (j : Nat) => S.at' r.2 j]]
noncomputable def I28 (ap np mp : Nat) (tp : Nat → Int) (vp : Nat → Int) (gp : Nat → Int) (wp : Nat → Int) (al nl ml : Nat) (tl : Nat → Int) (ev : Int) (ag ng mg : Nat) (tg : Nat → Int) : St28 → Hd
  | .h0 x0 x1 => ⟨hd Try.f28 0, [PV.loose (PA.mk (1) (1) al (0)) nl, PV.int IntKind.i64 ev,
 PV.loose (PA.mk (2) (1) ag (0)) ng,
 PV.ptr (PA.mk (3) (0) (0) (0)),
 PV.own (4) (1) (List.length x1), PV.unk, PV.unk,
 PV.loose (PA.mk (1) (1) al (0)) nl, PV.int IntKind.i64 (↑nl : Int),
 PV.int IntKind.i64 x0, PV.unk, PV.unk, PV.unk, PV.unk, PV.unk, PV.unk,
 PV.unk, PV.unk, PV.unk], [[(3, (true, Blk.cells [PV.loose (PA.mk (0) (4) ap (0)) np])), (4, (true, Blk.cols (List.length x1) [Col.int IntKind.i64 fun (j : Nat) => S.at' x1 j]))], [(0, (false, .cols mp [.int .i64 tp, .int .i64 vp, .int .i64 gp, .int .i64 wp])), (1, (false, .cols ml [.int .i64 tl])), (2, (false, .cols mg [.int .i64 tg]))]], 5⟩
  | .h1 x0 x1 => ⟨hd Try.f28 1, [PV.loose (PA.mk (1) (1) al (0)) nl, PV.int IntKind.i64 ev,
 PV.loose (PA.mk (2) (1) ag (0)) ng,
 PV.ptr (PA.mk (3) (0) (0) (0)),
 PV.own (4) (1) (List.length x1), PV.unk, PV.unk, PV.unk, PV.unk,
 PV.unk, PV.loose (PA.mk (0) (4) ap (0)) np,
 PV.int IntKind.i64 (↑np : Int), PV.int IntKind.i64 x0, PV.unk, PV.unk, PV.unk,
 PV.unk, PV.unk, PV.unk], [[(3, (true, Blk.cells [PV.loose (PA.mk (0) (4) ap (0)) np])), (4, (true, Blk.cols (List.length x1) [Col.int IntKind.i64 fun (j : Nat) => S.at' x1 j]))], [(0, (false, .cols mp [.int .i64 tp, .int .i64 vp, .int .i64 gp, .int .i64 wp])), (1, (false, .cols ml [.int .i64 tl])), (2, (false, .cols mg [.int .i64 tg]))]], 5⟩
  | .h2 x0 x1 x2 x3 => ⟨hd Try.f28 2, [PV.loose (PA.mk (1) (1) al (0)) nl, PV.int IntKind.i64 ev,
 PV.loose (PA.mk (2) (1) ag (0)) ng,
 PV.ptr (PA.mk (3) (0) (0) (0)), PV.unk,
 PV.own (5) (1) (List.length x3), PV.unk, PV.unk, PV.unk, PV.unk,
 PV.unk, PV.unk, PV.unk, PV.own (4) (1) (List.length x2),
 PV.int IntKind.i64 x0, PV.int IntKind.i64 x1, PV.unk, PV.unk, PV.unk], [[(3, (true, Blk.cells [PV.loose (PA.mk (0) (4) ap (0)) np])), (4, (true, Blk.cols (List.length x2) [Col.int IntKind.i64 fun (j : Nat) => S.at' x2 j])), (5, (true, Blk.cols (List.length x3) [Col.int IntKind.i64 fun (j : Nat) => S.at' x3 j]))], [(0, (false, .cols mp [.int .i64 tp, .int .i64 vp, .int .i64 gp, .int .i64 wp])), (1, (false, .cols ml [.int .i64 tl])), (2, (false, .cols mg [.int .i64 tg]))]], 6⟩
  | .h3 x0 x1 x2 x3 x4 x5 x6 x7 => ⟨hd Try.f28 3, [PV.loose (PA.mk (1) (1) al (0)) nl, PV.int IntKind.i64 ev,
 PV.loose (PA.mk (2) (1) ag (0)) ng,
 PV.ptr (PA.mk (3) (0) (0) (0)), PV.unk,
 PV.own (6) (1) (List.length x7), PV.int IntKind.i64 x0, PV.unk, PV.unk,
 PV.unk, PV.unk, PV.unk, PV.unk, PV.own (4) (1) (List.length x5),
 PV.int IntKind.i64 x1, PV.int IntKind.i64 x2, PV.own (5) (1) (List.length x6),
 PV.int IntKind.i64 x3, PV.int IntKind.i64 x4], [[(3, (true, Blk.cells [PV.loose (PA.mk (0) (4) ap (0)) np])), (4, (true, Blk.cols (List.length x5) [Col.int IntKind.i64 fun (j : Nat) => S.at' x5 j])), (5, (true, Blk.cols (List.length x6) [Col.int IntKind.i64 fun (j : Nat) => S.at' x6 j])), (6, (true, Blk.cols (List.length x7) [Col.int IntKind.i64 fun (j : Nat) => S.at' x7 j]))], [(0, (false, .cols mp [.int .i64 tp, .int .i64 vp, .int .i64 gp, .int .i64 wp])), (1, (false, .cols ml [.int .i64 tl])), (2, (false, .cols mg [.int .i64 tg]))]], 7⟩
noncomputable def q28 (ap np mp : Nat) (tp : Nat → Int) (vp : Nat → Int) (gp : Nat → Int) (wp : Nat → Int) (al nl ml : Nat) (tl : Nat → Int) (ev : Int) (ag ng mg : Nat) (tg : Nat → Int) : St28 → Option (St28 ⊕ Rt28)
  | .h0 x0 x1 => bif (decide (x0 < (↑nl : Int)))
 then (bif (decide ((0 : Int) ≤ x0 ∧ x0 < (↑nl : Int)))
 then (bif (decide (Int.toNat x0 + al < ml))
 then (bif (decide (tl (Int.toNat x0 + al) ≥ (0 : Int)))
 then (bif (decide (tl (Int.toNat x0 + al) ≤ (1000000000 : Int)))
 then (bif (lim IntKind.i64 (x0 + (1 : Int)))
 then (some (.inl (.h0 (x0 + (1 : Int)) (x1))))
 else (none))
 else (some (.inr ((6 : Int), []))))
 else (some (.inr ((6 : Int), []))))
 else (none))
 else (none))
 else (some (.inl (.h1 ((0 : Int)) (x1))))
  | .h1 x0 x1 => bif (decide (x0 < (↑np : Int)))
 then (bif (decide ((0 : Int) ≤ x0 ∧ x0 < (↑np : Int)))
 then (bif (decide (Int.toNat x0 + ap < mp))
 then (bif (decide ((0 : Int) ≤ x0 ∧ x0 < (↑ng : Int)))
 then (bif (decide (Int.toNat x0 + ag < mg))
 then (bif (lim IntKind.i64 (-wp (Int.toNat x0 + ap)))
 then (bif (decide (tg (Int.toNat x0 + ag) ≥ -wp (Int.toNat x0 + ap)))
 then (bif (decide (tg (Int.toNat x0 + ag) ≤ wp (Int.toNat x0 + ap)))
 then (bif (lim IntKind.i64 (x0 + (1 : Int)))
 then (some (.inl (.h1 (x0 + (1 : Int)) (x1))))
 else (none))
 else (some (.inr ((6 : Int), []))))
 else (some (.inr ((6 : Int), []))))
 else (none))
 else (none))
 else (none))
 else (none))
 else (none))
 else (some (.inl (.h2 ((↑(List.length x1) : Int)) ((0 : Int)) (x1) ([]))))
  | .h2 x0 x1 x2 x3 => bif (decide (x1 < x0))
 then (bif (decide ((0 : Int) ≤ x1 ∧ x1 < (↑(List.length x2) : Int)))
 then (bif (decide (Int.toNat x1 < List.length x2))
 then (bif (decide ((0 : Int) ≤ x1 ∧ x1 < (↑nl : Int)))
 then (bif (decide (Int.toNat x1 + al < ml))
 then (bif (lim IntKind.i64 (ev + tl (Int.toNat x1 + al)))
 then (bif (decide
 (ap + np ≤ mp ∧
 np ≤ 1000000 ∧
 (S.treE np (fun (q : Nat) => tp (q + ap)) (fun (q : Nat) => vp (q + ap)) (fun (q : Nat) => gp (q + ap))
 fun (q : Nat) => wp (q + ap)) =
 (0 : Int) ∧
 (0 : Int) ≤ S.at' x2 (Int.toNat x1) ∧ S.at' x2 (Int.toNat x1) < (↑np : Int)))
 then (some (.inl (.h3 (ev + tl (Int.toNat x1 + al)) (x0) (x1) ((↑(List.length (S.pathL (fun (q : Nat) => tp (q + ap)) (Int.toNat (S.at' x2 (Int.toNat x1))) [])) : Int)) ((0 : Int)) (x2) (S.pathL (fun (q : Nat) => tp (q + ap)) (Int.toNat (S.at' x2 (Int.toNat x1))) []) (x3))))
 else (none))
 else (none))
 else (none))
 else (none))
 else (none))
 else (none))
 else (some (.inr ((0 : Int), x3)))
  | .h3 x0 x1 x2 x3 x4 x5 x6 x7 => bif (decide (x4 < x3))
 then (bif (decide ((0 : Int) ≤ x4 ∧ x4 < (↑(List.length x6) : Int)))
 then (bif (decide (Int.toNat x4 < List.length x6))
 then (bif (decide ((0 : Int) ≤ S.at' x6 (Int.toNat x4) ∧ S.at' x6 (Int.toNat x4) < (↑np : Int)))
 then (bif (decide (Int.toNat (S.at' x6 (Int.toNat x4)) + ap < mp))
 then (bif (decide ((0 : Int) ≤ S.at' x6 (Int.toNat x4) ∧ S.at' x6 (Int.toNat x4) < (↑ng : Int)))
 then (bif (decide (Int.toNat (S.at' x6 (Int.toNat x4)) + ag < mg))
 then (bif (lim IntKind.i64
 (vp (Int.toNat (S.at' x6 (Int.toNat x4)) + ap) + tg (Int.toNat (S.at' x6 (Int.toNat x4)) + ag)))
 then (bif (lim IntKind.i64
 (x0 + (vp (Int.toNat (S.at' x6 (Int.toNat x4)) + ap) + tg (Int.toNat (S.at' x6 (Int.toNat x4)) + ag))))
 then (bif (lim IntKind.i64 (x4 + (1 : Int)))
 then (some (.inl (.h3 (x0 + (vp (Int.toNat (S.at' x6 (Int.toNat x4)) + ap) + tg (Int.toNat (S.at' x6 (Int.toNat x4)) + ag))) (x1) (x2) (x3) (x4 + (1 : Int)) (x5) (x6) (x7))))
 else (none))
 else (none))
 else (none))
 else (none))
 else (none))
 else (none))
 else (none))
 else (none))
 else (none))
 else (bif (decide (List.length x7 + 1 ≤ 1000000))
 then (bif (decide (List.length x7 ≤ List.length x7))
 then (bif (lim IntKind.i64 (x2 + (1 : Int)))
 then (some (.inl (.h2 (x1) (x2 + (1 : Int)) (x5) (S.snoc x7 x0))))
 else (none))
 else (none))
 else (none))
noncomputable def p28 (ap np mp : Nat) (tp : Nat → Int) (vp : Nat → Int) (gp : Nat → Int) (wp : Nat → Int) (al nl ml : Nat) (tl : Nat → Int) (ev : Int) (ag ng mg : Nat) (tg : Nat → Int) : Option (St28 ⊕ Rt28) := bif (decide (ap + np ≤ mp ∧ np ≤ 1000000))
 then (bif ((S.treE np (fun (q : Nat) => tp (q + ap)) (fun (q : Nat) => vp (q + ap)) (fun (q : Nat) => gp (q + ap))
 fun (q : Nat) => wp (q + ap)) !=
 (0 : Int))
 then (some (.inr (S.treE np (fun (q : Nat) => tp (q + ap)) (fun (q : Nat) => vp (q + ap)) (fun (q : Nat) => gp (q + ap))
 fun (q : Nat) => wp (q + ap), [])))
 else (bif ((↑nl : Int) != (↑(List.length (S.leaL (fun (q : Nat) => tp (q + ap)) np)) : Int))
 then (some (.inr ((6 : Int), [])))
 else (bif ((↑ng : Int) != (↑np : Int))
 then (some (.inr ((6 : Int), [])))
 else (bif (decide (ev ≥ (0 : Int)))
 then (bif (decide (ev ≤ (1099511627776 : Int)))
 then (some (.inl (.h0 ((0 : Int)) (S.leaL (fun (q : Nat) => tp (q + ap)) np))))
 else (some (.inr ((6 : Int), []))))
 else (some (.inr ((6 : Int), [])))))))
 else (none)
noncomputable def Te28 (test : Bool → Prop → Prop → Prop) (Kst : KS) (Kret : KR) (ap np mp : Nat) (tp : Nat → Int) (vp : Nat → Int) (gp : Nat → Int) (wp : Nat → Int) (al nl ml : Nat) (tl : Nat → Int) (ev : Int) (ag ng mg : Nat) (tg : Nat → Int) : Prop :=
  test (decide (ap + np ≤ mp ∧ np ≤ 1000000))
 (test ((S.treE np (fun (q : Nat) => tp (q + ap)) (fun (q : Nat) => vp (q + ap)) (fun (q : Nat) => gp (q + ap))
 fun (q : Nat) => wp (q + ap)) !=
 (0 : Int))
 (Kret (PV.tup
 [PV.nils,
 PV.int IntKind.i64
 (S.treE np (fun (q : Nat) => tp (q + ap)) (fun (q : Nat) => vp (q + ap)) (fun (q : Nat) => gp (q + ap))
 fun (q : Nat) => wp (q + ap))]) ([[(2, false, Blk.cols mg [Col.int IntKind.i64 tg]),
 (1, false, Blk.cols ml [Col.int IntKind.i64 tl]),
 (0, false,
 Blk.cols mp
 [Col.int IntKind.i64 tp, Col.int IntKind.i64 vp, Col.int IntKind.i64 gp,
 Col.int IntKind.i64 wp])]]) (5))
 (test (decide (ap + np ≤ mp ∧ np ≤ 1000000))
 (test ((↑nl : Int) != (↑(List.length (S.leaL (fun (q : Nat) => tp (q + ap)) np)) : Int))
 (Kret (PV.tup [PV.nils, PV.int IntKind.i64 (6 : Int)]) ([[(2, false, Blk.cols mg [Col.int IntKind.i64 tg]),
 (1, false, Blk.cols ml [Col.int IntKind.i64 tl]),
 (0, false,
 Blk.cols mp
 [Col.int IntKind.i64 tp, Col.int IntKind.i64 vp, Col.int IntKind.i64 gp,
 Col.int IntKind.i64 wp])]]) (7))
 (test ((↑ng : Int) != (↑np : Int))
 (Kret (PV.tup [PV.nils, PV.int IntKind.i64 (6 : Int)]) ([[(2, false, Blk.cols mg [Col.int IntKind.i64 tg]),
 (1, false, Blk.cols ml [Col.int IntKind.i64 tl]),
 (0, false,
 Blk.cols mp
 [Col.int IntKind.i64 tp, Col.int IntKind.i64 vp, Col.int IntKind.i64 gp,
 Col.int IntKind.i64 wp])]]) (7))
 (test (decide (ev ≥ (0 : Int)))
 (test (decide (ev ≤ (1099511627776 : Int)))
 (Kst (hd Try.f28 0) ([PV.loose (PA.mk (1) (1) al (0)) nl, PV.int IntKind.i64 ev,
 PV.loose (PA.mk (2) (1) ag (0)) ng,
 PV.ptr (PA.mk (3) (0) (0) (0)),
 PV.own (6) (1) (List.length (S.leaL (fun (q : Nat) => tp (q + ap)) np)), PV.unk,
 PV.unk, PV.loose (PA.mk (1) (1) al (0)) nl,
 PV.int IntKind.i64 (↑nl : Int), PV.int IntKind.i64 (0 : Int), PV.unk, PV.unk,
 PV.unk, PV.unk, PV.unk, PV.unk, PV.unk, PV.unk, PV.unk]) ([[(2, false, Blk.cols mg [Col.int IntKind.i64 tg]),
 (1, false, Blk.cols ml [Col.int IntKind.i64 tl]),
 (0, false,
 Blk.cols mp
 [Col.int IntKind.i64 tp, Col.int IntKind.i64 vp, Col.int IntKind.i64 gp,
 Col.int IntKind.i64 wp]),
 (6, true,
 Blk.cols (List.length (S.leaL (fun (q : Nat) => tp (q + ap)) np))
 [Col.int IntKind.i64 fun (j : Nat) => S.at' (S.leaL (fun (q : Nat) => tp (q + ap)) np) j]),
 (3, true, Blk.cells [PV.loose (PA.mk (0) (4) ap (0)) np])]]) (7))
 (Kret (PV.tup [PV.nils, PV.int IntKind.i64 (6 : Int)]) ([[(2, false, Blk.cols mg [Col.int IntKind.i64 tg]),
 (1, false, Blk.cols ml [Col.int IntKind.i64 tl]),
 (0, false,
 Blk.cols mp
 [Col.int IntKind.i64 tp, Col.int IntKind.i64 vp, Col.int IntKind.i64 gp,
 Col.int IntKind.i64 wp])]]) (7)))
 (Kret (PV.tup [PV.nils, PV.int IntKind.i64 (6 : Int)]) ([[(2, false, Blk.cols mg [Col.int IntKind.i64 tg]),
 (1, false, Blk.cols ml [Col.int IntKind.i64 tl]),
 (0, false,
 Blk.cols mp
 [Col.int IntKind.i64 tp, Col.int IntKind.i64 vp, Col.int IntKind.i64 gp,
 Col.int IntKind.i64 wp])]]) (7)))))
 (False)))
 (False)
set_option maxRecDepth 100000 in
theorem te28 (test : Bool → Prop → Prop → Prop) (Kst : KS) (Kret : KR) (ap np mp : Nat) (tp : Nat → Int) (vp : Nat → Int) (gp : Nat → Int) (wp : Nat → Int) (al nl ml : Nat) (tl : Nat → Int) (ev : Int) (ag ng mg : Nat) (tg : Nat → Int) : run test Try.env true (xM test) true 400 ⟨28, [.cd (mkFn Try.f28).body], argT 0 [.agg [.loose ⟨0, 4, ap, 0⟩ np], .loose ⟨1, 1, al, 0⟩ nl, .int .i64 ev, .loose ⟨2, 1, ag, 0⟩ ng], [[], [(0, (false, .cols mp [.int .i64 tp, .int .i64 vp, .int .i64 gp, .int .i64 wp])), (1, (false, .cols ml [.int .i64 tl])), (2, (false, .cols mg [.int .i64 tg]))]], 3⟩ (proj 3 [1, 2, 3, 4, 11, 16, 19, 47, 48, 49, 58, 59, 60, 77, 78, 79, 92, 93, 94] Kst Kret) =
  Te28 test Kst Kret ap np mp tp vp gp wp al nl ml tl ev ag ng mg tg := by kernel_rfl
noncomputable def T28_0 (test : Bool → Prop → Prop → Prop) (Kst : KS) (Kret : KR) (ap np mp : Nat) (tp : Nat → Int) (vp : Nat → Int) (gp : Nat → Int) (wp : Nat → Int) (al nl ml : Nat) (tl : Nat → Int) (ev : Int) (ag ng mg : Nat) (tg : Nat → Int) (x0 : Int) (x1 : List Int) : Prop :=
  test (decide (x0 < (↑nl : Int)))
 (test (decide ((0 : Int) ≤ x0 ∧ x0 < (↑nl : Int)))
 (test (decide (Int.toNat x0 + al < ml))
 (test (decide (tl (Int.toNat x0 + al) ≥ (0 : Int)))
 (test (decide (tl (Int.toNat x0 + al) ≤ (1000000000 : Int)))
 (test (lim IntKind.i64 (x0 + (1 : Int)))
 (Kst (hd Try.f28 0) ([PV.loose (PA.mk (1) (1) al (0)) nl, PV.int IntKind.i64 ev,
 PV.loose (PA.mk (2) (1) ag (0)) ng,
 PV.ptr (PA.mk (3) (0) (0) (0)),
 PV.own (4) (1) (List.length x1), PV.unk, PV.unk,
 PV.loose (PA.mk (1) (1) al (0)) nl, PV.int IntKind.i64 (↑nl : Int),
 PV.int IntKind.i64 (x0 + (1 : Int)), PV.unk, PV.unk, PV.unk, PV.unk, PV.unk,
 PV.unk, PV.unk, PV.unk, PV.unk]) ([[(2, false, Blk.cols mg [Col.int IntKind.i64 tg]),
 (1, false, Blk.cols ml [Col.int IntKind.i64 tl]),
 (0, false,
 Blk.cols mp
 [Col.int IntKind.i64 tp, Col.int IntKind.i64 vp, Col.int IntKind.i64 gp,
 Col.int IntKind.i64 wp]),
 (4, true,
 Blk.cols (List.length x1) [Col.int IntKind.i64 fun (j : Nat) => S.at' x1 j]),
 (3, true, Blk.cells [PV.loose (PA.mk (0) (4) ap (0)) np])]]) (5))
 (False))
 (Kret (PV.tup [PV.nils, PV.int IntKind.i64 (6 : Int)]) ([[(2, false, Blk.cols mg [Col.int IntKind.i64 tg]),
 (1, false, Blk.cols ml [Col.int IntKind.i64 tl]),
 (0, false,
 Blk.cols mp
 [Col.int IntKind.i64 tp, Col.int IntKind.i64 vp, Col.int IntKind.i64 gp,
 Col.int IntKind.i64 wp])]]) (5)))
 (Kret (PV.tup [PV.nils, PV.int IntKind.i64 (6 : Int)]) ([[(2, false, Blk.cols mg [Col.int IntKind.i64 tg]),
 (1, false, Blk.cols ml [Col.int IntKind.i64 tl]),
 (0, false,
 Blk.cols mp
 [Col.int IntKind.i64 tp, Col.int IntKind.i64 vp, Col.int IntKind.i64 gp,
 Col.int IntKind.i64 wp])]]) (5)))
 (False))
 (False))
 (Kst (hd Try.f28 1) ([PV.loose (PA.mk (1) (1) al (0)) nl, PV.int IntKind.i64 ev,
 PV.loose (PA.mk (2) (1) ag (0)) ng,
 PV.ptr (PA.mk (3) (0) (0) (0)),
 PV.own (4) (1) (List.length x1), PV.unk, PV.unk,
 PV.loose (PA.mk (1) (1) al (0)) nl, PV.int IntKind.i64 (↑nl : Int),
 PV.int IntKind.i64 x0, PV.loose (PA.mk (0) (4) ap (0)) np,
 PV.int IntKind.i64 (↑np : Int), PV.int IntKind.i64 (0 : Int), PV.unk, PV.unk,
 PV.unk, PV.unk, PV.unk, PV.unk]) ([[(2, false, Blk.cols mg [Col.int IntKind.i64 tg]),
 (1, false, Blk.cols ml [Col.int IntKind.i64 tl]),
 (0, false,
 Blk.cols mp
 [Col.int IntKind.i64 tp, Col.int IntKind.i64 vp, Col.int IntKind.i64 gp,
 Col.int IntKind.i64 wp]),
 (4, true,
 Blk.cols (List.length x1) [Col.int IntKind.i64 fun (j : Nat) => S.at' x1 j]),
 (3, true, Blk.cells [PV.loose (PA.mk (0) (4) ap (0)) np])]]) (5))
set_option maxRecDepth 100000 in
theorem t28_0 (test : Bool → Prop → Prop → Prop) (Kst : KS) (Kret : KR) (ap np mp : Nat) (tp : Nat → Int) (vp : Nat → Int) (gp : Nat → Int) (wp : Nat → Int) (al nl ml : Nat) (tl : Nat → Int) (ev : Int) (ag ng mg : Nat) (tg : Nat → Int) (x0 : Int) (x1 : List Int) : run test Try.env true (xM test) true 400 ⟨28, hd Try.f28 0, zipT [1, 2, 3, 4, 11, 16, 19, 47, 48, 49, 58, 59, 60, 77, 78, 79, 92, 93, 94] [PV.loose (PA.mk (1) (1) al (0)) nl, PV.int IntKind.i64 ev,
 PV.loose (PA.mk (2) (1) ag (0)) ng,
 PV.ptr (PA.mk (3) (0) (0) (0)),
 PV.own (4) (1) (List.length x1), PV.unk, PV.unk,
 PV.loose (PA.mk (1) (1) al (0)) nl, PV.int IntKind.i64 (↑nl : Int),
 PV.int IntKind.i64 x0, PV.unk, PV.unk, PV.unk, PV.unk, PV.unk, PV.unk,
 PV.unk, PV.unk, PV.unk], [[(3, (true, Blk.cells [PV.loose (PA.mk (0) (4) ap (0)) np])), (4, (true, Blk.cols (List.length x1) [Col.int IntKind.i64 fun (j : Nat) => S.at' x1 j]))], [(0, (false, .cols mp [.int .i64 tp, .int .i64 vp, .int .i64 gp, .int .i64 wp])), (1, (false, .cols ml [.int .i64 tl])), (2, (false, .cols mg [.int .i64 tg]))]], 5⟩ (proj 3 [1, 2, 3, 4, 11, 16, 19, 47, 48, 49, 58, 59, 60, 77, 78, 79, 92, 93, 94] Kst Kret) =
  T28_0 test Kst Kret ap np mp tp vp gp wp al nl ml tl ev ag ng mg tg x0 x1 := by kernel_rfl
noncomputable def T28_1 (test : Bool → Prop → Prop → Prop) (Kst : KS) (Kret : KR) (ap np mp : Nat) (tp : Nat → Int) (vp : Nat → Int) (gp : Nat → Int) (wp : Nat → Int) (al nl ml : Nat) (tl : Nat → Int) (ev : Int) (ag ng mg : Nat) (tg : Nat → Int) (x0 : Int) (x1 : List Int) : Prop :=
  test (decide (x0 < (↑np : Int)))
 (test (decide ((0 : Int) ≤ x0 ∧ x0 < (↑np : Int)))
 (test (decide (Int.toNat x0 + ap < mp))
 (test (decide (Int.toNat x0 + ap < mp))
 (test (decide (Int.toNat x0 + ap < mp))
 (test (decide (Int.toNat x0 + ap < mp))
 (test (decide ((0 : Int) ≤ x0 ∧ x0 < (↑ng : Int)))
 (test (decide (Int.toNat x0 + ag < mg))
 (test (lim IntKind.i64 (-wp (Int.toNat x0 + ap)))
 (test (decide (tg (Int.toNat x0 + ag) ≥ -wp (Int.toNat x0 + ap)))
 (test (decide (tg (Int.toNat x0 + ag) ≤ wp (Int.toNat x0 + ap)))
 (test (lim IntKind.i64 (x0 + (1 : Int)))
 (Kst (hd Try.f28 1) ([PV.loose (PA.mk (1) (1) al (0)) nl, PV.int IntKind.i64 ev,
 PV.loose (PA.mk (2) (1) ag (0)) ng,
 PV.ptr (PA.mk (3) (0) (0) (0)),
 PV.own (4) (1) (List.length x1), PV.unk, PV.unk, PV.unk, PV.unk,
 PV.unk, PV.loose (PA.mk (0) (4) ap (0)) np,
 PV.int IntKind.i64 (↑np : Int), PV.int IntKind.i64 (x0 + (1 : Int)), PV.unk, PV.unk,
 PV.unk, PV.unk, PV.unk, PV.unk]) ([[(2, false, Blk.cols mg [Col.int IntKind.i64 tg]),
 (1, false, Blk.cols ml [Col.int IntKind.i64 tl]),
 (0, false,
 Blk.cols mp
 [Col.int IntKind.i64 tp, Col.int IntKind.i64 vp, Col.int IntKind.i64 gp,
 Col.int IntKind.i64 wp]),
 (4, true,
 Blk.cols (List.length x1) [Col.int IntKind.i64 fun (j : Nat) => S.at' x1 j]),
 (3, true, Blk.cells [PV.loose (PA.mk (0) (4) ap (0)) np])]]) (6))
 (False))
 (Kret (PV.tup [PV.nils, PV.int IntKind.i64 (6 : Int)]) ([[(2, false, Blk.cols mg [Col.int IntKind.i64 tg]),
 (1, false, Blk.cols ml [Col.int IntKind.i64 tl]),
 (0, false,
 Blk.cols mp
 [Col.int IntKind.i64 tp, Col.int IntKind.i64 vp, Col.int IntKind.i64 gp,
 Col.int IntKind.i64 wp])]]) (6)))
 (Kret (PV.tup [PV.nils, PV.int IntKind.i64 (6 : Int)]) ([[(2, false, Blk.cols mg [Col.int IntKind.i64 tg]),
 (1, false, Blk.cols ml [Col.int IntKind.i64 tl]),
 (0, false,
 Blk.cols mp
 [Col.int IntKind.i64 tp, Col.int IntKind.i64 vp, Col.int IntKind.i64 gp,
 Col.int IntKind.i64 wp])]]) (6)))
 (False))
 (False))
 (False))
 (False))
 (False))
 (False))
 (False))
 (False))
 (Kst (hd Try.f28 2) ([PV.loose (PA.mk (1) (1) al (0)) nl, PV.int IntKind.i64 ev,
 PV.loose (PA.mk (2) (1) ag (0)) ng,
 PV.ptr (PA.mk (3) (0) (0) (0)),
 PV.own (4) (1) (List.length x1), PV.nils, PV.unk, PV.unk, PV.unk,
 PV.unk, PV.loose (PA.mk (0) (4) ap (0)) np,
 PV.int IntKind.i64 (↑np : Int), PV.int IntKind.i64 x0,
 PV.own (4) (1) (List.length x1), PV.int IntKind.i64 (↑(List.length x1) : Int),
 PV.int IntKind.i64 (0 : Int), PV.unk, PV.unk, PV.unk]) ([[(2, false, Blk.cols mg [Col.int IntKind.i64 tg]),
 (1, false, Blk.cols ml [Col.int IntKind.i64 tl]),
 (0, false,
 Blk.cols mp
 [Col.int IntKind.i64 tp, Col.int IntKind.i64 vp, Col.int IntKind.i64 gp,
 Col.int IntKind.i64 wp]),
 (4, true,
 Blk.cols (List.length x1) [Col.int IntKind.i64 fun (j : Nat) => S.at' x1 j]),
 (3, true, Blk.cells [PV.loose (PA.mk (0) (4) ap (0)) np])]]) (5))
set_option maxRecDepth 100000 in
theorem t28_1 (test : Bool → Prop → Prop → Prop) (Kst : KS) (Kret : KR) (ap np mp : Nat) (tp : Nat → Int) (vp : Nat → Int) (gp : Nat → Int) (wp : Nat → Int) (al nl ml : Nat) (tl : Nat → Int) (ev : Int) (ag ng mg : Nat) (tg : Nat → Int) (x0 : Int) (x1 : List Int) : run test Try.env true (xM test) true 400 ⟨28, hd Try.f28 1, zipT [1, 2, 3, 4, 11, 16, 19, 47, 48, 49, 58, 59, 60, 77, 78, 79, 92, 93, 94] [PV.loose (PA.mk (1) (1) al (0)) nl, PV.int IntKind.i64 ev,
 PV.loose (PA.mk (2) (1) ag (0)) ng,
 PV.ptr (PA.mk (3) (0) (0) (0)),
 PV.own (4) (1) (List.length x1), PV.unk, PV.unk, PV.unk, PV.unk,
 PV.unk, PV.loose (PA.mk (0) (4) ap (0)) np,
 PV.int IntKind.i64 (↑np : Int), PV.int IntKind.i64 x0, PV.unk, PV.unk, PV.unk,
 PV.unk, PV.unk, PV.unk], [[(3, (true, Blk.cells [PV.loose (PA.mk (0) (4) ap (0)) np])), (4, (true, Blk.cols (List.length x1) [Col.int IntKind.i64 fun (j : Nat) => S.at' x1 j]))], [(0, (false, .cols mp [.int .i64 tp, .int .i64 vp, .int .i64 gp, .int .i64 wp])), (1, (false, .cols ml [.int .i64 tl])), (2, (false, .cols mg [.int .i64 tg]))]], 5⟩ (proj 3 [1, 2, 3, 4, 11, 16, 19, 47, 48, 49, 58, 59, 60, 77, 78, 79, 92, 93, 94] Kst Kret) =
  T28_1 test Kst Kret ap np mp tp vp gp wp al nl ml tl ev ag ng mg tg x0 x1 := by kernel_rfl
noncomputable def T28_2 (test : Bool → Prop → Prop → Prop) (Kst : KS) (Kret : KR) (ap np mp : Nat) (tp : Nat → Int) (vp : Nat → Int) (gp : Nat → Int) (wp : Nat → Int) (al nl ml : Nat) (tl : Nat → Int) (ev : Int) (ag ng mg : Nat) (tg : Nat → Int) (x0 : Int) (x1 : Int) (x2 : List Int) (x3 : List Int) : Prop :=
  test (decide (x1 < x0))
 (test (decide ((0 : Int) ≤ x1 ∧ x1 < (↑(List.length x2) : Int)))
 (test (decide (Int.toNat x1 < List.length x2))
 (test (decide ((0 : Int) ≤ x1 ∧ x1 < (↑nl : Int)))
 (test (decide (Int.toNat x1 + al < ml))
 (test (lim IntKind.i64 (ev + tl (Int.toNat x1 + al)))
 (test (decide
 (ap + np ≤ mp ∧
 np ≤ 1000000 ∧
 (S.treE np (fun (q : Nat) => tp (q + ap)) (fun (q : Nat) => vp (q + ap)) (fun (q : Nat) => gp (q + ap))
 fun (q : Nat) => wp (q + ap)) =
 (0 : Int) ∧
 (0 : Int) ≤ S.at' x2 (Int.toNat x1) ∧ S.at' x2 (Int.toNat x1) < (↑np : Int)))
 (Kst (hd Try.f28 3) ([PV.loose (PA.mk (1) (1) al (0)) nl, PV.int IntKind.i64 ev,
 PV.loose (PA.mk (2) (1) ag (0)) ng,
 PV.ptr (PA.mk (3) (0) (0) (0)), PV.unk,
 PV.own (5) (1) (List.length x3), PV.int IntKind.i64 (ev + tl (Int.toNat x1 + al)),
 PV.unk, PV.unk, PV.unk, PV.unk, PV.unk, PV.unk,
 PV.own (4) (1) (List.length x2), PV.int IntKind.i64 x0, PV.int IntKind.i64 x1,
 PV.own (7) (1)
 (List.length (S.pathL (fun (q : Nat) => tp (q + ap)) (Int.toNat (S.at' x2 (Int.toNat x1))) [])),
 PV.int IntKind.i64
 (↑(List.length (S.pathL (fun (q : Nat) => tp (q + ap)) (Int.toNat (S.at' x2 (Int.toNat x1))) [])) :
 Int),
 PV.int IntKind.i64 (0 : Int)]) ([[(2, false, Blk.cols mg [Col.int IntKind.i64 tg]),
 (1, false, Blk.cols ml [Col.int IntKind.i64 tl]),
 (0, false,
 Blk.cols mp
 [Col.int IntKind.i64 tp, Col.int IntKind.i64 vp, Col.int IntKind.i64 gp,
 Col.int IntKind.i64 wp]),
 (7, true,
 Blk.cols
 (List.length (S.pathL (fun (q : Nat) => tp (q + ap)) (Int.toNat (S.at' x2 (Int.toNat x1))) []))
 [Col.int IntKind.i64 fun (j : Nat) =>
 S.at' (S.pathL (fun (q : Nat) => tp (q + ap)) (Int.toNat (S.at' x2 (Int.toNat x1))) [])
 j]),
 (4, true,
 Blk.cols (List.length x2) [Col.int IntKind.i64 fun (j : Nat) => S.at' x2 j]),
 (5, true,
 Blk.cols (List.length x3) [Col.int IntKind.i64 fun (j : Nat) => S.at' x3 j]),
 (3, true, Blk.cells [PV.loose (PA.mk (0) (4) ap (0)) np])]]) (8))
 (False))
 (False))
 (False))
 (False))
 (False))
 (False))
 (Kret (PV.tup [PV.own (5) (1) (List.length x3), PV.int IntKind.i64 (0 : Int)]) ([[(2, false, Blk.cols mg [Col.int IntKind.i64 tg]),
 (1, false, Blk.cols ml [Col.int IntKind.i64 tl]),
 (0, false,
 Blk.cols mp
 [Col.int IntKind.i64 tp, Col.int IntKind.i64 vp, Col.int IntKind.i64 gp,
 Col.int IntKind.i64 wp]),
 (5, true,
 Blk.cols (List.length x3) [Col.int IntKind.i64 fun (j : Nat) => S.at' x3 j])]]) (6))
set_option maxRecDepth 100000 in
theorem t28_2 (test : Bool → Prop → Prop → Prop) (Kst : KS) (Kret : KR) (ap np mp : Nat) (tp : Nat → Int) (vp : Nat → Int) (gp : Nat → Int) (wp : Nat → Int) (al nl ml : Nat) (tl : Nat → Int) (ev : Int) (ag ng mg : Nat) (tg : Nat → Int) (x0 : Int) (x1 : Int) (x2 : List Int) (x3 : List Int) : run test Try.env true (xM test) true 400 ⟨28, hd Try.f28 2, zipT [1, 2, 3, 4, 11, 16, 19, 47, 48, 49, 58, 59, 60, 77, 78, 79, 92, 93, 94] [PV.loose (PA.mk (1) (1) al (0)) nl, PV.int IntKind.i64 ev,
 PV.loose (PA.mk (2) (1) ag (0)) ng,
 PV.ptr (PA.mk (3) (0) (0) (0)), PV.unk,
 PV.own (5) (1) (List.length x3), PV.unk, PV.unk, PV.unk, PV.unk,
 PV.unk, PV.unk, PV.unk, PV.own (4) (1) (List.length x2),
 PV.int IntKind.i64 x0, PV.int IntKind.i64 x1, PV.unk, PV.unk, PV.unk], [[(3, (true, Blk.cells [PV.loose (PA.mk (0) (4) ap (0)) np])), (4, (true, Blk.cols (List.length x2) [Col.int IntKind.i64 fun (j : Nat) => S.at' x2 j])), (5, (true, Blk.cols (List.length x3) [Col.int IntKind.i64 fun (j : Nat) => S.at' x3 j]))], [(0, (false, .cols mp [.int .i64 tp, .int .i64 vp, .int .i64 gp, .int .i64 wp])), (1, (false, .cols ml [.int .i64 tl])), (2, (false, .cols mg [.int .i64 tg]))]], 6⟩ (proj 3 [1, 2, 3, 4, 11, 16, 19, 47, 48, 49, 58, 59, 60, 77, 78, 79, 92, 93, 94] Kst Kret) =
  T28_2 test Kst Kret ap np mp tp vp gp wp al nl ml tl ev ag ng mg tg x0 x1 x2 x3 := by kernel_rfl
noncomputable def T28_3 (test : Bool → Prop → Prop → Prop) (Kst : KS) (Kret : KR) (ap np mp : Nat) (tp : Nat → Int) (vp : Nat → Int) (gp : Nat → Int) (wp : Nat → Int) (al nl ml : Nat) (tl : Nat → Int) (ev : Int) (ag ng mg : Nat) (tg : Nat → Int) (x0 : Int) (x1 : Int) (x2 : Int) (x3 : Int) (x4 : Int) (x5 : List Int) (x6 : List Int) (x7 : List Int) : Prop :=
  test (decide (x4 < x3))
 (test (decide ((0 : Int) ≤ x4 ∧ x4 < (↑(List.length x6) : Int)))
 (test (decide (Int.toNat x4 < List.length x6))
 (test (decide ((0 : Int) ≤ S.at' x6 (Int.toNat x4) ∧ S.at' x6 (Int.toNat x4) < (↑np : Int)))
 (test (decide (Int.toNat (S.at' x6 (Int.toNat x4)) + ap < mp))
 (test (decide ((0 : Int) ≤ S.at' x6 (Int.toNat x4) ∧ S.at' x6 (Int.toNat x4) < (↑ng : Int)))
 (test (decide (Int.toNat (S.at' x6 (Int.toNat x4)) + ag < mg))
 (test (lim IntKind.i64
 (vp (Int.toNat (S.at' x6 (Int.toNat x4)) + ap) + tg (Int.toNat (S.at' x6 (Int.toNat x4)) + ag)))
 (test (lim IntKind.i64
 (x0 + (vp (Int.toNat (S.at' x6 (Int.toNat x4)) + ap) + tg (Int.toNat (S.at' x6 (Int.toNat x4)) + ag))))
 (test (lim IntKind.i64 (x4 + (1 : Int)))
 (Kst (hd Try.f28 3) ([PV.loose (PA.mk (1) (1) al (0)) nl, PV.int IntKind.i64 ev,
 PV.loose (PA.mk (2) (1) ag (0)) ng,
 PV.ptr (PA.mk (3) (0) (0) (0)), PV.unk,
 PV.own (6) (1) (List.length x7),
 PV.int IntKind.i64
 (x0 + (vp (Int.toNat (S.at' x6 (Int.toNat x4)) + ap) + tg (Int.toNat (S.at' x6 (Int.toNat x4)) + ag))),
 PV.unk, PV.unk, PV.unk, PV.unk, PV.unk, PV.unk,
 PV.own (4) (1) (List.length x5), PV.int IntKind.i64 x1, PV.int IntKind.i64 x2,
 PV.own (5) (1) (List.length x6), PV.int IntKind.i64 x3,
 PV.int IntKind.i64 (x4 + (1 : Int))]) ([[(2, false, Blk.cols mg [Col.int IntKind.i64 tg]),
 (1, false, Blk.cols ml [Col.int IntKind.i64 tl]),
 (0, false,
 Blk.cols mp
 [Col.int IntKind.i64 tp, Col.int IntKind.i64 vp, Col.int IntKind.i64 gp,
 Col.int IntKind.i64 wp]),
 (5, true,
 Blk.cols (List.length x6) [Col.int IntKind.i64 fun (j : Nat) => S.at' x6 j]),
 (4, true,
 Blk.cols (List.length x5) [Col.int IntKind.i64 fun (j : Nat) => S.at' x5 j]),
 (6, true,
 Blk.cols (List.length x7) [Col.int IntKind.i64 fun (j : Nat) => S.at' x7 j]),
 (3, true, Blk.cells [PV.loose (PA.mk (0) (4) ap (0)) np])]]) (7))
 (False))
 (False))
 (False))
 (False))
 (False))
 (False))
 (False))
 (False))
 (False))
 (test (decide (List.length x7 + 1 ≤ 1000000))
 (test (decide (List.length x7 ≤ List.length x7))
 (test (true)
 (test (lim IntKind.i64 (x2 + (1 : Int)))
 (Kst (hd Try.f28 2) ([PV.loose (PA.mk (1) (1) al (0)) nl, PV.int IntKind.i64 ev,
 PV.loose (PA.mk (2) (1) ag (0)) ng,
 PV.ptr (PA.mk (3) (0) (0) (0)), PV.unk,
 PV.own (8) (1) (List.length x7 + 1), PV.int IntKind.i64 x0, PV.unk,
 PV.unk, PV.unk, PV.unk, PV.unk, PV.unk,
 PV.own (4) (1) (List.length x5), PV.int IntKind.i64 x1,
 PV.int IntKind.i64 (x2 + (1 : Int)), PV.own (5) (1) (List.length x6),
 PV.int IntKind.i64 x3, PV.int IntKind.i64 x4]) ([[(2, false, Blk.cols mg [Col.int IntKind.i64 tg]),
 (1, false, Blk.cols ml [Col.int IntKind.i64 tl]),
 (0, false,
 Blk.cols mp
 [Col.int IntKind.i64 tp, Col.int IntKind.i64 vp, Col.int IntKind.i64 gp,
 Col.int IntKind.i64 wp]),
 (5, true,
 Blk.cols (List.length x6) [Col.int IntKind.i64 fun (j : Nat) => S.at' x6 j]),
 (4, true,
 Blk.cols (List.length x5) [Col.int IntKind.i64 fun (j : Nat) => S.at' x5 j]),
 (8, true,
 Blk.cols (List.length x7 + 1)
 [Col.int IntKind.i64 fun (j : Nat) => bif Nat.blt j (List.length x7) then S.at' x7 j else x0]),
 (3, true, Blk.cells [PV.loose (PA.mk (0) (4) ap (0)) np])]]) (9))
 (False))
 (False))
 (False))
 (False))
set_option maxRecDepth 100000 in
theorem t28_3 (test : Bool → Prop → Prop → Prop) (Kst : KS) (Kret : KR) (ap np mp : Nat) (tp : Nat → Int) (vp : Nat → Int) (gp : Nat → Int) (wp : Nat → Int) (al nl ml : Nat) (tl : Nat → Int) (ev : Int) (ag ng mg : Nat) (tg : Nat → Int) (x0 : Int) (x1 : Int) (x2 : Int) (x3 : Int) (x4 : Int) (x5 : List Int) (x6 : List Int) (x7 : List Int) : run test Try.env true (xM test) true 400 ⟨28, hd Try.f28 3, zipT [1, 2, 3, 4, 11, 16, 19, 47, 48, 49, 58, 59, 60, 77, 78, 79, 92, 93, 94] [PV.loose (PA.mk (1) (1) al (0)) nl, PV.int IntKind.i64 ev,
 PV.loose (PA.mk (2) (1) ag (0)) ng,
 PV.ptr (PA.mk (3) (0) (0) (0)), PV.unk,
 PV.own (6) (1) (List.length x7), PV.int IntKind.i64 x0, PV.unk, PV.unk,
 PV.unk, PV.unk, PV.unk, PV.unk, PV.own (4) (1) (List.length x5),
 PV.int IntKind.i64 x1, PV.int IntKind.i64 x2, PV.own (5) (1) (List.length x6),
 PV.int IntKind.i64 x3, PV.int IntKind.i64 x4], [[(3, (true, Blk.cells [PV.loose (PA.mk (0) (4) ap (0)) np])), (4, (true, Blk.cols (List.length x5) [Col.int IntKind.i64 fun (j : Nat) => S.at' x5 j])), (5, (true, Blk.cols (List.length x6) [Col.int IntKind.i64 fun (j : Nat) => S.at' x6 j])), (6, (true, Blk.cols (List.length x7) [Col.int IntKind.i64 fun (j : Nat) => S.at' x7 j]))], [(0, (false, .cols mp [.int .i64 tp, .int .i64 vp, .int .i64 gp, .int .i64 wp])), (1, (false, .cols ml [.int .i64 tl])), (2, (false, .cols mg [.int .i64 tg]))]], 7⟩ (proj 3 [1, 2, 3, 4, 11, 16, 19, 47, 48, 49, 58, 59, 60, 77, 78, 79, 92, 93, 94] Kst Kret) =
  T28_3 test Kst Kret ap np mp tp vp gp wp al nl ml tl ev ag ng mg tg x0 x1 x2 x3 x4 x5 x6 x7 := by kernel_rfl
set_option maxRecDepth 100000 in
theorem be28 (ap np mp : Nat) (tp : Nat → Int) (vp : Nat → Int) (gp : Nat → Int) (wp : Nat → Int) (al nl ml : Nat) (tl : Nat → Int) (ev : Int) (ag ng mg : Nat) (tg : Nat → Int) (Kst : KS) (Kret : KR) (x : St28 ⊕ Rt28) (hS : HS 3 400 ((I28 ap np mp tp vp gp wp al nl ml tl ev ag ng mg tg)) Kst x) (hR : HR 3 400 ((V28 ap np mp tp vp gp wp al nl ml tl ev ag ng mg tg)) (fun r => [newL (3 + 1) ((N28 ap np mp tp vp gp wp al nl ml tl ev ag ng mg tg) r) ++ [(0, (false, .cols mp [.int .i64 tp, .int .i64 vp, .int .i64 gp, .int .i64 wp])), (1, (false, .cols ml [.int .i64 tl])), (2, (false, .cols mg [.int .i64 tg]))]]) Kret x) (h : (bif (decide (ap + np ≤ mp ∧ np ≤ 1000000))
 then (bif ((S.treE np (fun (q : Nat) => tp (q + ap)) (fun (q : Nat) => vp (q + ap)) (fun (q : Nat) => gp (q + ap))
 fun (q : Nat) => wp (q + ap)) !=
 (0 : Int))
 then (some (.inr (S.treE np (fun (q : Nat) => tp (q + ap)) (fun (q : Nat) => vp (q + ap)) (fun (q : Nat) => gp (q + ap))
 fun (q : Nat) => wp (q + ap), [])))
 else (bif ((↑nl : Int) != (↑(List.length (S.leaL (fun (q : Nat) => tp (q + ap)) np)) : Int))
 then (some (.inr ((6 : Int), [])))
 else (bif ((↑ng : Int) != (↑np : Int))
 then (some (.inr ((6 : Int), [])))
 else (bif (decide (ev ≥ (0 : Int)))
 then (bif (decide (ev ≤ (1099511627776 : Int)))
 then (some (.inl (.h0 ((0 : Int)) (S.leaL (fun (q : Nat) => tp (q + ap)) np))))
 else (some (.inr ((6 : Int), []))))
 else (some (.inr ((6 : Int), [])))))))
 else (none) : Option (St28 ⊕ Rt28)) = some x) : Te28 cond Kst Kret ap np mp tp vp gp wp al nl ml tl ev ag ng mg tg := by
  unfold Te28
  exact bif_split h
   (fun c0 h => bif_split h
   (fun c1 h => ret_at hR _ h (fun n => bif Nat.beq n 4 then 399 else n) rfl rfl rfl (rn_tup ⟨(rn_own_nils rfl), (rn_int rfl), trivial⟩) rfl (entl_fresh (use_own rfl) (fresh_ok rfl) (entl_bor (use_lo rfl) rfl rfl (entl_bor (use_lo rfl) rfl rfl (entl_bor (use_lo rfl) rfl rfl entl_nil)))))
   (fun c1 h => cond_yes c0 (bif_split h
   (fun c2 h => ret_at hR _ h (fun n => bif Nat.beq n 4 then 399 else n) rfl rfl rfl (rn_tup ⟨(rn_own_nils rfl), (rn_int rfl), trivial⟩) rfl (entl_fresh (use_own rfl) (fresh_ok rfl) (entl_bor (use_lo rfl) rfl rfl (entl_bor (use_lo rfl) rfl rfl (entl_bor (use_lo rfl) rfl rfl entl_nil)))))
   (fun c2 h => bif_split h
   (fun c3 h => ret_at hR _ h (fun n => bif Nat.beq n 4 then 399 else n) rfl rfl rfl (rn_tup ⟨(rn_own_nils rfl), (rn_int rfl), trivial⟩) rfl (entl_fresh (use_own rfl) (fresh_ok rfl) (entl_bor (use_lo rfl) rfl rfl (entl_bor (use_lo rfl) rfl rfl (entl_bor (use_lo rfl) rfl rfl entl_nil)))))
   (fun c3 h => bif_split h
   (fun c4 h => bif_split h
   (fun c5 h => stop_at hS _ h (fun n => bif Nat.beq n 3 then 3 else bif Nat.beq n 4 then 6 else n) rfl rfl rfl ⟨(rn_loose (use_lo rfl) rfl rfl rfl), ⟨(rn_int rfl), ⟨(rn_loose (use_lo rfl) rfl rfl rfl), ⟨(rn_ptr (use_own rfl) rfl rfl), ⟨(rn_own (use_own rfl) rfl rfl), ⟨(rn_unk _), ⟨(rn_unk _), ⟨(rn_loose (use_lo rfl) rfl rfl rfl), ⟨(rn_int rfl), ⟨(rn_int rfl), ⟨(rn_unk _), ⟨(rn_unk _), ⟨(rn_unk _), ⟨(rn_unk _), ⟨(rn_unk _), ⟨(rn_unk _), ⟨(rn_unk _), ⟨(rn_unk _), ⟨(rn_unk _), trivial⟩⟩⟩⟩⟩⟩⟩⟩⟩⟩⟩⟩⟩⟩⟩⟩⟩⟩⟩ rfl (entl_b (use_own rfl) rfl (by simp) (rb_cells ⟨(rn_loose (use_lo rfl) rfl rfl rfl), trivial⟩) (entl_new (use_own rfl) rfl (Nat.le_of_eq rfl) (rcs_int (fun _ _ => rfl) rcs_nil) (entl_bor (use_lo rfl) rfl rfl (entl_bor (use_lo rfl) rfl rfl (entl_bor (use_lo rfl) rfl rfl entl_nil))))))
   (fun c5 h => ret_at hR _ h (fun n => bif Nat.beq n 4 then 399 else n) rfl rfl rfl (rn_tup ⟨(rn_own_nils rfl), (rn_int rfl), trivial⟩) rfl (entl_fresh (use_own rfl) (fresh_ok rfl) (entl_bor (use_lo rfl) rfl rfl (entl_bor (use_lo rfl) rfl rfl (entl_bor (use_lo rfl) rfl rfl entl_nil))))))
   (fun c4 h => ret_at hR _ h (fun n => bif Nat.beq n 4 then 399 else n) rfl rfl rfl (rn_tup ⟨(rn_own_nils rfl), (rn_int rfl), trivial⟩) rfl (entl_fresh (use_own rfl) (fresh_ok rfl) (entl_bor (use_lo rfl) rfl rfl (entl_bor (use_lo rfl) rfl rfl (entl_bor (use_lo rfl) rfl rfl entl_nil))))))))))
   (fun c0 h => no_some h)
set_option maxRecDepth 100000 in
theorem b28_0 (ap np mp : Nat) (tp : Nat → Int) (vp : Nat → Int) (gp : Nat → Int) (wp : Nat → Int) (al nl ml : Nat) (tl : Nat → Int) (ev : Int) (ag ng mg : Nat) (tg : Nat → Int) (Kst : KS) (Kret : KR) (x : St28 ⊕ Rt28) (hS : HS 3 400 ((I28 ap np mp tp vp gp wp al nl ml tl ev ag ng mg tg)) Kst x) (hR : HR 3 400 ((V28 ap np mp tp vp gp wp al nl ml tl ev ag ng mg tg)) (fun r => [newL (3 + 1) ((N28 ap np mp tp vp gp wp al nl ml tl ev ag ng mg tg) r) ++ [(0, (false, .cols mp [.int .i64 tp, .int .i64 vp, .int .i64 gp, .int .i64 wp])), (1, (false, .cols ml [.int .i64 tl])), (2, (false, .cols mg [.int .i64 tg]))]]) Kret x) (x0 : Int) (x1 : List Int) (h : (bif (decide (x0 < (↑nl : Int)))
 then (bif (decide ((0 : Int) ≤ x0 ∧ x0 < (↑nl : Int)))
 then (bif (decide (Int.toNat x0 + al < ml))
 then (bif (decide (tl (Int.toNat x0 + al) ≥ (0 : Int)))
 then (bif (decide (tl (Int.toNat x0 + al) ≤ (1000000000 : Int)))
 then (bif (lim IntKind.i64 (x0 + (1 : Int)))
 then (some (.inl (.h0 (x0 + (1 : Int)) (x1))))
 else (none))
 else (some (.inr ((6 : Int), []))))
 else (some (.inr ((6 : Int), []))))
 else (none))
 else (none))
 else (some (.inl (.h1 ((0 : Int)) (x1)))) : Option (St28 ⊕ Rt28)) = some x) : T28_0 cond Kst Kret ap np mp tp vp gp wp al nl ml tl ev ag ng mg tg x0 x1 := by
  unfold T28_0
  exact bif_split h
   (fun c0 h => bif_split h
   (fun c1 h => bif_split h
   (fun c2 h => bif_split h
   (fun c3 h => bif_split h
   (fun c4 h => bif_split h
   (fun c5 h => stop_at hS _ h (fun n => bif Nat.beq n 3 then 3 else bif Nat.beq n 4 then 4 else n) rfl rfl rfl ⟨(rn_loose (use_lo rfl) rfl rfl rfl), ⟨(rn_int rfl), ⟨(rn_loose (use_lo rfl) rfl rfl rfl), ⟨(rn_ptr (use_own rfl) rfl rfl), ⟨(rn_own (use_own rfl) rfl rfl), ⟨(rn_unk _), ⟨(rn_unk _), ⟨(rn_loose (use_lo rfl) rfl rfl rfl), ⟨(rn_int rfl), ⟨(rn_int rfl), ⟨(rn_unk _), ⟨(rn_unk _), ⟨(rn_unk _), ⟨(rn_unk _), ⟨(rn_unk _), ⟨(rn_unk _), ⟨(rn_unk _), ⟨(rn_unk _), ⟨(rn_unk _), trivial⟩⟩⟩⟩⟩⟩⟩⟩⟩⟩⟩⟩⟩⟩⟩⟩⟩⟩⟩ rfl (entl_b (use_own rfl) rfl (by simp) (rb_cells ⟨(rn_loose (use_lo rfl) rfl rfl rfl), trivial⟩) (entl_new (use_own rfl) rfl (Nat.le_of_eq rfl) (rcs_int (fun _ _ => rfl) rcs_nil) (entl_bor (use_lo rfl) rfl rfl (entl_bor (use_lo rfl) rfl rfl (entl_bor (use_lo rfl) rfl rfl entl_nil))))))
   (fun c5 h => no_some h))
   (fun c4 h => ret_at hR _ h (fun n => bif Nat.beq n 4 then 399 else n) rfl rfl rfl (rn_tup ⟨(rn_own_nils rfl), (rn_int rfl), trivial⟩) rfl (entl_fresh (use_own rfl) (fresh_ok rfl) (entl_bor (use_lo rfl) rfl rfl (entl_bor (use_lo rfl) rfl rfl (entl_bor (use_lo rfl) rfl rfl entl_nil))))))
   (fun c3 h => ret_at hR _ h (fun n => bif Nat.beq n 4 then 399 else n) rfl rfl rfl (rn_tup ⟨(rn_own_nils rfl), (rn_int rfl), trivial⟩) rfl (entl_fresh (use_own rfl) (fresh_ok rfl) (entl_bor (use_lo rfl) rfl rfl (entl_bor (use_lo rfl) rfl rfl (entl_bor (use_lo rfl) rfl rfl entl_nil))))))
   (fun c2 h => no_some h))
   (fun c1 h => no_some h))
   (fun c0 h => stop_at hS _ h (fun n => bif Nat.beq n 3 then 3 else bif Nat.beq n 4 then 4 else n) rfl rfl rfl ⟨(rn_loose (use_lo rfl) rfl rfl rfl), ⟨(rn_int rfl), ⟨(rn_loose (use_lo rfl) rfl rfl rfl), ⟨(rn_ptr (use_own rfl) rfl rfl), ⟨(rn_own (use_own rfl) rfl rfl), ⟨(rn_unk _), ⟨(rn_unk _), ⟨(rn_unk _), ⟨(rn_unk _), ⟨(rn_unk _), ⟨(rn_loose (use_lo rfl) rfl rfl rfl), ⟨(rn_int rfl), ⟨(rn_int rfl), ⟨(rn_unk _), ⟨(rn_unk _), ⟨(rn_unk _), ⟨(rn_unk _), ⟨(rn_unk _), ⟨(rn_unk _), trivial⟩⟩⟩⟩⟩⟩⟩⟩⟩⟩⟩⟩⟩⟩⟩⟩⟩⟩⟩ rfl (entl_b (use_own rfl) rfl (by simp) (rb_cells ⟨(rn_loose (use_lo rfl) rfl rfl rfl), trivial⟩) (entl_new (use_own rfl) rfl (Nat.le_of_eq rfl) (rcs_int (fun _ _ => rfl) rcs_nil) (entl_bor (use_lo rfl) rfl rfl (entl_bor (use_lo rfl) rfl rfl (entl_bor (use_lo rfl) rfl rfl entl_nil))))))
set_option maxRecDepth 100000 in
theorem b28_1 (ap np mp : Nat) (tp : Nat → Int) (vp : Nat → Int) (gp : Nat → Int) (wp : Nat → Int) (al nl ml : Nat) (tl : Nat → Int) (ev : Int) (ag ng mg : Nat) (tg : Nat → Int) (Kst : KS) (Kret : KR) (x : St28 ⊕ Rt28) (hS : HS 3 400 ((I28 ap np mp tp vp gp wp al nl ml tl ev ag ng mg tg)) Kst x) (hR : HR 3 400 ((V28 ap np mp tp vp gp wp al nl ml tl ev ag ng mg tg)) (fun r => [newL (3 + 1) ((N28 ap np mp tp vp gp wp al nl ml tl ev ag ng mg tg) r) ++ [(0, (false, .cols mp [.int .i64 tp, .int .i64 vp, .int .i64 gp, .int .i64 wp])), (1, (false, .cols ml [.int .i64 tl])), (2, (false, .cols mg [.int .i64 tg]))]]) Kret x) (x0 : Int) (x1 : List Int) (h : (bif (decide (x0 < (↑np : Int)))
 then (bif (decide ((0 : Int) ≤ x0 ∧ x0 < (↑np : Int)))
 then (bif (decide (Int.toNat x0 + ap < mp))
 then (bif (decide ((0 : Int) ≤ x0 ∧ x0 < (↑ng : Int)))
 then (bif (decide (Int.toNat x0 + ag < mg))
 then (bif (lim IntKind.i64 (-wp (Int.toNat x0 + ap)))
 then (bif (decide (tg (Int.toNat x0 + ag) ≥ -wp (Int.toNat x0 + ap)))
 then (bif (decide (tg (Int.toNat x0 + ag) ≤ wp (Int.toNat x0 + ap)))
 then (bif (lim IntKind.i64 (x0 + (1 : Int)))
 then (some (.inl (.h1 (x0 + (1 : Int)) (x1))))
 else (none))
 else (some (.inr ((6 : Int), []))))
 else (some (.inr ((6 : Int), []))))
 else (none))
 else (none))
 else (none))
 else (none))
 else (none))
 else (some (.inl (.h2 ((↑(List.length x1) : Int)) ((0 : Int)) (x1) ([])))) : Option (St28 ⊕ Rt28)) = some x) : T28_1 cond Kst Kret ap np mp tp vp gp wp al nl ml tl ev ag ng mg tg x0 x1 := by
  unfold T28_1
  exact bif_split h
   (fun c0 h => bif_split h
   (fun c1 h => bif_split h
   (fun c2 h => cond_yes c2 (cond_yes c2 (cond_yes c2 (bif_split h
   (fun c3 h => bif_split h
   (fun c4 h => bif_split h
   (fun c5 h => bif_split h
   (fun c6 h => bif_split h
   (fun c7 h => bif_split h
   (fun c8 h => stop_at hS _ h (fun n => bif Nat.beq n 3 then 3 else bif Nat.beq n 4 then 4 else n) rfl rfl rfl ⟨(rn_loose (use_lo rfl) rfl rfl rfl), ⟨(rn_int rfl), ⟨(rn_loose (use_lo rfl) rfl rfl rfl), ⟨(rn_ptr (use_own rfl) rfl rfl), ⟨(rn_own (use_own rfl) rfl rfl), ⟨(rn_unk _), ⟨(rn_unk _), ⟨(rn_unk _), ⟨(rn_unk _), ⟨(rn_unk _), ⟨(rn_loose (use_lo rfl) rfl rfl rfl), ⟨(rn_int rfl), ⟨(rn_int rfl), ⟨(rn_unk _), ⟨(rn_unk _), ⟨(rn_unk _), ⟨(rn_unk _), ⟨(rn_unk _), ⟨(rn_unk _), trivial⟩⟩⟩⟩⟩⟩⟩⟩⟩⟩⟩⟩⟩⟩⟩⟩⟩⟩⟩ rfl (entl_b (use_own rfl) rfl (by simp) (rb_cells ⟨(rn_loose (use_lo rfl) rfl rfl rfl), trivial⟩) (entl_new (use_own rfl) rfl (Nat.le_of_eq rfl) (rcs_int (fun _ _ => rfl) rcs_nil) (entl_bor (use_lo rfl) rfl rfl (entl_bor (use_lo rfl) rfl rfl (entl_bor (use_lo rfl) rfl rfl entl_nil))))))
   (fun c8 h => no_some h))
   (fun c7 h => ret_at hR _ h (fun n => bif Nat.beq n 4 then 399 else n) rfl rfl rfl (rn_tup ⟨(rn_own_nils rfl), (rn_int rfl), trivial⟩) rfl (entl_fresh (use_own rfl) (fresh_ok rfl) (entl_bor (use_lo rfl) rfl rfl (entl_bor (use_lo rfl) rfl rfl (entl_bor (use_lo rfl) rfl rfl entl_nil))))))
   (fun c6 h => ret_at hR _ h (fun n => bif Nat.beq n 4 then 399 else n) rfl rfl rfl (rn_tup ⟨(rn_own_nils rfl), (rn_int rfl), trivial⟩) rfl (entl_fresh (use_own rfl) (fresh_ok rfl) (entl_bor (use_lo rfl) rfl rfl (entl_bor (use_lo rfl) rfl rfl (entl_bor (use_lo rfl) rfl rfl entl_nil))))))
   (fun c5 h => no_some h))
   (fun c4 h => no_some h))
   (fun c3 h => no_some h)))))
   (fun c2 h => no_some h))
   (fun c1 h => no_some h))
   (fun c0 h => stop_at hS _ h (fun n => bif Nat.beq n 3 then 3 else bif Nat.beq n 4 then 4 else bif Nat.beq n 5 then 399 else n) rfl rfl rfl ⟨(rn_loose (use_lo rfl) rfl rfl rfl), ⟨(rn_int rfl), ⟨(rn_loose (use_lo rfl) rfl rfl rfl), ⟨(rn_ptr (use_own rfl) rfl rfl), ⟨(rn_unk _), ⟨(rn_own_nils rfl), ⟨(rn_unk _), ⟨(rn_unk _), ⟨(rn_unk _), ⟨(rn_unk _), ⟨(rn_unk _), ⟨(rn_unk _), ⟨(rn_unk _), ⟨(rn_own (use_own rfl) rfl rfl), ⟨(rn_int rfl), ⟨(rn_int rfl), ⟨(rn_unk _), ⟨(rn_unk _), ⟨(rn_unk _), trivial⟩⟩⟩⟩⟩⟩⟩⟩⟩⟩⟩⟩⟩⟩⟩⟩⟩⟩⟩ rfl (entl_b (use_own rfl) rfl (by simp) (rb_cells ⟨(rn_loose (use_lo rfl) rfl rfl rfl), trivial⟩) (entl_new (use_own rfl) rfl (Nat.le_of_eq rfl) (rcs_int (fun _ _ => rfl) rcs_nil) (entl_fresh (use_own rfl) (fresh_ok rfl) (entl_bor (use_lo rfl) rfl rfl (entl_bor (use_lo rfl) rfl rfl (entl_bor (use_lo rfl) rfl rfl entl_nil)))))))
set_option maxRecDepth 100000 in
theorem b28_2 (ap np mp : Nat) (tp : Nat → Int) (vp : Nat → Int) (gp : Nat → Int) (wp : Nat → Int) (al nl ml : Nat) (tl : Nat → Int) (ev : Int) (ag ng mg : Nat) (tg : Nat → Int) (Kst : KS) (Kret : KR) (x : St28 ⊕ Rt28) (hS : HS 3 400 ((I28 ap np mp tp vp gp wp al nl ml tl ev ag ng mg tg)) Kst x) (hR : HR 3 400 ((V28 ap np mp tp vp gp wp al nl ml tl ev ag ng mg tg)) (fun r => [newL (3 + 1) ((N28 ap np mp tp vp gp wp al nl ml tl ev ag ng mg tg) r) ++ [(0, (false, .cols mp [.int .i64 tp, .int .i64 vp, .int .i64 gp, .int .i64 wp])), (1, (false, .cols ml [.int .i64 tl])), (2, (false, .cols mg [.int .i64 tg]))]]) Kret x) (x0 : Int) (x1 : Int) (x2 : List Int) (x3 : List Int) (h : (bif (decide (x1 < x0))
 then (bif (decide ((0 : Int) ≤ x1 ∧ x1 < (↑(List.length x2) : Int)))
 then (bif (decide (Int.toNat x1 < List.length x2))
 then (bif (decide ((0 : Int) ≤ x1 ∧ x1 < (↑nl : Int)))
 then (bif (decide (Int.toNat x1 + al < ml))
 then (bif (lim IntKind.i64 (ev + tl (Int.toNat x1 + al)))
 then (bif (decide
 (ap + np ≤ mp ∧
 np ≤ 1000000 ∧
 (S.treE np (fun (q : Nat) => tp (q + ap)) (fun (q : Nat) => vp (q + ap)) (fun (q : Nat) => gp (q + ap))
 fun (q : Nat) => wp (q + ap)) =
 (0 : Int) ∧
 (0 : Int) ≤ S.at' x2 (Int.toNat x1) ∧ S.at' x2 (Int.toNat x1) < (↑np : Int)))
 then (some (.inl (.h3 (ev + tl (Int.toNat x1 + al)) (x0) (x1) ((↑(List.length (S.pathL (fun (q : Nat) => tp (q + ap)) (Int.toNat (S.at' x2 (Int.toNat x1))) [])) : Int)) ((0 : Int)) (x2) (S.pathL (fun (q : Nat) => tp (q + ap)) (Int.toNat (S.at' x2 (Int.toNat x1))) []) (x3))))
 else (none))
 else (none))
 else (none))
 else (none))
 else (none))
 else (none))
 else (some (.inr ((0 : Int), x3))) : Option (St28 ⊕ Rt28)) = some x) : T28_2 cond Kst Kret ap np mp tp vp gp wp al nl ml tl ev ag ng mg tg x0 x1 x2 x3 := by
  unfold T28_2
  exact bif_split h
   (fun c0 h => bif_split h
   (fun c1 h => bif_split h
   (fun c2 h => bif_split h
   (fun c3 h => bif_split h
   (fun c4 h => bif_split h
   (fun c5 h => bif_split h
   (fun c6 h => stop_at hS _ h (fun n => bif Nat.beq n 3 then 3 else bif Nat.beq n 4 then 4 else bif Nat.beq n 5 then 7 else bif Nat.beq n 6 then 5 else n) rfl rfl rfl ⟨(rn_loose (use_lo rfl) rfl rfl rfl), ⟨(rn_int rfl), ⟨(rn_loose (use_lo rfl) rfl rfl rfl), ⟨(rn_ptr (use_own rfl) rfl rfl), ⟨(rn_unk _), ⟨(rn_own (use_own rfl) rfl rfl), ⟨(rn_int rfl), ⟨(rn_unk _), ⟨(rn_unk _), ⟨(rn_unk _), ⟨(rn_unk _), ⟨(rn_unk _), ⟨(rn_unk _), ⟨(rn_own (use_own rfl) rfl rfl), ⟨(rn_int rfl), ⟨(rn_int rfl), ⟨(rn_own (use_own rfl) rfl rfl), ⟨(rn_int rfl), ⟨(rn_int rfl), trivial⟩⟩⟩⟩⟩⟩⟩⟩⟩⟩⟩⟩⟩⟩⟩⟩⟩⟩⟩ rfl (entl_b (use_own rfl) rfl (by simp) (rb_cells ⟨(rn_loose (use_lo rfl) rfl rfl rfl), trivial⟩) (entl_new (use_own rfl) rfl (Nat.le_of_eq rfl) (rcs_int (fun _ _ => rfl) rcs_nil) (entl_new (use_own rfl) rfl (Nat.le_of_eq rfl) (rcs_int (fun _ _ => rfl) rcs_nil) (entl_new (use_own rfl) rfl (Nat.le_of_eq rfl) (rcs_int (fun _ _ => rfl) rcs_nil) (entl_bor (use_lo rfl) rfl rfl (entl_bor (use_lo rfl) rfl rfl (entl_bor (use_lo rfl) rfl rfl entl_nil))))))))
   (fun c6 h => no_some h))
   (fun c5 h => no_some h))
   (fun c4 h => no_some h))
   (fun c3 h => no_some h))
   (fun c2 h => no_some h))
   (fun c1 h => no_some h))
   (fun c0 h => ret_at hR _ h (fun n => bif Nat.beq n 4 then 5 else n) rfl rfl rfl (rn_tup ⟨(rn_own (use_own rfl) rfl rfl), (rn_int rfl), trivial⟩) rfl (entl_new (use_own rfl) rfl (Nat.le_of_eq rfl) (rcs_int (fun _ _ => rfl) rcs_nil) (entl_bor (use_lo rfl) rfl rfl (entl_bor (use_lo rfl) rfl rfl (entl_bor (use_lo rfl) rfl rfl entl_nil)))))
set_option maxRecDepth 100000 in
theorem b28_3 (ap np mp : Nat) (tp : Nat → Int) (vp : Nat → Int) (gp : Nat → Int) (wp : Nat → Int) (al nl ml : Nat) (tl : Nat → Int) (ev : Int) (ag ng mg : Nat) (tg : Nat → Int) (Kst : KS) (Kret : KR) (x : St28 ⊕ Rt28) (hS : HS 3 400 ((I28 ap np mp tp vp gp wp al nl ml tl ev ag ng mg tg)) Kst x) (hR : HR 3 400 ((V28 ap np mp tp vp gp wp al nl ml tl ev ag ng mg tg)) (fun r => [newL (3 + 1) ((N28 ap np mp tp vp gp wp al nl ml tl ev ag ng mg tg) r) ++ [(0, (false, .cols mp [.int .i64 tp, .int .i64 vp, .int .i64 gp, .int .i64 wp])), (1, (false, .cols ml [.int .i64 tl])), (2, (false, .cols mg [.int .i64 tg]))]]) Kret x) (x0 : Int) (x1 : Int) (x2 : Int) (x3 : Int) (x4 : Int) (x5 : List Int) (x6 : List Int) (x7 : List Int) (h : (bif (decide (x4 < x3))
 then (bif (decide ((0 : Int) ≤ x4 ∧ x4 < (↑(List.length x6) : Int)))
 then (bif (decide (Int.toNat x4 < List.length x6))
 then (bif (decide ((0 : Int) ≤ S.at' x6 (Int.toNat x4) ∧ S.at' x6 (Int.toNat x4) < (↑np : Int)))
 then (bif (decide (Int.toNat (S.at' x6 (Int.toNat x4)) + ap < mp))
 then (bif (decide ((0 : Int) ≤ S.at' x6 (Int.toNat x4) ∧ S.at' x6 (Int.toNat x4) < (↑ng : Int)))
 then (bif (decide (Int.toNat (S.at' x6 (Int.toNat x4)) + ag < mg))
 then (bif (lim IntKind.i64
 (vp (Int.toNat (S.at' x6 (Int.toNat x4)) + ap) + tg (Int.toNat (S.at' x6 (Int.toNat x4)) + ag)))
 then (bif (lim IntKind.i64
 (x0 + (vp (Int.toNat (S.at' x6 (Int.toNat x4)) + ap) + tg (Int.toNat (S.at' x6 (Int.toNat x4)) + ag))))
 then (bif (lim IntKind.i64 (x4 + (1 : Int)))
 then (some (.inl (.h3 (x0 + (vp (Int.toNat (S.at' x6 (Int.toNat x4)) + ap) + tg (Int.toNat (S.at' x6 (Int.toNat x4)) + ag))) (x1) (x2) (x3) (x4 + (1 : Int)) (x5) (x6) (x7))))
 else (none))
 else (none))
 else (none))
 else (none))
 else (none))
 else (none))
 else (none))
 else (none))
 else (none))
 else (bif (decide (List.length x7 + 1 ≤ 1000000))
 then (bif (decide (List.length x7 ≤ List.length x7))
 then (bif (lim IntKind.i64 (x2 + (1 : Int)))
 then (some (.inl (.h2 (x1) (x2 + (1 : Int)) (x5) (S.snoc x7 x0))))
 else (none))
 else (none))
 else (none)) : Option (St28 ⊕ Rt28)) = some x) : T28_3 cond Kst Kret ap np mp tp vp gp wp al nl ml tl ev ag ng mg tg x0 x1 x2 x3 x4 x5 x6 x7 := by
  unfold T28_3
  exact bif_split h
   (fun c0 h => bif_split h
   (fun c1 h => bif_split h
   (fun c2 h => bif_split h
   (fun c3 h => bif_split h
   (fun c4 h => bif_split h
   (fun c5 h => bif_split h
   (fun c6 h => bif_split h
   (fun c7 h => bif_split h
   (fun c8 h => bif_split h
   (fun c9 h => stop_at hS _ h (fun n => bif Nat.beq n 3 then 3 else bif Nat.beq n 4 then 4 else bif Nat.beq n 5 then 5 else bif Nat.beq n 6 then 6 else n) rfl rfl rfl ⟨(rn_loose (use_lo rfl) rfl rfl rfl), ⟨(rn_int rfl), ⟨(rn_loose (use_lo rfl) rfl rfl rfl), ⟨(rn_ptr (use_own rfl) rfl rfl), ⟨(rn_unk _), ⟨(rn_own (use_own rfl) rfl rfl), ⟨(rn_int rfl), ⟨(rn_unk _), ⟨(rn_unk _), ⟨(rn_unk _), ⟨(rn_unk _), ⟨(rn_unk _), ⟨(rn_unk _), ⟨(rn_own (use_own rfl) rfl rfl), ⟨(rn_int rfl), ⟨(rn_int rfl), ⟨(rn_own (use_own rfl) rfl rfl), ⟨(rn_int rfl), ⟨(rn_int rfl), trivial⟩⟩⟩⟩⟩⟩⟩⟩⟩⟩⟩⟩⟩⟩⟩⟩⟩⟩⟩ rfl (entl_b (use_own rfl) rfl (by simp) (rb_cells ⟨(rn_loose (use_lo rfl) rfl rfl rfl), trivial⟩) (entl_new (use_own rfl) rfl (Nat.le_of_eq rfl) (rcs_int (fun _ _ => rfl) rcs_nil) (entl_new (use_own rfl) rfl (Nat.le_of_eq rfl) (rcs_int (fun _ _ => rfl) rcs_nil) (entl_new (use_own rfl) rfl (Nat.le_of_eq rfl) (rcs_int (fun _ _ => rfl) rcs_nil) (entl_bor (use_lo rfl) rfl rfl (entl_bor (use_lo rfl) rfl rfl (entl_bor (use_lo rfl) rfl rfl entl_nil))))))))
   (fun c9 h => no_some h))
   (fun c8 h => no_some h))
   (fun c7 h => no_some h))
   (fun c6 h => no_some h))
   (fun c5 h => no_some h))
   (fun c4 h => no_some h))
   (fun c3 h => no_some h))
   (fun c2 h => no_some h))
   (fun c1 h => no_some h))
   (fun c0 h => bif_split h
   (fun c1 h => bif_split h
   (fun c2 h => cond_yes rfl (bif_split h
   (fun c3 h => stop_at hS _ h (fun n => bif Nat.beq n 3 then 3 else bif Nat.beq n 4 then 4 else bif Nat.beq n 5 then 8 else n) rfl rfl rfl ⟨(rn_loose (use_lo rfl) rfl rfl rfl), ⟨(rn_int rfl), ⟨(rn_loose (use_lo rfl) rfl rfl rfl), ⟨(rn_ptr (use_own rfl) rfl rfl), ⟨(rn_unk _), ⟨(rn_own (use_own rfl) rfl (snoc_len' rfl)), ⟨(rn_unk _), ⟨(rn_unk _), ⟨(rn_unk _), ⟨(rn_unk _), ⟨(rn_unk _), ⟨(rn_unk _), ⟨(rn_unk _), ⟨(rn_own (use_own rfl) rfl rfl), ⟨(rn_int rfl), ⟨(rn_int rfl), ⟨(rn_unk _), ⟨(rn_unk _), ⟨(rn_unk _), trivial⟩⟩⟩⟩⟩⟩⟩⟩⟩⟩⟩⟩⟩⟩⟩⟩⟩⟩⟩ rfl (entl_b (use_own rfl) rfl (by simp) (rb_cells ⟨(rn_loose (use_lo rfl) rfl rfl rfl), trivial⟩) (entl_new (use_own rfl) rfl (Nat.le_of_eq rfl) (rcs_int (fun _ _ => rfl) rcs_nil) (entl_new (use_own rfl) rfl (Nat.le_of_eq (snoc_len' rfl)) (rcs_int (col_snoc' (fun (t : Int) => t) rfl (fun _ _ => rfl)) rcs_nil) (entl_bor (use_lo rfl) rfl rfl (entl_bor (use_lo rfl) rfl rfl (entl_bor (use_lo rfl) rfl rfl entl_nil)))))))
   (fun c3 h => no_some h)))
   (fun c2 h => no_some h))
   (fun c1 h => no_some h))
theorem a28 (ap np mp : Nat) (tp : Nat → Int) (vp : Nat → Int) (gp : Nat → Int) (wp : Nat → Int) (al nl ml : Nat) (tl : Nat → Int) (ev : Int) (ag ng mg : Nat) (tg : Nat → Int) {r : Rt28} (h : Goes ((q28 ap np mp tp vp gp wp al nl ml tl ev ag ng mg tg)) ((p28 ap np mp tp vp gp wp al nl ml tl ev ag ng mg tg)) r) : CallR Try.prog 28 [.agg [.loose ⟨0, 4, ap, 0⟩ np], .loose ⟨1, 1, al, 0⟩ nl, .int .i64 ev, .loose ⟨2, 1, ag, 0⟩ ng] [[(0, (false, .cols mp [.int .i64 tp, .int .i64 vp, .int .i64 gp, .int .i64 wp])), (1, (false, .cols ml [.int .i64 tl])), (2, (false, .cols mg [.int .i64 tg]))]] 3 ((V28 ap np mp tp vp gp wp al nl ml tl ev ag ng mg tg) r) ((fun r => [newL (3 + 1) ((N28 ap np mp tp vp gp wp al nl ml tl ev ag ng mg tg) r) ++ [(0, (false, .cols mp [.int .i64 tp, .int .i64 vp, .int .i64 gp, .int .i64 wp])), (1, (false, .cols ml [.int .i64 tl])), (2, (false, .cols mg [.int .i64 tg]))]]) r) 400 ∧ ∃ F, Try.prog.funcs[28]? = some F ∧ F.body.isSome = true ∧ (F.name == "runtime.NumGoroutine") = false := by
  refine dec_calls (f := 28) (lo := 3) (hi := 400) (H := [[(0, (false, .cols mp [.int .i64 tp, .int .i64 vp, .int .i64 gp, .int .i64 wp])), (1, (false, .cols ml [.int .i64 tl])), (2, (false, .cols mg [.int .i64 tg]))]]) (args := [.agg [.loose ⟨0, 4, ap, 0⟩ np], .loose ⟨1, 1, al, 0⟩ nl, .int .i64 ev, .loose ⟨2, 1, ag, 0⟩ ng]) Try.envOk Try.mixed xM_ok ((I28 ap np mp tp vp gp wp al nl ml tl ev ag ng mg tg)) ((V28 ap np mp tp vp gp wp al nl ml tl ev ag ng mg tg)) (fun r => [newL (3 + 1) ((N28 ap np mp tp vp gp wp al nl ml tl ev ag ng mg tg) r) ++ [(0, (false, .cols mp [.int .i64 tp, .int .i64 vp, .int .i64 gp, .int .i64 wp])), (1, (false, .cols ml [.int .i64 tl])), (2, (false, .cols mg [.int .i64 tg]))]]) (fn := mkFn Try.f28) (ts := [1, 2, 3, 4, 11, 16, 19, 47, 48, 49, 58, 59, 60, 77, 78, 79, 92, 93, 94]) (n := 400) rfl (by decide) (by simp) (names_of rfl) ?_ ?_ ?_ h
  · intro s; cases s <;> exact ⟨hd_ok _ _, by simp [I28], names_of rfl, Nat.le_of_ble_eq_true rfl⟩
  · intro Kst Kret x hS hR h
    exact Holds.eq (te28 cond Kst Kret ap np mp tp vp gp wp al nl ml tl ev ag ng mg tg) (be28 ap np mp tp vp gp wp al nl ml tl ev ag ng mg tg Kst Kret x hS hR h)
  · intro Kst Kret x hS hR s h
    cases s with
    | h0 x0 x1 => exact Holds.eq (t28_0 cond Kst Kret ap np mp tp vp gp wp al nl ml tl ev ag ng mg tg x0 x1) (b28_0 ap np mp tp vp gp wp al nl ml tl ev ag ng mg tg Kst Kret x hS hR x0 x1 h)
    | h1 x0 x1 => exact Holds.eq (t28_1 cond Kst Kret ap np mp tp vp gp wp al nl ml tl ev ag ng mg tg x0 x1) (b28_1 ap np mp tp vp gp wp al nl ml tl ev ag ng mg tg Kst Kret x hS hR x0 x1 h)
    | h2 x0 x1 x2 x3 => exact Holds.eq (t28_2 cond Kst Kret ap np mp tp vp gp wp al nl ml tl ev ag ng mg tg x0 x1 x2 x3) (b28_2 ap np mp tp vp gp wp al nl ml tl ev ag ng mg tg Kst Kret x hS hR x0 x1 x2 x3 h)
    | h3 x0 x1 x2 x3 x4 x5 x6 x7 => exact Holds.eq (t28_3 cond Kst Kret ap np mp tp vp gp wp al nl ml tl ev ag ng mg tg x0 x1 x2 x3 x4 x5 x6 x7) (b28_3 ap np mp tp vp gp wp al nl ml tl ev ag ng mg tg Kst Kret x hS hR x0 x1 x2 x3 x4 x5 x6 x7 h)
noncomputable def k28 : Con := ⟨28, [.agg [.list [.int .i64, .int .i64, .int .i64, .int .i64]], .one (.list [.int .i64]), .one (.plain (.int .i64)), .one (.list [.int .i64])], fun (x : ((Nat × Nat × Nat × (Nat → Int) × (Nat → Int) × (Nat → Int) × (Nat → Int) × Unit) × Unit) × (Nat × Nat × Nat × (Nat → Int) × Unit) × Int × (Nat × Nat × Nat × (Nat → Int) × Unit) × Unit) => (fun (ap np mp : Nat) (tp : Nat → Int) (vp : Nat → Int) (gp : Nat → Int) (wp : Nat → Int) (al nl ml : Nat) (tl : Nat → Int) (ev : Int) (ag ng mg : Nat) (tg : Nat → Int) => decide (ap + np ≤ mp ∧ np ≤ 1000000 ∧ al + nl ≤ ml ∧ nl ≤ 1000000 ∧ ag + ng ≤ mg ∧ ng ≤ 1000000)) x.1.1.1 x.1.1.2.1 x.1.1.2.2.1 x.1.1.2.2.2.1 x.1.1.2.2.2.2.1 x.1.1.2.2.2.2.2.1 x.1.1.2.2.2.2.2.2.1 x.2.1.1 x.2.1.2.1 x.2.1.2.2.1 x.2.1.2.2.2.1 x.2.2.1 x.2.2.2.1.1 x.2.2.2.1.2.1 x.2.2.2.1.2.2.1 x.2.2.2.1.2.2.2.1, fun (x : ((Nat × Nat × Nat × (Nat → Int) × (Nat → Int) × (Nat → Int) × (Nat → Int) × Unit) × Unit) × (Nat × Nat × Nat × (Nat → Int) × Unit) × Int × (Nat × Nat × Nat × (Nat → Int) × Unit) × Unit) => (fun (ap np mp : Nat) (tp : Nat → Int) (vp : Nat → Int) (gp : Nat → Int) (wp : Nat → Int) (al nl ml : Nat) (tl : Nat → Int) (ev : Int) (ag ng mg : Nat) (tg : Nat → Int) => (V28 ap np mp tp vp gp wp al nl ml tl ev ag ng mg tg) (S.actS np (fun q => tp (q + ap)) (fun q => vp (q + ap)) (fun q => gp (q + ap)) (fun q => wp (q + ap)) nl (fun q => tl (q + al)) ev ng (fun q => tg (q + ag)))) x.1.1.1 x.1.1.2.1 x.1.1.2.2.1 x.1.1.2.2.2.1 x.1.1.2.2.2.2.1 x.1.1.2.2.2.2.2.1 x.1.1.2.2.2.2.2.2.1 x.2.1.1 x.2.1.2.1 x.2.1.2.2.1 x.2.1.2.2.2.1 x.2.2.1 x.2.2.2.1.1 x.2.2.2.1.2.1 x.2.2.2.1.2.2.1 x.2.2.2.1.2.2.2.1, fun (x : ((Nat × Nat × Nat × (Nat → Int) × (Nat → Int) × (Nat → Int) × (Nat → Int) × Unit) × Unit) × (Nat × Nat × Nat × (Nat → Int) × Unit) × Int × (Nat × Nat × Nat × (Nat → Int) × Unit) × Unit) => (fun (ap np mp : Nat) (tp : Nat → Int) (vp : Nat → Int) (gp : Nat → Int) (wp : Nat → Int) (al nl ml : Nat) (tl : Nat → Int) (ev : Int) (ag ng mg : Nat) (tg : Nat → Int) => (N28 ap np mp tp vp gp wp al nl ml tl ev ag ng mg tg) (S.actS np (fun q => tp (q + ap)) (fun q => vp (q + ap)) (fun q => gp (q + ap)) (fun q => wp (q + ap)) nl (fun q => tl (q + al)) ev ng (fun q => tg (q + ag)))) x.1.1.1 x.1.1.2.1 x.1.1.2.2.1 x.1.1.2.2.2.1 x.1.1.2.2.2.2.1 x.1.1.2.2.2.2.2.1 x.1.1.2.2.2.2.2.2.1 x.2.1.1 x.2.1.2.1 x.2.1.2.2.1 x.2.1.2.2.2.1 x.2.2.1 x.2.2.2.1.1 x.2.2.2.1.2.1 x.2.2.2.1.2.2.1 x.2.2.2.1.2.2.2.1, fun _ _ => .dead⟩
theorem s28c (ap np mp : Nat) (tp : Nat → Int) (vp : Nat → Int) (gp : Nat → Int) (wp : Nat → Int) (al nl ml : Nat) (tl : Nat → Int) (ev : Int) (ag ng mg : Nat) (tg : Nat → Int) (hp1 : ap + np ≤ mp) (hp2 : np ≤ 1000000) (hl : al + nl ≤ ml) (hl2 : nl ≤ 1000000) (hg : ag + ng ≤ mg) (ht : S.treE np (fun q => tp (q + ap)) (fun q => vp (q + ap)) (fun q => gp (q + ap)) (fun q => wp (q + ap)) = 0) (hng : ng = np) (hj : S.jitK (fun q => wp (q + ap)) (fun q => tg (q + ag)) 0 np = true) {PP : List Int} (hL : PP.length ≤ 60) (hin : ∀ q, q < PP.length → 0 < S.at' PP q ∧ S.at' PP q < np) (i : Nat) (hi : i ≤ 1000) (EE O : List Int) (hO : O.length ≤ 1000) (w0 n : Int) (hw0 : 0 ≤ w0 ∧ w0 ≤ 2000000000000) (R0 : Rt28) (hR : Comes (q28 ap np mp tp vp gp wp al nl ml tl ev ag ng mg tg) (.h2 n ((i : Int) + 1) EE (S.snoc O (w0 + S.sumN (fun q => vp ((S.at' PP q).toNat + ap) + tg ((S.at' PP q).toNat + ag)) PP.length))) R0) : ∀ (k j : Nat) (y : Int), j + k = PP.length → Holds (y = w0 + S.sumN (fun q => vp ((S.at' PP q).toNat + ap) + tg ((S.at' PP q).toNat + ag)) j) → Comes (q28 ap np mp tp vp gp wp al nl ml tl ev ag ng mg tg) (.h3 y n (i : Int) (PP.length : Int) ((j : Int)) EE PP O) R0 := by
  obtain ⟨v1, v2, v3, v4, v5, v6⟩ := tre_ok ht
  have gb : ∀ q, q < PP.length → (-1000000 : Int) ≤ vp ((S.at' PP q).toNat + ap) + tg ((S.at' PP q).toNat + ag) ∧ vp ((S.at' PP q).toNat + ap) + tg ((S.at' PP q).toNat + ag) ≤ 2000000 := fun q hq => by have := hin q (by omega); have h5 := v5 (S.at' PP q).toNat (by omega); have h6 := jitK_iff.mp hj (S.at' PP q).toNat (Nat.zero_le _) (by omega); (try dsimp only at h5 h6 ⊢); omega
  intro k
  induction k with
  | zero =>
    intro j y hjk ey
    obtain rfl : PP.length = j := by omega
    rw [← ey.get] at hR
    apply Comes.of
    show Goes _ _ _
    (first | rw [q28] | unfold q28)
    repeat' first
      | with_reducible refine goes_if (fun h => ?_) (fun h => ?_) <;> (try simp only [lim64, decide_eq_true_eq, decide_eq_false_iff_not, Int.toNat_natCast, toNat_pred, toNat_succ, Option.getD_some, Option.getD_none, Bool.not_eq_true', Bool.not_eq_false', Bool.and_eq_true, Bool.or_eq_true, Bool.and_eq_false_iff, Bool.or_eq_false_iff, bne_iff_ne, beq_iff_eq, bne_eq_false_iff_eq, beq_eq_false_iff_ne, ne_eq, not_and, Int.not_le, Int.not_lt, ge_iff_le, gt_iff_lt, Nat.not_lt, Nat.not_le, Bool.not_eq_true, Bool.not_eq_false, Bool.true_eq_false, Bool.false_eq_true, not_false_eq_true, not_true_eq_false] at h)
      | exact goes_none.mpr (by omega)
    all_goals first | (exfalso; omega) | exact hR
  | succ k ih =>
    intro j y hjk ey
    have hb := hin j (by omega)
    have hv := v5 (S.at' PP j).toNat (by omega)
    have hg2 := jitK_iff.mp hj (S.at' PP j).toNat (Nat.zero_le _) (by omega)
    try dsimp only at hv hg2
    have gy := sum_bnd (f := fun q => vp ((S.at' PP q).toNat + ap) + tg ((S.at' PP q).toNat + ag)) (c := -1000000) (e := 2000000) (n := j) (fun q hq => gb q (by omega))
    have ey2 : y - w0 = S.sumN (fun q => vp ((S.at' PP q).toNat + ap) + tg ((S.at' PP q).toNat + ag)) j := by have := ey.get; omega
    rw [← ey2] at gy
    apply Comes.of
    show Goes _ _ _
    (first | rw [q28] | unfold q28)
    repeat' first
      | with_reducible refine goes_if (fun h => ?_) (fun h => ?_) <;> (try simp only [lim64, decide_eq_true_eq, decide_eq_false_iff_not, Int.toNat_natCast, toNat_pred, toNat_succ, Option.getD_some, Option.getD_none, Bool.not_eq_true', Bool.not_eq_false', Bool.and_eq_true, Bool.or_eq_true, Bool.and_eq_false_iff, Bool.or_eq_false_iff, bne_iff_ne, beq_iff_eq, bne_eq_false_iff_eq, beq_eq_false_iff_ne, ne_eq, not_and, Int.not_le, Int.not_lt, ge_iff_le, gt_iff_lt, Nat.not_lt, Nat.not_le, Bool.not_eq_true, Bool.not_eq_false, Bool.true_eq_false, Bool.false_eq_true, not_false_eq_true, not_true_eq_false] at h)
      | exact goes_none.mpr (by omega)
    all_goals first
      | (exfalso; omega)
      | (refine ih (j + 1) _ (by omega) ⟨?_⟩; simp only [S.sumN, Int.toNat_natCast, ← ey2]; omega)
theorem s28d (ap np mp : Nat) (tp : Nat → Int) (vp : Nat → Int) (gp : Nat → Int) (wp : Nat → Int) (al nl ml : Nat) (tl : Nat → Int) (ev : Int) (ag ng mg : Nat) (tg : Nat → Int) (hp1 : ap + np ≤ mp) (hp2 : np ≤ 1000000) (hl : al + nl ≤ ml) (hl2 : nl ≤ 1000000) (hg : ag + ng ≤ mg) (ht : S.treE np (fun q => tp (q + ap)) (fun q => vp (q + ap)) (fun q => gp (q + ap)) (fun q => wp (q + ap)) = 0) (hng : ng = np) (hj : S.jitK (fun q => wp (q + ap)) (fun q => tg (q + ag)) 0 np = true) (hw : S.winT (fun q => tl (q + al)) 0 nl = true) (hnl : nl = (S.leaL (fun q => tp (q + ap)) np).length) (hev : 0 ≤ ev ∧ ev ≤ 1099511627776) : ∀ (k i : Nat) (O : List Int), i + k = (S.leaL (fun q => tp (q + ap)) np).length → Holds (O = S.mkl i fun q => S.actT (fun q => tp (q + ap)) (fun q => vp (q + ap)) (fun q => tg (q + ag)) (fun q => tl (q + al)) ev (S.leaL (fun q => tp (q + ap)) np) q) → Comes (q28 ap np mp tp vp gp wp al nl ml tl ev ag ng mg tg) (.h2 ((S.leaL (fun q => tp (q + ap)) np).length : Int) ((i : Int)) (S.leaL (fun q => tp (q + ap)) np) O) (0, S.mkl (S.leaL (fun q => tp (q + ap)) np).length fun q => S.actT (fun q => tp (q + ap)) (fun q => vp (q + ap)) (fun q => tg (q + ag)) (fun q => tl (q + al)) ev (S.leaL (fun q => tp (q + ap)) np) q) := by
  obtain ⟨v1, v2, v3, v4, v5, v6⟩ := tre_ok ht
  have hE : (S.leaL (fun q => tp (q + ap)) np).length ≤ np := cho_len
  have hEi : ∀ q, q < (S.leaL (fun q => tp (q + ap)) np).length → 0 ≤ S.at' (S.leaL (fun q => tp (q + ap)) np) q ∧ S.at' (S.leaL (fun q => tp (q + ap)) np) q < np := fun q hq => leaL_in hq
  have hK : ∀ q, S.actT (fun q => tp (q + ap)) (fun q => vp (q + ap)) (fun q => tg (q + ag)) (fun q => tl (q + al)) ev (S.leaL (fun q => tp (q + ap)) np) q = ev + tl (q + al) + S.dl (fun q => tp (q + ap)) (fun y => (fun q => vp (q + ap)) y + (fun q => tg (q + ag)) y) (S.at' (S.leaL (fun q => tp (q + ap)) np) q).toNat := fun q => rfl
  generalize hAT : (fun q => S.actT (fun q => tp (q + ap)) (fun q => vp (q + ap)) (fun q => tg (q + ag)) (fun q => tl (q + al)) ev (S.leaL (fun q => tp (q + ap)) np) q) = AT at *
  generalize (S.leaL (fun q => tp (q + ap)) np) = EE at *
  have hK : ∀ q, AT q = ev + tl (q + al) + S.dl (fun q => tp (q + ap)) (fun y => (fun q => vp (q + ap)) y + (fun q => tg (q + ag)) y) (S.at' EE q).toNat := fun q => by rw [← hK q, ← hAT]
  clear hAT
  intro k
  induction k with
  | zero =>
    intro i O hi eO
    obtain rfl : EE.length = i := by omega
    apply Comes.of
    show Goes _ _ _
    (first | rw [q28] | unfold q28)
    repeat' first
      | with_reducible refine goes_if (fun h => ?_) (fun h => ?_) <;> (try simp only [lim64, decide_eq_true_eq, decide_eq_false_iff_not, Int.toNat_natCast, toNat_pred, toNat_succ, Option.getD_some, Option.getD_none, Bool.not_eq_true', Bool.not_eq_false', Bool.and_eq_true, Bool.or_eq_true, Bool.and_eq_false_iff, Bool.or_eq_false_iff, bne_iff_ne, beq_iff_eq, bne_eq_false_iff_eq, beq_eq_false_iff_ne, ne_eq, not_and, Int.not_le, Int.not_lt, ge_iff_le, gt_iff_lt, Nat.not_lt, Nat.not_le, Bool.not_eq_true, Bool.not_eq_false, Bool.true_eq_false, Bool.false_eq_true, not_false_eq_true, not_true_eq_false] at h)
      | exact goes_none.mpr (by omega)
    all_goals first | (exfalso; omega) | exact goes_inr.mpr (by rw [eO.get])
  | succ k ih =>
    intro i O hi eO
    have hO : O.length = i := by rw [eO.get]; exact mkl_len
    have hb := hEi i (by omega)
    have hr := winT_iff.mp hw i (Nat.zero_le _) (by omega)
    replace hr : 0 ≤ tl (i + al) ∧ tl (i + al) ≤ 1000000000 := hr
    have hd := (dl_bd ht (x := (S.at' EE i).toNat) (by omega)).1
    have hpl := path_len (p := (fun q => tp (q + ap))) (S.at' EE i).toNat []
    have hp0 : ([] : List Int).length = 0 := rfl
    have e : S.sumN (fun q => vp ((S.at' (S.pathL (fun q => tp (q + ap)) (S.at' EE i).toNat []) q).toNat + ap) + tg ((S.at' (S.pathL (fun q => tp (q + ap)) (S.at' EE i).toNat []) q).toNat + ag)) (S.pathL (fun q => tp (q + ap)) (S.at' EE i).toNat []).length = S.dl (fun q => tp (q + ap)) (fun y => (fun q => vp (q + ap)) y + (fun q => tg (q + ag)) y) (S.at' EE i).toNat := path_sum0 (g := (fun y => (fun q => vp (q + ap)) y + (fun q => tg (q + ag)) y))
    have hK2 : AT i = (ev + tl (i + al)) + S.dl (fun q => tp (q + ap)) (fun y => (fun q => vp (q + ap)) y + (fun q => tg (q + ag)) y) (S.at' EE i).toNat := by rw [hK i]
    have ih := ih (i + 1) (S.snoc O (AT i)) (by omega) ⟨by rw [eO.get, mkl_succ]⟩
    rw [hK2, ← e] at ih
    have hc := s28c ap np mp tp vp gp wp al nl ml tl ev ag ng mg tg hp1 hp2 hl hl2 hg ht hng hj (PP := S.pathL (fun q => tp (q + ap)) (S.at' EE i).toNat []) (by omega) (fun q hq => by have := path_in hq; omega) i (by omega) EE O (by omega) (ev + tl (i + al)) (EE.length : Int) (by omega) _ ih _ 0 (ev + tl (i + al)) (Nat.zero_add _) ⟨by show _ = _ + 0; omega⟩
    apply Comes.of
    show Goes _ _ _
    (first | rw [q28] | unfold q28)
    repeat' first
      | with_reducible refine goes_if (fun h => ?_) (fun h => ?_) <;> (try simp only [lim64, decide_eq_true_eq, decide_eq_false_iff_not, Int.toNat_natCast, toNat_pred, toNat_succ, Option.getD_some, Option.getD_none, Bool.not_eq_true', Bool.not_eq_false', Bool.and_eq_true, Bool.or_eq_true, Bool.and_eq_false_iff, Bool.or_eq_false_iff, bne_iff_ne, beq_iff_eq, bne_eq_false_iff_eq, beq_eq_false_iff_ne, ne_eq, not_and, Int.not_le, Int.not_lt, ge_iff_le, gt_iff_lt, Nat.not_lt, Nat.not_le, Bool.not_eq_true, Bool.not_eq_false, Bool.true_eq_false, Bool.false_eq_true, not_false_eq_true, not_true_eq_false] at h)
      | exact goes_none.mpr (by omega)
    all_goals first | (exfalso; omega) | exact hc
theorem s28a (ap np mp : Nat) (tp : Nat → Int) (vp : Nat → Int) (gp : Nat → Int) (wp : Nat → Int) (al nl ml : Nat) (tl : Nat → Int) (ev : Int) (ag ng mg : Nat) (tg : Nat → Int) (hp1 : ap + np ≤ mp) (hp2 : np ≤ 1000000) (hl : al + nl ≤ ml) (hl2 : nl ≤ 1000000) (hg : ag + ng ≤ mg) (ht : S.treE np (fun q => tp (q + ap)) (fun q => vp (q + ap)) (fun q => gp (q + ap)) (fun q => wp (q + ap)) = 0) (hng : ng = np) (R0 : Rt28) (hR : S.jitK (fun q => wp (q + ap)) (fun q => tg (q + ag)) 0 np = true → Comes (q28 ap np mp tp vp gp wp al nl ml tl ev ag ng mg tg) (.h2 ((S.leaL (fun q => tp (q + ap)) np).length : Int) (0) (S.leaL (fun q => tp (q + ap)) np) []) R0) : ∀ (k i : Nat), i + k = np → S.jitK (fun q => wp (q + ap)) (fun q => tg (q + ag)) 0 np = S.jitK (fun q => wp (q + ap)) (fun q => tg (q + ag)) i k → Comes (q28 ap np mp tp vp gp wp al nl ml tl ev ag ng mg tg) (.h1 (i : Int) (S.leaL (fun q => tp (q + ap)) np)) (if S.jitK (fun q => wp (q + ap)) (fun q => tg (q + ag)) 0 np = true then R0 else (6, [])) := by
  obtain ⟨v1, v2, v3, v4, v5, v6⟩ := tre_ok ht
  intro k
  induction k with
  | zero =>
    intro i hi hw
    have hw : S.jitK (fun q => wp (q + ap)) (fun q => tg (q + ag)) 0 np = true := hw
    rw [if_pos hw]
    have hR := hR hw
    have hv5 : i < np → _ := v5 i
    try dsimp only at hv5
    apply Comes.of
    show Goes _ _ _
    (first | rw [q28] | unfold q28)
    repeat' first
      | with_reducible refine goes_if (fun h => ?_) (fun h => ?_) <;> (try simp only [lim64, decide_eq_true_eq, decide_eq_false_iff_not, Int.toNat_natCast, toNat_pred, toNat_succ, Option.getD_some, Option.getD_none, Bool.not_eq_true', Bool.not_eq_false', Bool.and_eq_true, Bool.or_eq_true, Bool.and_eq_false_iff, Bool.or_eq_false_iff, bne_iff_ne, beq_iff_eq, bne_eq_false_iff_eq, beq_eq_false_iff_ne, ne_eq, not_and, Int.not_le, Int.not_lt, ge_iff_le, gt_iff_lt, Nat.not_lt, Nat.not_le, Bool.not_eq_true, Bool.not_eq_false, Bool.true_eq_false, Bool.false_eq_true, not_false_eq_true, not_true_eq_false] at h)
      | exact goes_none.mpr (by omega)
    all_goals first | (exfalso; omega) | exact hR
  | succ k ih =>
    intro i hi hw
    have hv5 : i < np → _ := v5 i
    try dsimp only at hv5
    by_cases h0 : -wp (i + ap) ≤ tg (i + ag) ∧ tg (i + ag) ≤ wp (i + ap)
    · have ih := ih (i + 1) (by omega) (by rw [hw]; exact jitK_yes h0)
      apply Comes.of
      show Goes _ _ _
      (first | rw [q28] | unfold q28)
      repeat' first
        | with_reducible refine goes_if (fun h => ?_) (fun h => ?_) <;> (try simp only [lim64, decide_eq_true_eq, decide_eq_false_iff_not, Int.toNat_natCast, toNat_pred, toNat_succ, Option.getD_some, Option.getD_none, Bool.not_eq_true', Bool.not_eq_false', Bool.and_eq_true, Bool.or_eq_true, Bool.and_eq_false_iff, Bool.or_eq_false_iff, bne_iff_ne, beq_iff_eq, bne_eq_false_iff_eq, beq_eq_false_iff_ne, ne_eq, not_and, Int.not_le, Int.not_lt, ge_iff_le, gt_iff_lt, Nat.not_lt, Nat.not_le, Bool.not_eq_true, Bool.not_eq_false, Bool.true_eq_false, Bool.false_eq_true, not_false_eq_true, not_true_eq_false] at h)
        | exact goes_none.mpr (by omega)
      all_goals first | (exfalso; omega) | exact ih
    · have hw : S.jitK (fun q => wp (q + ap)) (fun q => tg (q + ag)) 0 np = false := by rw [hw]; exact jitK_no h0
      rw [if_neg (by rw [hw]; exact Bool.false_ne_true)]
      apply Comes.of
      show Goes _ _ _
      (first | rw [q28] | unfold q28)
      repeat' first
        | with_reducible refine goes_if (fun h => ?_) (fun h => ?_) <;> (try simp only [lim64, decide_eq_true_eq, decide_eq_false_iff_not, Int.toNat_natCast, toNat_pred, toNat_succ, Option.getD_some, Option.getD_none, Bool.not_eq_true', Bool.not_eq_false', Bool.and_eq_true, Bool.or_eq_true, Bool.and_eq_false_iff, Bool.or_eq_false_iff, bne_iff_ne, beq_iff_eq, bne_eq_false_iff_eq, beq_eq_false_iff_ne, ne_eq, not_and, Int.not_le, Int.not_lt, ge_iff_le, gt_iff_lt, Nat.not_lt, Nat.not_le, Bool.not_eq_true, Bool.not_eq_false, Bool.true_eq_false, Bool.false_eq_true, not_false_eq_true, not_true_eq_false] at h)
        | exact goes_none.mpr (by omega)
      all_goals first | (exfalso; omega) | exact goes_inr.mpr rfl
theorem s28b (ap np mp : Nat) (tp : Nat → Int) (vp : Nat → Int) (gp : Nat → Int) (wp : Nat → Int) (al nl ml : Nat) (tl : Nat → Int) (ev : Int) (ag ng mg : Nat) (tg : Nat → Int) (hp1 : ap + np ≤ mp) (hp2 : np ≤ 1000000) (hl : al + nl ≤ ml) (hl2 : nl ≤ 1000000) (hg : ag + ng ≤ mg) (ht : S.treE np (fun q => tp (q + ap)) (fun q => vp (q + ap)) (fun q => gp (q + ap)) (fun q => wp (q + ap)) = 0) (hng : ng = np) (R0 : Rt28) (hR : S.winT (fun q => tl (q + al)) 0 nl = true → Comes (q28 ap np mp tp vp gp wp al nl ml tl ev ag ng mg tg) (.h1 0 (S.leaL (fun q => tp (q + ap)) np)) R0) : ∀ (k i : Nat), i + k = nl → S.winT (fun q => tl (q + al)) 0 nl = S.winT (fun q => tl (q + al)) i k → Comes (q28 ap np mp tp vp gp wp al nl ml tl ev ag ng mg tg) (.h0 (i : Int) (S.leaL (fun q => tp (q + ap)) np)) (if S.winT (fun q => tl (q + al)) 0 nl = true then R0 else (6, [])) := by
  intro k
  induction k with
  | zero =>
    intro i hi hw
    have hw : S.winT (fun q => tl (q + al)) 0 nl = true := hw
    rw [if_pos hw]
    have hR := hR hw
    apply Comes.of
    show Goes _ _ _
    (first | rw [q28] | unfold q28)
    repeat' first
      | with_reducible refine goes_if (fun h => ?_) (fun h => ?_) <;> (try simp only [lim64, decide_eq_true_eq, decide_eq_false_iff_not, Int.toNat_natCast, toNat_pred, toNat_succ, Option.getD_some, Option.getD_none, Bool.not_eq_true', Bool.not_eq_false', Bool.and_eq_true, Bool.or_eq_true, Bool.and_eq_false_iff, Bool.or_eq_false_iff, bne_iff_ne, beq_iff_eq, bne_eq_false_iff_eq, beq_eq_false_iff_ne, ne_eq, not_and, Int.not_le, Int.not_lt, ge_iff_le, gt_iff_lt, Nat.not_lt, Nat.not_le, Bool.not_eq_true, Bool.not_eq_false, Bool.true_eq_false, Bool.false_eq_true, not_false_eq_true, not_true_eq_false] at h)
      | exact goes_none.mpr (by omega)
    all_goals first | (exfalso; omega) | exact hR
  | succ k ih =>
    intro i hi hw
    by_cases h0 : 0 ≤ tl (i + al) ∧ tl (i + al) ≤ 1000000000
    · have ih := ih (i + 1) (by omega) (by rw [hw]; exact winT_yes h0)
      apply Comes.of
      show Goes _ _ _
      (first | rw [q28] | unfold q28)
      repeat' first
        | with_reducible refine goes_if (fun h => ?_) (fun h => ?_) <;> (try simp only [lim64, decide_eq_true_eq, decide_eq_false_iff_not, Int.toNat_natCast, toNat_pred, toNat_succ, Option.getD_some, Option.getD_none, Bool.not_eq_true', Bool.not_eq_false', Bool.and_eq_true, Bool.or_eq_true, Bool.and_eq_false_iff, Bool.or_eq_false_iff, bne_iff_ne, beq_iff_eq, bne_eq_false_iff_eq, beq_eq_false_iff_ne, ne_eq, not_and, Int.not_le, Int.not_lt, ge_iff_le, gt_iff_lt, Nat.not_lt, Nat.not_le, Bool.not_eq_true, Bool.not_eq_false, Bool.true_eq_false, Bool.false_eq_true, not_false_eq_true, not_true_eq_false] at h)
        | exact goes_none.mpr (by omega)
      all_goals first | (exfalso; omega) | exact ih
    · have hw : S.winT (fun q => tl (q + al)) 0 nl = false := by rw [hw]; exact winT_no h0
      rw [if_neg (by rw [hw]; exact Bool.false_ne_true)]
      apply Comes.of
      show Goes _ _ _
      (first | rw [q28] | unfold q28)
      repeat' first
        | with_reducible refine goes_if (fun h => ?_) (fun h => ?_) <;> (try simp only [lim64, decide_eq_true_eq, decide_eq_false_iff_not, Int.toNat_natCast, toNat_pred, toNat_succ, Option.getD_some, Option.getD_none, Bool.not_eq_true', Bool.not_eq_false', Bool.and_eq_true, Bool.or_eq_true, Bool.and_eq_false_iff, Bool.or_eq_false_iff, bne_iff_ne, beq_iff_eq, bne_eq_false_iff_eq, beq_eq_false_iff_ne, ne_eq, not_and, Int.not_le, Int.not_lt, ge_iff_le, gt_iff_lt, Nat.not_lt, Nat.not_le, Bool.not_eq_true, Bool.not_eq_false, Bool.true_eq_false, Bool.false_eq_true, not_false_eq_true, not_true_eq_false] at h)
        | exact goes_none.mpr (by omega)
      all_goals first | (exfalso; omega) | exact goes_inr.mpr rfl
theorem s28 (ap np mp : Nat) (tp : Nat → Int) (vp : Nat → Int) (gp : Nat → Int) (wp : Nat → Int) (al nl ml : Nat) (tl : Nat → Int) (ev : Int) (ag ng mg : Nat) (tg : Nat → Int) (hp : ap + np ≤ mp ∧ np ≤ 1000000 ∧ al + nl ≤ ml ∧ nl ≤ 1000000 ∧ ag + ng ≤ mg ∧ ng ≤ 1000000) : Goes ((q28 ap np mp tp vp gp wp al nl ml tl ev ag ng mg tg)) ((p28 ap np mp tp vp gp wp al nl ml tl ev ag ng mg tg)) (S.actS np (fun q => tp (q + ap)) (fun q => vp (q + ap)) (fun q => gp (q + ap)) (fun q => wp (q + ap)) nl (fun q => tl (q + al)) ev ng (fun q => tg (q + ag))) := by
  obtain ⟨hp1, hp2, hl, hl2, hg, hg2⟩ := hp
  unfold S.actS
  by_cases h0 : S.treE np (fun q => tp (q + ap)) (fun q => vp (q + ap)) (fun q => gp (q + ap)) (fun q => wp (q + ap)) = 0
  · rw [if_pos h0]
    have hE : (S.leaL (fun q => tp (q + ap)) np).length ≤ np := cho_len
    have v2 := (tre_ok h0).2.1
    by_cases h1 : nl = (S.leaL (fun q => tp (q + ap)) np).length ∧ ng = np ∧ 0 ≤ ev ∧ ev ≤ 1099511627776
    · have hd : S.jitK (fun q => wp (q + ap)) (fun q => tg (q + ag)) 0 np = true → S.winT (fun q => tl (q + al)) 0 nl = true → _ := fun a c => s28d ap np mp tp vp gp wp al nl ml tl ev ag ng mg tg hp1 hp2 hl hl2 hg h0 h1.2.1 a c h1.1 h1.2.2 (S.leaL (fun q => tp (q + ap)) np).length 0 [] (Nat.zero_add _) ⟨rfl⟩
      by_cases hw : S.winT (fun q => tl (q + al)) 0 nl = true
      · have ha := s28a ap np mp tp vp gp wp al nl ml tl ev ag ng mg tg hp1 hp2 hl hl2 hg h0 h1.2.1 (0, S.mkl (S.leaL (fun q => tp (q + ap)) np).length fun q => S.actT (fun q => tp (q + ap)) (fun q => vp (q + ap)) (fun q => tg (q + ag)) (fun q => tl (q + al)) ev (S.leaL (fun q => tp (q + ap)) np) q) (fun a => hd a hw) np 0 (Nat.zero_add _) rfl
        have hm := s28b ap np mp tp vp gp wp al nl ml tl ev ag ng mg tg hp1 hp2 hl hl2 hg h0 h1.2.1 _ (fun a => ha) nl 0 (Nat.zero_add _) rfl
        rw [if_pos hw] at hm
        by_cases hj : S.jitK (fun q => wp (q + ap)) (fun q => tg (q + ag)) 0 np = true
        · rw [if_pos ⟨h1.1, h1.2.1, h1.2.2, hw, hj⟩]
          rw [if_pos hj] at hm
          show Goes _ _ _
          unfold p28
          repeat' first
            | with_reducible refine goes_if (fun h => ?_) (fun h => ?_) <;> (try simp only [lim64, decide_eq_true_eq, decide_eq_false_iff_not, Int.toNat_natCast, toNat_pred, toNat_succ, Option.getD_some, Option.getD_none, Bool.not_eq_true', Bool.not_eq_false', Bool.and_eq_true, Bool.or_eq_true, Bool.and_eq_false_iff, Bool.or_eq_false_iff, bne_iff_ne, beq_iff_eq, bne_eq_false_iff_eq, beq_eq_false_iff_ne, ne_eq, not_and, Int.not_le, Int.not_lt, ge_iff_le, gt_iff_lt, Nat.not_lt, Nat.not_le, Bool.not_eq_true, Bool.not_eq_false, Bool.true_eq_false, Bool.false_eq_true, not_false_eq_true, not_true_eq_false] at h)
            | exact goes_none.mpr (by omega)
          all_goals first | (exfalso; omega) | exact hm | (exfalso; simp_all; done)
        · rw [if_neg (fun h => hj h.2.2.2.2)]
          rw [if_neg hj] at hm
          show Goes _ _ _
          unfold p28
          repeat' first
            | with_reducible refine goes_if (fun h => ?_) (fun h => ?_) <;> (try simp only [lim64, decide_eq_true_eq, decide_eq_false_iff_not, Int.toNat_natCast, toNat_pred, toNat_succ, Option.getD_some, Option.getD_none, Bool.not_eq_true', Bool.not_eq_false', Bool.and_eq_true, Bool.or_eq_true, Bool.and_eq_false_iff, Bool.or_eq_false_iff, bne_iff_ne, beq_iff_eq, bne_eq_false_iff_eq, beq_eq_false_iff_ne, ne_eq, not_and, Int.not_le, Int.not_lt, ge_iff_le, gt_iff_lt, Nat.not_lt, Nat.not_le, Bool.not_eq_true, Bool.not_eq_false, Bool.true_eq_false, Bool.false_eq_true, not_false_eq_true, not_true_eq_false] at h)
            | exact goes_none.mpr (by omega)
          all_goals first | (exfalso; omega) | exact hm | (exfalso; simp_all; done)
      · rw [if_neg (fun h => hw h.2.2.2.1)]
        have hm := s28b ap np mp tp vp gp wp al nl ml tl ev ag ng mg tg hp1 hp2 hl hl2 hg h0 h1.2.1 (6, []) (fun a => absurd a hw) nl 0 (Nat.zero_add _) rfl
        rw [if_neg hw] at hm
        show Goes _ _ _
        unfold p28
        repeat' first
          | with_reducible refine goes_if (fun h => ?_) (fun h => ?_) <;> (try simp only [lim64, decide_eq_true_eq, decide_eq_false_iff_not, Int.toNat_natCast, toNat_pred, toNat_succ, Option.getD_some, Option.getD_none, Bool.not_eq_true', Bool.not_eq_false', Bool.and_eq_true, Bool.or_eq_true, Bool.and_eq_false_iff, Bool.or_eq_false_iff, bne_iff_ne, beq_iff_eq, bne_eq_false_iff_eq, beq_eq_false_iff_ne, ne_eq, not_and, Int.not_le, Int.not_lt, ge_iff_le, gt_iff_lt, Nat.not_lt, Nat.not_le, Bool.not_eq_true, Bool.not_eq_false, Bool.true_eq_false, Bool.false_eq_true, not_false_eq_true, not_true_eq_false] at h)
          | exact goes_none.mpr (by omega)
        all_goals first | (exfalso; omega) | exact hm
    · rw [if_neg (fun h => h1 ⟨h.1, h.2.1, h.2.2.1⟩)]
      show Goes _ _ _
      unfold p28
      repeat' first
        | with_reducible refine goes_if (fun h => ?_) (fun h => ?_) <;> (try simp only [lim64, decide_eq_true_eq, decide_eq_false_iff_not, Int.toNat_natCast, toNat_pred, toNat_succ, Option.getD_some, Option.getD_none, Bool.not_eq_true', Bool.not_eq_false', Bool.and_eq_true, Bool.or_eq_true, Bool.and_eq_false_iff, Bool.or_eq_false_iff, bne_iff_ne, beq_iff_eq, bne_eq_false_iff_eq, beq_eq_false_iff_ne, ne_eq, not_and, Int.not_le, Int.not_lt, ge_iff_le, gt_iff_lt, Nat.not_lt, Nat.not_le, Bool.not_eq_true, Bool.not_eq_false, Bool.true_eq_false, Bool.false_eq_true, not_false_eq_true, not_true_eq_false] at h)
        | exact goes_none.mpr (by omega)
      all_goals first | (exfalso; omega) | rfl
  · rw [if_neg h0]
    show Goes _ _ _
    unfold p28
    repeat' first
      | with_reducible refine goes_if (fun h => ?_) (fun h => ?_) <;> (try simp only [lim64, decide_eq_true_eq, decide_eq_false_iff_not, Int.toNat_natCast, toNat_pred, toNat_succ, Option.getD_some, Option.getD_none, Bool.not_eq_true', Bool.not_eq_false', Bool.and_eq_true, Bool.or_eq_true, Bool.and_eq_false_iff, Bool.or_eq_false_iff, bne_iff_ne, beq_iff_eq, bne_eq_false_iff_eq, beq_eq_false_iff_ne, ne_eq, not_and, Int.not_le, Int.not_lt, ge_iff_le, gt_iff_lt, Nat.not_lt, Nat.not_le, Bool.not_eq_true, Bool.not_eq_false, Bool.true_eq_false, Bool.false_eq_true, not_false_eq_true, not_true_eq_false] at h)
      | exact goes_none.mpr (by omega)
    all_goals first | (exfalso; omega) | rfl

theorem k28_ok : k28.ok Try.prog := by
  intro x hx
  obtain ⟨⟨⟨ap, np, mp, tp, vp, gp, wp, _⟩, _⟩, ⟨al, nl, ml, tl, _⟩, ev, ⟨ag, ng, mg, tg, _⟩, _⟩ := x
  obtain ⟨h1, h2⟩ := a28 ap np mp tp vp gp wp al nl ml tl ev ag ng mg tg (s28 ap np mp tp vp gp wp al nl ml tl ev ag ng mg tg (of_dec hx rfl))
  exact ⟨⟨400, (by decide : 3 + 1 + 1 ≤ 400), h1⟩, h2⟩
end Go.Ev
