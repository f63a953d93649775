/-
  Measure.
-/
import Derived.Test.YtffldkecndnbiaaD1
namespace Go.Ev
open Go.Proofs
set_option linter.unusedVariables false
set_option linter.unusedSimpArgs false
set_option maxRecDepth 100000
inductive St23 where
  | h0 (x0 : Int)
  | h1 (x0 : Int) (x1 : List (Int × Int × Bool × Bool))
abbrev Rt23 := Int × List (Int × Int × Bool × Bool)
noncomputable def V23 (ap np mp : Nat) (tp : Nat → Int) (vp : Nat → Int) (gp : Nat → Int) (wp : Nat → Int) (al nl ml : Nat) (tl : Nat → Int) (sy : Int) (r : Rt23) : PV := PV.tup [PV.own (3) (4) (List.length r.2), PV.int IntKind.i64 r.1]
noncomputable def N23 (ap np mp : Nat) (tp : Nat → Int) (vp : Nat → Int) (gp : Nat → Int) (wp : Nat → Int) (al nl ml : Nat) (tl : Nat → Int) (sy : Int) (r : Rt23) : List Blk := [Blk.cols (List.length r.2)
 [Col.int IntKind.i64 fun (j : Nat) => (S.at' r.2 j).1,
 Col.int IntKind.i64 fun (j : Nat) => (S.at' r.2 j).2.1,
 Col.bool fun (j : Nat) => (S.at' r.2 j).2.2.1,
 Col.bool fun (j : Nat) => (S.at' r.2 j).2.2.2]]
noncomputable def I23 (ap np mp : Nat) (tp : Nat → Int) (vp : Nat → Int) (gp : Nat → Int) (wp : Nat → Int) (al nl ml : Nat) (tl : Nat → Int) (sy : Int) : St23 → Hd
  | .h0 x0 => ⟨hd Try.f23 0, [PV.loose (PA.mk (1) (1) al (0)) nl, PV.int IntKind.i64 sy,
 PV.ptr (PA.mk (2) (0) (0) (0)), PV.unk, PV.unk,
 PV.loose (PA.mk (1) (1) al (0)) nl, PV.int IntKind.i64 (↑nl : Int),
 PV.int IntKind.i64 x0], [[(2, (true, Blk.cells [PV.loose (PA.mk (0) (4) ap (0)) np]))], [(0, (false, .cols mp [.int .i64 tp, .int .i64 vp, .int .i64 gp, .int .i64 wp])), (1, (false, .cols ml [.int .i64 tl]))]], 3⟩
  | .h1 x0 x1 => ⟨hd Try.f23 1, [PV.loose (PA.mk (1) (1) al (0)) nl, PV.int IntKind.i64 sy,
 PV.ptr (PA.mk (2) (0) (0) (0)),
 PV.own (3) (4) (List.length x1), PV.int IntKind.i64 x0, PV.unk, PV.unk,
 PV.unk], [[(2, (true, Blk.cells [PV.loose (PA.mk (0) (4) ap (0)) np])), (3, (true, Blk.cols (List.length x1)
 [Col.int IntKind.i64 fun (j : Nat) => (S.at' x1 j).1,
 Col.int IntKind.i64 fun (j : Nat) => (S.at' x1 j).2.1,
 Col.bool fun (j : Nat) => (S.at' x1 j).2.2.1,
 Col.bool fun (j : Nat) => (S.at' x1 j).2.2.2]))], [(0, (false, .cols mp [.int .i64 tp, .int .i64 vp, .int .i64 gp, .int .i64 wp])), (1, (false, .cols ml [.int .i64 tl]))]], 4⟩
noncomputable def q23 (ap np mp : Nat) (tp : Nat → Int) (vp : Nat → Int) (gp : Nat → Int) (wp : Nat → Int) (al nl ml : Nat) (tl : Nat → Int) (sy : Int) : St23 → Option (St23 ⊕ Rt23)
  | .h0 x0 => bif (decide (x0 < (↑nl : Int)))
 then (bif (decide ((0 : Int) ≤ x0 ∧ x0 < (↑nl : Int)))
 then (bif (decide (Int.toNat x0 + al < ml))
 then (bif (decide (tl (Int.toNat x0 + al) ≥ (0 : Int)))
 then (bif (decide (tl (Int.toNat x0 + al) ≤ (1000000000 : Int)))
 then (bif (lim IntKind.i64 (x0 + (1 : Int)))
 then (some (.inl (.h0 (x0 + (1 : Int)))))
 else (none))
 else (some (.inr ((6 : Int), []))))
 else (some (.inr ((6 : Int), []))))
 else (none))
 else (none))
 else (some (.inl (.h1 ((1 : Int)) ([((0 : Int), (0 : Int), false, false)]))))
  | .h1 x0 x1 => bif (decide (x0 < (↑np : Int)))
 then (bif (decide
 (ap + np ≤ mp ∧
 np ≤ 1000000 ∧
 (S.treE np (fun (q : Nat) => tp (q + ap)) (fun (q : Nat) => vp (q + ap)) (fun (q : Nat) => gp (q + ap))
 fun (q : Nat) => wp (q + ap)) =
 (0 : Int) ∧
 (0 : Int) ≤ x0 ∧ x0 < (↑np : Int)))
 then (bif (lim IntKind.i64
 ((2 : Int) * S.dl (fun (q : Nat) => tp (q + ap)) (fun (q : Nat) => wp (q + ap)) (Int.toNat x0)))
 then (bif (lim IntKind.i64
 ((2 : Int) * S.dl (fun (q : Nat) => tp (q + ap)) (fun (q : Nat) => wp (q + ap)) (Int.toNat x0) + sy))
 then (bif (decide ((0 : Int) ≤ x0 ∧ x0 < (↑nl : Int)))
 then (bif (decide (Int.toNat x0 + al < ml))
 then (bif (lim IntKind.i64
 (tl (Int.toNat x0 + al) -
 ((2 : Int) * S.dl (fun (q : Nat) => tp (q + ap)) (fun (q : Nat) => wp (q + ap)) (Int.toNat x0) + sy)))
 then (bif (lim IntKind.i64
 (tl (Int.toNat x0 + al) -
 ((2 : Int) * S.dl (fun (q : Nat) => tp (q + ap)) (fun (q : Nat) => wp (q + ap)) (Int.toNat x0) + sy) +
 (1 : Int)))
 then (bif (lim IntKind.i64
 (tl (Int.toNat x0 + al) +
 ((2 : Int) * S.dl (fun (q : Nat) => tp (q + ap)) (fun (q : Nat) => wp (q + ap)) (Int.toNat x0) + sy)))
 then (bif (decide
 (Max.max (0 : Int)
 (S.shrB IntKind.i64
 (tl (Int.toNat x0 + al) -
 ((2 : Int) * S.dl (fun (q : Nat) => tp (q + ap)) (fun (q : Nat) => wp (q + ap)) (Int.toNat x0) + sy) +
 (1 : Int))
 (1 : Int)) >
 S.shrB IntKind.i64
 (tl (Int.toNat x0 + al) +
 ((2 : Int) * S.dl (fun (q : Nat) => tp (q + ap)) (fun (q : Nat) => wp (q + ap)) (Int.toNat x0) + sy))
 (1 : Int)))
 then (some (.inr ((12 : Int), [])))
 else (bif (decide (List.length x1 + 1 ≤ 1000000))
 then (bif (decide (List.length x1 ≤ List.length x1))
 then (bif (lim IntKind.i64 (x0 + (1 : Int)))
 then (some (.inl (.h1 (x0 + (1 : Int)) (S.snoc x1
 (Max.max (0 : Int)
 (S.shrB IntKind.i64
 (tl (Int.toNat x0 + al) -
 ((2 : Int) * S.dl (fun (q : Nat) => tp (q + ap)) (fun (q : Nat) => wp (q + ap)) (Int.toNat x0) + sy) +
 (1 : Int))
 (1 : Int)),
 S.shrB IntKind.i64
 (tl (Int.toNat x0 + al) +
 ((2 : Int) * S.dl (fun (q : Nat) => tp (q + ap)) (fun (q : Nat) => wp (q + ap)) (Int.toNat x0) + sy))
 (1 : Int),
 false, false)))))
 else (none))
 else (none))
 else (none)))
 else (none))
 else (none))
 else (none))
 else (none))
 else (none))
 else (none))
 else (none))
 else (none))
 else (some (.inr ((0 : Int), x1)))
noncomputable def p23 (ap np mp : Nat) (tp : Nat → Int) (vp : Nat → Int) (gp : Nat → Int) (wp : Nat → Int) (al nl ml : Nat) (tl : Nat → Int) (sy : Int) : Option (St23 ⊕ Rt23) := bif (decide (ap + np ≤ mp ∧ np ≤ 1000000))
 then (bif ((S.treE np (fun (q : Nat) => tp (q + ap)) (fun (q : Nat) => vp (q + ap)) (fun (q : Nat) => gp (q + ap))
 fun (q : Nat) => wp (q + ap)) !=
 (0 : Int))
 then (some (.inr (S.treE np (fun (q : Nat) => tp (q + ap)) (fun (q : Nat) => vp (q + ap)) (fun (q : Nat) => gp (q + ap))
 fun (q : Nat) => wp (q + ap), [])))
 else (bif ((↑nl : Int) != (↑np : Int))
 then (some (.inr ((6 : Int), [])))
 else (bif (decide ((0 : Int) ≤ (0 : Int) ∧ (0 : Int) < (↑nl : Int)))
 then (bif (decide (0 + al < ml))
 then (bif (tl (0 + al) != (0 : Int))
 then (some (.inr ((6 : Int), [])))
 else (bif (decide (sy ≥ (0 : Int)))
 then (bif (decide (sy ≤ (1000000000 : Int)))
 then (some (.inl (.h0 ((0 : Int)))))
 else (some (.inr ((6 : Int), []))))
 else (some (.inr ((6 : Int), [])))))
 else (none))
 else (none))))
 else (none)
noncomputable def Te23 (test : Bool → Prop → Prop → Prop) (Kst : KS) (Kret : KR) (ap np mp : Nat) (tp : Nat → Int) (vp : Nat → Int) (gp : Nat → Int) (wp : Nat → Int) (al nl ml : Nat) (tl : Nat → Int) (sy : Int) : Prop :=
  test (decide (ap + np ≤ mp ∧ np ≤ 1000000))
 (test ((S.treE np (fun (q : Nat) => tp (q + ap)) (fun (q : Nat) => vp (q + ap)) (fun (q : Nat) => gp (q + ap))
 fun (q : Nat) => wp (q + ap)) !=
 (0 : Int))
 (Kret (PV.tup
 [PV.nils,
 PV.int IntKind.i64
 (S.treE np (fun (q : Nat) => tp (q + ap)) (fun (q : Nat) => vp (q + ap)) (fun (q : Nat) => gp (q + ap))
 fun (q : Nat) => wp (q + ap))]) ([[(1, false, Blk.cols ml [Col.int IntKind.i64 tl]),
 (0, false,
 Blk.cols mp
 [Col.int IntKind.i64 tp, Col.int IntKind.i64 vp, Col.int IntKind.i64 gp,
 Col.int IntKind.i64 wp])]]) (4))
 (test ((↑nl : Int) != (↑np : Int))
 (Kret (PV.tup [PV.nils, PV.int IntKind.i64 (6 : Int)]) ([[(1, false, Blk.cols ml [Col.int IntKind.i64 tl]),
 (0, false,
 Blk.cols mp
 [Col.int IntKind.i64 tp, Col.int IntKind.i64 vp, Col.int IntKind.i64 gp,
 Col.int IntKind.i64 wp])]]) (4))
 (test (decide ((0 : Int) ≤ (0 : Int) ∧ (0 : Int) < (↑nl : Int)))
 (test (decide (0 + al < ml))
 (test (tl (0 + al) != (0 : Int))
 (Kret (PV.tup [PV.nils, PV.int IntKind.i64 (6 : Int)]) ([[(1, false, Blk.cols ml [Col.int IntKind.i64 tl]),
 (0, false,
 Blk.cols mp
 [Col.int IntKind.i64 tp, Col.int IntKind.i64 vp, Col.int IntKind.i64 gp,
 Col.int IntKind.i64 wp])]]) (4))
 (test (decide (sy ≥ (0 : Int)))
 (test (decide (sy ≤ (1000000000 : Int)))
 (Kst (hd Try.f23 0) ([PV.loose (PA.mk (1) (1) al (0)) nl, PV.int IntKind.i64 sy,
 PV.ptr (PA.mk (2) (0) (0) (0)), PV.unk, PV.unk,
 PV.loose (PA.mk (1) (1) al (0)) nl, PV.int IntKind.i64 (↑nl : Int),
 PV.int IntKind.i64 (0 : Int)]) ([[(1, false, Blk.cols ml [Col.int IntKind.i64 tl]),
 (0, false,
 Blk.cols mp
 [Col.int IntKind.i64 tp, Col.int IntKind.i64 vp, Col.int IntKind.i64 gp,
 Col.int IntKind.i64 wp]),
 (2, true, Blk.cells [PV.loose (PA.mk (0) (4) ap (0)) np])]]) (4))
 (Kret (PV.tup [PV.nils, PV.int IntKind.i64 (6 : Int)]) ([[(1, false, Blk.cols ml [Col.int IntKind.i64 tl]),
 (0, false,
 Blk.cols mp
 [Col.int IntKind.i64 tp, Col.int IntKind.i64 vp, Col.int IntKind.i64 gp,
 Col.int IntKind.i64 wp])]]) (4)))
 (Kret (PV.tup [PV.nils, PV.int IntKind.i64 (6 : Int)]) ([[(1, false, Blk.cols ml [Col.int IntKind.i64 tl]),
 (0, false,
 Blk.cols mp
 [Col.int IntKind.i64 tp, Col.int IntKind.i64 vp, Col.int IntKind.i64 gp,
 Col.int IntKind.i64 wp])]]) (4))))
 (False))
 (False))))
 (False)
set_option maxRecDepth 100000 in
theorem te23 (test : Bool → Prop → Prop → Prop) (Kst : KS) (Kret : KR) (ap np mp : Nat) (tp : Nat → Int) (vp : Nat → Int) (gp : Nat → Int) (wp : Nat → Int) (al nl ml : Nat) (tl : Nat → Int) (sy : Int) : run test Try.env true (xK test) true 400 ⟨23, [.cd (mkFn Try.f23).body], argT 0 [.agg [.loose ⟨0, 4, ap, 0⟩ np], .loose ⟨1, 1, al, 0⟩ nl, .int .i64 sy], [[], [(0, (false, .cols mp [.int .i64 tp, .int .i64 vp, .int .i64 gp, .int .i64 wp])), (1, (false, .cols ml [.int .i64 tl]))]], 2⟩ (proj 2 [1, 2, 3, 11, 12, 39, 40, 41] Kst Kret) =
  Te23 test Kst Kret ap np mp tp vp gp wp al nl ml tl sy := by kernel_rfl
noncomputable def T23_0 (test : Bool → Prop → Prop → Prop) (Kst : KS) (Kret : KR) (ap np mp : Nat) (tp : Nat → Int) (vp : Nat → Int) (gp : Nat → Int) (wp : Nat → Int) (al nl ml : Nat) (tl : Nat → Int) (sy : Int) (x0 : Int) : Prop :=
  test (decide (x0 < (↑nl : Int)))
 (test (decide ((0 : Int) ≤ x0 ∧ x0 < (↑nl : Int)))
 (test (decide (Int.toNat x0 + al < ml))
 (test (decide (tl (Int.toNat x0 + al) ≥ (0 : Int)))
 (test (decide (tl (Int.toNat x0 + al) ≤ (1000000000 : Int)))
 (test (lim IntKind.i64 (x0 + (1 : Int)))
 (Kst (hd Try.f23 0) ([PV.loose (PA.mk (1) (1) al (0)) nl, PV.int IntKind.i64 sy,
 PV.ptr (PA.mk (2) (0) (0) (0)), PV.unk, PV.unk,
 PV.loose (PA.mk (1) (1) al (0)) nl, PV.int IntKind.i64 (↑nl : Int),
 PV.int IntKind.i64 (x0 + (1 : Int))]) ([[(1, false, Blk.cols ml [Col.int IntKind.i64 tl]),
 (0, false,
 Blk.cols mp
 [Col.int IntKind.i64 tp, Col.int IntKind.i64 vp, Col.int IntKind.i64 gp,
 Col.int IntKind.i64 wp]),
 (2, true, Blk.cells [PV.loose (PA.mk (0) (4) ap (0)) np])]]) (3))
 (False))
 (Kret (PV.tup [PV.nils, PV.int IntKind.i64 (6 : Int)]) ([[(1, false, Blk.cols ml [Col.int IntKind.i64 tl]),
 (0, false,
 Blk.cols mp
 [Col.int IntKind.i64 tp, Col.int IntKind.i64 vp, Col.int IntKind.i64 gp,
 Col.int IntKind.i64 wp])]]) (3)))
 (Kret (PV.tup [PV.nils, PV.int IntKind.i64 (6 : Int)]) ([[(1, false, Blk.cols ml [Col.int IntKind.i64 tl]),
 (0, false,
 Blk.cols mp
 [Col.int IntKind.i64 tp, Col.int IntKind.i64 vp, Col.int IntKind.i64 gp,
 Col.int IntKind.i64 wp])]]) (3)))
 (False))
 (False))
 (Kst (hd Try.f23 1) ([PV.loose (PA.mk (1) (1) al (0)) nl, PV.int IntKind.i64 sy,
 PV.ptr (PA.mk (2) (0) (0) (0)),
 PV.own (3) (4) (1), PV.int IntKind.i64 (1 : Int),
 PV.loose (PA.mk (1) (1) al (0)) nl, PV.int IntKind.i64 (↑nl : Int),
 PV.int IntKind.i64 x0]) ([[(1, false, Blk.cols ml [Col.int IntKind.i64 tl]),
 (0, false,
 Blk.cols mp
 [Col.int IntKind.i64 tp, Col.int IntKind.i64 vp, Col.int IntKind.i64 gp,
 Col.int IntKind.i64 wp]),
 (3, true,
 Blk.cells
 [PV.int IntKind.i64 (0 : Int), PV.int IntKind.i64 (0 : Int), PV.tf false,
 PV.tf false]),
 (2, true, Blk.cells [PV.loose (PA.mk (0) (4) ap (0)) np])]]) (4))
set_option maxRecDepth 100000 in
theorem t23_0 (test : Bool → Prop → Prop → Prop) (Kst : KS) (Kret : KR) (ap np mp : Nat) (tp : Nat → Int) (vp : Nat → Int) (gp : Nat → Int) (wp : Nat → Int) (al nl ml : Nat) (tl : Nat → Int) (sy : Int) (x0 : Int) : run test Try.env true (xK test) true 400 ⟨23, hd Try.f23 0, zipT [1, 2, 3, 11, 12, 39, 40, 41] [PV.loose (PA.mk (1) (1) al (0)) nl, PV.int IntKind.i64 sy,
 PV.ptr (PA.mk (2) (0) (0) (0)), PV.unk, PV.unk,
 PV.loose (PA.mk (1) (1) al (0)) nl, PV.int IntKind.i64 (↑nl : Int),
 PV.int IntKind.i64 x0], [[(2, (true, Blk.cells [PV.loose (PA.mk (0) (4) ap (0)) np]))], [(0, (false, .cols mp [.int .i64 tp, .int .i64 vp, .int .i64 gp, .int .i64 wp])), (1, (false, .cols ml [.int .i64 tl]))]], 3⟩ (proj 2 [1, 2, 3, 11, 12, 39, 40, 41] Kst Kret) =
  T23_0 test Kst Kret ap np mp tp vp gp wp al nl ml tl sy x0 := by kernel_rfl
noncomputable def T23_1 (test : Bool → Prop → Prop → Prop) (Kst : KS) (Kret : KR) (ap np mp : Nat) (tp : Nat → Int) (vp : Nat → Int) (gp : Nat → Int) (wp : Nat → Int) (al nl ml : Nat) (tl : Nat → Int) (sy : Int) (x0 : Int) (x1 : List (Int × Int × Bool × Bool)) : Prop :=
  test (decide (x0 < (↑np : Int)))
 (test (decide
 (ap + np ≤ mp ∧
 np ≤ 1000000 ∧
 (S.treE np (fun (q : Nat) => tp (q + ap)) (fun (q : Nat) => vp (q + ap)) (fun (q : Nat) => gp (q + ap))
 fun (q : Nat) => wp (q + ap)) =
 (0 : Int) ∧
 (0 : Int) ≤ x0 ∧ x0 < (↑np : Int)))
 (test (lim IntKind.i64
 ((2 : Int) * S.dl (fun (q : Nat) => tp (q + ap)) (fun (q : Nat) => wp (q + ap)) (Int.toNat x0)))
 (test (lim IntKind.i64
 ((2 : Int) * S.dl (fun (q : Nat) => tp (q + ap)) (fun (q : Nat) => wp (q + ap)) (Int.toNat x0) + sy))
 (test (decide ((0 : Int) ≤ x0 ∧ x0 < (↑nl : Int)))
 (test (decide (Int.toNat x0 + al < ml))
 (test (lim IntKind.i64
 (tl (Int.toNat x0 + al) -
 ((2 : Int) * S.dl (fun (q : Nat) => tp (q + ap)) (fun (q : Nat) => wp (q + ap)) (Int.toNat x0) + sy)))
 (test (lim IntKind.i64
 (tl (Int.toNat x0 + al) -
 ((2 : Int) * S.dl (fun (q : Nat) => tp (q + ap)) (fun (q : Nat) => wp (q + ap)) (Int.toNat x0) + sy) +
 (1 : Int)))
 (test (false)
 (False)
 (test (decide ((0 : Int) ≤ x0 ∧ x0 < (↑nl : Int)))
 (test (decide (Int.toNat x0 + al < ml))
 (test (lim IntKind.i64
 (tl (Int.toNat x0 + al) +
 ((2 : Int) * S.dl (fun (q : Nat) => tp (q + ap)) (fun (q : Nat) => wp (q + ap)) (Int.toNat x0) + sy)))
 (test (false)
 (False)
 (test (decide
 (Max.max (0 : Int)
 (S.shrB IntKind.i64
 (tl (Int.toNat x0 + al) -
 ((2 : Int) * S.dl (fun (q : Nat) => tp (q + ap)) (fun (q : Nat) => wp (q + ap)) (Int.toNat x0) + sy) +
 (1 : Int))
 (1 : Int)) >
 S.shrB IntKind.i64
 (tl (Int.toNat x0 + al) +
 ((2 : Int) * S.dl (fun (q : Nat) => tp (q + ap)) (fun (q : Nat) => wp (q + ap)) (Int.toNat x0) + sy))
 (1 : Int)))
 (Kret (PV.tup [PV.nils, PV.int IntKind.i64 (12 : Int)]) ([[(1, false, Blk.cols ml [Col.int IntKind.i64 tl]),
 (0, false,
 Blk.cols mp
 [Col.int IntKind.i64 tp, Col.int IntKind.i64 vp, Col.int IntKind.i64 gp,
 Col.int IntKind.i64 wp])]]) (6))
 (test (decide (List.length x1 + 1 ≤ 1000000))
 (test (decide (List.length x1 ≤ List.length x1))
 (test (true)
 (test (lim IntKind.i64 (x0 + (1 : Int)))
 (Kst (hd Try.f23 1) ([PV.loose (PA.mk (1) (1) al (0)) nl, PV.int IntKind.i64 sy,
 PV.ptr (PA.mk (2) (0) (0) (0)),
 PV.own (7) (4) (List.length x1 + 1), PV.int IntKind.i64 (x0 + (1 : Int)),
 PV.unk, PV.unk, PV.unk]) ([[(1, false, Blk.cols ml [Col.int IntKind.i64 tl]),
 (0, false,
 Blk.cols mp
 [Col.int IntKind.i64 tp, Col.int IntKind.i64 vp, Col.int IntKind.i64 gp,
 Col.int IntKind.i64 wp]),
 (7, true,
 Blk.cols (List.length x1 + 1)
 [Col.int IntKind.i64 fun (j : Nat) =>
 bif Nat.blt j (List.length x1) then (S.at' x1 j).1
 else
 Max.max (0 : Int)
 (S.shrB IntKind.i64
 (tl (Int.toNat x0 + al) -
 ((2 : Int) *
 S.dl (fun (q : Nat) => tp (q + ap)) (fun (q : Nat) => wp (q + ap)) (Int.toNat x0) +
 sy) +
 (1 : Int))
 (1 : Int)),
 Col.int IntKind.i64 fun (j : Nat) =>
 bif Nat.blt j (List.length x1) then (S.at' x1 j).2.1
 else
 S.shrB IntKind.i64
 (tl (Int.toNat x0 + al) +
 ((2 : Int) * S.dl (fun (q : Nat) => tp (q + ap)) (fun (q : Nat) => wp (q + ap)) (Int.toNat x0) +
 sy))
 (1 : Int),
 Col.bool fun (j : Nat) =>
 bif Nat.blt j (List.length x1) then (S.at' x1 j).2.2.1 else false,
 Col.bool fun (j : Nat) =>
 bif Nat.blt j (List.length x1) then (S.at' x1 j).2.2.2 else false]),
 (2, true, Blk.cells [PV.loose (PA.mk (0) (4) ap (0)) np])]]) (8))
 (False))
 (False))
 (False))
 (False))))
 (False))
 (False))
 (False)))
 (False))
 (False))
 (False))
 (False))
 (False))
 (False))
 (False))
 (Kret (PV.tup [PV.own (3) (4) (List.length x1), PV.int IntKind.i64 (0 : Int)]) ([[(1, false, Blk.cols ml [Col.int IntKind.i64 tl]),
 (0, false,
 Blk.cols mp
 [Col.int IntKind.i64 tp, Col.int IntKind.i64 vp, Col.int IntKind.i64 gp,
 Col.int IntKind.i64 wp]),
 (3, true,
 Blk.cols (List.length x1)
 [Col.int IntKind.i64 fun (j : Nat) => (S.at' x1 j).1,
 Col.int IntKind.i64 fun (j : Nat) => (S.at' x1 j).2.1,
 Col.bool fun (j : Nat) => (S.at' x1 j).2.2.1,
 Col.bool fun (j : Nat) => (S.at' x1 j).2.2.2])]]) (4))
set_option maxRecDepth 100000 in
theorem t23_1 (test : Bool → Prop → Prop → Prop) (Kst : KS) (Kret : KR) (ap np mp : Nat) (tp : Nat → Int) (vp : Nat → Int) (gp : Nat → Int) (wp : Nat → Int) (al nl ml : Nat) (tl : Nat → Int) (sy : Int) (x0 : Int) (x1 : List (Int × Int × Bool × Bool)) : run test Try.env true (xK test) true 400 ⟨23, hd Try.f23 1, zipT [1, 2, 3, 11, 12, 39, 40, 41] [PV.loose (PA.mk (1) (1) al (0)) nl, PV.int IntKind.i64 sy,
 PV.ptr (PA.mk (2) (0) (0) (0)),
 PV.own (3) (4) (List.length x1), PV.int IntKind.i64 x0, PV.unk, PV.unk,
 PV.unk], [[(2, (true, Blk.cells [PV.loose (PA.mk (0) (4) ap (0)) np])), (3, (true, Blk.cols (List.length x1)
 [Col.int IntKind.i64 fun (j : Nat) => (S.at' x1 j).1,
 Col.int IntKind.i64 fun (j : Nat) => (S.at' x1 j).2.1,
 Col.bool fun (j : Nat) => (S.at' x1 j).2.2.1,
 Col.bool fun (j : Nat) => (S.at' x1 j).2.2.2]))], [(0, (false, .cols mp [.int .i64 tp, .int .i64 vp, .int .i64 gp, .int .i64 wp])), (1, (false, .cols ml [.int .i64 tl]))]], 4⟩ (proj 2 [1, 2, 3, 11, 12, 39, 40, 41] Kst Kret) =
  T23_1 test Kst Kret ap np mp tp vp gp wp al nl ml tl sy x0 x1 := by kernel_rfl
set_option maxRecDepth 100000 in
theorem be23 (ap np mp : Nat) (tp : Nat → Int) (vp : Nat → Int) (gp : Nat → Int) (wp : Nat → Int) (al nl ml : Nat) (tl : Nat → Int) (sy : Int) (Kst : KS) (Kret : KR) (x : St23 ⊕ Rt23) (hS : HS 2 400 ((I23 ap np mp tp vp gp wp al nl ml tl sy)) Kst x) (hR : HR 2 400 ((V23 ap np mp tp vp gp wp al nl ml tl sy)) (fun r => [newL (2 + 1) ((N23 ap np mp tp vp gp wp al nl ml tl sy) r) ++ [(0, (false, .cols mp [.int .i64 tp, .int .i64 vp, .int .i64 gp, .int .i64 wp])), (1, (false, .cols ml [.int .i64 tl]))]]) Kret x) (h : (bif (decide (ap + np ≤ mp ∧ np ≤ 1000000))
 then (bif ((S.treE np (fun (q : Nat) => tp (q + ap)) (fun (q : Nat) => vp (q + ap)) (fun (q : Nat) => gp (q + ap))
 fun (q : Nat) => wp (q + ap)) !=
 (0 : Int))
 then (some (.inr (S.treE np (fun (q : Nat) => tp (q + ap)) (fun (q : Nat) => vp (q + ap)) (fun (q : Nat) => gp (q + ap))
 fun (q : Nat) => wp (q + ap), [])))
 else (bif ((↑nl : Int) != (↑np : Int))
 then (some (.inr ((6 : Int), [])))
 else (bif (decide ((0 : Int) ≤ (0 : Int) ∧ (0 : Int) < (↑nl : Int)))
 then (bif (decide (0 + al < ml))
 then (bif (tl (0 + al) != (0 : Int))
 then (some (.inr ((6 : Int), [])))
 else (bif (decide (sy ≥ (0 : Int)))
 then (bif (decide (sy ≤ (1000000000 : Int)))
 then (some (.inl (.h0 ((0 : Int)))))
 else (some (.inr ((6 : Int), []))))
 else (some (.inr ((6 : Int), [])))))
 else (none))
 else (none))))
 else (none) : Option (St23 ⊕ Rt23)) = some x) : Te23 cond Kst Kret ap np mp tp vp gp wp al nl ml tl sy := by
  unfold Te23
  exact bif_split h
   (fun c0 h => bif_split h
   (fun c1 h => ret_at hR _ h (fun n => bif Nat.beq n 3 then 399 else n) rfl rfl rfl (rn_tup ⟨(rn_own_nils rfl), (rn_int rfl), trivial⟩) rfl (entl_fresh (use_own rfl) (fresh_ok rfl) (entl_bor (use_lo rfl) rfl rfl (entl_bor (use_lo rfl) rfl rfl entl_nil))))
   (fun c1 h => bif_split h
   (fun c2 h => ret_at hR _ h (fun n => bif Nat.beq n 3 then 399 else n) rfl rfl rfl (rn_tup ⟨(rn_own_nils rfl), (rn_int rfl), trivial⟩) rfl (entl_fresh (use_own rfl) (fresh_ok rfl) (entl_bor (use_lo rfl) rfl rfl (entl_bor (use_lo rfl) rfl rfl entl_nil))))
   (fun c2 h => bif_split h
   (fun c3 h => bif_split h
   (fun c4 h => bif_split h
   (fun c5 h => ret_at hR _ h (fun n => bif Nat.beq n 3 then 399 else n) rfl rfl rfl (rn_tup ⟨(rn_own_nils rfl), (rn_int rfl), trivial⟩) rfl (entl_fresh (use_own rfl) (fresh_ok rfl) (entl_bor (use_lo rfl) rfl rfl (entl_bor (use_lo rfl) rfl rfl entl_nil))))
   (fun c5 h => bif_split h
   (fun c6 h => bif_split h
   (fun c7 h => stop_at hS _ h (fun n => bif Nat.beq n 2 then 2 else n) rfl rfl rfl ⟨(rn_loose (use_lo rfl) rfl rfl rfl), ⟨(rn_int rfl), ⟨(rn_ptr (use_own rfl) rfl rfl), ⟨(rn_unk _), ⟨(rn_unk _), ⟨(rn_loose (use_lo rfl) rfl rfl rfl), ⟨(rn_int rfl), ⟨(rn_int rfl), trivial⟩⟩⟩⟩⟩⟩⟩⟩ rfl (entl_b (use_own rfl) rfl (by simp) (rb_cells ⟨(rn_loose (use_lo rfl) rfl rfl rfl), trivial⟩) (entl_bor (use_lo rfl) rfl rfl (entl_bor (use_lo rfl) rfl rfl entl_nil))))
   (fun c7 h => ret_at hR _ h (fun n => bif Nat.beq n 3 then 399 else n) rfl rfl rfl (rn_tup ⟨(rn_own_nils rfl), (rn_int rfl), trivial⟩) rfl (entl_fresh (use_own rfl) (fresh_ok rfl) (entl_bor (use_lo rfl) rfl rfl (entl_bor (use_lo rfl) rfl rfl entl_nil)))))
   (fun c6 h => ret_at hR _ h (fun n => bif Nat.beq n 3 then 399 else n) rfl rfl rfl (rn_tup ⟨(rn_own_nils rfl), (rn_int rfl), trivial⟩) rfl (entl_fresh (use_own rfl) (fresh_ok rfl) (entl_bor (use_lo rfl) rfl rfl (entl_bor (use_lo rfl) rfl rfl entl_nil))))))
   (fun c4 h => no_some h))
   (fun c3 h => no_some h))))
   (fun c0 h => no_some h)
set_option maxRecDepth 100000 in
theorem b23_0 (ap np mp : Nat) (tp : Nat → Int) (vp : Nat → Int) (gp : Nat → Int) (wp : Nat → Int) (al nl ml : Nat) (tl : Nat → Int) (sy : Int) (Kst : KS) (Kret : KR) (x : St23 ⊕ Rt23) (hS : HS 2 400 ((I23 ap np mp tp vp gp wp al nl ml tl sy)) Kst x) (hR : HR 2 400 ((V23 ap np mp tp vp gp wp al nl ml tl sy)) (fun r => [newL (2 + 1) ((N23 ap np mp tp vp gp wp al nl ml tl sy) r) ++ [(0, (false, .cols mp [.int .i64 tp, .int .i64 vp, .int .i64 gp, .int .i64 wp])), (1, (false, .cols ml [.int .i64 tl]))]]) Kret x) (x0 : Int) (h : (bif (decide (x0 < (↑nl : Int)))
 then (bif (decide ((0 : Int) ≤ x0 ∧ x0 < (↑nl : Int)))
 then (bif (decide (Int.toNat x0 + al < ml))
 then (bif (decide (tl (Int.toNat x0 + al) ≥ (0 : Int)))
 then (bif (decide (tl (Int.toNat x0 + al) ≤ (1000000000 : Int)))
 then (bif (lim IntKind.i64 (x0 + (1 : Int)))
 then (some (.inl (.h0 (x0 + (1 : Int)))))
 else (none))
 else (some (.inr ((6 : Int), []))))
 else (some (.inr ((6 : Int), []))))
 else (none))
 else (none))
 else (some (.inl (.h1 ((1 : Int)) ([((0 : Int), (0 : Int), false, false)])))) : Option (St23 ⊕ Rt23)) = some x) : T23_0 cond Kst Kret ap np mp tp vp gp wp al nl ml tl sy x0 := by
  unfold T23_0
  exact bif_split h
   (fun c0 h => bif_split h
   (fun c1 h => bif_split h
   (fun c2 h => bif_split h
   (fun c3 h => bif_split h
   (fun c4 h => bif_split h
   (fun c5 h => stop_at hS _ h (fun n => bif Nat.beq n 2 then 2 else n) rfl rfl rfl ⟨(rn_loose (use_lo rfl) rfl rfl rfl), ⟨(rn_int rfl), ⟨(rn_ptr (use_own rfl) rfl rfl), ⟨(rn_unk _), ⟨(rn_unk _), ⟨(rn_loose (use_lo rfl) rfl rfl rfl), ⟨(rn_int rfl), ⟨(rn_int rfl), trivial⟩⟩⟩⟩⟩⟩⟩⟩ rfl (entl_b (use_own rfl) rfl (by simp) (rb_cells ⟨(rn_loose (use_lo rfl) rfl rfl rfl), trivial⟩) (entl_bor (use_lo rfl) rfl rfl (entl_bor (use_lo rfl) rfl rfl entl_nil))))
   (fun c5 h => no_some h))
   (fun c4 h => ret_at hR _ h (fun n => bif Nat.beq n 3 then 399 else n) rfl rfl rfl (rn_tup ⟨(rn_own_nils rfl), (rn_int rfl), trivial⟩) rfl (entl_fresh (use_own rfl) (fresh_ok rfl) (entl_bor (use_lo rfl) rfl rfl (entl_bor (use_lo rfl) rfl rfl entl_nil)))))
   (fun c3 h => ret_at hR _ h (fun n => bif Nat.beq n 3 then 399 else n) rfl rfl rfl (rn_tup ⟨(rn_own_nils rfl), (rn_int rfl), trivial⟩) rfl (entl_fresh (use_own rfl) (fresh_ok rfl) (entl_bor (use_lo rfl) rfl rfl (entl_bor (use_lo rfl) rfl rfl entl_nil)))))
   (fun c2 h => no_some h))
   (fun c1 h => no_some h))
   (fun c0 h => stop_at hS _ h (fun n => bif Nat.beq n 2 then 2 else bif Nat.beq n 3 then 3 else n) rfl rfl rfl ⟨(rn_loose (use_lo rfl) rfl rfl rfl), ⟨(rn_int rfl), ⟨(rn_ptr (use_own rfl) rfl rfl), ⟨(rn_own (use_own rfl) rfl rfl), ⟨(rn_int rfl), ⟨(rn_unk _), ⟨(rn_unk _), ⟨(rn_unk _), trivial⟩⟩⟩⟩⟩⟩⟩⟩ rfl (entl_b (use_own rfl) rfl (by simp) (rb_cells ⟨(rn_loose (use_lo rfl) rfl rfl rfl), trivial⟩) (entl_b (use_own rfl) rfl (by simp) (rb_lit (fun j hj i hi => (match j, hj with | 0, _ => (match i, hi with | 0, _ => ⟨_, rfl, rn_int rfl⟩ | 1, _ => ⟨_, rfl, rn_int rfl⟩ | 2, _ => ⟨_, rfl, rn_bool_tf rfl⟩ | 3, _ => ⟨_, rfl, rn_bool_tf rfl⟩ | _ + 4, h => absurd h (by simp [lenc])) | _ + 1, h => absurd h (by simp)))) (entl_bor (use_lo rfl) rfl rfl (entl_bor (use_lo rfl) rfl rfl entl_nil)))))
set_option maxRecDepth 100000 in
theorem b23_1 (ap np mp : Nat) (tp : Nat → Int) (vp : Nat → Int) (gp : Nat → Int) (wp : Nat → Int) (al nl ml : Nat) (tl : Nat → Int) (sy : Int) (Kst : KS) (Kret : KR) (x : St23 ⊕ Rt23) (hS : HS 2 400 ((I23 ap np mp tp vp gp wp al nl ml tl sy)) Kst x) (hR : HR 2 400 ((V23 ap np mp tp vp gp wp al nl ml tl sy)) (fun r => [newL (2 + 1) ((N23 ap np mp tp vp gp wp al nl ml tl sy) r) ++ [(0, (false, .cols mp [.int .i64 tp, .int .i64 vp, .int .i64 gp, .int .i64 wp])), (1, (false, .cols ml [.int .i64 tl]))]]) Kret x) (x0 : Int) (x1 : List (Int × Int × Bool × Bool)) (h : (bif (decide (x0 < (↑np : Int)))
 then (bif (decide
 (ap + np ≤ mp ∧
 np ≤ 1000000 ∧
 (S.treE np (fun (q : Nat) => tp (q + ap)) (fun (q : Nat) => vp (q + ap)) (fun (q : Nat) => gp (q + ap))
 fun (q : Nat) => wp (q + ap)) =
 (0 : Int) ∧
 (0 : Int) ≤ x0 ∧ x0 < (↑np : Int)))
 then (bif (lim IntKind.i64
 ((2 : Int) * S.dl (fun (q : Nat) => tp (q + ap)) (fun (q : Nat) => wp (q + ap)) (Int.toNat x0)))
 then (bif (lim IntKind.i64
 ((2 : Int) * S.dl (fun (q : Nat) => tp (q + ap)) (fun (q : Nat) => wp (q + ap)) (Int.toNat x0) + sy))
 then (bif (decide ((0 : Int) ≤ x0 ∧ x0 < (↑nl : Int)))
 then (bif (decide (Int.toNat x0 + al < ml))
 then (bif (lim IntKind.i64
 (tl (Int.toNat x0 + al) -
 ((2 : Int) * S.dl (fun (q : Nat) => tp (q + ap)) (fun (q : Nat) => wp (q + ap)) (Int.toNat x0) + sy)))
 then (bif (lim IntKind.i64
 (tl (Int.toNat x0 + al) -
 ((2 : Int) * S.dl (fun (q : Nat) => tp (q + ap)) (fun (q : Nat) => wp (q + ap)) (Int.toNat x0) + sy) +
 (1 : Int)))
 then (bif (lim IntKind.i64
 (tl (Int.toNat x0 + al) +
 ((2 : Int) * S.dl (fun (q : Nat) => tp (q + ap)) (fun (q : Nat) => wp (q + ap)) (Int.toNat x0) + sy)))
 then (bif (decide
 (Max.max (0 : Int)
 (S.shrB IntKind.i64
 (tl (Int.toNat x0 + al) -
 ((2 : Int) * S.dl (fun (q : Nat) => tp (q + ap)) (fun (q : Nat) => wp (q + ap)) (Int.toNat x0) + sy) +
 (1 : Int))
 (1 : Int)) >
 S.shrB IntKind.i64
 (tl (Int.toNat x0 + al) +
 ((2 : Int) * S.dl (fun (q : Nat) => tp (q + ap)) (fun (q : Nat) => wp (q + ap)) (Int.toNat x0) + sy))
 (1 : Int)))
 then (some (.inr ((12 : Int), [])))
 else (bif (decide (List.length x1 + 1 ≤ 1000000))
 then (bif (decide (List.length x1 ≤ List.length x1))
 then (bif (lim IntKind.i64 (x0 + (1 : Int)))
 then (some (.inl (.h1 (x0 + (1 : Int)) (S.snoc x1
 (Max.max (0 : Int)
 (S.shrB IntKind.i64
 (tl (Int.toNat x0 + al) -
 ((2 : Int) * S.dl (fun (q : Nat) => tp (q + ap)) (fun (q : Nat) => wp (q + ap)) (Int.toNat x0) + sy) +
 (1 : Int))
 (1 : Int)),
 S.shrB IntKind.i64
 (tl (Int.toNat x0 + al) +
 ((2 : Int) * S.dl (fun (q : Nat) => tp (q + ap)) (fun (q : Nat) => wp (q + ap)) (Int.toNat x0) + sy))
 (1 : Int),
 false, false)))))
 else (none))
 else (none))
 else (none)))
 else (none))
 else (none))
 else (none))
 else (none))
 else (none))
 else (none))
 else (none))
 else (none))
 else (some (.inr ((0 : Int), x1))) : Option (St23 ⊕ Rt23)) = some x) : T23_1 cond Kst Kret ap np mp tp vp gp wp al nl ml tl sy x0 x1 := by
  unfold T23_1
  exact bif_split h
   (fun c0 h => bif_split h
   (fun c1 h => bif_split h
   (fun c2 h => bif_split h
   (fun c3 h => bif_split h
   (fun c4 h => bif_split h
   (fun c5 h => bif_split h
   (fun c6 h => bif_split h
   (fun c7 h => cond_no rfl (cond_yes c4 (cond_yes c5 (bif_split h
   (fun c8 h => cond_no rfl (bif_split h
   (fun c9 h => ret_at hR _ h (fun n => bif Nat.beq n 3 then 399 else n) rfl rfl rfl (rn_tup ⟨(rn_own_nils rfl), (rn_int rfl), trivial⟩) rfl (entl_fresh (use_own rfl) (fresh_ok rfl) (entl_bor (use_lo rfl) rfl rfl (entl_bor (use_lo rfl) rfl rfl entl_nil))))
   (fun c9 h => bif_split h
   (fun c10 h => bif_split h
   (fun c11 h => cond_yes rfl (bif_split h
   (fun c12 h => stop_at hS _ h (fun n => bif Nat.beq n 2 then 2 else bif Nat.beq n 3 then 7 else n) rfl rfl rfl ⟨(rn_loose (use_lo rfl) rfl rfl rfl), ⟨(rn_int rfl), ⟨(rn_ptr (use_own rfl) rfl rfl), ⟨(rn_own (use_own rfl) rfl (snoc_len' rfl)), ⟨(rn_int rfl), ⟨(rn_unk _), ⟨(rn_unk _), ⟨(rn_unk _), trivial⟩⟩⟩⟩⟩⟩⟩⟩ rfl (entl_b (use_own rfl) rfl (by simp) (rb_cells ⟨(rn_loose (use_lo rfl) rfl rfl rfl), trivial⟩) (entl_new (use_own rfl) rfl (Nat.le_of_eq (snoc_len' rfl)) (rcs_int (col_snoc' (fun (t : Int × Int × Bool × Bool) => t.1) rfl (fun _ _ => rfl)) (rcs_int (col_snoc' (fun (t : Int × Int × Bool × Bool) => t.2.1) rfl (fun _ _ => rfl)) (rcs_bool (col_snoc' (fun (t : Int × Int × Bool × Bool) => t.2.2.1) rfl (fun _ _ => rfl)) (rcs_bool (col_snoc' (fun (t : Int × Int × Bool × Bool) => t.2.2.2) rfl (fun _ _ => rfl)) rcs_nil)))) (entl_bor (use_lo rfl) rfl rfl (entl_bor (use_lo rfl) rfl rfl entl_nil)))))
   (fun c12 h => no_some h)))
   (fun c11 h => no_some h))
   (fun c10 h => no_some h))))
   (fun c8 h => no_some h)))))
   (fun c7 h => no_some h))
   (fun c6 h => no_some h))
   (fun c5 h => no_some h))
   (fun c4 h => no_some h))
   (fun c3 h => no_some h))
   (fun c2 h => no_some h))
   (fun c1 h => no_some h))
   (fun c0 h => ret_at hR _ h (fun n => bif Nat.beq n 3 then 3 else n) rfl rfl rfl (rn_tup ⟨(rn_own (use_own rfl) rfl rfl), (rn_int rfl), trivial⟩) rfl (entl_new (use_own rfl) rfl (Nat.le_of_eq rfl) (rcs_int (fun _ _ => rfl) (rcs_int (fun _ _ => rfl) (rcs_bool (fun _ _ => rfl) (rcs_bool (fun _ _ => rfl) rcs_nil)))) (entl_bor (use_lo rfl) rfl rfl (entl_bor (use_lo rfl) rfl rfl entl_nil))))
theorem a23 (ap np mp : Nat) (tp : Nat → Int) (vp : Nat → Int) (gp : Nat → Int) (wp : Nat → Int) (al nl ml : Nat) (tl : Nat → Int) (sy : Int) {r : Rt23} (h : Goes ((q23 ap np mp tp vp gp wp al nl ml tl sy)) ((p23 ap np mp tp vp gp wp al nl ml tl sy)) r) : CallR Try.prog 23 [.agg [.loose ⟨0, 4, ap, 0⟩ np], .loose ⟨1, 1, al, 0⟩ nl, .int .i64 sy] [[(0, (false, .cols mp [.int .i64 tp, .int .i64 vp, .int .i64 gp, .int .i64 wp])), (1, (false, .cols ml [.int .i64 tl]))]] 2 ((V23 ap np mp tp vp gp wp al nl ml tl sy) r) ((fun r => [newL (2 + 1) ((N23 ap np mp tp vp gp wp al nl ml tl sy) r) ++ [(0, (false, .cols mp [.int .i64 tp, .int .i64 vp, .int .i64 gp, .int .i64 wp])), (1, (false, .cols ml [.int .i64 tl]))]]) r) 400 ∧ ∃ F, Try.prog.funcs[23]? = some F ∧ F.body.isSome = true ∧ (F.name == "runtime.NumGoroutine") = false := by
  refine dec_calls (f := 23) (lo := 2) (hi := 400) (H := [[(0, (false, .cols mp [.int .i64 tp, .int .i64 vp, .int .i64 gp, .int .i64 wp])), (1, (false, .cols ml [.int .i64 tl]))]]) (args := [.agg [.loose ⟨0, 4, ap, 0⟩ np], .loose ⟨1, 1, al, 0⟩ nl, .int .i64 sy]) Try.envOk Try.mixed xK_ok ((I23 ap np mp tp vp gp wp al nl ml tl sy)) ((V23 ap np mp tp vp gp wp al nl ml tl sy)) (fun r => [newL (2 + 1) ((N23 ap np mp tp vp gp wp al nl ml tl sy) r) ++ [(0, (false, .cols mp [.int .i64 tp, .int .i64 vp, .int .i64 gp, .int .i64 wp])), (1, (false, .cols ml [.int .i64 tl]))]]) (fn := mkFn Try.f23) (ts := [1, 2, 3, 11, 12, 39, 40, 41]) (n := 400) rfl (by decide) (by simp) (names_of rfl) ?_ ?_ ?_ h
  · intro s; cases s <;> exact ⟨hd_ok _ _, by simp [I23], names_of rfl, Nat.le_of_ble_eq_true rfl⟩
  · intro Kst Kret x hS hR h
    exact Holds.eq (te23 cond Kst Kret ap np mp tp vp gp wp al nl ml tl sy) (be23 ap np mp tp vp gp wp al nl ml tl sy Kst Kret x hS hR h)
  · intro Kst Kret x hS hR s h
    cases s with
    | h0 x0 => exact Holds.eq (t23_0 cond Kst Kret ap np mp tp vp gp wp al nl ml tl sy x0) (b23_0 ap np mp tp vp gp wp al nl ml tl sy Kst Kret x hS hR x0 h)
    | h1 x0 x1 => exact Holds.eq (t23_1 cond Kst Kret ap np mp tp vp gp wp al nl ml tl sy x0 x1) (b23_1 ap np mp tp vp gp wp al nl ml tl sy Kst Kret x hS hR x0 x1 h)
noncomputable def k23 : Con := ⟨23, [.agg [.list [.int .i64, .int .i64, .int .i64, .int .i64]], .one (.list [.int .i64]), .one (.plain (.int .i64))], fun (x : ((Nat × Nat × Nat × (Nat → Int) × (Nat → Int) × (Nat → Int) × (Nat → Int) × Unit) × Unit) × (Nat × Nat × Nat × (Nat → Int) × Unit) × Int × Unit) => (fun (ap np mp : Nat) (tp : Nat → Int) (vp : Nat → Int) (gp : Nat → Int) (wp : Nat → Int) (al nl ml : Nat) (tl : Nat → Int) (sy : Int) => decide (ap + np ≤ mp ∧ np ≤ 1000000 ∧ al + nl ≤ ml ∧ nl ≤ 1000000)) x.1.1.1 x.1.1.2.1 x.1.1.2.2.1 x.1.1.2.2.2.1 x.1.1.2.2.2.2.1 x.1.1.2.2.2.2.2.1 x.1.1.2.2.2.2.2.2.1 x.2.1.1 x.2.1.2.1 x.2.1.2.2.1 x.2.1.2.2.2.1 x.2.2.1, fun (x : ((Nat × Nat × Nat × (Nat → Int) × (Nat → Int) × (Nat → Int) × (Nat → Int) × Unit) × Unit) × (Nat × Nat × Nat × (Nat → Int) × Unit) × Int × Unit) => (fun (ap np mp : Nat) (tp : Nat → Int) (vp : Nat → Int) (gp : Nat → Int) (wp : Nat → Int) (al nl ml : Nat) (tl : Nat → Int) (sy : Int) => (V23 ap np mp tp vp gp wp al nl ml tl sy) (S.meaS np (fun q => tp (q + ap)) (fun q => vp (q + ap)) (fun q => gp (q + ap)) (fun q => wp (q + ap)) nl (fun q => tl (q + al)) sy)) x.1.1.1 x.1.1.2.1 x.1.1.2.2.1 x.1.1.2.2.2.1 x.1.1.2.2.2.2.1 x.1.1.2.2.2.2.2.1 x.1.1.2.2.2.2.2.2.1 x.2.1.1 x.2.1.2.1 x.2.1.2.2.1 x.2.1.2.2.2.1 x.2.2.1, fun (x : ((Nat × Nat × Nat × (Nat → Int) × (Nat → Int) × (Nat → Int) × (Nat → Int) × Unit) × Unit) × (Nat × Nat × Nat × (Nat → Int) × Unit) × Int × Unit) => (fun (ap np mp : Nat) (tp : Nat → Int) (vp : Nat → Int) (gp : Nat → Int) (wp : Nat → Int) (al nl ml : Nat) (tl : Nat → Int) (sy : Int) => (N23 ap np mp tp vp gp wp al nl ml tl sy) (S.meaS np (fun q => tp (q + ap)) (fun q => vp (q + ap)) (fun q => gp (q + ap)) (fun q => wp (q + ap)) nl (fun q => tl (q + al)) sy)) x.1.1.1 x.1.1.2.1 x.1.1.2.2.1 x.1.1.2.2.2.1 x.1.1.2.2.2.2.1 x.1.1.2.2.2.2.2.1 x.1.1.2.2.2.2.2.2.1 x.2.1.1 x.2.1.2.1 x.2.1.2.2.1 x.2.1.2.2.2.1 x.2.2.1, fun _ _ => .dead⟩
theorem s23' (ap np mp : Nat) (tp : Nat → Int) (vp : Nat → Int) (gp : Nat → Int) (wp : Nat → Int) (al nl ml : Nat) (tl : Nat → Int) (sy : Int) (hp1 : ap + np ≤ mp) (hp2 : np ≤ 1000000) (hl : al + nl ≤ ml) (ht : S.treE np (fun q => tp (q + ap)) (fun q => vp (q + ap)) (fun q => gp (q + ap)) (fun q => wp (q + ap)) = 0) (hn : nl = np) (hsy : 0 ≤ sy ∧ sy ≤ 1000000000) (hw : S.winT (fun q => tl (q + al)) 0 nl = true) : ∀ (k i : Nat) (L : List (Int × Int × Bool × Bool)), i + k = np → L.length = i → 0 < i → Comes (q23 ap np mp tp vp gp wp al nl ml tl sy) (.h1 (i : Int) L) (S.meaK (S.meaT (fun q => tp (q + ap)) (fun q => wp (q + ap)) (fun q => tl (q + al)) sy) i k L) := by
  have hnp := (tre_ok ht).2.1
  intro k
  induction k with
  | zero =>
    intro i L hi hL h0
    apply Comes.of
    show Goes _ _ _
    (first | rw [q23] | unfold q23)
    repeat' first
      | with_reducible refine goes_if (fun h => ?_) (fun h => ?_) <;> (try simp only [lim64, decide_eq_true_eq, decide_eq_false_iff_not, Int.toNat_natCast, toNat_pred, toNat_succ, Option.getD_some, Option.getD_none, Bool.not_eq_true', Bool.not_eq_false', Bool.and_eq_true, Bool.or_eq_true, Bool.and_eq_false_iff, Bool.or_eq_false_iff, bne_iff_ne, beq_iff_eq, bne_eq_false_iff_eq, beq_eq_false_iff_ne, ne_eq, not_and, Int.not_le, Int.not_lt, ge_iff_le, gt_iff_lt, Nat.not_lt, Nat.not_le, Bool.not_eq_true, Bool.not_eq_false, Bool.true_eq_false, Bool.false_eq_true, not_false_eq_true, not_true_eq_false] at h)
      | exact goes_none.mpr (by omega)
    all_goals first | (exfalso; omega) | exact goes_inr.mpr rfl
  | succ k ih =>
    intro i L hi hL h0
    have hd := (dl_bd ht (x := i) (by omega)).2
    have hr := winT_iff.mp hw i (Nat.zero_le _) (by omega)
    replace hr : 0 ≤ tl (i + al) ∧ tl (i + al) ≤ 1000000000 := hr
    have hb1 : 2 * S.dl (fun q => tp (q + ap)) (fun q => wp (q + ap)) i ≤ 2 * (1000000 * (i : Int)) := by omega
    have et : ((max 0 (S.shrB .i64 (tl (i + al) - (2 * S.dl (fun q => tp (q + ap)) (fun q => wp (q + ap)) i + sy) + 1) 1)), (S.shrB .i64 (tl (i + al) + (2 * S.dl (fun q => tp (q + ap)) (fun q => wp (q + ap)) i + sy)) 1), false, false) = (S.meaT (fun q => tp (q + ap)) (fun q => wp (q + ap)) (fun q => tl (q + al)) sy) i := by
      unfold S.meaT
      refine Prod.ext ?_ (Prod.ext ?_ rfl)
      · exact congrArg (fun z => max 0 z) shr1
      · exact shr1
    have e1 : ((S.meaT (fun q => tp (q + ap)) (fun q => wp (q + ap)) (fun q => tl (q + al)) sy) i).1 = (max 0 (S.shrB .i64 (tl (i + al) - (2 * S.dl (fun q => tp (q + ap)) (fun q => wp (q + ap)) i + sy) + 1) 1)) := by rw [← et]
    have e2 : ((S.meaT (fun q => tp (q + ap)) (fun q => wp (q + ap)) (fun q => tl (q + al)) sy) i).2.1 = (S.shrB .i64 (tl (i + al) + (2 * S.dl (fun q => tp (q + ap)) (fun q => wp (q + ap)) i + sy)) 1) := by rw [← et]
    have eK : S.meaK (S.meaT (fun q => tp (q + ap)) (fun q => wp (q + ap)) (fun q => tl (q + al)) sy) i (k + 1) L = if ((S.meaT (fun q => tp (q + ap)) (fun q => wp (q + ap)) (fun q => tl (q + al)) sy) i).1 > ((S.meaT (fun q => tp (q + ap)) (fun q => wp (q + ap)) (fun q => tl (q + al)) sy) i).2.1 then (12, []) else S.meaK (S.meaT (fun q => tp (q + ap)) (fun q => wp (q + ap)) (fun q => tl (q + al)) sy) (i + 1) k (S.snoc L ((S.meaT (fun q => tp (q + ap)) (fun q => wp (q + ap)) (fun q => tl (q + al)) sy) i)) := rfl
    rw [eK, e1, e2]
    have ih := ih (i + 1) (S.snoc L ((S.meaT (fun q => tp (q + ap)) (fun q => wp (q + ap)) (fun q => tl (q + al)) sy) i)) (by omega) (by rw [snoc_len, hL]) (by omega)
    rw [← et] at ih
    have l1 : (max 0 (S.shrB .i64 (tl (i + al) - (2 * S.dl (fun q => tp (q + ap)) (fun q => wp (q + ap)) i + sy) + 1) 1)) = max 0 ((tl (i + al) - (2 * S.dl (fun q => tp (q + ap)) (fun q => wp (q + ap)) i + sy) + 1) / 2) := by rw [shr1]
    have l2 : (S.shrB .i64 (tl (i + al) + (2 * S.dl (fun q => tp (q + ap)) (fun q => wp (q + ap)) i + sy)) 1) = (tl (i + al) + (2 * S.dl (fun q => tp (q + ap)) (fun q => wp (q + ap)) i + sy)) / 2 := shr1
    rw [← et]
    apply Comes.of
    show Goes _ _ _
    (first | rw [q23] | unfold q23)
    repeat' first
      | with_reducible refine goes_if (fun h => ?_) (fun h => ?_) <;> (try simp only [lim64, decide_eq_true_eq, decide_eq_false_iff_not, Int.toNat_natCast, toNat_pred, toNat_succ, Option.getD_some, Option.getD_none, Bool.not_eq_true', Bool.not_eq_false', Bool.and_eq_true, Bool.or_eq_true, Bool.and_eq_false_iff, Bool.or_eq_false_iff, bne_iff_ne, beq_iff_eq, bne_eq_false_iff_eq, beq_eq_false_iff_ne, ne_eq, not_and, Int.not_le, Int.not_lt, ge_iff_le, gt_iff_lt, Nat.not_lt, Nat.not_le, Bool.not_eq_true, Bool.not_eq_false, Bool.true_eq_false, Bool.false_eq_true, not_false_eq_true, not_true_eq_false] at h)
      | exact goes_none.mpr (by omega)
    all_goals first
      | (exfalso; omega)
      | (rw [if_pos (by assumption)]; exact goes_inr.mpr rfl)
      | (rw [if_neg (Int.not_lt.mpr (by assumption))]; exact ih)
theorem s23b (ap np mp : Nat) (tp : Nat → Int) (vp : Nat → Int) (gp : Nat → Int) (wp : Nat → Int) (al nl ml : Nat) (tl : Nat → Int) (sy : Int) (hl : al + nl ≤ ml) (hl2 : nl ≤ 1000000) (R0 : Rt23) (hR : S.winT (fun q => tl (q + al)) 0 nl = true → Comes (q23 ap np mp tp vp gp wp al nl ml tl sy) (.h1 1 [(0, 0, false, false)]) R0) : ∀ (k i : Nat), i + k = nl → S.winT (fun q => tl (q + al)) 0 nl = S.winT (fun q => tl (q + al)) i k → Comes (q23 ap np mp tp vp gp wp al nl ml tl sy) (.h0 (i : Int)) (if S.winT (fun q => tl (q + al)) 0 nl = true then R0 else (6, [])) := by
  intro k
  induction k with
  | zero =>
    intro i hi hw
    have hw : S.winT (fun q => tl (q + al)) 0 nl = true := hw
    rw [if_pos hw]
    have hR := hR hw
    apply Comes.of
    show Goes _ _ _
    (first | rw [q23] | unfold q23)
    repeat' first
      | with_reducible refine goes_if (fun h => ?_) (fun h => ?_) <;> (try simp only [lim64, decide_eq_true_eq, decide_eq_false_iff_not, Int.toNat_natCast, toNat_pred, toNat_succ, Option.getD_some, Option.getD_none, Bool.not_eq_true', Bool.not_eq_false', Bool.and_eq_true, Bool.or_eq_true, Bool.and_eq_false_iff, Bool.or_eq_false_iff, bne_iff_ne, beq_iff_eq, bne_eq_false_iff_eq, beq_eq_false_iff_ne, ne_eq, not_and, Int.not_le, Int.not_lt, ge_iff_le, gt_iff_lt, Nat.not_lt, Nat.not_le, Bool.not_eq_true, Bool.not_eq_false, Bool.true_eq_false, Bool.false_eq_true, not_false_eq_true, not_true_eq_false] at h)
      | exact goes_none.mpr (by omega)
    all_goals first | (exfalso; omega) | exact hR
  | succ k ih =>
    intro i hi hw
    by_cases h0 : 0 ≤ tl (i + al) ∧ tl (i + al) ≤ 1000000000
    · have ih := ih (i + 1) (by omega) (by rw [hw]; exact winT_yes h0)
      apply Comes.of
      show Goes _ _ _
      (first | rw [q23] | unfold q23)
      repeat' first
        | with_reducible refine goes_if (fun h => ?_) (fun h => ?_) <;> (try simp only [lim64, decide_eq_true_eq, decide_eq_false_iff_not, Int.toNat_natCast, toNat_pred, toNat_succ, Option.getD_some, Option.getD_none, Bool.not_eq_true', Bool.not_eq_false', Bool.and_eq_true, Bool.or_eq_true, Bool.and_eq_false_iff, Bool.or_eq_false_iff, bne_iff_ne, beq_iff_eq, bne_eq_false_iff_eq, beq_eq_false_iff_ne, ne_eq, not_and, Int.not_le, Int.not_lt, ge_iff_le, gt_iff_lt, Nat.not_lt, Nat.not_le, Bool.not_eq_true, Bool.not_eq_false, Bool.true_eq_false, Bool.false_eq_true, not_false_eq_true, not_true_eq_false] at h)
        | exact goes_none.mpr (by omega)
      all_goals first | (exfalso; omega) | exact ih
    · have hw : S.winT (fun q => tl (q + al)) 0 nl = false := by rw [hw]; exact winT_no h0
      rw [if_neg (by rw [hw]; exact Bool.false_ne_true)]
      apply Comes.of
      show Goes _ _ _
      (first | rw [q23] | unfold q23)
      repeat' first
        | with_reducible refine goes_if (fun h => ?_) (fun h => ?_) <;> (try simp only [lim64, decide_eq_true_eq, decide_eq_false_iff_not, Int.toNat_natCast, toNat_pred, toNat_succ, Option.getD_some, Option.getD_none, Bool.not_eq_true', Bool.not_eq_false', Bool.and_eq_true, Bool.or_eq_true, Bool.and_eq_false_iff, Bool.or_eq_false_iff, bne_iff_ne, beq_iff_eq, bne_eq_false_iff_eq, beq_eq_false_iff_ne, ne_eq, not_and, Int.not_le, Int.not_lt, ge_iff_le, gt_iff_lt, Nat.not_lt, Nat.not_le, Bool.not_eq_true, Bool.not_eq_false, Bool.true_eq_false, Bool.false_eq_true, not_false_eq_true, not_true_eq_false] at h)
        | exact goes_none.mpr (by omega)
      all_goals first | (exfalso; omega) | exact goes_inr.mpr rfl
theorem s23 (ap np mp : Nat) (tp : Nat → Int) (vp : Nat → Int) (gp : Nat → Int) (wp : Nat → Int) (al nl ml : Nat) (tl : Nat → Int) (sy : Int) (hp : ap + np ≤ mp ∧ np ≤ 1000000 ∧ al + nl ≤ ml ∧ nl ≤ 1000000) : Goes ((q23 ap np mp tp vp gp wp al nl ml tl sy)) ((p23 ap np mp tp vp gp wp al nl ml tl sy)) (S.meaS np (fun q => tp (q + ap)) (fun q => vp (q + ap)) (fun q => gp (q + ap)) (fun q => wp (q + ap)) nl (fun q => tl (q + al)) sy) := by
  obtain ⟨hp1, hp2, hp3, hp4⟩ := hp
  unfold S.meaS
  by_cases h0 : S.treE np (fun q => tp (q + ap)) (fun q => vp (q + ap)) (fun q => gp (q + ap)) (fun q => wp (q + ap)) = 0
  · rw [if_pos h0]
    have v1 := (tre_ok h0).1
    have v2 := (tre_ok h0).2.1
    have hm : nl = np ∧ (0 ≤ sy ∧ sy ≤ 1000000000) ∧ S.winT (fun q => tl (q + al)) 0 nl = true → _ := fun h => s23' ap np mp tp vp gp wp al nl ml tl sy hp1 hp2 hp3 h0 h.1 h.2.1 h.2.2 (np - 1) 1 [(0, 0, false, false)] (by omega) rfl (by decide)
    have z0 : (fun q => tl (q + al)) 0 = tl (0 + al) := rfl
    have hz : S.winT (fun q => S.lit [sy] 0 q) 0 1 = decide (0 ≤ sy ∧ sy ≤ 1000000000) := by simp [S.winT, S.lit]
    by_cases h1 : nl = np ∧ tl (0 + al) = 0 ∧ 0 ≤ sy ∧ sy ≤ 1000000000
    · have hx := s23b ap np mp tp vp gp wp al nl ml tl sy hp3 hp4 (S.meaK (S.meaT (fun q => tp (q + ap)) (fun q => wp (q + ap)) (fun q => tl (q + al)) sy) 1 (np - 1) [(0, 0, false, false)]) (fun h => hm ⟨h1.1, h1.2.2, h⟩) nl 0 (by omega) rfl
      by_cases hw : S.winT (fun q => tl (q + al)) 0 nl = true
      · rw [if_pos ⟨h1.1, h1.2.1, h1.2.2, hw⟩]
        rw [if_pos hw] at hx
        show Goes _ _ _
        unfold p23
        repeat' first
          | with_reducible refine goes_if (fun h => ?_) (fun h => ?_) <;> (try simp only [lim64, decide_eq_true_eq, decide_eq_false_iff_not, Int.toNat_natCast, toNat_pred, toNat_succ, Option.getD_some, Option.getD_none, Bool.not_eq_true', Bool.not_eq_false', Bool.and_eq_true, Bool.or_eq_true, Bool.and_eq_false_iff, Bool.or_eq_false_iff, bne_iff_ne, beq_iff_eq, bne_eq_false_iff_eq, beq_eq_false_iff_ne, ne_eq, not_and, Int.not_le, Int.not_lt, ge_iff_le, gt_iff_lt, Nat.not_lt, Nat.not_le, Bool.not_eq_true, Bool.not_eq_false, Bool.true_eq_false, Bool.false_eq_true, not_false_eq_true, not_true_eq_false] at h)
          | exact goes_none.mpr (by omega)
        all_goals first | (exfalso; omega) | exact hx
      · rw [if_neg (fun h => hw h.2.2.2)]
        rw [if_neg hw] at hx
        show Goes _ _ _
        unfold p23
        repeat' first
          | with_reducible refine goes_if (fun h => ?_) (fun h => ?_) <;> (try simp only [lim64, decide_eq_true_eq, decide_eq_false_iff_not, Int.toNat_natCast, toNat_pred, toNat_succ, Option.getD_some, Option.getD_none, Bool.not_eq_true', Bool.not_eq_false', Bool.and_eq_true, Bool.or_eq_true, Bool.and_eq_false_iff, Bool.or_eq_false_iff, bne_iff_ne, beq_iff_eq, bne_eq_false_iff_eq, beq_eq_false_iff_ne, ne_eq, not_and, Int.not_le, Int.not_lt, ge_iff_le, gt_iff_lt, Nat.not_lt, Nat.not_le, Bool.not_eq_true, Bool.not_eq_false, Bool.true_eq_false, Bool.false_eq_true, not_false_eq_true, not_true_eq_false] at h)
          | exact goes_none.mpr (by omega)
        all_goals first | (exfalso; omega) | exact hx
    · rw [if_neg (fun h => h1 ⟨h.1, h.2.1, h.2.2.1⟩)]
      show Goes _ _ _
      unfold p23
      repeat' first
        | with_reducible refine goes_if (fun h => ?_) (fun h => ?_) <;> (try simp only [lim64, decide_eq_true_eq, decide_eq_false_iff_not, Int.toNat_natCast, toNat_pred, toNat_succ, Option.getD_some, Option.getD_none, Bool.not_eq_true', Bool.not_eq_false', Bool.and_eq_true, Bool.or_eq_true, Bool.and_eq_false_iff, Bool.or_eq_false_iff, bne_iff_ne, beq_iff_eq, bne_eq_false_iff_eq, beq_eq_false_iff_ne, ne_eq, not_and, Int.not_le, Int.not_lt, ge_iff_le, gt_iff_lt, Nat.not_lt, Nat.not_le, Bool.not_eq_true, Bool.not_eq_false, Bool.true_eq_false, Bool.false_eq_true, not_false_eq_true, not_true_eq_false] at h)
        | exact goes_none.mpr (by omega)
      all_goals first | (exfalso; omega) | rfl
  · rw [if_neg h0]
    show Goes _ _ _
    unfold p23
    repeat' first
      | with_reducible refine goes_if (fun h => ?_) (fun h => ?_) <;> (try simp only [lim64, decide_eq_true_eq, decide_eq_false_iff_not, Int.toNat_natCast, toNat_pred, toNat_succ, Option.getD_some, Option.getD_none, Bool.not_eq_true', Bool.not_eq_false', Bool.and_eq_true, Bool.or_eq_true, Bool.and_eq_false_iff, Bool.or_eq_false_iff, bne_iff_ne, beq_iff_eq, bne_eq_false_iff_eq, beq_eq_false_iff_ne, ne_eq, not_and, Int.not_le, Int.not_lt, ge_iff_le, gt_iff_lt, Nat.not_lt, Nat.not_le, Bool.not_eq_true, Bool.not_eq_false, Bool.true_eq_false, Bool.false_eq_true, not_false_eq_true, not_true_eq_false] at h)
      | exact goes_none.mpr (by omega)
    all_goals first | (exfalso; omega) | rfl

theorem k23_ok : k23.ok Try.prog := by
  intro x hx
  obtain ⟨⟨⟨ap, np, mp, tp, vp, gp, wp, _⟩, _⟩, ⟨al, nl, ml, tl, _⟩, sy, _⟩ := x
  obtain ⟨h1, h2⟩ := a23 ap np mp tp vp gp wp al nl ml tl sy (s23 ap np mp tp vp gp wp al nl ml tl sy (of_dec hx rfl))
  exact ⟨⟨400, (by decide : 2 + 1 + 1 ≤ 400), h1⟩, h2⟩
inductive St25 where
  | h0 (x0 : Int) (x1 : List (Int × Int × Bool × Bool))
abbrev Rt25 := Int × List (Int × Int × Bool × Bool)
noncomputable def V25 (ap np mp : Nat) (tp : Nat → Int) (vp : Nat → Int) (gp : Nat → Int) (wp : Nat → Int) (al nl ml : Nat) (tl : Nat → Int) (sy : Int) (r : Rt25) : PV := PV.tup [PV.own (3) (4) (List.length r.2), PV.int IntKind.i64 r.1]
noncomputable def N25 (ap np mp : Nat) (tp : Nat → Int) (vp : Nat → Int) (gp : Nat → Int) (wp : Nat → Int) (al nl ml : Nat) (tl : Nat → Int) (sy : Int) (r : Rt25) : List Blk := [Blk.cols (List.length r.2)
 [Col.int IntKind.i64 fun (j : Nat) => (S.at' r.2 j).1,
 Col.int IntKind.i64 fun (j : Nat) => (S.at' r.2 j).2.1,
 Col.bool fun (j : Nat) => (S.at' r.2 j).2.2.1,
 Col.bool fun (j : Nat) => (S.at' r.2 j).2.2.2]]
noncomputable def I25 (ap np mp : Nat) (tp : Nat → Int) (vp : Nat → Int) (gp : Nat → Int) (wp : Nat → Int) (al nl ml : Nat) (tl : Nat → Int) (sy : Int) : St25 → Hd
  | .h0 x0 x1 => ⟨hd Try.f25 0, [PV.loose (PA.mk (1) (1) al (0)) nl, PV.int IntKind.i64 sy,
 PV.ptr (PA.mk (2) (0) (0) (0)),
 PV.own (3) (4) (List.length x1), PV.int IntKind.i64 x0], [[(2, (true, Blk.cells [PV.loose (PA.mk (0) (4) ap (0)) np])), (3, (true, Blk.cols (List.length x1)
 [Col.int IntKind.i64 fun (j : Nat) => (S.at' x1 j).1,
 Col.int IntKind.i64 fun (j : Nat) => (S.at' x1 j).2.1,
 Col.bool fun (j : Nat) => (S.at' x1 j).2.2.1,
 Col.bool fun (j : Nat) => (S.at' x1 j).2.2.2]))], [(0, (false, .cols mp [.int .i64 tp, .int .i64 vp, .int .i64 gp, .int .i64 wp])), (1, (false, .cols ml [.int .i64 tl]))]], 4⟩
noncomputable def q25 (ap np mp : Nat) (tp : Nat → Int) (vp : Nat → Int) (gp : Nat → Int) (wp : Nat → Int) (al nl ml : Nat) (tl : Nat → Int) (sy : Int) : St25 → Option (St25 ⊕ Rt25)
  | .h0 x0 x1 => bif (decide (x0 < (↑np : Int)))
 then (bif (decide
 (ap + np ≤ mp ∧
 np ≤ 1000000 ∧
 (S.treE np (fun (q : Nat) => tp (q + ap)) (fun (q : Nat) => vp (q + ap)) (fun (q : Nat) => gp (q + ap))
 fun (q : Nat) => wp (q + ap)) =
 (0 : Int) ∧
 (0 : Int) ≤ x0 ∧ x0 < (↑np : Int)))
 then (bif (lim IntKind.i64
 ((2 : Int) * S.dl (fun (q : Nat) => tp (q + ap)) (fun (q : Nat) => wp (q + ap)) (Int.toNat x0)))
 then (bif (lim IntKind.i64
 ((2 : Int) * S.dl (fun (q : Nat) => tp (q + ap)) (fun (q : Nat) => wp (q + ap)) (Int.toNat x0) + sy))
 then (bif (decide ((0 : Int) ≤ x0 ∧ x0 < (↑nl : Int)))
 then (bif (decide (Int.toNat x0 + al < ml))
 then (bif (lim IntKind.i64
 (tl (Int.toNat x0 + al) -
 ((2 : Int) * S.dl (fun (q : Nat) => tp (q + ap)) (fun (q : Nat) => wp (q + ap)) (Int.toNat x0) + sy)))
 then (bif (lim IntKind.i64
 (Max.max
 (tl (Int.toNat x0 + al) -
 ((2 : Int) * S.dl (fun (q : Nat) => tp (q + ap)) (fun (q : Nat) => wp (q + ap)) (Int.toNat x0) + sy))
 (0 : Int) +
 (1 : Int)))
 then (bif (lim IntKind.i64
 (Int.tdiv
 (Max.max
 (tl (Int.toNat x0 + al) -
 ((2 : Int) * S.dl (fun (q : Nat) => tp (q + ap)) (fun (q : Nat) => wp (q + ap)) (Int.toNat x0) + sy))
 (0 : Int) +
 (1 : Int))
 (2 : Int)))
 then (bif (lim IntKind.i64
 (tl (Int.toNat x0 + al) +
 ((2 : Int) * S.dl (fun (q : Nat) => tp (q + ap)) (fun (q : Nat) => wp (q + ap)) (Int.toNat x0) + sy)))
 then (bif (lim IntKind.i64
 (Int.tdiv
 (tl (Int.toNat x0 + al) +
 ((2 : Int) * S.dl (fun (q : Nat) => tp (q + ap)) (fun (q : Nat) => wp (q + ap)) (Int.toNat x0) + sy))
 (2 : Int)))
 then (bif (decide
 (Int.tdiv
 (Max.max
 (tl (Int.toNat x0 + al) -
 ((2 : Int) * S.dl (fun (q : Nat) => tp (q + ap)) (fun (q : Nat) => wp (q + ap)) (Int.toNat x0) + sy))
 (0 : Int) +
 (1 : Int))
 (2 : Int) >
 Int.tdiv
 (tl (Int.toNat x0 + al) +
 ((2 : Int) * S.dl (fun (q : Nat) => tp (q + ap)) (fun (q : Nat) => wp (q + ap)) (Int.toNat x0) + sy))
 (2 : Int)))
 then (some (.inr ((12 : Int), [])))
 else (bif (decide (List.length x1 + 1 ≤ 1000000))
 then (bif (decide (List.length x1 ≤ List.length x1))
 then (bif (lim IntKind.i64 (x0 + (1 : Int)))
 then (some (.inl (.h0 (x0 + (1 : Int)) (S.snoc x1
 (Int.tdiv
 (Max.max
 (tl (Int.toNat x0 + al) -
 ((2 : Int) * S.dl (fun (q : Nat) => tp (q + ap)) (fun (q : Nat) => wp (q + ap)) (Int.toNat x0) + sy))
 (0 : Int) +
 (1 : Int))
 (2 : Int),
 Int.tdiv
 (tl (Int.toNat x0 + al) +
 ((2 : Int) * S.dl (fun (q : Nat) => tp (q + ap)) (fun (q : Nat) => wp (q + ap)) (Int.toNat x0) + sy))
 (2 : Int),
 false, false)))))
 else (none))
 else (none))
 else (none)))
 else (none))
 else (none))
 else (none))
 else (none))
 else (none))
 else (none))
 else (none))
 else (none))
 else (none))
 else (none))
 else (some (.inr ((0 : Int), x1)))
noncomputable def p25 (ap np mp : Nat) (tp : Nat → Int) (vp : Nat → Int) (gp : Nat → Int) (wp : Nat → Int) (al nl ml : Nat) (tl : Nat → Int) (sy : Int) : Option (St25 ⊕ Rt25) := bif (decide (ap + np ≤ mp ∧ np ≤ 1000000))
 then (bif ((S.treE np (fun (q : Nat) => tp (q + ap)) (fun (q : Nat) => vp (q + ap)) (fun (q : Nat) => gp (q + ap))
 fun (q : Nat) => wp (q + ap)) !=
 (0 : Int))
 then (some (.inr (S.treE np (fun (q : Nat) => tp (q + ap)) (fun (q : Nat) => vp (q + ap)) (fun (q : Nat) => gp (q + ap))
 fun (q : Nat) => wp (q + ap), [])))
 else (bif ((↑nl : Int) != (↑np : Int))
 then (some (.inr ((6 : Int), [])))
 else (bif (decide (al + nl ≤ ml ∧ nl ≤ 1000000))
 then (bif (S.winT (fun (q : Nat) => tl (q + al)) (0) nl)
 then (bif (decide ((0 : Int) ≤ (0 : Int) ∧ (0 : Int) < (↑nl : Int)))
 then (bif (decide (0 + al < ml))
 then (bif (tl (0 + al) != (0 : Int))
 then (some (.inr ((6 : Int), [])))
 else (bif (decide (1 ≤ 1 ∧ 1 ≤ 1000000))
 then (bif (S.winT (fun (q : Nat) => S.lit [sy] (0 : Int) q) (0) (1))
 then (some (.inl (.h0 ((1 : Int)) ([((0 : Int), (0 : Int), false, false)]))))
 else (some (.inr ((6 : Int), []))))
 else (none)))
 else (none))
 else (none))
 else (some (.inr ((6 : Int), []))))
 else (none))))
 else (none)
noncomputable def Te25 (test : Bool → Prop → Prop → Prop) (Kst : KS) (Kret : KR) (ap np mp : Nat) (tp : Nat → Int) (vp : Nat → Int) (gp : Nat → Int) (wp : Nat → Int) (al nl ml : Nat) (tl : Nat → Int) (sy : Int) : Prop :=
  test (decide (ap + np ≤ mp ∧ np ≤ 1000000))
 (test ((S.treE np (fun (q : Nat) => tp (q + ap)) (fun (q : Nat) => vp (q + ap)) (fun (q : Nat) => gp (q + ap))
 fun (q : Nat) => wp (q + ap)) !=
 (0 : Int))
 (Kret (PV.tup
 [PV.nils,
 PV.int IntKind.i64
 (S.treE np (fun (q : Nat) => tp (q + ap)) (fun (q : Nat) => vp (q + ap)) (fun (q : Nat) => gp (q + ap))
 fun (q : Nat) => wp (q + ap))]) ([[(1, false, Blk.cols ml [Col.int IntKind.i64 tl]),
 (0, false,
 Blk.cols mp
 [Col.int IntKind.i64 tp, Col.int IntKind.i64 vp, Col.int IntKind.i64 gp,
 Col.int IntKind.i64 wp])]]) (4))
 (test ((↑nl : Int) != (↑np : Int))
 (Kret (PV.tup [PV.nils, PV.int IntKind.i64 (6 : Int)]) ([[(1, false, Blk.cols ml [Col.int IntKind.i64 tl]),
 (0, false,
 Blk.cols mp
 [Col.int IntKind.i64 tp, Col.int IntKind.i64 vp, Col.int IntKind.i64 gp,
 Col.int IntKind.i64 wp])]]) (4))
 (test (decide (al + nl ≤ ml ∧ nl ≤ 1000000))
 (test (S.winT (fun (q : Nat) => tl (q + al)) (0) nl)
 (test (decide ((0 : Int) ≤ (0 : Int) ∧ (0 : Int) < (↑nl : Int)))
 (test (decide (0 + al < ml))
 (test (tl (0 + al) != (0 : Int))
 (Kret (PV.tup [PV.nils, PV.int IntKind.i64 (6 : Int)]) ([[(1, false, Blk.cols ml [Col.int IntKind.i64 tl]),
 (0, false,
 Blk.cols mp
 [Col.int IntKind.i64 tp, Col.int IntKind.i64 vp, Col.int IntKind.i64 gp,
 Col.int IntKind.i64 wp])]]) (5))
 (test (decide (1 ≤ 1 ∧ 1 ≤ 1000000))
 (test (S.winT (fun (q : Nat) => S.lit [sy] (0 : Int) q) (0) (1))
 (Kst (hd Try.f25 0) ([PV.loose (PA.mk (1) (1) al (0)) nl, PV.int IntKind.i64 sy,
 PV.ptr (PA.mk (2) (0) (0) (0)),
 PV.own (7) (4) (1), PV.int IntKind.i64 (1 : Int)]) ([[(1, false, Blk.cols ml [Col.int IntKind.i64 tl]),
 (0, false,
 Blk.cols mp
 [Col.int IntKind.i64 tp, Col.int IntKind.i64 vp, Col.int IntKind.i64 gp,
 Col.int IntKind.i64 wp]),
 (7, true,
 Blk.cells
 [PV.int IntKind.i64 (0 : Int), PV.int IntKind.i64 (0 : Int), PV.tf false,
 PV.tf false]),
 (2, true, Blk.cells [PV.loose (PA.mk (0) (4) ap (0)) np])]]) (8))
 (Kret (PV.tup [PV.nils, PV.int IntKind.i64 (6 : Int)]) ([[(1, false, Blk.cols ml [Col.int IntKind.i64 tl]),
 (0, false,
 Blk.cols mp
 [Col.int IntKind.i64 tp, Col.int IntKind.i64 vp, Col.int IntKind.i64 gp,
 Col.int IntKind.i64 wp])]]) (7)))
 (False)))
 (False))
 (False))
 (Kret (PV.tup [PV.nils, PV.int IntKind.i64 (6 : Int)]) ([[(1, false, Blk.cols ml [Col.int IntKind.i64 tl]),
 (0, false,
 Blk.cols mp
 [Col.int IntKind.i64 tp, Col.int IntKind.i64 vp, Col.int IntKind.i64 gp,
 Col.int IntKind.i64 wp])]]) (5)))
 (False))))
 (False)
set_option maxRecDepth 100000 in
theorem te25 (test : Bool → Prop → Prop → Prop) (Kst : KS) (Kret : KR) (ap np mp : Nat) (tp : Nat → Int) (vp : Nat → Int) (gp : Nat → Int) (wp : Nat → Int) (al nl ml : Nat) (tl : Nat → Int) (sy : Int) : run test Try.env true (xK test) true 400 ⟨25, [.cd (mkFn Try.f25).body], argT 0 [.agg [.loose ⟨0, 4, ap, 0⟩ np], .loose ⟨1, 1, al, 0⟩ nl, .int .i64 sy], [[], [(0, (false, .cols mp [.int .i64 tp, .int .i64 vp, .int .i64 gp, .int .i64 wp])), (1, (false, .cols ml [.int .i64 tl]))]], 2⟩ (proj 2 [1, 2, 3, 9, 10] Kst Kret) =
  Te25 test Kst Kret ap np mp tp vp gp wp al nl ml tl sy := by kernel_rfl
noncomputable def T25_0 (test : Bool → Prop → Prop → Prop) (Kst : KS) (Kret : KR) (ap np mp : Nat) (tp : Nat → Int) (vp : Nat → Int) (gp : Nat → Int) (wp : Nat → Int) (al nl ml : Nat) (tl : Nat → Int) (sy : Int) (x0 : Int) (x1 : List (Int × Int × Bool × Bool)) : Prop :=
  test (decide (x0 < (↑np : Int)))
 (test (decide
 (ap + np ≤ mp ∧
 np ≤ 1000000 ∧
 (S.treE np (fun (q : Nat) => tp (q + ap)) (fun (q : Nat) => vp (q + ap)) (fun (q : Nat) => gp (q + ap))
 fun (q : Nat) => wp (q + ap)) =
 (0 : Int) ∧
 (0 : Int) ≤ x0 ∧ x0 < (↑np : Int)))
 (test (lim IntKind.i64
 ((2 : Int) * S.dl (fun (q : Nat) => tp (q + ap)) (fun (q : Nat) => wp (q + ap)) (Int.toNat x0)))
 (test (lim IntKind.i64
 ((2 : Int) * S.dl (fun (q : Nat) => tp (q + ap)) (fun (q : Nat) => wp (q + ap)) (Int.toNat x0) + sy))
 (test (decide ((0 : Int) ≤ x0 ∧ x0 < (↑nl : Int)))
 (test (decide (Int.toNat x0 + al < ml))
 (test (lim IntKind.i64
 (tl (Int.toNat x0 + al) -
 ((2 : Int) * S.dl (fun (q : Nat) => tp (q + ap)) (fun (q : Nat) => wp (q + ap)) (Int.toNat x0) + sy)))
 (test (lim IntKind.i64
 (Max.max
 (tl (Int.toNat x0 + al) -
 ((2 : Int) * S.dl (fun (q : Nat) => tp (q + ap)) (fun (q : Nat) => wp (q + ap)) (Int.toNat x0) + sy))
 (0 : Int) +
 (1 : Int)))
 (test (false)
 (False)
 (test (lim IntKind.i64
 (Int.tdiv
 (Max.max
 (tl (Int.toNat x0 + al) -
 ((2 : Int) * S.dl (fun (q : Nat) => tp (q + ap)) (fun (q : Nat) => wp (q + ap)) (Int.toNat x0) + sy))
 (0 : Int) +
 (1 : Int))
 (2 : Int)))
 (test (decide ((0 : Int) ≤ x0 ∧ x0 < (↑nl : Int)))
 (test (decide (Int.toNat x0 + al < ml))
 (test (lim IntKind.i64
 (tl (Int.toNat x0 + al) +
 ((2 : Int) * S.dl (fun (q : Nat) => tp (q + ap)) (fun (q : Nat) => wp (q + ap)) (Int.toNat x0) + sy)))
 (test (false)
 (False)
 (test (lim IntKind.i64
 (Int.tdiv
 (tl (Int.toNat x0 + al) +
 ((2 : Int) * S.dl (fun (q : Nat) => tp (q + ap)) (fun (q : Nat) => wp (q + ap)) (Int.toNat x0) + sy))
 (2 : Int)))
 (test (decide
 (Int.tdiv
 (Max.max
 (tl (Int.toNat x0 + al) -
 ((2 : Int) * S.dl (fun (q : Nat) => tp (q + ap)) (fun (q : Nat) => wp (q + ap)) (Int.toNat x0) + sy))
 (0 : Int) +
 (1 : Int))
 (2 : Int) >
 Int.tdiv
 (tl (Int.toNat x0 + al) +
 ((2 : Int) * S.dl (fun (q : Nat) => tp (q + ap)) (fun (q : Nat) => wp (q + ap)) (Int.toNat x0) + sy))
 (2 : Int)))
 (Kret (PV.tup [PV.nils, PV.int IntKind.i64 (12 : Int)]) ([[(1, false, Blk.cols ml [Col.int IntKind.i64 tl]),
 (0, false,
 Blk.cols mp
 [Col.int IntKind.i64 tp, Col.int IntKind.i64 vp, Col.int IntKind.i64 gp,
 Col.int IntKind.i64 wp])]]) (6))
 (test (decide (List.length x1 + 1 ≤ 1000000))
 (test (decide (List.length x1 ≤ List.length x1))
 (test (true)
 (test (lim IntKind.i64 (x0 + (1 : Int)))
 (Kst (hd Try.f25 0) ([PV.loose (PA.mk (1) (1) al (0)) nl, PV.int IntKind.i64 sy,
 PV.ptr (PA.mk (2) (0) (0) (0)),
 PV.own (7) (4) (List.length x1 + 1), PV.int IntKind.i64 (x0 + (1 : Int))]) ([[(1, false, Blk.cols ml [Col.int IntKind.i64 tl]),
 (0, false,
 Blk.cols mp
 [Col.int IntKind.i64 tp, Col.int IntKind.i64 vp, Col.int IntKind.i64 gp,
 Col.int IntKind.i64 wp]),
 (7, true,
 Blk.cols (List.length x1 + 1)
 [Col.int IntKind.i64 fun (j : Nat) =>
 bif Nat.blt j (List.length x1) then (S.at' x1 j).1
 else
 Int.tdiv
 (Max.max
 (tl (Int.toNat x0 + al) -
 ((2 : Int) *
 S.dl (fun (q : Nat) => tp (q + ap)) (fun (q : Nat) => wp (q + ap)) (Int.toNat x0) +
 sy))
 (0 : Int) +
 (1 : Int))
 (2 : Int),
 Col.int IntKind.i64 fun (j : Nat) =>
 bif Nat.blt j (List.length x1) then (S.at' x1 j).2.1
 else
 Int.tdiv
 (tl (Int.toNat x0 + al) +
 ((2 : Int) * S.dl (fun (q : Nat) => tp (q + ap)) (fun (q : Nat) => wp (q + ap)) (Int.toNat x0) +
 sy))
 (2 : Int),
 Col.bool fun (j : Nat) =>
 bif Nat.blt j (List.length x1) then (S.at' x1 j).2.2.1 else false,
 Col.bool fun (j : Nat) =>
 bif Nat.blt j (List.length x1) then (S.at' x1 j).2.2.2 else false]),
 (2, true, Blk.cells [PV.loose (PA.mk (0) (4) ap (0)) np])]]) (8))
 (False))
 (False))
 (False))
 (False)))
 (False)))
 (False))
 (False))
 (False))
 (False)))
 (False))
 (False))
 (False))
 (False))
 (False))
 (False))
 (False))
 (Kret (PV.tup [PV.own (3) (4) (List.length x1), PV.int IntKind.i64 (0 : Int)]) ([[(1, false, Blk.cols ml [Col.int IntKind.i64 tl]),
 (0, false,
 Blk.cols mp
 [Col.int IntKind.i64 tp, Col.int IntKind.i64 vp, Col.int IntKind.i64 gp,
 Col.int IntKind.i64 wp]),
 (3, true,
 Blk.cols (List.length x1)
 [Col.int IntKind.i64 fun (j : Nat) => (S.at' x1 j).1,
 Col.int IntKind.i64 fun (j : Nat) => (S.at' x1 j).2.1,
 Col.bool fun (j : Nat) => (S.at' x1 j).2.2.1,
 Col.bool fun (j : Nat) => (S.at' x1 j).2.2.2])]]) (4))
set_option maxRecDepth 100000 in
theorem t25_0 (test : Bool → Prop → Prop → Prop) (Kst : KS) (Kret : KR) (ap np mp : Nat) (tp : Nat → Int) (vp : Nat → Int) (gp : Nat → Int) (wp : Nat → Int) (al nl ml : Nat) (tl : Nat → Int) (sy : Int) (x0 : Int) (x1 : List (Int × Int × Bool × Bool)) : run test Try.env true (xK test) true 400 ⟨25, hd Try.f25 0, zipT [1, 2, 3, 9, 10] [PV.loose (PA.mk (1) (1) al (0)) nl, PV.int IntKind.i64 sy,
 PV.ptr (PA.mk (2) (0) (0) (0)),
 PV.own (3) (4) (List.length x1), PV.int IntKind.i64 x0], [[(2, (true, Blk.cells [PV.loose (PA.mk (0) (4) ap (0)) np])), (3, (true, Blk.cols (List.length x1)
 [Col.int IntKind.i64 fun (j : Nat) => (S.at' x1 j).1,
 Col.int IntKind.i64 fun (j : Nat) => (S.at' x1 j).2.1,
 Col.bool fun (j : Nat) => (S.at' x1 j).2.2.1,
 Col.bool fun (j : Nat) => (S.at' x1 j).2.2.2]))], [(0, (false, .cols mp [.int .i64 tp, .int .i64 vp, .int .i64 gp, .int .i64 wp])), (1, (false, .cols ml [.int .i64 tl]))]], 4⟩ (proj 2 [1, 2, 3, 9, 10] Kst Kret) =
  T25_0 test Kst Kret ap np mp tp vp gp wp al nl ml tl sy x0 x1 := by kernel_rfl
set_option maxRecDepth 100000 in
theorem be25 (ap np mp : Nat) (tp : Nat → Int) (vp : Nat → Int) (gp : Nat → Int) (wp : Nat → Int) (al nl ml : Nat) (tl : Nat → Int) (sy : Int) (Kst : KS) (Kret : KR) (x : St25 ⊕ Rt25) (hS : HS 2 400 ((I25 ap np mp tp vp gp wp al nl ml tl sy)) Kst x) (hR : HR 2 400 ((V25 ap np mp tp vp gp wp al nl ml tl sy)) (fun r => [newL (2 + 1) ((N25 ap np mp tp vp gp wp al nl ml tl sy) r) ++ [(0, (false, .cols mp [.int .i64 tp, .int .i64 vp, .int .i64 gp, .int .i64 wp])), (1, (false, .cols ml [.int .i64 tl]))]]) Kret x) (h : (bif (decide (ap + np ≤ mp ∧ np ≤ 1000000))
 then (bif ((S.treE np (fun (q : Nat) => tp (q + ap)) (fun (q : Nat) => vp (q + ap)) (fun (q : Nat) => gp (q + ap))
 fun (q : Nat) => wp (q + ap)) !=
 (0 : Int))
 then (some (.inr (S.treE np (fun (q : Nat) => tp (q + ap)) (fun (q : Nat) => vp (q + ap)) (fun (q : Nat) => gp (q + ap))
 fun (q : Nat) => wp (q + ap), [])))
 else (bif ((↑nl : Int) != (↑np : Int))
 then (some (.inr ((6 : Int), [])))
 else (bif (decide (al + nl ≤ ml ∧ nl ≤ 1000000))
 then (bif (S.winT (fun (q : Nat) => tl (q + al)) (0) nl)
 then (bif (decide ((0 : Int) ≤ (0 : Int) ∧ (0 : Int) < (↑nl : Int)))
 then (bif (decide (0 + al < ml))
 then (bif (tl (0 + al) != (0 : Int))
 then (some (.inr ((6 : Int), [])))
 else (bif (decide (1 ≤ 1 ∧ 1 ≤ 1000000))
 then (bif (S.winT (fun (q : Nat) => S.lit [sy] (0 : Int) q) (0) (1))
 then (some (.inl (.h0 ((1 : Int)) ([((0 : Int), (0 : Int), false, false)]))))
 else (some (.inr ((6 : Int), []))))
 else (none)))
 else (none))
 else (none))
 else (some (.inr ((6 : Int), []))))
 else (none))))
 else (none) : Option (St25 ⊕ Rt25)) = some x) : Te25 cond Kst Kret ap np mp tp vp gp wp al nl ml tl sy := by
  unfold Te25
  exact bif_split h
   (fun c0 h => bif_split h
   (fun c1 h => ret_at hR _ h (fun n => bif Nat.beq n 3 then 399 else n) rfl rfl rfl (rn_tup ⟨(rn_own_nils rfl), (rn_int rfl), trivial⟩) rfl (entl_fresh (use_own rfl) (fresh_ok rfl) (entl_bor (use_lo rfl) rfl rfl (entl_bor (use_lo rfl) rfl rfl entl_nil))))
   (fun c1 h => bif_split h
   (fun c2 h => ret_at hR _ h (fun n => bif Nat.beq n 3 then 399 else n) rfl rfl rfl (rn_tup ⟨(rn_own_nils rfl), (rn_int rfl), trivial⟩) rfl (entl_fresh (use_own rfl) (fresh_ok rfl) (entl_bor (use_lo rfl) rfl rfl (entl_bor (use_lo rfl) rfl rfl entl_nil))))
   (fun c2 h => bif_split h
   (fun c3 h => bif_split h
   (fun c4 h => bif_split h
   (fun c5 h => bif_split h
   (fun c6 h => bif_split h
   (fun c7 h => ret_at hR _ h (fun n => bif Nat.beq n 3 then 399 else n) rfl rfl rfl (rn_tup ⟨(rn_own_nils rfl), (rn_int rfl), trivial⟩) rfl (entl_fresh (use_own rfl) (fresh_ok rfl) (entl_bor (use_lo rfl) rfl rfl (entl_bor (use_lo rfl) rfl rfl entl_nil))))
   (fun c7 h => bif_split h
   (fun c8 h => bif_split h
   (fun c9 h => stop_at hS _ h (fun n => bif Nat.beq n 2 then 2 else bif Nat.beq n 3 then 7 else n) rfl rfl rfl ⟨(rn_loose (use_lo rfl) rfl rfl rfl), ⟨(rn_int rfl), ⟨(rn_ptr (use_own rfl) rfl rfl), ⟨(rn_own (use_own rfl) rfl rfl), ⟨(rn_int rfl), trivial⟩⟩⟩⟩⟩ rfl (entl_b (use_own rfl) rfl (by simp) (rb_cells ⟨(rn_loose (use_lo rfl) rfl rfl rfl), trivial⟩) (entl_b (use_own rfl) rfl (by simp) (rb_lit (fun j hj i hi => (match j, hj with | 0, _ => (match i, hi with | 0, _ => ⟨_, rfl, rn_int rfl⟩ | 1, _ => ⟨_, rfl, rn_int rfl⟩ | 2, _ => ⟨_, rfl, rn_bool_tf rfl⟩ | 3, _ => ⟨_, rfl, rn_bool_tf rfl⟩ | _ + 4, h => absurd h (by simp [lenc])) | _ + 1, h => absurd h (by simp)))) (entl_bor (use_lo rfl) rfl rfl (entl_bor (use_lo rfl) rfl rfl entl_nil)))))
   (fun c9 h => ret_at hR _ h (fun n => bif Nat.beq n 3 then 399 else n) rfl rfl rfl (rn_tup ⟨(rn_own_nils rfl), (rn_int rfl), trivial⟩) rfl (entl_fresh (use_own rfl) (fresh_ok rfl) (entl_bor (use_lo rfl) rfl rfl (entl_bor (use_lo rfl) rfl rfl entl_nil)))))
   (fun c8 h => no_some h)))
   (fun c6 h => no_some h))
   (fun c5 h => no_some h))
   (fun c4 h => ret_at hR _ h (fun n => bif Nat.beq n 3 then 399 else n) rfl rfl rfl (rn_tup ⟨(rn_own_nils rfl), (rn_int rfl), trivial⟩) rfl (entl_fresh (use_own rfl) (fresh_ok rfl) (entl_bor (use_lo rfl) rfl rfl (entl_bor (use_lo rfl) rfl rfl entl_nil)))))
   (fun c3 h => no_some h))))
   (fun c0 h => no_some h)
set_option maxRecDepth 100000 in
theorem b25_0 (ap np mp : Nat) (tp : Nat → Int) (vp : Nat → Int) (gp : Nat → Int) (wp : Nat → Int) (al nl ml : Nat) (tl : Nat → Int) (sy : Int) (Kst : KS) (Kret : KR) (x : St25 ⊕ Rt25) (hS : HS 2 400 ((I25 ap np mp tp vp gp wp al nl ml tl sy)) Kst x) (hR : HR 2 400 ((V25 ap np mp tp vp gp wp al nl ml tl sy)) (fun r => [newL (2 + 1) ((N25 ap np mp tp vp gp wp al nl ml tl sy) r) ++ [(0, (false, .cols mp [.int .i64 tp, .int .i64 vp, .int .i64 gp, .int .i64 wp])), (1, (false, .cols ml [.int .i64 tl]))]]) Kret x) (x0 : Int) (x1 : List (Int × Int × Bool × Bool)) (h : (bif (decide (x0 < (↑np : Int)))
 then (bif (decide
 (ap + np ≤ mp ∧
 np ≤ 1000000 ∧
 (S.treE np (fun (q : Nat) => tp (q + ap)) (fun (q : Nat) => vp (q + ap)) (fun (q : Nat) => gp (q + ap))
 fun (q : Nat) => wp (q + ap)) =
 (0 : Int) ∧
 (0 : Int) ≤ x0 ∧ x0 < (↑np : Int)))
 then (bif (lim IntKind.i64
 ((2 : Int) * S.dl (fun (q : Nat) => tp (q + ap)) (fun (q : Nat) => wp (q + ap)) (Int.toNat x0)))
 then (bif (lim IntKind.i64
 ((2 : Int) * S.dl (fun (q : Nat) => tp (q + ap)) (fun (q : Nat) => wp (q + ap)) (Int.toNat x0) + sy))
 then (bif (decide ((0 : Int) ≤ x0 ∧ x0 < (↑nl : Int)))
 then (bif (decide (Int.toNat x0 + al < ml))
 then (bif (lim IntKind.i64
 (tl (Int.toNat x0 + al) -
 ((2 : Int) * S.dl (fun (q : Nat) => tp (q + ap)) (fun (q : Nat) => wp (q + ap)) (Int.toNat x0) + sy)))
 then (bif (lim IntKind.i64
 (Max.max
 (tl (Int.toNat x0 + al) -
 ((2 : Int) * S.dl (fun (q : Nat) => tp (q + ap)) (fun (q : Nat) => wp (q + ap)) (Int.toNat x0) + sy))
 (0 : Int) +
 (1 : Int)))
 then (bif (lim IntKind.i64
 (Int.tdiv
 (Max.max
 (tl (Int.toNat x0 + al) -
 ((2 : Int) * S.dl (fun (q : Nat) => tp (q + ap)) (fun (q : Nat) => wp (q + ap)) (Int.toNat x0) + sy))
 (0 : Int) +
 (1 : Int))
 (2 : Int)))
 then (bif (lim IntKind.i64
 (tl (Int.toNat x0 + al) +
 ((2 : Int) * S.dl (fun (q : Nat) => tp (q + ap)) (fun (q : Nat) => wp (q + ap)) (Int.toNat x0) + sy)))
 then (bif (lim IntKind.i64
 (Int.tdiv
 (tl (Int.toNat x0 + al) +
 ((2 : Int) * S.dl (fun (q : Nat) => tp (q + ap)) (fun (q : Nat) => wp (q + ap)) (Int.toNat x0) + sy))
 (2 : Int)))
 then (bif (decide
 (Int.tdiv
 (Max.max
 (tl (Int.toNat x0 + al) -
 ((2 : Int) * S.dl (fun (q : Nat) => tp (q + ap)) (fun (q : Nat) => wp (q + ap)) (Int.toNat x0) + sy))
 (0 : Int) +
 (1 : Int))
 (2 : Int) >
 Int.tdiv
 (tl (Int.toNat x0 + al) +
 ((2 : Int) * S.dl (fun (q : Nat) => tp (q + ap)) (fun (q : Nat) => wp (q + ap)) (Int.toNat x0) + sy))
 (2 : Int)))
 then (some (.inr ((12 : Int), [])))
 else (bif (decide (List.length x1 + 1 ≤ 1000000))
 then (bif (decide (List.length x1 ≤ List.length x1))
 then (bif (lim IntKind.i64 (x0 + (1 : Int)))
 then (some (.inl (.h0 (x0 + (1 : Int)) (S.snoc x1
 (Int.tdiv
 (Max.max
 (tl (Int.toNat x0 + al) -
 ((2 : Int) * S.dl (fun (q : Nat) => tp (q + ap)) (fun (q : Nat) => wp (q + ap)) (Int.toNat x0) + sy))
 (0 : Int) +
 (1 : Int))
 (2 : Int),
 Int.tdiv
 (tl (Int.toNat x0 + al) +
 ((2 : Int) * S.dl (fun (q : Nat) => tp (q + ap)) (fun (q : Nat) => wp (q + ap)) (Int.toNat x0) + sy))
 (2 : Int),
 false, false)))))
 else (none))
 else (none))
 else (none)))
 else (none))
 else (none))
 else (none))
 else (none))
 else (none))
 else (none))
 else (none))
 else (none))
 else (none))
 else (none))
 else (some (.inr ((0 : Int), x1))) : Option (St25 ⊕ Rt25)) = some x) : T25_0 cond Kst Kret ap np mp tp vp gp wp al nl ml tl sy x0 x1 := by
  unfold T25_0
  exact bif_split h
   (fun c0 h => bif_split h
   (fun c1 h => bif_split h
   (fun c2 h => bif_split h
   (fun c3 h => bif_split h
   (fun c4 h => bif_split h
   (fun c5 h => bif_split h
   (fun c6 h => bif_split h
   (fun c7 h => cond_no rfl (bif_split h
   (fun c8 h => cond_yes c4 (cond_yes c5 (bif_split h
   (fun c9 h => cond_no rfl (bif_split h
   (fun c10 h => bif_split h
   (fun c11 h => ret_at hR _ h (fun n => bif Nat.beq n 3 then 399 else n) rfl rfl rfl (rn_tup ⟨(rn_own_nils rfl), (rn_int rfl), trivial⟩) rfl (entl_fresh (use_own rfl) (fresh_ok rfl) (entl_bor (use_lo rfl) rfl rfl (entl_bor (use_lo rfl) rfl rfl entl_nil))))
   (fun c11 h => bif_split h
   (fun c12 h => bif_split h
   (fun c13 h => cond_yes rfl (bif_split h
   (fun c14 h => stop_at hS _ h (fun n => bif Nat.beq n 2 then 2 else bif Nat.beq n 3 then 7 else n) rfl rfl rfl ⟨(rn_loose (use_lo rfl) rfl rfl rfl), ⟨(rn_int rfl), ⟨(rn_ptr (use_own rfl) rfl rfl), ⟨(rn_own (use_own rfl) rfl (snoc_len' rfl)), ⟨(rn_int rfl), trivial⟩⟩⟩⟩⟩ rfl (entl_b (use_own rfl) rfl (by simp) (rb_cells ⟨(rn_loose (use_lo rfl) rfl rfl rfl), trivial⟩) (entl_new (use_own rfl) rfl (Nat.le_of_eq (snoc_len' rfl)) (rcs_int (col_snoc' (fun (t : Int × Int × Bool × Bool) => t.1) rfl (fun _ _ => rfl)) (rcs_int (col_snoc' (fun (t : Int × Int × Bool × Bool) => t.2.1) rfl (fun _ _ => rfl)) (rcs_bool (col_snoc' (fun (t : Int × Int × Bool × Bool) => t.2.2.1) rfl (fun _ _ => rfl)) (rcs_bool (col_snoc' (fun (t : Int × Int × Bool × Bool) => t.2.2.2) rfl (fun _ _ => rfl)) rcs_nil)))) (entl_bor (use_lo rfl) rfl rfl (entl_bor (use_lo rfl) rfl rfl entl_nil)))))
   (fun c14 h => no_some h)))
   (fun c13 h => no_some h))
   (fun c12 h => no_some h)))
   (fun c10 h => no_some h)))
   (fun c9 h => no_some h))))
   (fun c8 h => no_some h)))
   (fun c7 h => no_some h))
   (fun c6 h => no_some h))
   (fun c5 h => no_some h))
   (fun c4 h => no_some h))
   (fun c3 h => no_some h))
   (fun c2 h => no_some h))
   (fun c1 h => no_some h))
   (fun c0 h => ret_at hR _ h (fun n => bif Nat.beq n 3 then 3 else n) rfl rfl rfl (rn_tup ⟨(rn_own (use_own rfl) rfl rfl), (rn_int rfl), trivial⟩) rfl (entl_new (use_own rfl) rfl (Nat.le_of_eq rfl) (rcs_int (fun _ _ => rfl) (rcs_int (fun _ _ => rfl) (rcs_bool (fun _ _ => rfl) (rcs_bool (fun _ _ => rfl) rcs_nil)))) (entl_bor (use_lo rfl) rfl rfl (entl_bor (use_lo rfl) rfl rfl entl_nil))))
theorem a25 (ap np mp : Nat) (tp : Nat → Int) (vp : Nat → Int) (gp : Nat → Int) (wp : Nat → Int) (al nl ml : Nat) (tl : Nat → Int) (sy : Int) {r : Rt25} (h : Goes ((q25 ap np mp tp vp gp wp al nl ml tl sy)) ((p25 ap np mp tp vp gp wp al nl ml tl sy)) r) : CallR Try.prog 25 [.agg [.loose ⟨0, 4, ap, 0⟩ np], .loose ⟨1, 1, al, 0⟩ nl, .int .i64 sy] [[(0, (false, .cols mp [.int .i64 tp, .int .i64 vp, .int .i64 gp, .int .i64 wp])), (1, (false, .cols ml [.int .i64 tl]))]] 2 ((V25 ap np mp tp vp gp wp al nl ml tl sy) r) ((fun r => [newL (2 + 1) ((N25 ap np mp tp vp gp wp al nl ml tl sy) r) ++ [(0, (false, .cols mp [.int .i64 tp, .int .i64 vp, .int .i64 gp, .int .i64 wp])), (1, (false, .cols ml [.int .i64 tl]))]]) r) 400 ∧ ∃ F, Try.prog.funcs[25]? = some F ∧ F.body.isSome = true ∧ (F.name == "runtime.NumGoroutine") = false := by
  refine dec_calls (f := 25) (lo := 2) (hi := 400) (H := [[(0, (false, .cols mp [.int .i64 tp, .int .i64 vp, .int .i64 gp, .int .i64 wp])), (1, (false, .cols ml [.int .i64 tl]))]]) (args := [.agg [.loose ⟨0, 4, ap, 0⟩ np], .loose ⟨1, 1, al, 0⟩ nl, .int .i64 sy]) Try.envOk Try.mixed xK_ok ((I25 ap np mp tp vp gp wp al nl ml tl sy)) ((V25 ap np mp tp vp gp wp al nl ml tl sy)) (fun r => [newL (2 + 1) ((N25 ap np mp tp vp gp wp al nl ml tl sy) r) ++ [(0, (false, .cols mp [.int .i64 tp, .int .i64 vp, .int .i64 gp, .int .i64 wp])), (1, (false, .cols ml [.int .i64 tl]))]]) (fn := mkFn Try.f25) (ts := [1, 2, 3, 9, 10]) (n := 400) rfl (by decide) (by simp) (names_of rfl) ?_ ?_ ?_ h
  · intro s; cases s <;> exact ⟨hd_ok _ _, by simp [I25], names_of rfl, Nat.le_of_ble_eq_true rfl⟩
  · intro Kst Kret x hS hR h
    exact Holds.eq (te25 cond Kst Kret ap np mp tp vp gp wp al nl ml tl sy) (be25 ap np mp tp vp gp wp al nl ml tl sy Kst Kret x hS hR h)
  · intro Kst Kret x hS hR s h
    cases s with
    | h0 x0 x1 => exact Holds.eq (t25_0 cond Kst Kret ap np mp tp vp gp wp al nl ml tl sy x0 x1) (b25_0 ap np mp tp vp gp wp al nl ml tl sy Kst Kret x hS hR x0 x1 h)
noncomputable def k25 : Con := ⟨25, [.agg [.list [.int .i64, .int .i64, .int .i64, .int .i64]], .one (.list [.int .i64]), .one (.plain (.int .i64))], fun (x : ((Nat × Nat × Nat × (Nat → Int) × (Nat → Int) × (Nat → Int) × (Nat → Int) × Unit) × Unit) × (Nat × Nat × Nat × (Nat → Int) × Unit) × Int × Unit) => (fun (ap np mp : Nat) (tp : Nat → Int) (vp : Nat → Int) (gp : Nat → Int) (wp : Nat → Int) (al nl ml : Nat) (tl : Nat → Int) (sy : Int) => decide (ap + np ≤ mp ∧ np ≤ 1000000 ∧ al + nl ≤ ml ∧ nl ≤ 1000000)) x.1.1.1 x.1.1.2.1 x.1.1.2.2.1 x.1.1.2.2.2.1 x.1.1.2.2.2.2.1 x.1.1.2.2.2.2.2.1 x.1.1.2.2.2.2.2.2.1 x.2.1.1 x.2.1.2.1 x.2.1.2.2.1 x.2.1.2.2.2.1 x.2.2.1, fun (x : ((Nat × Nat × Nat × (Nat → Int) × (Nat → Int) × (Nat → Int) × (Nat → Int) × Unit) × Unit) × (Nat × Nat × Nat × (Nat → Int) × Unit) × Int × Unit) => (fun (ap np mp : Nat) (tp : Nat → Int) (vp : Nat → Int) (gp : Nat → Int) (wp : Nat → Int) (al nl ml : Nat) (tl : Nat → Int) (sy : Int) => (V25 ap np mp tp vp gp wp al nl ml tl sy) (S.meaS np (fun q => tp (q + ap)) (fun q => vp (q + ap)) (fun q => gp (q + ap)) (fun q => wp (q + ap)) nl (fun q => tl (q + al)) sy)) x.1.1.1 x.1.1.2.1 x.1.1.2.2.1 x.1.1.2.2.2.1 x.1.1.2.2.2.2.1 x.1.1.2.2.2.2.2.1 x.1.1.2.2.2.2.2.2.1 x.2.1.1 x.2.1.2.1 x.2.1.2.2.1 x.2.1.2.2.2.1 x.2.2.1, fun (x : ((Nat × Nat × Nat × (Nat → Int) × (Nat → Int) × (Nat → Int) × (Nat → Int) × Unit) × Unit) × (Nat × Nat × Nat × (Nat → Int) × Unit) × Int × Unit) => (fun (ap np mp : Nat) (tp : Nat → Int) (vp : Nat → Int) (gp : Nat → Int) (wp : Nat → Int) (al nl ml : Nat) (tl : Nat → Int) (sy : Int) => (N25 ap np mp tp vp gp wp al nl ml tl sy) (S.meaS np (fun q => tp (q + ap)) (fun q => vp (q + ap)) (fun q => gp (q + ap)) (fun q => wp (q + ap)) nl (fun q => tl (q + al)) sy)) x.1.1.1 x.1.1.2.1 x.1.1.2.2.1 x.1.1.2.2.2.1 x.1.1.2.2.2.2.1 x.1.1.2.2.2.2.2.1 x.1.1.2.2.2.2.2.2.1 x.2.1.1 x.2.1.2.1 x.2.1.2.2.1 x.2.1.2.2.2.1 x.2.2.1, fun _ _ => .dead⟩
theorem s25' (ap np mp : Nat) (tp : Nat → Int) (vp : Nat → Int) (gp : Nat → Int) (wp : Nat → Int) (al nl ml : Nat) (tl : Nat → Int) (sy : Int) (hp1 : ap + np ≤ mp) (hp2 : np ≤ 1000000) (hl : al + nl ≤ ml) (ht : S.treE np (fun q => tp (q + ap)) (fun q => vp (q + ap)) (fun q => gp (q + ap)) (fun q => wp (q + ap)) = 0) (hn : nl = np) (hsy : 0 ≤ sy ∧ sy ≤ 1000000000) (hw : S.winT (fun q => tl (q + al)) 0 nl = true) : ∀ (k i : Nat) (L : List (Int × Int × Bool × Bool)), i + k = np → L.length = i → 0 < i → Comes (q25 ap np mp tp vp gp wp al nl ml tl sy) (.h0 (i : Int) L) (S.meaK (S.meaT (fun q => tp (q + ap)) (fun q => wp (q + ap)) (fun q => tl (q + al)) sy) i k L) := by
  have hnp := (tre_ok ht).2.1
  intro k
  induction k with
  | zero =>
    intro i L hi hL h0
    apply Comes.of
    show Goes _ _ _
    (first | rw [q25] | unfold q25)
    repeat' first
      | with_reducible refine goes_if (fun h => ?_) (fun h => ?_) <;> (try simp only [lim64, decide_eq_true_eq, decide_eq_false_iff_not, Int.toNat_natCast, toNat_pred, toNat_succ, Option.getD_some, Option.getD_none, Bool.not_eq_true', Bool.not_eq_false', Bool.and_eq_true, Bool.or_eq_true, Bool.and_eq_false_iff, Bool.or_eq_false_iff, bne_iff_ne, beq_iff_eq, bne_eq_false_iff_eq, beq_eq_false_iff_ne, ne_eq, not_and, Int.not_le, Int.not_lt, ge_iff_le, gt_iff_lt, Nat.not_lt, Nat.not_le, Bool.not_eq_true, Bool.not_eq_false, Bool.true_eq_false, Bool.false_eq_true, not_false_eq_true, not_true_eq_false] at h)
      | exact goes_none.mpr (by omega)
    all_goals first | (exfalso; omega) | exact goes_inr.mpr rfl
  | succ k ih =>
    intro i L hi hL h0
    have hd := (dl_bd ht (x := i) (by omega)).2
    have hr := winT_iff.mp hw i (Nat.zero_le _) (by omega)
    replace hr : 0 ≤ tl (i + al) ∧ tl (i + al) ≤ 1000000000 := hr
    have hb1 : 2 * S.dl (fun q => tp (q + ap)) (fun q => wp (q + ap)) i ≤ 2 * (1000000 * (i : Int)) := by omega
    have et : ((Int.tdiv (max (tl (i + al) - (2 * S.dl (fun q => tp (q + ap)) (fun q => wp (q + ap)) i + sy)) 0 + 1) 2), (Int.tdiv (tl (i + al) + (2 * S.dl (fun q => tp (q + ap)) (fun q => wp (q + ap)) i + sy)) 2), false, false) = (S.meaT (fun q => tp (q + ap)) (fun q => wp (q + ap)) (fun q => tl (q + al)) sy) i := by
      unfold S.meaT
      refine Prod.ext ?_ (Prod.ext ?_ rfl)
      · exact half_up
      · exact half_dn (by omega)
    have e1 : ((S.meaT (fun q => tp (q + ap)) (fun q => wp (q + ap)) (fun q => tl (q + al)) sy) i).1 = (Int.tdiv (max (tl (i + al) - (2 * S.dl (fun q => tp (q + ap)) (fun q => wp (q + ap)) i + sy)) 0 + 1) 2) := by rw [← et]
    have e2 : ((S.meaT (fun q => tp (q + ap)) (fun q => wp (q + ap)) (fun q => tl (q + al)) sy) i).2.1 = (Int.tdiv (tl (i + al) + (2 * S.dl (fun q => tp (q + ap)) (fun q => wp (q + ap)) i + sy)) 2) := by rw [← et]
    have eK : S.meaK (S.meaT (fun q => tp (q + ap)) (fun q => wp (q + ap)) (fun q => tl (q + al)) sy) i (k + 1) L = if ((S.meaT (fun q => tp (q + ap)) (fun q => wp (q + ap)) (fun q => tl (q + al)) sy) i).1 > ((S.meaT (fun q => tp (q + ap)) (fun q => wp (q + ap)) (fun q => tl (q + al)) sy) i).2.1 then (12, []) else S.meaK (S.meaT (fun q => tp (q + ap)) (fun q => wp (q + ap)) (fun q => tl (q + al)) sy) (i + 1) k (S.snoc L ((S.meaT (fun q => tp (q + ap)) (fun q => wp (q + ap)) (fun q => tl (q + al)) sy) i)) := rfl
    rw [eK, e1, e2]
    have ih := ih (i + 1) (S.snoc L ((S.meaT (fun q => tp (q + ap)) (fun q => wp (q + ap)) (fun q => tl (q + al)) sy) i)) (by omega) (by rw [snoc_len, hL]) (by omega)
    rw [← et] at ih
    have l1 : (Int.tdiv (max (tl (i + al) - (2 * S.dl (fun q => tp (q + ap)) (fun q => wp (q + ap)) i + sy)) 0 + 1) 2) = max 0 ((tl (i + al) - (2 * S.dl (fun q => tp (q + ap)) (fun q => wp (q + ap)) i + sy) + 1) / 2) := half_up
    have l2 : (Int.tdiv (tl (i + al) + (2 * S.dl (fun q => tp (q + ap)) (fun q => wp (q + ap)) i + sy)) 2) = (tl (i + al) + (2 * S.dl (fun q => tp (q + ap)) (fun q => wp (q + ap)) i + sy)) / 2 := half_dn (by omega)
    rw [← et]
    apply Comes.of
    show Goes _ _ _
    (first | rw [q25] | unfold q25)
    repeat' first
      | with_reducible refine goes_if (fun h => ?_) (fun h => ?_) <;> (try simp only [lim64, decide_eq_true_eq, decide_eq_false_iff_not, Int.toNat_natCast, toNat_pred, toNat_succ, Option.getD_some, Option.getD_none, Bool.not_eq_true', Bool.not_eq_false', Bool.and_eq_true, Bool.or_eq_true, Bool.and_eq_false_iff, Bool.or_eq_false_iff, bne_iff_ne, beq_iff_eq, bne_eq_false_iff_eq, beq_eq_false_iff_ne, ne_eq, not_and, Int.not_le, Int.not_lt, ge_iff_le, gt_iff_lt, Nat.not_lt, Nat.not_le, Bool.not_eq_true, Bool.not_eq_false, Bool.true_eq_false, Bool.false_eq_true, not_false_eq_true, not_true_eq_false] at h)
      | exact goes_none.mpr (by omega)
    all_goals first
      | (exfalso; omega)
      | (rw [if_pos (by assumption)]; exact goes_inr.mpr rfl)
      | (rw [if_neg (Int.not_lt.mpr (by assumption))]; exact ih)
theorem s25 (ap np mp : Nat) (tp : Nat → Int) (vp : Nat → Int) (gp : Nat → Int) (wp : Nat → Int) (al nl ml : Nat) (tl : Nat → Int) (sy : Int) (hp : ap + np ≤ mp ∧ np ≤ 1000000 ∧ al + nl ≤ ml ∧ nl ≤ 1000000) : Goes ((q25 ap np mp tp vp gp wp al nl ml tl sy)) ((p25 ap np mp tp vp gp wp al nl ml tl sy)) (S.meaS np (fun q => tp (q + ap)) (fun q => vp (q + ap)) (fun q => gp (q + ap)) (fun q => wp (q + ap)) nl (fun q => tl (q + al)) sy) := by
  obtain ⟨hp1, hp2, hp3, hp4⟩ := hp
  unfold S.meaS
  by_cases h0 : S.treE np (fun q => tp (q + ap)) (fun q => vp (q + ap)) (fun q => gp (q + ap)) (fun q => wp (q + ap)) = 0
  · rw [if_pos h0]
    have v1 := (tre_ok h0).1
    have v2 := (tre_ok h0).2.1
    have hm : nl = np ∧ (0 ≤ sy ∧ sy ≤ 1000000000) ∧ S.winT (fun q => tl (q + al)) 0 nl = true → _ := fun h => s25' ap np mp tp vp gp wp al nl ml tl sy hp1 hp2 hp3 h0 h.1 h.2.1 h.2.2 (np - 1) 1 [(0, 0, false, false)] (by omega) rfl (by decide)
    have z0 : (fun q => tl (q + al)) 0 = tl (0 + al) := rfl
    have hz : S.winT (fun q => S.lit [sy] 0 q) 0 1 = decide (0 ≤ sy ∧ sy ≤ 1000000000) := by simp [S.winT, S.lit]
    by_cases h1 : nl = np ∧ tl (0 + al) = 0 ∧ 0 ≤ sy ∧ sy ≤ 1000000000
    · by_cases hw : S.winT (fun q => tl (q + al)) 0 nl = true
      · rw [if_pos ⟨h1.1, h1.2.1, h1.2.2, hw⟩]
        have hm := hm ⟨h1.1, h1.2.2, hw⟩
        show Goes _ _ _
        unfold p25
        repeat' first
          | with_reducible refine goes_if (fun h => ?_) (fun h => ?_) <;> (try simp only [lim64, decide_eq_true_eq, decide_eq_false_iff_not, Int.toNat_natCast, toNat_pred, toNat_succ, Option.getD_some, Option.getD_none, Bool.not_eq_true', Bool.not_eq_false', Bool.and_eq_true, Bool.or_eq_true, Bool.and_eq_false_iff, Bool.or_eq_false_iff, bne_iff_ne, beq_iff_eq, bne_eq_false_iff_eq, beq_eq_false_iff_ne, ne_eq, not_and, Int.not_le, Int.not_lt, ge_iff_le, gt_iff_lt, Nat.not_lt, Nat.not_le, Bool.not_eq_true, Bool.not_eq_false, Bool.true_eq_false, Bool.false_eq_true, not_false_eq_true, not_true_eq_false, hz] at h)
          | exact goes_none.mpr (by omega)
        all_goals first | (exfalso; omega) | exact hm | (exfalso; simp_all; done) | (exfalso; simp_all [S.winT, S.lit]; done)
      · rw [if_neg (fun h => hw h.2.2.2)]
        show Goes _ _ _
        unfold p25
        repeat' first
          | with_reducible refine goes_if (fun h => ?_) (fun h => ?_) <;> (try simp only [lim64, decide_eq_true_eq, decide_eq_false_iff_not, Int.toNat_natCast, toNat_pred, toNat_succ, Option.getD_some, Option.getD_none, Bool.not_eq_true', Bool.not_eq_false', Bool.and_eq_true, Bool.or_eq_true, Bool.and_eq_false_iff, Bool.or_eq_false_iff, bne_iff_ne, beq_iff_eq, bne_eq_false_iff_eq, beq_eq_false_iff_ne, ne_eq, not_and, Int.not_le, Int.not_lt, ge_iff_le, gt_iff_lt, Nat.not_lt, Nat.not_le, Bool.not_eq_true, Bool.not_eq_false, Bool.true_eq_false, Bool.false_eq_true, not_false_eq_true, not_true_eq_false, hz] at h)
          | exact goes_none.mpr (by omega)
        all_goals first | (exfalso; omega) | rfl | (exfalso; simp_all; done)
    · rw [if_neg (fun h => h1 ⟨h.1, h.2.1, h.2.2.1⟩)]
      show Goes _ _ _
      unfold p25
      repeat' first
        | with_reducible refine goes_if (fun h => ?_) (fun h => ?_) <;> (try simp only [lim64, decide_eq_true_eq, decide_eq_false_iff_not, Int.toNat_natCast, toNat_pred, toNat_succ, Option.getD_some, Option.getD_none, Bool.not_eq_true', Bool.not_eq_false', Bool.and_eq_true, Bool.or_eq_true, Bool.and_eq_false_iff, Bool.or_eq_false_iff, bne_iff_ne, beq_iff_eq, bne_eq_false_iff_eq, beq_eq_false_iff_ne, ne_eq, not_and, Int.not_le, Int.not_lt, ge_iff_le, gt_iff_lt, Nat.not_lt, Nat.not_le, Bool.not_eq_true, Bool.not_eq_false, Bool.true_eq_false, Bool.false_eq_true, not_false_eq_true, not_true_eq_false, hz] at h)
        | exact goes_none.mpr (by omega)
      all_goals first | (exfalso; omega) | rfl | (exfalso; simp_all; omega)
  · rw [if_neg h0]
    show Goes _ _ _
    unfold p25
    repeat' first
      | with_reducible refine goes_if (fun h => ?_) (fun h => ?_) <;> (try simp only [lim64, decide_eq_true_eq, decide_eq_false_iff_not, Int.toNat_natCast, toNat_pred, toNat_succ, Option.getD_some, Option.getD_none, Bool.not_eq_true', Bool.not_eq_false', Bool.and_eq_true, Bool.or_eq_true, Bool.and_eq_false_iff, Bool.or_eq_false_iff, bne_iff_ne, beq_iff_eq, bne_eq_false_iff_eq, beq_eq_false_iff_ne, ne_eq, not_and, Int.not_le, Int.not_lt, ge_iff_le, gt_iff_lt, Nat.not_lt, Nat.not_le, Bool.not_eq_true, Bool.not_eq_false, Bool.true_eq_false, Bool.false_eq_true, not_false_eq_true, not_true_eq_false] at h)
      | exact goes_none.mpr (by omega)
    all_goals first | (exfalso; omega) | rfl

theorem k25_ok : k25.ok Try.prog := by
  intro x hx
  obtain ⟨⟨⟨ap, np, mp, tp, vp, gp, wp, _⟩, _⟩, ⟨al, nl, ml, tl, _⟩, sy, _⟩ := x
  obtain ⟨h1, h2⟩ := a25 ap np mp tp vp gp wp al nl ml tl sy (s25 ap np mp tp vp gp wp al nl ml tl sy (of_dec hx rfl))
  exact ⟨⟨400, (by decide : 2 + 1 + 1 ≤ 400), h1⟩, h2⟩

end Go.Ev
