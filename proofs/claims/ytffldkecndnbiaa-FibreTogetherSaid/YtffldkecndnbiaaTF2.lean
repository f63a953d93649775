/-
  Compensate.
-/
import Derived.Test.YtffldkecndnbiaaTF2a
namespace Go.Ev
open Go.Proofs
set_option linter.unusedVariables false
set_option linter.unusedSimpArgs false
set_option maxRecDepth 100000
inductive St26 where
  | h0 (x0 : Int) (x1 : List Int) (x2 : List Int)
  | h1 (x0 : Int) (x1 : Int) (x2 : Int) (x3 : List Int) (x4 : List Int)
  | h2 (x0 : Int) (x1 : Int) (x2 : Int) (x3 : List Int) (x4 : List Int)
  | h3 (x0 : Int) (x1 : Int) (x2 : Int) (x3 : Int) (x4 : Nat) (x5 : Int) (x6 : Int) (x7 : List Int) (x8 : List Int)
abbrev Rt26 := Int × Int × List Int
noncomputable def V26 (ap np mp : Nat) (tp : Nat → Int) (vp : Nat → Int) (gp : Nat → Int) (wp : Nat → Int) (lm : Int) (r : Rt26) : PV := PV.tup
 [PV.own (2) (1) (List.length r.2.2), PV.int IntKind.i64 r.1,
 PV.int IntKind.i64 r.2.1]
noncomputable def N26 (ap np mp : Nat) (tp : Nat → Int) (vp : Nat → Int) (gp : Nat → Int) (wp : Nat → Int) (lm : Int) (r : Rt26) : List Blk := [Blk.cols (List.length r.2.2) [Col.int IntKind.i64 fun (j : Nat) => S.at' r.2.2 j]]
noncomputable def I26 (ap np mp : Nat) (tp : Nat → Int) (vp : Nat → Int) (gp : Nat → Int) (wp : Nat → Int) (lm : Int) : St26 → Hd
  | .h0 x0 x1 x2 => ⟨hd Try.f26 0, [PV.int IntKind.i64 lm, PV.ptr (PA.mk (1) (0) (0) (0)),
 PV.own (3) (1) (List.length x2), PV.own (2) (1) (List.length x1),
 PV.unk, PV.unk, PV.unk, PV.own (2) (1) (List.length x1),
 PV.int IntKind.i64 (↑(List.length (S.leaL (fun (q : Nat) => tp (q + ap)) np)) : Int),
 PV.int IntKind.i64 x0, PV.unk, PV.unk, PV.unk, PV.unk, PV.unk, PV.unk,
 PV.unk, PV.unk], [[(1, (true, Blk.cells [PV.loose (PA.mk (0) (4) ap (0)) np])), (2, (true, Blk.cols (List.length x1) [Col.int IntKind.i64 fun (j : Nat) => S.at' x1 j])), (3, (true, Blk.cols (List.length x2) [Col.int IntKind.i64 fun (j : Nat) => S.at' x2 j]))], [(0, (false, .cols mp [.int .i64 tp, .int .i64 vp, .int .i64 gp, .int .i64 wp]))]], 4⟩
  | .h1 x0 x1 x2 x3 x4 => ⟨hd Try.f26 1, [PV.int IntKind.i64 lm, PV.ptr (PA.mk (1) (0) (0) (0)),
 PV.own (3) (1) (List.length x4), PV.own (2) (1) (List.length x3),
 PV.int IntKind.i64 x0, PV.unk, PV.unk, PV.unk, PV.unk, PV.unk,
 PV.int IntKind.i64 x1, PV.int IntKind.i64 x2, PV.unk, PV.unk, PV.unk,
 PV.unk, PV.unk, PV.unk], [[(1, (true, Blk.cells [PV.loose (PA.mk (0) (4) ap (0)) np])), (2, (true, Blk.cols (List.length x3) [Col.int IntKind.i64 fun (j : Nat) => S.at' x3 j])), (3, (true, Blk.cols (List.length x4) [Col.int IntKind.i64 fun (j : Nat) => S.at' x4 j]))], [(0, (false, .cols mp [.int .i64 tp, .int .i64 vp, .int .i64 gp, .int .i64 wp]))]], 4⟩
  | .h2 x0 x1 x2 x3 x4 => ⟨hd Try.f26 2, [PV.unk, PV.ptr (PA.mk (1) (0) (0) (0)),
 PV.own (2) (1) (List.length x3), PV.own (3) (1) (List.length x4),
 PV.unk, PV.int IntKind.i64 x0, PV.unk, PV.unk, PV.unk, PV.unk, PV.unk,
 PV.unk, PV.own (3) (1) (List.length x4), PV.int IntKind.i64 x1,
 PV.int IntKind.i64 x2, PV.unk, PV.unk, PV.unk], [[(1, (true, Blk.cells [PV.loose (PA.mk (0) (4) ap (0)) np])), (2, (true, Blk.cols (List.length x3) [Col.int IntKind.i64 fun (j : Nat) => S.at' x3 j])), (3, (true, Blk.cols (List.length x4) [Col.int IntKind.i64 fun (j : Nat) => S.at' x4 j]))], [(0, (false, .cols mp [.int .i64 tp, .int .i64 vp, .int .i64 gp, .int .i64 wp]))]], 4⟩
  | .h3 x0 x1 x2 x3 x4 x5 x6 x7 x8 => ⟨hd Try.f26 3, [PV.unk, PV.ptr (PA.mk (1) (0) (0) (0)),
 PV.own (2) (1) (List.length x7), PV.own (3) (1) (List.length x8),
 PV.unk, PV.int IntKind.i64 x0, PV.int IntKind.i64 x1, PV.unk, PV.unk,
 PV.unk, PV.unk, PV.unk, PV.own (3) (1) (List.length x8),
 PV.int IntKind.i64 x2, PV.int IntKind.i64 x3,
 PV.loose (PA.mk (3) (1) (0) (0)) x4, PV.int IntKind.i64 x5,
 PV.int IntKind.i64 x6], [[(1, (true, Blk.cells [PV.loose (PA.mk (0) (4) ap (0)) np])), (2, (true, Blk.cols (List.length x7) [Col.int IntKind.i64 fun (j : Nat) => S.at' x7 j])), (3, (true, Blk.cols (List.length x8) [Col.int IntKind.i64 fun (j : Nat) => S.at' x8 j]))], [(0, (false, .cols mp [.int .i64 tp, .int .i64 vp, .int .i64 gp, .int .i64 wp]))]], 4⟩
noncomputable def q26 (ap np mp : Nat) (tp : Nat → Int) (vp : Nat → Int) (gp : Nat → Int) (wp : Nat → Int) (lm : Int) : St26 → Option (St26 ⊕ Rt26)
  | .h0 x0 x1 x2 => bif (decide (x0 < (↑(List.length (S.leaL (fun (q : Nat) => tp (q + ap)) np)) : Int)))
 then (bif (decide ((0 : Int) ≤ x0 ∧ x0 < (↑(List.length x1) : Int)))
 then (bif (decide (Int.toNat x0 < List.length x1))
 then (bif (decide
 (ap + np ≤ mp ∧
 np ≤ 1000000 ∧
 (S.treE np (fun (q : Nat) => tp (q + ap)) (fun (q : Nat) => vp (q + ap)) (fun (q : Nat) => gp (q + ap))
 fun (q : Nat) => wp (q + ap)) =
 (0 : Int) ∧
 (0 : Int) ≤ S.at' x1 (Int.toNat x0) ∧ S.at' x1 (Int.toNat x0) < (↑np : Int)))
 then (bif (decide (List.length x2 + 1 ≤ 1000000))
 then (bif (decide (List.length x2 ≤ List.length x2))
 then (bif (lim IntKind.i64 (x0 + (1 : Int)))
 then (some (.inl (.h0 (x0 + (1 : Int)) (x1) (S.snoc x2
 (S.dl (fun (q : Nat) => tp (q + ap)) (fun (q : Nat) => vp (q + ap)) (Int.toNat (S.at' x1 (Int.toNat x0))))))))
 else (none))
 else (none))
 else (none))
 else (none))
 else (none))
 else (none))
 else (bif (decide
 (0 + List.length x2 ≤ List.length x2 ∧ List.length x2 ≤ 1000000 ∧ 0 < List.length x2))
 then (some (.inl (.h1 (S.maxN (fun (j : Nat) => S.at' x2 j) (List.length x2 - 1)) ((↑(List.length x2) : Int)) ((0 : Int)) (x1) (x2))))
 else (none))
  | .h1 x0 x1 x2 x3 x4 => bif (decide (x2 < x1))
 then (bif (decide ((0 : Int) ≤ x2 ∧ x2 < (↑(List.length x4) : Int)))
 then (bif (decide (Int.toNat x2 < List.length x4))
 then (bif (lim IntKind.i64 (x0 - S.at' x4 (Int.toNat x2)))
 then (bif (decide
 ((bif Nat.beq (Int.toNat x2) (Int.toNat x2) then x0 - S.at' x4 (Int.toNat x2)
 else S.at' x4 (Int.toNat x2)) >
 lm))
 then (some (.inr ((0 : Int), (6 : Int), [])))
 else (bif (lim IntKind.i64 (x2 + (1 : Int)))
 then (some (.inl (.h1 (x0) (x1) (x2 + (1 : Int)) (x3) (S.mkl (List.length x4) fun (j : Nat) =>
 bif Nat.beq j (Int.toNat x2) then x0 - S.at' x4 (Int.toNat x2) else S.at' x4 j))))
 else (none)))
 else (none))
 else (none))
 else (none))
 else (some (.inl (.h2 ((0 : Int)) ((↑(List.length x3) : Int)) ((0 : Int)) (x4) (x3))))
  | .h2 x0 x1 x2 x3 x4 => bif (decide (x2 < x1))
 then (bif (decide ((0 : Int) ≤ x2 ∧ x2 < (↑(List.length x4) : Int)))
 then (bif (decide (Int.toNat x2 < List.length x4))
 then (bif (decide ((0 : Int) ≤ x2 ∧ x2 ≤ (↑(List.length x4) : Int)))
 then (some (.inl (.h3 (x0) (S.at' x4 (Int.toNat x2)) (x1) (x2) (Int.toNat x2) ((↑(Int.toNat x2) : Int)) ((0 : Int)) (x3) (x4))))
 else (none))
 else (none))
 else (none))
 else (some (.inr (x0, (0 : Int), x3)))
  | .h3 x0 x1 x2 x3 x4 x5 x6 x7 x8 => bif (decide (x6 < x5))
 then (bif (decide ((0 : Int) ≤ x6 ∧ x6 < (↑x4 : Int)))
 then (bif (decide (Int.toNat x6 < List.length x8))
 then (bif (decide
 (ap + np ≤ mp ∧
 np ≤ 1000000 ∧
 (S.treE np (fun (q : Nat) => tp (q + ap)) (fun (q : Nat) => vp (q + ap)) (fun (q : Nat) => gp (q + ap))
 fun (q : Nat) => wp (q + ap)) =
 (0 : Int) ∧
 ((0 : Int) ≤ x1 ∧ x1 < (↑np : Int)) ∧
 (0 : Int) ≤ S.at' x8 (Int.toNat x6) ∧ S.at' x8 (Int.toNat x6) < (↑np : Int)))
 then (bif (lim IntKind.i64 (x6 + (1 : Int)))
 then (some (.inl (.h3 (Max.max x0
 (S.dl (fun (q : Nat) => tp (q + ap)) (fun (q : Nat) => wp (q + ap)) (Int.toNat x1) +
 S.dl (fun (q : Nat) => tp (q + ap)) (fun (q : Nat) => wp (q + ap))
 (Int.toNat (S.at' x8 (Int.toNat x6))) -
 (2 : Int) *
 S.dl (fun (q : Nat) => tp (q + ap)) (fun (q : Nat) => wp (q + ap))
 (S.com (fun (q : Nat) => tp (q + ap)) (Int.toNat x1) (Int.toNat (S.at' x8 (Int.toNat x6)))))) (x1) (x2) (x3) (x4) (x5) (x6 + (1 : Int)) (x7) (x8))))
 else (none))
 else (none))
 else (none))
 else (none))
 else (bif (lim IntKind.i64 (x3 + (1 : Int)))
 then (some (.inl (.h2 (x0) (x2) (x3 + (1 : Int)) (x7) (x8))))
 else (none))
noncomputable def p26 (ap np mp : Nat) (tp : Nat → Int) (vp : Nat → Int) (gp : Nat → Int) (wp : Nat → Int) (lm : Int) : Option (St26 ⊕ Rt26) := bif (decide (ap + np ≤ mp ∧ np ≤ 1000000))
 then (bif ((S.treE np (fun (q : Nat) => tp (q + ap)) (fun (q : Nat) => vp (q + ap)) (fun (q : Nat) => gp (q + ap))
 fun (q : Nat) => wp (q + ap)) !=
 (0 : Int))
 then (some (.inr ((0 : Int), S.treE np (fun (q : Nat) => tp (q + ap)) (fun (q : Nat) => vp (q + ap)) (fun (q : Nat) => gp (q + ap))
 fun (q : Nat) => wp (q + ap), [])))
 else (bif (decide (lm ≥ (0 : Int)))
 then (bif (decide (lm ≤ (1000000000 : Int)))
 then (some (.inl (.h0 ((0 : Int)) (S.leaL (fun (q : Nat) => tp (q + ap)) np) ([]))))
 else (some (.inr ((0 : Int), (6 : Int), []))))
 else (some (.inr ((0 : Int), (6 : Int), [])))))
 else (none)
noncomputable def Te26 (test : Bool → Prop → Prop → Prop) (Kst : KS) (Kret : KR) (ap np mp : Nat) (tp : Nat → Int) (vp : Nat → Int) (gp : Nat → Int) (wp : Nat → Int) (lm : Int) : Prop :=
  test (decide (ap + np ≤ mp ∧ np ≤ 1000000))
 (test ((S.treE np (fun (q : Nat) => tp (q + ap)) (fun (q : Nat) => vp (q + ap)) (fun (q : Nat) => gp (q + ap))
 fun (q : Nat) => wp (q + ap)) !=
 (0 : Int))
 (Kret (PV.tup
 [PV.nils, PV.int IntKind.i64 (0 : Int),
 PV.int IntKind.i64
 (S.treE np (fun (q : Nat) => tp (q + ap)) (fun (q : Nat) => vp (q + ap)) (fun (q : Nat) => gp (q + ap))
 fun (q : Nat) => wp (q + ap))]) ([[(0, false,
 Blk.cols mp
 [Col.int IntKind.i64 tp, Col.int IntKind.i64 vp, Col.int IntKind.i64 gp,
 Col.int IntKind.i64 wp])]]) (3))
 (test (decide (lm ≥ (0 : Int)))
 (test (decide (lm ≤ (1000000000 : Int)))
 (test (decide (ap + np ≤ mp ∧ np ≤ 1000000))
 (Kst (hd Try.f26 0) ([PV.int IntKind.i64 lm, PV.ptr (PA.mk (1) (0) (0) (0)),
 PV.nils, PV.own (4) (1) (List.length (S.leaL (fun (q : Nat) => tp (q + ap)) np)),
 PV.unk, PV.unk, PV.unk,
 PV.own (4) (1) (List.length (S.leaL (fun (q : Nat) => tp (q + ap)) np)),
 PV.int IntKind.i64 (↑(List.length (S.leaL (fun (q : Nat) => tp (q + ap)) np)) : Int),
 PV.int IntKind.i64 (0 : Int), PV.unk, PV.unk, PV.unk, PV.unk, PV.unk,
 PV.unk, PV.unk, PV.unk]) ([[(0, false,
 Blk.cols mp
 [Col.int IntKind.i64 tp, Col.int IntKind.i64 vp, Col.int IntKind.i64 gp,
 Col.int IntKind.i64 wp]),
 (4, true,
 Blk.cols (List.length (S.leaL (fun (q : Nat) => tp (q + ap)) np))
 [Col.int IntKind.i64 fun (j : Nat) => S.at' (S.leaL (fun (q : Nat) => tp (q + ap)) np) j]),
 (1, true, Blk.cells [PV.loose (PA.mk (0) (4) ap (0)) np])]]) (5))
 (False))
 (Kret (PV.tup [PV.nils, PV.int IntKind.i64 (0 : Int), PV.int IntKind.i64 (6 : Int)]) ([[(0, false,
 Blk.cols mp
 [Col.int IntKind.i64 tp, Col.int IntKind.i64 vp, Col.int IntKind.i64 gp,
 Col.int IntKind.i64 wp])]]) (3)))
 (Kret (PV.tup [PV.nils, PV.int IntKind.i64 (0 : Int), PV.int IntKind.i64 (6 : Int)]) ([[(0, false,
 Blk.cols mp
 [Col.int IntKind.i64 tp, Col.int IntKind.i64 vp, Col.int IntKind.i64 gp,
 Col.int IntKind.i64 wp])]]) (3))))
 (False)
set_option maxRecDepth 100000 in
theorem te26 (test : Bool → Prop → Prop → Prop) (Kst : KS) (Kret : KR) (ap np mp : Nat) (tp : Nat → Int) (vp : Nat → Int) (gp : Nat → Int) (wp : Nat → Int) (lm : Int) : run test Try.env true (xO test) true 400 ⟨26, [.cd (mkFn Try.f26).body], argT 0 [.agg [.loose ⟨0, 4, ap, 0⟩ np], .int .i64 lm], [[], [(0, (false, .cols mp [.int .i64 tp, .int .i64 vp, .int .i64 gp, .int .i64 wp]))]], 1⟩ (proj 1 [1, 2, 8, 9, 14, 16, 18, 31, 32, 33, 51, 52, 71, 72, 73, 80, 81, 82] Kst Kret) =
  Te26 test Kst Kret ap np mp tp vp gp wp lm := by kernel_rfl
noncomputable def T26_0 (test : Bool → Prop → Prop → Prop) (Kst : KS) (Kret : KR) (ap np mp : Nat) (tp : Nat → Int) (vp : Nat → Int) (gp : Nat → Int) (wp : Nat → Int) (lm : Int) (x0 : Int) (x1 : List Int) (x2 : List Int) : Prop :=
  test (decide (x0 < (↑(List.length (S.leaL (fun (q : Nat) => tp (q + ap)) np)) : Int)))
 (test (decide ((0 : Int) ≤ x0 ∧ x0 < (↑(List.length x1) : Int)))
 (test (decide (Int.toNat x0 < List.length x1))
 (test (decide
 (ap + np ≤ mp ∧
 np ≤ 1000000 ∧
 (S.treE np (fun (q : Nat) => tp (q + ap)) (fun (q : Nat) => vp (q + ap)) (fun (q : Nat) => gp (q + ap))
 fun (q : Nat) => wp (q + ap)) =
 (0 : Int) ∧
 (0 : Int) ≤ S.at' x1 (Int.toNat x0) ∧ S.at' x1 (Int.toNat x0) < (↑np : Int)))
 (test (decide (List.length x2 + 1 ≤ 1000000))
 (test (decide (List.length x2 ≤ List.length x2))
 (test (true)
 (test (lim IntKind.i64 (x0 + (1 : Int)))
 (Kst (hd Try.f26 0) ([PV.int IntKind.i64 lm, PV.ptr (PA.mk (1) (0) (0) (0)),
 PV.own (6) (1) (List.length x2 + 1),
 PV.own (2) (1) (List.length x1), PV.unk, PV.unk, PV.unk,
 PV.own (2) (1) (List.length x1),
 PV.int IntKind.i64 (↑(List.length (S.leaL (fun (q : Nat) => tp (q + ap)) np)) : Int),
 PV.int IntKind.i64 (x0 + (1 : Int)), PV.unk, PV.unk, PV.unk, PV.unk, PV.unk,
 PV.unk, PV.unk, PV.unk]) ([[(0, false,
 Blk.cols mp
 [Col.int IntKind.i64 tp, Col.int IntKind.i64 vp, Col.int IntKind.i64 gp,
 Col.int IntKind.i64 wp]),
 (2, true,
 Blk.cols (List.length x1) [Col.int IntKind.i64 fun (j : Nat) => S.at' x1 j]),
 (6, true,
 Blk.cols (List.length x2 + 1)
 [Col.int IntKind.i64 fun (j : Nat) =>
 bif Nat.blt j (List.length x2) then S.at' x2 j
 else
 S.dl (fun (q : Nat) => tp (q + ap)) (fun (q : Nat) => vp (q + ap))
 (Int.toNat (S.at' x1 (Int.toNat x0)))]),
 (1, true, Blk.cells [PV.loose (PA.mk (0) (4) ap (0)) np])]]) (7))
 (False))
 (False))
 (False))
 (False))
 (False))
 (False))
 (False))
 (test (decide
 (0 + List.length x2 ≤ List.length x2 ∧ List.length x2 ≤ 1000000 ∧ 0 < List.length x2))
 (Kst (hd Try.f26 1) ([PV.int IntKind.i64 lm, PV.ptr (PA.mk (1) (0) (0) (0)),
 PV.own (3) (1) (List.length x2), PV.own (2) (1) (List.length x1),
 PV.int IntKind.i64 (S.maxN (fun (j : Nat) => S.at' x2 j) (List.length x2 - 1)),
 PV.unk, PV.unk, PV.own (2) (1) (List.length x1),
 PV.int IntKind.i64 (↑(List.length (S.leaL (fun (q : Nat) => tp (q + ap)) np)) : Int),
 PV.int IntKind.i64 x0, PV.int IntKind.i64 (↑(List.length x2) : Int),
 PV.int IntKind.i64 (0 : Int), PV.unk, PV.unk, PV.unk, PV.unk, PV.unk,
 PV.unk]) ([[(0, false,
 Blk.cols mp
 [Col.int IntKind.i64 tp, Col.int IntKind.i64 vp, Col.int IntKind.i64 gp,
 Col.int IntKind.i64 wp]),
 (2, true,
 Blk.cols (List.length x1) [Col.int IntKind.i64 fun (j : Nat) => S.at' x1 j]),
 (3, true,
 Blk.cols (List.length x2) [Col.int IntKind.i64 fun (j : Nat) => S.at' x2 j]),
 (1, true, Blk.cells [PV.loose (PA.mk (0) (4) ap (0)) np])]]) (5))
 (False))
set_option maxRecDepth 100000 in
theorem t26_0 (test : Bool → Prop → Prop → Prop) (Kst : KS) (Kret : KR) (ap np mp : Nat) (tp : Nat → Int) (vp : Nat → Int) (gp : Nat → Int) (wp : Nat → Int) (lm : Int) (x0 : Int) (x1 : List Int) (x2 : List Int) : run test Try.env true (xO test) true 400 ⟨26, hd Try.f26 0, zipT [1, 2, 8, 9, 14, 16, 18, 31, 32, 33, 51, 52, 71, 72, 73, 80, 81, 82] [PV.int IntKind.i64 lm, PV.ptr (PA.mk (1) (0) (0) (0)),
 PV.own (3) (1) (List.length x2), PV.own (2) (1) (List.length x1),
 PV.unk, PV.unk, PV.unk, PV.own (2) (1) (List.length x1),
 PV.int IntKind.i64 (↑(List.length (S.leaL (fun (q : Nat) => tp (q + ap)) np)) : Int),
 PV.int IntKind.i64 x0, PV.unk, PV.unk, PV.unk, PV.unk, PV.unk, PV.unk,
 PV.unk, PV.unk], [[(1, (true, Blk.cells [PV.loose (PA.mk (0) (4) ap (0)) np])), (2, (true, Blk.cols (List.length x1) [Col.int IntKind.i64 fun (j : Nat) => S.at' x1 j])), (3, (true, Blk.cols (List.length x2) [Col.int IntKind.i64 fun (j : Nat) => S.at' x2 j]))], [(0, (false, .cols mp [.int .i64 tp, .int .i64 vp, .int .i64 gp, .int .i64 wp]))]], 4⟩ (proj 1 [1, 2, 8, 9, 14, 16, 18, 31, 32, 33, 51, 52, 71, 72, 73, 80, 81, 82] Kst Kret) =
  T26_0 test Kst Kret ap np mp tp vp gp wp lm x0 x1 x2 := by kernel_rfl
noncomputable def T26_1 (test : Bool → Prop → Prop → Prop) (Kst : KS) (Kret : KR) (ap np mp : Nat) (tp : Nat → Int) (vp : Nat → Int) (gp : Nat → Int) (wp : Nat → Int) (lm : Int) (x0 : Int) (x1 : Int) (x2 : Int) (x3 : List Int) (x4 : List Int) : Prop :=
  test (decide (x2 < x1))
 (test (decide ((0 : Int) ≤ x2 ∧ x2 < (↑(List.length x4) : Int)))
 (test (decide (Int.toNat x2 < List.length x4))
 (test (lim IntKind.i64 (x0 - S.at' x4 (Int.toNat x2)))
 (test (decide ((0 : Int) ≤ x2 ∧ x2 < (↑(List.length x4) : Int)))
 (test (decide (Int.toNat x2 < List.length x4))
 (test (decide ((0 : Int) ≤ x2 ∧ x2 < (↑(List.length x4) : Int)))
 (test (decide (Int.toNat x2 < List.length x4))
 (test (decide
 ((bif Nat.beq (Int.toNat x2) (Int.toNat x2) then x0 - S.at' x4 (Int.toNat x2)
 else S.at' x4 (Int.toNat x2)) >
 lm))
 (Kret (PV.tup [PV.nils, PV.int IntKind.i64 (0 : Int), PV.int IntKind.i64 (6 : Int)]) ([[(0, false,
 Blk.cols mp
 [Col.int IntKind.i64 tp, Col.int IntKind.i64 vp, Col.int IntKind.i64 gp,
 Col.int IntKind.i64 wp])]]) (4))
 (test (lim IntKind.i64 (x2 + (1 : Int)))
 (Kst (hd Try.f26 1) ([PV.int IntKind.i64 lm, PV.ptr (PA.mk (1) (0) (0) (0)),
 PV.own (3) (1) (List.length x4), PV.own (2) (1) (List.length x3),
 PV.int IntKind.i64 x0, PV.unk, PV.unk, PV.unk, PV.unk, PV.unk,
 PV.int IntKind.i64 x1, PV.int IntKind.i64 (x2 + (1 : Int)), PV.unk, PV.unk,
 PV.unk, PV.unk, PV.unk, PV.unk]) ([[(0, false,
 Blk.cols mp
 [Col.int IntKind.i64 tp, Col.int IntKind.i64 vp, Col.int IntKind.i64 gp,
 Col.int IntKind.i64 wp]),
 (2, true,
 Blk.cols (List.length x3) [Col.int IntKind.i64 fun (j : Nat) => S.at' x3 j]),
 (3, true,
 Blk.cols (List.length x4)
 [Col.int IntKind.i64 fun (j : Nat) =>
 bif Nat.beq j (Int.toNat x2) then x0 - S.at' x4 (Int.toNat x2) else S.at' x4 j]),
 (1, true, Blk.cells [PV.loose (PA.mk (0) (4) ap (0)) np])]]) (4))
 (False)))
 (False))
 (False))
 (False))
 (False))
 (False))
 (False))
 (False))
 (Kst (hd Try.f26 2) ([PV.int IntKind.i64 lm, PV.ptr (PA.mk (1) (0) (0) (0)),
 PV.own (3) (1) (List.length x4), PV.own (2) (1) (List.length x3),
 PV.int IntKind.i64 x0, PV.int IntKind.i64 (0 : Int), PV.unk, PV.unk, PV.unk,
 PV.unk, PV.int IntKind.i64 x1, PV.int IntKind.i64 x2,
 PV.own (2) (1) (List.length x3), PV.int IntKind.i64 (↑(List.length x3) : Int),
 PV.int IntKind.i64 (0 : Int), PV.unk, PV.unk, PV.unk]) ([[(0, false,
 Blk.cols mp
 [Col.int IntKind.i64 tp, Col.int IntKind.i64 vp, Col.int IntKind.i64 gp,
 Col.int IntKind.i64 wp]),
 (2, true,
 Blk.cols (List.length x3) [Col.int IntKind.i64 fun (j : Nat) => S.at' x3 j]),
 (3, true,
 Blk.cols (List.length x4) [Col.int IntKind.i64 fun (j : Nat) => S.at' x4 j]),
 (1, true, Blk.cells [PV.loose (PA.mk (0) (4) ap (0)) np])]]) (4))
set_option maxRecDepth 100000 in
theorem t26_1 (test : Bool → Prop → Prop → Prop) (Kst : KS) (Kret : KR) (ap np mp : Nat) (tp : Nat → Int) (vp : Nat → Int) (gp : Nat → Int) (wp : Nat → Int) (lm : Int) (x0 : Int) (x1 : Int) (x2 : Int) (x3 : List Int) (x4 : List Int) : run test Try.env true (xO test) true 400 ⟨26, hd Try.f26 1, zipT [1, 2, 8, 9, 14, 16, 18, 31, 32, 33, 51, 52, 71, 72, 73, 80, 81, 82] [PV.int IntKind.i64 lm, PV.ptr (PA.mk (1) (0) (0) (0)),
 PV.own (3) (1) (List.length x4), PV.own (2) (1) (List.length x3),
 PV.int IntKind.i64 x0, PV.unk, PV.unk, PV.unk, PV.unk, PV.unk,
 PV.int IntKind.i64 x1, PV.int IntKind.i64 x2, PV.unk, PV.unk, PV.unk,
 PV.unk, PV.unk, PV.unk], [[(1, (true, Blk.cells [PV.loose (PA.mk (0) (4) ap (0)) np])), (2, (true, Blk.cols (List.length x3) [Col.int IntKind.i64 fun (j : Nat) => S.at' x3 j])), (3, (true, Blk.cols (List.length x4) [Col.int IntKind.i64 fun (j : Nat) => S.at' x4 j]))], [(0, (false, .cols mp [.int .i64 tp, .int .i64 vp, .int .i64 gp, .int .i64 wp]))]], 4⟩ (proj 1 [1, 2, 8, 9, 14, 16, 18, 31, 32, 33, 51, 52, 71, 72, 73, 80, 81, 82] Kst Kret) =
  T26_1 test Kst Kret ap np mp tp vp gp wp lm x0 x1 x2 x3 x4 := by kernel_rfl
noncomputable def T26_2 (test : Bool → Prop → Prop → Prop) (Kst : KS) (Kret : KR) (ap np mp : Nat) (tp : Nat → Int) (vp : Nat → Int) (gp : Nat → Int) (wp : Nat → Int) (lm : Int) (x0 : Int) (x1 : Int) (x2 : Int) (x3 : List Int) (x4 : List Int) : Prop :=
  test (decide (x2 < x1))
 (test (decide ((0 : Int) ≤ x2 ∧ x2 < (↑(List.length x4) : Int)))
 (test (decide (Int.toNat x2 < List.length x4))
 (test (decide ((0 : Int) ≤ x2 ∧ x2 ≤ (↑(List.length x4) : Int)))
 (Kst (hd Try.f26 3) ([PV.unk, PV.ptr (PA.mk (1) (0) (0) (0)),
 PV.own (2) (1) (List.length x3), PV.own (3) (1) (List.length x4),
 PV.unk, PV.int IntKind.i64 x0, PV.int IntKind.i64 (S.at' x4 (Int.toNat x2)),
 PV.unk, PV.unk, PV.unk, PV.unk, PV.unk,
 PV.own (3) (1) (List.length x4), PV.int IntKind.i64 x1, PV.int IntKind.i64 x2,
 PV.own (3) (1) (Int.toNat x2), PV.int IntKind.i64 (↑(Int.toNat x2) : Int),
 PV.int IntKind.i64 (0 : Int)]) ([[(0, false,
 Blk.cols mp
 [Col.int IntKind.i64 tp, Col.int IntKind.i64 vp, Col.int IntKind.i64 gp,
 Col.int IntKind.i64 wp]),
 (3, true,
 Blk.cols (List.length x4) [Col.int IntKind.i64 fun (j : Nat) => S.at' x4 j]),
 (2, true,
 Blk.cols (List.length x3) [Col.int IntKind.i64 fun (j : Nat) => S.at' x3 j]),
 (1, true, Blk.cells [PV.loose (PA.mk (0) (4) ap (0)) np])]]) (4))
 (False))
 (False))
 (False))
 (Kret (PV.tup
 [PV.own (2) (1) (List.length x3), PV.int IntKind.i64 x0,
 PV.int IntKind.i64 (0 : Int)]) ([[(0, false,
 Blk.cols mp
 [Col.int IntKind.i64 tp, Col.int IntKind.i64 vp, Col.int IntKind.i64 gp,
 Col.int IntKind.i64 wp]),
 (2, true,
 Blk.cols (List.length x3) [Col.int IntKind.i64 fun (j : Nat) => S.at' x3 j])]]) (4))
set_option maxRecDepth 100000 in
theorem t26_2 (test : Bool → Prop → Prop → Prop) (Kst : KS) (Kret : KR) (ap np mp : Nat) (tp : Nat → Int) (vp : Nat → Int) (gp : Nat → Int) (wp : Nat → Int) (lm : Int) (x0 : Int) (x1 : Int) (x2 : Int) (x3 : List Int) (x4 : List Int) : run test Try.env true (xO test) true 400 ⟨26, hd Try.f26 2, zipT [1, 2, 8, 9, 14, 16, 18, 31, 32, 33, 51, 52, 71, 72, 73, 80, 81, 82] [PV.unk, PV.ptr (PA.mk (1) (0) (0) (0)),
 PV.own (2) (1) (List.length x3), PV.own (3) (1) (List.length x4),
 PV.unk, PV.int IntKind.i64 x0, PV.unk, PV.unk, PV.unk, PV.unk, PV.unk,
 PV.unk, PV.own (3) (1) (List.length x4), PV.int IntKind.i64 x1,
 PV.int IntKind.i64 x2, PV.unk, PV.unk, PV.unk], [[(1, (true, Blk.cells [PV.loose (PA.mk (0) (4) ap (0)) np])), (2, (true, Blk.cols (List.length x3) [Col.int IntKind.i64 fun (j : Nat) => S.at' x3 j])), (3, (true, Blk.cols (List.length x4) [Col.int IntKind.i64 fun (j : Nat) => S.at' x4 j]))], [(0, (false, .cols mp [.int .i64 tp, .int .i64 vp, .int .i64 gp, .int .i64 wp]))]], 4⟩ (proj 1 [1, 2, 8, 9, 14, 16, 18, 31, 32, 33, 51, 52, 71, 72, 73, 80, 81, 82] Kst Kret) =
  T26_2 test Kst Kret ap np mp tp vp gp wp lm x0 x1 x2 x3 x4 := by kernel_rfl
noncomputable def T26_3 (test : Bool → Prop → Prop → Prop) (Kst : KS) (Kret : KR) (ap np mp : Nat) (tp : Nat → Int) (vp : Nat → Int) (gp : Nat → Int) (wp : Nat → Int) (lm : Int) (x0 : Int) (x1 : Int) (x2 : Int) (x3 : Int) (x4 : Nat) (x5 : Int) (x6 : Int) (x7 : List Int) (x8 : List Int) : Prop :=
  test (decide (x6 < x5))
 (test (decide ((0 : Int) ≤ x6 ∧ x6 < (↑x4 : Int)))
 (test (decide (Int.toNat x6 < List.length x8))
 (test (decide
 (ap + np ≤ mp ∧
 np ≤ 1000000 ∧
 (S.treE np (fun (q : Nat) => tp (q + ap)) (fun (q : Nat) => vp (q + ap)) (fun (q : Nat) => gp (q + ap))
 fun (q : Nat) => wp (q + ap)) =
 (0 : Int) ∧
 ((0 : Int) ≤ x1 ∧ x1 < (↑np : Int)) ∧
 (0 : Int) ≤ S.at' x8 (Int.toNat x6) ∧ S.at' x8 (Int.toNat x6) < (↑np : Int)))
 (test (lim IntKind.i64 (x6 + (1 : Int)))
 (Kst (hd Try.f26 3) ([PV.unk, PV.ptr (PA.mk (1) (0) (0) (0)),
 PV.own (2) (1) (List.length x7), PV.own (3) (1) (List.length x8),
 PV.unk,
 PV.int IntKind.i64
 (Max.max x0
 (S.dl (fun (q : Nat) => tp (q + ap)) (fun (q : Nat) => wp (q + ap)) (Int.toNat x1) +
 S.dl (fun (q : Nat) => tp (q + ap)) (fun (q : Nat) => wp (q + ap))
 (Int.toNat (S.at' x8 (Int.toNat x6))) -
 (2 : Int) *
 S.dl (fun (q : Nat) => tp (q + ap)) (fun (q : Nat) => wp (q + ap))
 (S.com (fun (q : Nat) => tp (q + ap)) (Int.toNat x1) (Int.toNat (S.at' x8 (Int.toNat x6)))))),
 PV.int IntKind.i64 x1, PV.unk, PV.unk, PV.unk, PV.unk, PV.unk,
 PV.own (3) (1) (List.length x8), PV.int IntKind.i64 x2, PV.int IntKind.i64 x3,
 PV.loose (PA.mk (3) (1) (0) (0)) x4, PV.int IntKind.i64 x5,
 PV.int IntKind.i64 (x6 + (1 : Int))]) ([[(0, false,
 Blk.cols mp
 [Col.int IntKind.i64 tp, Col.int IntKind.i64 vp, Col.int IntKind.i64 gp,
 Col.int IntKind.i64 wp]),
 (3, true,
 Blk.cols (List.length x8) [Col.int IntKind.i64 fun (j : Nat) => S.at' x8 j]),
 (2, true,
 Blk.cols (List.length x7) [Col.int IntKind.i64 fun (j : Nat) => S.at' x7 j]),
 (1, true, Blk.cells [PV.loose (PA.mk (0) (4) ap (0)) np])]]) (5))
 (False))
 (False))
 (False))
 (False))
 (test (lim IntKind.i64 (x3 + (1 : Int)))
 (Kst (hd Try.f26 2) ([PV.unk, PV.ptr (PA.mk (1) (0) (0) (0)),
 PV.own (2) (1) (List.length x7), PV.own (3) (1) (List.length x8),
 PV.unk, PV.int IntKind.i64 x0, PV.int IntKind.i64 x1, PV.unk, PV.unk,
 PV.unk, PV.unk, PV.unk, PV.own (3) (1) (List.length x8),
 PV.int IntKind.i64 x2, PV.int IntKind.i64 (x3 + (1 : Int)),
 PV.loose (PA.mk (3) (1) (0) (0)) x4, PV.int IntKind.i64 x5,
 PV.int IntKind.i64 x6]) ([[(0, false,
 Blk.cols mp
 [Col.int IntKind.i64 tp, Col.int IntKind.i64 vp, Col.int IntKind.i64 gp,
 Col.int IntKind.i64 wp]),
 (3, true,
 Blk.cols (List.length x8) [Col.int IntKind.i64 fun (j : Nat) => S.at' x8 j]),
 (2, true,
 Blk.cols (List.length x7) [Col.int IntKind.i64 fun (j : Nat) => S.at' x7 j]),
 (1, true, Blk.cells [PV.loose (PA.mk (0) (4) ap (0)) np])]]) (4))
 (False))
set_option maxRecDepth 100000 in
theorem t26_3 (test : Bool → Prop → Prop → Prop) (Kst : KS) (Kret : KR) (ap np mp : Nat) (tp : Nat → Int) (vp : Nat → Int) (gp : Nat → Int) (wp : Nat → Int) (lm : Int) (x0 : Int) (x1 : Int) (x2 : Int) (x3 : Int) (x4 : Nat) (x5 : Int) (x6 : Int) (x7 : List Int) (x8 : List Int) : run test Try.env true (xO test) true 400 ⟨26, hd Try.f26 3, zipT [1, 2, 8, 9, 14, 16, 18, 31, 32, 33, 51, 52, 71, 72, 73, 80, 81, 82] [PV.unk, PV.ptr (PA.mk (1) (0) (0) (0)),
 PV.own (2) (1) (List.length x7), PV.own (3) (1) (List.length x8),
 PV.unk, PV.int IntKind.i64 x0, PV.int IntKind.i64 x1, PV.unk, PV.unk,
 PV.unk, PV.unk, PV.unk, PV.own (3) (1) (List.length x8),
 PV.int IntKind.i64 x2, PV.int IntKind.i64 x3,
 PV.loose (PA.mk (3) (1) (0) (0)) x4, PV.int IntKind.i64 x5,
 PV.int IntKind.i64 x6], [[(1, (true, Blk.cells [PV.loose (PA.mk (0) (4) ap (0)) np])), (2, (true, Blk.cols (List.length x7) [Col.int IntKind.i64 fun (j : Nat) => S.at' x7 j])), (3, (true, Blk.cols (List.length x8) [Col.int IntKind.i64 fun (j : Nat) => S.at' x8 j]))], [(0, (false, .cols mp [.int .i64 tp, .int .i64 vp, .int .i64 gp, .int .i64 wp]))]], 4⟩ (proj 1 [1, 2, 8, 9, 14, 16, 18, 31, 32, 33, 51, 52, 71, 72, 73, 80, 81, 82] Kst Kret) =
  T26_3 test Kst Kret ap np mp tp vp gp wp lm x0 x1 x2 x3 x4 x5 x6 x7 x8 := by kernel_rfl
set_option maxRecDepth 100000 in
theorem be26 (ap np mp : Nat) (tp : Nat → Int) (vp : Nat → Int) (gp : Nat → Int) (wp : Nat → Int) (lm : Int) (Kst : KS) (Kret : KR) (x : St26 ⊕ Rt26) (hS : HS 1 400 ((I26 ap np mp tp vp gp wp lm)) Kst x) (hR : HR 1 400 ((V26 ap np mp tp vp gp wp lm)) (fun r => [newL (1 + 1) ((N26 ap np mp tp vp gp wp lm) r) ++ [(0, (false, .cols mp [.int .i64 tp, .int .i64 vp, .int .i64 gp, .int .i64 wp]))]]) Kret x) (h : (bif (decide (ap + np ≤ mp ∧ np ≤ 1000000))
 then (bif ((S.treE np (fun (q : Nat) => tp (q + ap)) (fun (q : Nat) => vp (q + ap)) (fun (q : Nat) => gp (q + ap))
 fun (q : Nat) => wp (q + ap)) !=
 (0 : Int))
 then (some (.inr ((0 : Int), S.treE np (fun (q : Nat) => tp (q + ap)) (fun (q : Nat) => vp (q + ap)) (fun (q : Nat) => gp (q + ap))
 fun (q : Nat) => wp (q + ap), [])))
 else (bif (decide (lm ≥ (0 : Int)))
 then (bif (decide (lm ≤ (1000000000 : Int)))
 then (some (.inl (.h0 ((0 : Int)) (S.leaL (fun (q : Nat) => tp (q + ap)) np) ([]))))
 else (some (.inr ((0 : Int), (6 : Int), []))))
 else (some (.inr ((0 : Int), (6 : Int), [])))))
 else (none) : Option (St26 ⊕ Rt26)) = some x) : Te26 cond Kst Kret ap np mp tp vp gp wp lm := by
  unfold Te26
  exact bif_split h
   (fun c0 h => bif_split h
   (fun c1 h => ret_at hR _ h (fun n => bif Nat.beq n 2 then 399 else n) rfl rfl rfl (rn_tup ⟨(rn_own_nils rfl), (rn_int rfl), (rn_int rfl), trivial⟩) rfl (entl_fresh (use_own rfl) (fresh_ok rfl) (entl_bor (use_lo rfl) rfl rfl entl_nil)))
   (fun c1 h => bif_split h
   (fun c2 h => bif_split h
   (fun c3 h => cond_yes c0 (stop_at hS _ h (fun n => bif Nat.beq n 1 then 1 else bif Nat.beq n 2 then 4 else bif Nat.beq n 3 then 399 else n) rfl rfl rfl ⟨(rn_int rfl), ⟨(rn_ptr (use_own rfl) rfl rfl), ⟨(rn_own_nils rfl), ⟨(rn_own (use_own rfl) rfl rfl), ⟨(rn_unk _), ⟨(rn_unk _), ⟨(rn_unk _), ⟨(rn_own (use_own rfl) rfl rfl), ⟨(rn_int rfl), ⟨(rn_int rfl), ⟨(rn_unk _), ⟨(rn_unk _), ⟨(rn_unk _), ⟨(rn_unk _), ⟨(rn_unk _), ⟨(rn_unk _), ⟨(rn_unk _), ⟨(rn_unk _), trivial⟩⟩⟩⟩⟩⟩⟩⟩⟩⟩⟩⟩⟩⟩⟩⟩⟩⟩ rfl (entl_b (use_own rfl) rfl (by simp) (rb_cells ⟨(rn_loose (use_lo rfl) rfl rfl rfl), trivial⟩) (entl_new (use_own rfl) rfl (Nat.le_of_eq rfl) (rcs_int (fun _ _ => rfl) rcs_nil) (entl_fresh (use_own rfl) (fresh_ok rfl) (entl_bor (use_lo rfl) rfl rfl entl_nil))))))
   (fun c3 h => ret_at hR _ h (fun n => bif Nat.beq n 2 then 399 else n) rfl rfl rfl (rn_tup ⟨(rn_own_nils rfl), (rn_int rfl), (rn_int rfl), trivial⟩) rfl (entl_fresh (use_own rfl) (fresh_ok rfl) (entl_bor (use_lo rfl) rfl rfl entl_nil))))
   (fun c2 h => ret_at hR _ h (fun n => bif Nat.beq n 2 then 399 else n) rfl rfl rfl (rn_tup ⟨(rn_own_nils rfl), (rn_int rfl), (rn_int rfl), trivial⟩) rfl (entl_fresh (use_own rfl) (fresh_ok rfl) (entl_bor (use_lo rfl) rfl rfl entl_nil)))))
   (fun c0 h => no_some h)
set_option maxRecDepth 100000 in
theorem b26_0 (ap np mp : Nat) (tp : Nat → Int) (vp : Nat → Int) (gp : Nat → Int) (wp : Nat → Int) (lm : Int) (Kst : KS) (Kret : KR) (x : St26 ⊕ Rt26) (hS : HS 1 400 ((I26 ap np mp tp vp gp wp lm)) Kst x) (hR : HR 1 400 ((V26 ap np mp tp vp gp wp lm)) (fun r => [newL (1 + 1) ((N26 ap np mp tp vp gp wp lm) r) ++ [(0, (false, .cols mp [.int .i64 tp, .int .i64 vp, .int .i64 gp, .int .i64 wp]))]]) Kret x) (x0 : Int) (x1 : List Int) (x2 : List Int) (h : (bif (decide (x0 < (↑(List.length (S.leaL (fun (q : Nat) => tp (q + ap)) np)) : Int)))
 then (bif (decide ((0 : Int) ≤ x0 ∧ x0 < (↑(List.length x1) : Int)))
 then (bif (decide (Int.toNat x0 < List.length x1))
 then (bif (decide
 (ap + np ≤ mp ∧
 np ≤ 1000000 ∧
 (S.treE np (fun (q : Nat) => tp (q + ap)) (fun (q : Nat) => vp (q + ap)) (fun (q : Nat) => gp (q + ap))
 fun (q : Nat) => wp (q + ap)) =
 (0 : Int) ∧
 (0 : Int) ≤ S.at' x1 (Int.toNat x0) ∧ S.at' x1 (Int.toNat x0) < (↑np : Int)))
 then (bif (decide (List.length x2 + 1 ≤ 1000000))
 then (bif (decide (List.length x2 ≤ List.length x2))
 then (bif (lim IntKind.i64 (x0 + (1 : Int)))
 then (some (.inl (.h0 (x0 + (1 : Int)) (x1) (S.snoc x2
 (S.dl (fun (q : Nat) => tp (q + ap)) (fun (q : Nat) => vp (q + ap)) (Int.toNat (S.at' x1 (Int.toNat x0))))))))
 else (none))
 else (none))
 else (none))
 else (none))
 else (none))
 else (none))
 else (bif (decide
 (0 + List.length x2 ≤ List.length x2 ∧ List.length x2 ≤ 1000000 ∧ 0 < List.length x2))
 then (some (.inl (.h1 (S.maxN (fun (j : Nat) => S.at' x2 j) (List.length x2 - 1)) ((↑(List.length x2) : Int)) ((0 : Int)) (x1) (x2))))
 else (none)) : Option (St26 ⊕ Rt26)) = some x) : T26_0 cond Kst Kret ap np mp tp vp gp wp lm x0 x1 x2 := by
  unfold T26_0
  exact bif_split h
   (fun c0 h => bif_split h
   (fun c1 h => bif_split h
   (fun c2 h => bif_split h
   (fun c3 h => bif_split h
   (fun c4 h => bif_split h
   (fun c5 h => cond_yes rfl (bif_split h
   (fun c6 h => stop_at hS _ h (fun n => bif Nat.beq n 1 then 1 else bif Nat.beq n 2 then 2 else bif Nat.beq n 3 then 6 else n) rfl rfl rfl ⟨(rn_int rfl), ⟨(rn_ptr (use_own rfl) rfl rfl), ⟨(rn_own (use_own rfl) rfl (snoc_len' rfl)), ⟨(rn_own (use_own rfl) rfl rfl), ⟨(rn_unk _), ⟨(rn_unk _), ⟨(rn_unk _), ⟨(rn_own (use_own rfl) rfl rfl), ⟨(rn_int rfl), ⟨(rn_int rfl), ⟨(rn_unk _), ⟨(rn_unk _), ⟨(rn_unk _), ⟨(rn_unk _), ⟨(rn_unk _), ⟨(rn_unk _), ⟨(rn_unk _), ⟨(rn_unk _), trivial⟩⟩⟩⟩⟩⟩⟩⟩⟩⟩⟩⟩⟩⟩⟩⟩⟩⟩ rfl (entl_b (use_own rfl) rfl (by simp) (rb_cells ⟨(rn_loose (use_lo rfl) rfl rfl rfl), trivial⟩) (entl_new (use_own rfl) rfl (Nat.le_of_eq rfl) (rcs_int (fun _ _ => rfl) rcs_nil) (entl_new (use_own rfl) rfl (Nat.le_of_eq (snoc_len' rfl)) (rcs_int (col_snoc' (fun (t : Int) => t) rfl (fun _ _ => rfl)) rcs_nil) (entl_bor (use_lo rfl) rfl rfl entl_nil)))))
   (fun c6 h => no_some h)))
   (fun c5 h => no_some h))
   (fun c4 h => no_some h))
   (fun c3 h => no_some h))
   (fun c2 h => no_some h))
   (fun c1 h => no_some h))
   (fun c0 h => bif_split h
   (fun c1 h => stop_at hS _ h (fun n => bif Nat.beq n 1 then 1 else bif Nat.beq n 2 then 2 else bif Nat.beq n 3 then 3 else n) rfl rfl rfl ⟨(rn_int rfl), ⟨(rn_ptr (use_own rfl) rfl rfl), ⟨(rn_own (use_own rfl) rfl rfl), ⟨(rn_own (use_own rfl) rfl rfl), ⟨(rn_int rfl), ⟨(rn_unk _), ⟨(rn_unk _), ⟨(rn_unk _), ⟨(rn_unk _), ⟨(rn_unk _), ⟨(rn_int rfl), ⟨(rn_int rfl), ⟨(rn_unk _), ⟨(rn_unk _), ⟨(rn_unk _), ⟨(rn_unk _), ⟨(rn_unk _), ⟨(rn_unk _), trivial⟩⟩⟩⟩⟩⟩⟩⟩⟩⟩⟩⟩⟩⟩⟩⟩⟩⟩ rfl (entl_b (use_own rfl) rfl (by simp) (rb_cells ⟨(rn_loose (use_lo rfl) rfl rfl rfl), trivial⟩) (entl_new (use_own rfl) rfl (Nat.le_of_eq rfl) (rcs_int (fun _ _ => rfl) rcs_nil) (entl_new (use_own rfl) rfl (Nat.le_of_eq rfl) (rcs_int (fun _ _ => rfl) rcs_nil) (entl_bor (use_lo rfl) rfl rfl entl_nil)))))
   (fun c1 h => no_some h))
set_option maxRecDepth 100000 in
theorem b26_1 (ap np mp : Nat) (tp : Nat → Int) (vp : Nat → Int) (gp : Nat → Int) (wp : Nat → Int) (lm : Int) (Kst : KS) (Kret : KR) (x : St26 ⊕ Rt26) (hS : HS 1 400 ((I26 ap np mp tp vp gp wp lm)) Kst x) (hR : HR 1 400 ((V26 ap np mp tp vp gp wp lm)) (fun r => [newL (1 + 1) ((N26 ap np mp tp vp gp wp lm) r) ++ [(0, (false, .cols mp [.int .i64 tp, .int .i64 vp, .int .i64 gp, .int .i64 wp]))]]) Kret x) (x0 : Int) (x1 : Int) (x2 : Int) (x3 : List Int) (x4 : List Int) (h : (bif (decide (x2 < x1))
 then (bif (decide ((0 : Int) ≤ x2 ∧ x2 < (↑(List.length x4) : Int)))
 then (bif (decide (Int.toNat x2 < List.length x4))
 then (bif (lim IntKind.i64 (x0 - S.at' x4 (Int.toNat x2)))
 then (bif (decide
 ((bif Nat.beq (Int.toNat x2) (Int.toNat x2) then x0 - S.at' x4 (Int.toNat x2)
 else S.at' x4 (Int.toNat x2)) >
 lm))
 then (some (.inr ((0 : Int), (6 : Int), [])))
 else (bif (lim IntKind.i64 (x2 + (1 : Int)))
 then (some (.inl (.h1 (x0) (x1) (x2 + (1 : Int)) (x3) (S.mkl (List.length x4) fun (j : Nat) =>
 bif Nat.beq j (Int.toNat x2) then x0 - S.at' x4 (Int.toNat x2) else S.at' x4 j))))
 else (none)))
 else (none))
 else (none))
 else (none))
 else (some (.inl (.h2 ((0 : Int)) ((↑(List.length x3) : Int)) ((0 : Int)) (x4) (x3)))) : Option (St26 ⊕ Rt26)) = some x) : T26_1 cond Kst Kret ap np mp tp vp gp wp lm x0 x1 x2 x3 x4 := by
  unfold T26_1
  exact bif_split h
   (fun c0 h => bif_split h
   (fun c1 h => bif_split h
   (fun c2 h => bif_split h
   (fun c3 h => cond_yes c1 (cond_yes c2 (cond_yes c1 (cond_yes c2 (bif_split h
   (fun c4 h => ret_at hR _ h (fun n => bif Nat.beq n 2 then 399 else n) rfl rfl rfl (rn_tup ⟨(rn_own_nils rfl), (rn_int rfl), (rn_int rfl), trivial⟩) rfl (entl_fresh (use_own rfl) (fresh_ok rfl) (entl_bor (use_lo rfl) rfl rfl entl_nil)))
   (fun c4 h => bif_split h
   (fun c5 h => stop_at hS _ h (fun n => bif Nat.beq n 1 then 1 else bif Nat.beq n 2 then 2 else bif Nat.beq n 3 then 3 else n) rfl rfl rfl ⟨(rn_int rfl), ⟨(rn_ptr (use_own rfl) rfl rfl), ⟨(rn_own (use_own rfl) rfl mkl_len), ⟨(rn_own (use_own rfl) rfl rfl), ⟨(rn_int rfl), ⟨(rn_unk _), ⟨(rn_unk _), ⟨(rn_unk _), ⟨(rn_unk _), ⟨(rn_unk _), ⟨(rn_int rfl), ⟨(rn_int rfl), ⟨(rn_unk _), ⟨(rn_unk _), ⟨(rn_unk _), ⟨(rn_unk _), ⟨(rn_unk _), ⟨(rn_unk _), trivial⟩⟩⟩⟩⟩⟩⟩⟩⟩⟩⟩⟩⟩⟩⟩⟩⟩⟩ rfl (entl_b (use_own rfl) rfl (by simp) (rb_cells ⟨(rn_loose (use_lo rfl) rfl rfl rfl), trivial⟩) (entl_new (use_own rfl) rfl (Nat.le_of_eq rfl) (rcs_int (fun _ _ => rfl) rcs_nil) (entl_new (use_own rfl) rfl (Nat.le_of_eq mkl_len) (rcs_int (fun _ hj => col_mkl (fun (t : Int) => t) hj) rcs_nil) (entl_bor (use_lo rfl) rfl rfl entl_nil)))))
   (fun c5 h => no_some h)))))))
   (fun c3 h => no_some h))
   (fun c2 h => no_some h))
   (fun c1 h => no_some h))
   (fun c0 h => stop_at hS _ h (fun n => bif Nat.beq n 1 then 1 else bif Nat.beq n 2 then 3 else bif Nat.beq n 3 then 2 else n) rfl rfl rfl ⟨(rn_unk _), ⟨(rn_ptr (use_own rfl) rfl rfl), ⟨(rn_own (use_own rfl) rfl rfl), ⟨(rn_own (use_own rfl) rfl rfl), ⟨(rn_unk _), ⟨(rn_int rfl), ⟨(rn_unk _), ⟨(rn_unk _), ⟨(rn_unk _), ⟨(rn_unk _), ⟨(rn_unk _), ⟨(rn_unk _), ⟨(rn_own (use_own rfl) rfl rfl), ⟨(rn_int rfl), ⟨(rn_int rfl), ⟨(rn_unk _), ⟨(rn_unk _), ⟨(rn_unk _), trivial⟩⟩⟩⟩⟩⟩⟩⟩⟩⟩⟩⟩⟩⟩⟩⟩⟩⟩ rfl (entl_b (use_own rfl) rfl (by simp) (rb_cells ⟨(rn_loose (use_lo rfl) rfl rfl rfl), trivial⟩) (entl_new (use_own rfl) rfl (Nat.le_of_eq rfl) (rcs_int (fun _ _ => rfl) rcs_nil) (entl_new (use_own rfl) rfl (Nat.le_of_eq rfl) (rcs_int (fun _ _ => rfl) rcs_nil) (entl_bor (use_lo rfl) rfl rfl entl_nil)))))
set_option maxRecDepth 100000 in
theorem b26_2 (ap np mp : Nat) (tp : Nat → Int) (vp : Nat → Int) (gp : Nat → Int) (wp : Nat → Int) (lm : Int) (Kst : KS) (Kret : KR) (x : St26 ⊕ Rt26) (hS : HS 1 400 ((I26 ap np mp tp vp gp wp lm)) Kst x) (hR : HR 1 400 ((V26 ap np mp tp vp gp wp lm)) (fun r => [newL (1 + 1) ((N26 ap np mp tp vp gp wp lm) r) ++ [(0, (false, .cols mp [.int .i64 tp, .int .i64 vp, .int .i64 gp, .int .i64 wp]))]]) Kret x) (x0 : Int) (x1 : Int) (x2 : Int) (x3 : List Int) (x4 : List Int) (h : (bif (decide (x2 < x1))
 then (bif (decide ((0 : Int) ≤ x2 ∧ x2 < (↑(List.length x4) : Int)))
 then (bif (decide (Int.toNat x2 < List.length x4))
 then (bif (decide ((0 : Int) ≤ x2 ∧ x2 ≤ (↑(List.length x4) : Int)))
 then (some (.inl (.h3 (x0) (S.at' x4 (Int.toNat x2)) (x1) (x2) (Int.toNat x2) ((↑(Int.toNat x2) : Int)) ((0 : Int)) (x3) (x4))))
 else (none))
 else (none))
 else (none))
 else (some (.inr (x0, (0 : Int), x3))) : Option (St26 ⊕ Rt26)) = some x) : T26_2 cond Kst Kret ap np mp tp vp gp wp lm x0 x1 x2 x3 x4 := by
  unfold T26_2
  exact bif_split h
   (fun c0 h => bif_split h
   (fun c1 h => bif_split h
   (fun c2 h => bif_split h
   (fun c3 h => stop_at hS _ h (fun n => bif Nat.beq n 1 then 1 else bif Nat.beq n 2 then 2 else bif Nat.beq n 3 then 3 else n) rfl rfl rfl ⟨(rn_unk _), ⟨(rn_ptr (use_own rfl) rfl rfl), ⟨(rn_own (use_own rfl) rfl rfl), ⟨(rn_own (use_own rfl) rfl rfl), ⟨(rn_unk _), ⟨(rn_int rfl), ⟨(rn_int rfl), ⟨(rn_unk _), ⟨(rn_unk _), ⟨(rn_unk _), ⟨(rn_unk _), ⟨(rn_unk _), ⟨(rn_own (use_own rfl) rfl rfl), ⟨(rn_int rfl), ⟨(rn_int rfl), ⟨(rn_own_loose (use_own rfl) rfl rfl rfl), ⟨(rn_int rfl), ⟨(rn_int rfl), trivial⟩⟩⟩⟩⟩⟩⟩⟩⟩⟩⟩⟩⟩⟩⟩⟩⟩⟩ rfl (entl_b (use_own rfl) rfl (by simp) (rb_cells ⟨(rn_loose (use_lo rfl) rfl rfl rfl), trivial⟩) (entl_new (use_own rfl) rfl (Nat.le_of_eq rfl) (rcs_int (fun _ _ => rfl) rcs_nil) (entl_new (use_own rfl) rfl (Nat.le_of_eq rfl) (rcs_int (fun _ _ => rfl) rcs_nil) (entl_bor (use_lo rfl) rfl rfl entl_nil)))))
   (fun c3 h => no_some h))
   (fun c2 h => no_some h))
   (fun c1 h => no_some h))
   (fun c0 h => ret_at hR _ h (fun n => bif Nat.beq n 2 then 2 else n) rfl rfl rfl (rn_tup ⟨(rn_own (use_own rfl) rfl rfl), (rn_int rfl), (rn_int rfl), trivial⟩) rfl (entl_new (use_own rfl) rfl (Nat.le_of_eq rfl) (rcs_int (fun _ _ => rfl) rcs_nil) (entl_bor (use_lo rfl) rfl rfl entl_nil)))
set_option maxRecDepth 100000 in
theorem b26_3 (ap np mp : Nat) (tp : Nat → Int) (vp : Nat → Int) (gp : Nat → Int) (wp : Nat → Int) (lm : Int) (Kst : KS) (Kret : KR) (x : St26 ⊕ Rt26) (hS : HS 1 400 ((I26 ap np mp tp vp gp wp lm)) Kst x) (hR : HR 1 400 ((V26 ap np mp tp vp gp wp lm)) (fun r => [newL (1 + 1) ((N26 ap np mp tp vp gp wp lm) r) ++ [(0, (false, .cols mp [.int .i64 tp, .int .i64 vp, .int .i64 gp, .int .i64 wp]))]]) Kret x) (x0 : Int) (x1 : Int) (x2 : Int) (x3 : Int) (x4 : Nat) (x5 : Int) (x6 : Int) (x7 : List Int) (x8 : List Int) (h : (bif (decide (x6 < x5))
 then (bif (decide ((0 : Int) ≤ x6 ∧ x6 < (↑x4 : Int)))
 then (bif (decide (Int.toNat x6 < List.length x8))
 then (bif (decide
 (ap + np ≤ mp ∧
 np ≤ 1000000 ∧
 (S.treE np (fun (q : Nat) => tp (q + ap)) (fun (q : Nat) => vp (q + ap)) (fun (q : Nat) => gp (q + ap))
 fun (q : Nat) => wp (q + ap)) =
 (0 : Int) ∧
 ((0 : Int) ≤ x1 ∧ x1 < (↑np : Int)) ∧
 (0 : Int) ≤ S.at' x8 (Int.toNat x6) ∧ S.at' x8 (Int.toNat x6) < (↑np : Int)))
 then (bif (lim IntKind.i64 (x6 + (1 : Int)))
 then (some (.inl (.h3 (Max.max x0
 (S.dl (fun (q : Nat) => tp (q + ap)) (fun (q : Nat) => wp (q + ap)) (Int.toNat x1) +
 S.dl (fun (q : Nat) => tp (q + ap)) (fun (q : Nat) => wp (q + ap))
 (Int.toNat (S.at' x8 (Int.toNat x6))) -
 (2 : Int) *
 S.dl (fun (q : Nat) => tp (q + ap)) (fun (q : Nat) => wp (q + ap))
 (S.com (fun (q : Nat) => tp (q + ap)) (Int.toNat x1) (Int.toNat (S.at' x8 (Int.toNat x6)))))) (x1) (x2) (x3) (x4) (x5) (x6 + (1 : Int)) (x7) (x8))))
 else (none))
 else (none))
 else (none))
 else (none))
 else (bif (lim IntKind.i64 (x3 + (1 : Int)))
 then (some (.inl (.h2 (x0) (x2) (x3 + (1 : Int)) (x7) (x8))))
 else (none)) : Option (St26 ⊕ Rt26)) = some x) : T26_3 cond Kst Kret ap np mp tp vp gp wp lm x0 x1 x2 x3 x4 x5 x6 x7 x8 := by
  unfold T26_3
  exact bif_split h
   (fun c0 h => bif_split h
   (fun c1 h => bif_split h
   (fun c2 h => bif_split h
   (fun c3 h => bif_split h
   (fun c4 h => stop_at hS _ h (fun n => bif Nat.beq n 1 then 1 else bif Nat.beq n 2 then 2 else bif Nat.beq n 3 then 3 else n) rfl rfl rfl ⟨(rn_unk _), ⟨(rn_ptr (use_own rfl) rfl rfl), ⟨(rn_own (use_own rfl) rfl rfl), ⟨(rn_own (use_own rfl) rfl rfl), ⟨(rn_unk _), ⟨(rn_int rfl), ⟨(rn_int rfl), ⟨(rn_unk _), ⟨(rn_unk _), ⟨(rn_unk _), ⟨(rn_unk _), ⟨(rn_unk _), ⟨(rn_own (use_own rfl) rfl rfl), ⟨(rn_int rfl), ⟨(rn_int rfl), ⟨(rn_loose (use_own rfl) rfl rfl rfl), ⟨(rn_int rfl), ⟨(rn_int rfl), trivial⟩⟩⟩⟩⟩⟩⟩⟩⟩⟩⟩⟩⟩⟩⟩⟩⟩⟩ rfl (entl_b (use_own rfl) rfl (by simp) (rb_cells ⟨(rn_loose (use_lo rfl) rfl rfl rfl), trivial⟩) (entl_new (use_own rfl) rfl (Nat.le_of_eq rfl) (rcs_int (fun _ _ => rfl) rcs_nil) (entl_new (use_own rfl) rfl (Nat.le_of_eq rfl) (rcs_int (fun _ _ => rfl) rcs_nil) (entl_bor (use_lo rfl) rfl rfl entl_nil)))))
   (fun c4 h => no_some h))
   (fun c3 h => no_some h))
   (fun c2 h => no_some h))
   (fun c1 h => no_some h))
   (fun c0 h => bif_split h
   (fun c1 h => stop_at hS _ h (fun n => bif Nat.beq n 1 then 1 else bif Nat.beq n 2 then 2 else bif Nat.beq n 3 then 3 else n) rfl rfl rfl ⟨(rn_unk _), ⟨(rn_ptr (use_own rfl) rfl rfl), ⟨(rn_own (use_own rfl) rfl rfl), ⟨(rn_own (use_own rfl) rfl rfl), ⟨(rn_unk _), ⟨(rn_int rfl), ⟨(rn_unk _), ⟨(rn_unk _), ⟨(rn_unk _), ⟨(rn_unk _), ⟨(rn_unk _), ⟨(rn_unk _), ⟨(rn_own (use_own rfl) rfl rfl), ⟨(rn_int rfl), ⟨(rn_int rfl), ⟨(rn_unk _), ⟨(rn_unk _), ⟨(rn_unk _), trivial⟩⟩⟩⟩⟩⟩⟩⟩⟩⟩⟩⟩⟩⟩⟩⟩⟩⟩ rfl (entl_b (use_own rfl) rfl (by simp) (rb_cells ⟨(rn_loose (use_lo rfl) rfl rfl rfl), trivial⟩) (entl_new (use_own rfl) rfl (Nat.le_of_eq rfl) (rcs_int (fun _ _ => rfl) rcs_nil) (entl_new (use_own rfl) rfl (Nat.le_of_eq rfl) (rcs_int (fun _ _ => rfl) rcs_nil) (entl_bor (use_lo rfl) rfl rfl entl_nil)))))
   (fun c1 h => no_some h))
theorem a26 (ap np mp : Nat) (tp : Nat → Int) (vp : Nat → Int) (gp : Nat → Int) (wp : Nat → Int) (lm : Int) {r : Rt26} (h : Goes ((q26 ap np mp tp vp gp wp lm)) ((p26 ap np mp tp vp gp wp lm)) r) : CallR Try.prog 26 [.agg [.loose ⟨0, 4, ap, 0⟩ np], .int .i64 lm] [[(0, (false, .cols mp [.int .i64 tp, .int .i64 vp, .int .i64 gp, .int .i64 wp]))]] 1 ((V26 ap np mp tp vp gp wp lm) r) ((fun r => [newL (1 + 1) ((N26 ap np mp tp vp gp wp lm) r) ++ [(0, (false, .cols mp [.int .i64 tp, .int .i64 vp, .int .i64 gp, .int .i64 wp]))]]) r) 400 ∧ ∃ F, Try.prog.funcs[26]? = some F ∧ F.body.isSome = true ∧ (F.name == "runtime.NumGoroutine") = false := by
  refine dec_calls (f := 26) (lo := 1) (hi := 400) (H := [[(0, (false, .cols mp [.int .i64 tp, .int .i64 vp, .int .i64 gp, .int .i64 wp]))]]) (args := [.agg [.loose ⟨0, 4, ap, 0⟩ np], .int .i64 lm]) Try.envOk Try.mixed xO_ok ((I26 ap np mp tp vp gp wp lm)) ((V26 ap np mp tp vp gp wp lm)) (fun r => [newL (1 + 1) ((N26 ap np mp tp vp gp wp lm) r) ++ [(0, (false, .cols mp [.int .i64 tp, .int .i64 vp, .int .i64 gp, .int .i64 wp]))]]) (fn := mkFn Try.f26) (ts := [1, 2, 8, 9, 14, 16, 18, 31, 32, 33, 51, 52, 71, 72, 73, 80, 81, 82]) (n := 400) rfl (by decide) (by simp) (names_of rfl) ?_ ?_ ?_ h
  · intro s; cases s <;> exact ⟨hd_ok _ _, by simp [I26], names_of rfl, Nat.le_of_ble_eq_true rfl⟩
  · intro Kst Kret x hS hR h
    exact Holds.eq (te26 cond Kst Kret ap np mp tp vp gp wp lm) (be26 ap np mp tp vp gp wp lm Kst Kret x hS hR h)
  · intro Kst Kret x hS hR s h
    cases s with
    | h0 x0 x1 x2 => exact Holds.eq (t26_0 cond Kst Kret ap np mp tp vp gp wp lm x0 x1 x2) (b26_0 ap np mp tp vp gp wp lm Kst Kret x hS hR x0 x1 x2 h)
    | h1 x0 x1 x2 x3 x4 => exact Holds.eq (t26_1 cond Kst Kret ap np mp tp vp gp wp lm x0 x1 x2 x3 x4) (b26_1 ap np mp tp vp gp wp lm Kst Kret x hS hR x0 x1 x2 x3 x4 h)
    | h2 x0 x1 x2 x3 x4 => exact Holds.eq (t26_2 cond Kst Kret ap np mp tp vp gp wp lm x0 x1 x2 x3 x4) (b26_2 ap np mp tp vp gp wp lm Kst Kret x hS hR x0 x1 x2 x3 x4 h)
    | h3 x0 x1 x2 x3 x4 x5 x6 x7 x8 => exact Holds.eq (t26_3 cond Kst Kret ap np mp tp vp gp wp lm x0 x1 x2 x3 x4 x5 x6 x7 x8) (b26_3 ap np mp tp vp gp wp lm Kst Kret x hS hR x0 x1 x2 x3 x4 x5 x6 x7 x8 h)
noncomputable def k26 : Con := ⟨26, [.agg [.list [.int .i64, .int .i64, .int .i64, .int .i64]], .one (.plain (.int .i64))], fun (x : ((Nat × Nat × Nat × (Nat → Int) × (Nat → Int) × (Nat → Int) × (Nat → Int) × Unit) × Unit) × Int × Unit) => (fun (ap np mp : Nat) (tp : Nat → Int) (vp : Nat → Int) (gp : Nat → Int) (wp : Nat → Int) (lm : Int) => decide (ap + np ≤ mp ∧ np ≤ 1000000)) x.1.1.1 x.1.1.2.1 x.1.1.2.2.1 x.1.1.2.2.2.1 x.1.1.2.2.2.2.1 x.1.1.2.2.2.2.2.1 x.1.1.2.2.2.2.2.2.1 x.2.1, fun (x : ((Nat × Nat × Nat × (Nat → Int) × (Nat → Int) × (Nat → Int) × (Nat → Int) × Unit) × Unit) × Int × Unit) => (fun (ap np mp : Nat) (tp : Nat → Int) (vp : Nat → Int) (gp : Nat → Int) (wp : Nat → Int) (lm : Int) => (V26 ap np mp tp vp gp wp lm) (S.cmpS np (fun q => tp (q + ap)) (fun q => vp (q + ap)) (fun q => gp (q + ap)) (fun q => wp (q + ap)) lm)) x.1.1.1 x.1.1.2.1 x.1.1.2.2.1 x.1.1.2.2.2.1 x.1.1.2.2.2.2.1 x.1.1.2.2.2.2.2.1 x.1.1.2.2.2.2.2.2.1 x.2.1, fun (x : ((Nat × Nat × Nat × (Nat → Int) × (Nat → Int) × (Nat → Int) × (Nat → Int) × Unit) × Unit) × Int × Unit) => (fun (ap np mp : Nat) (tp : Nat → Int) (vp : Nat → Int) (gp : Nat → Int) (wp : Nat → Int) (lm : Int) => (N26 ap np mp tp vp gp wp lm) (S.cmpS np (fun q => tp (q + ap)) (fun q => vp (q + ap)) (fun q => gp (q + ap)) (fun q => wp (q + ap)) lm)) x.1.1.1 x.1.1.2.1 x.1.1.2.2.1 x.1.1.2.2.2.1 x.1.1.2.2.2.2.1 x.1.1.2.2.2.2.2.1 x.1.1.2.2.2.2.2.2.1 x.2.1, fun _ _ => .dead⟩
theorem s26c (ap np mp : Nat) (tp : Nat → Int) (vp : Nat → Int) (gp : Nat → Int) (wp : Nat → Int) (lm : Int) (hp1 : ap + np ≤ mp) (hp2 : np ≤ 1000000) (ht : S.treE np (fun q => tp (q + ap)) (fun q => vp (q + ap)) (fun q => gp (q + ap)) (fun q => wp (q + ap)) = 0) (hl : 0 ≤ lm ∧ lm ≤ 1000000000) {E : List Int} (hE : E.length ≤ 60) (h1 : 1 ≤ E.length) (hEi : ∀ q, q < E.length → 0 ≤ S.at' E q ∧ S.at' E q < np) (i : Nat) (hi : i < E.length) (O : List Int) (n g : Int) (R0 : Rt26) (hR : Comes (q26 ap np mp tp vp gp wp lm) (.h2 (S.remM (S.aptE (fun q => tp (q + ap)) (fun q => wp (q + ap)) E) (i + 1)) n ((i : Int) + 1) O E) R0) : ∀ (k j : Nat) (y : Int), j + k = i → Holds (y = S.pairM ((S.aptE (fun q => tp (q + ap)) (fun q => wp (q + ap)) E) i) (S.remM (S.aptE (fun q => tp (q + ap)) (fun q => wp (q + ap)) E) i) j) → Comes (q26 ap np mp tp vp gp wp lm) (.h3 y (S.at' E i) n (i : Int) i (i : Int) ((j : Int)) O E) R0 := by
  have hnp := (tre_ok ht).2.1
  have hdn : ∀ q, q < E.length → 0 ≤ (S.dnI (fun q => tp (q + ap)) (fun q => vp (q + ap)) E) q ∧ (S.dnI (fun q => tp (q + ap)) (fun q => vp (q + ap)) E) q ≤ 60000000 := fun q hq => by have h8 := hEi q hq; have h9 := (dl_bd ht (x := (S.at' E q).toNat) (by omega)).1; unfold S.dnI; omega
  have hmz := maxZ_le (f := (S.dnI (fun q => tp (q + ap)) (fun q => vp (q + ap)) E)) (c := 60000000) (by decide) (fun j hj => (hdn j hj).2)
  have hb := hEi i hi
  intro k
  induction k with
  | zero =>
    intro j y hj ey
    obtain rfl : j = i := by omega
    have e : S.remM (S.aptE (fun q => tp (q + ap)) (fun q => wp (q + ap)) E) (j + 1) = S.pairM ((S.aptE (fun q => tp (q + ap)) (fun q => wp (q + ap)) E) j) (S.remM (S.aptE (fun q => tp (q + ap)) (fun q => wp (q + ap)) E) j) j := rfl
    rw [e, ← ey.get] at hR
    apply Comes.of
    show Goes _ _ _
    (first | rw [q26] | unfold q26)
    repeat' first
      | with_reducible refine goes_if (fun h => ?_) (fun h => ?_) <;> (try simp only [lim64, decide_eq_true_eq, decide_eq_false_iff_not, Int.toNat_natCast, toNat_pred, toNat_succ, Option.getD_some, Option.getD_none, Bool.not_eq_true', Bool.not_eq_false', Bool.and_eq_true, Bool.or_eq_true, Bool.and_eq_false_iff, Bool.or_eq_false_iff, bne_iff_ne, beq_iff_eq, bne_eq_false_iff_eq, beq_eq_false_iff_ne, ne_eq, not_and, Int.not_le, Int.not_lt, ge_iff_le, gt_iff_lt, Nat.not_lt, Nat.not_le, Bool.not_eq_true, Bool.not_eq_false, Bool.true_eq_false, Bool.false_eq_true, not_false_eq_true, not_true_eq_false] at h)
      | exact goes_none.mpr (by omega)
    all_goals first | (exfalso; omega) | exact hR
  | succ k ih =>
    intro j y hj ey
    have hc := hEi j (by omega)
    apply Comes.of
    show Goes _ _ _
    (first | rw [q26] | unfold q26)
    repeat' first
      | with_reducible refine goes_if (fun h => ?_) (fun h => ?_) <;> (try simp only [lim64, decide_eq_true_eq, decide_eq_false_iff_not, Int.toNat_natCast, toNat_pred, toNat_succ, Option.getD_some, Option.getD_none, Bool.not_eq_true', Bool.not_eq_false', Bool.and_eq_true, Bool.or_eq_true, Bool.and_eq_false_iff, Bool.or_eq_false_iff, bne_iff_ne, beq_iff_eq, bne_eq_false_iff_eq, beq_eq_false_iff_ne, ne_eq, not_and, Int.not_le, Int.not_lt, ge_iff_le, gt_iff_lt, Nat.not_lt, Nat.not_le, Bool.not_eq_true, Bool.not_eq_false, Bool.true_eq_false, Bool.false_eq_true, not_false_eq_true, not_true_eq_false] at h)
      | exact goes_none.mpr (by omega)
    all_goals first
      | (exfalso; omega)
      | (refine ih (j + 1) _ (by omega) ⟨?_⟩; rw [ey.get]; rfl)
theorem s26d (ap np mp : Nat) (tp : Nat → Int) (vp : Nat → Int) (gp : Nat → Int) (wp : Nat → Int) (lm : Int) (hp1 : ap + np ≤ mp) (hp2 : np ≤ 1000000) (ht : S.treE np (fun q => tp (q + ap)) (fun q => vp (q + ap)) (fun q => gp (q + ap)) (fun q => wp (q + ap)) = 0) (hl : 0 ≤ lm ∧ lm ≤ 1000000000) {E : List Int} (hE : E.length ≤ 60) (h1 : 1 ≤ E.length) (hEi : ∀ q, q < E.length → 0 ≤ S.at' E q ∧ S.at' E q < np) (O : List Int) : ∀ (k i : Nat) (y : Int), i + k = E.length → Holds (y = S.remM (S.aptE (fun q => tp (q + ap)) (fun q => wp (q + ap)) E) i) → Comes (q26 ap np mp tp vp gp wp lm) (.h2 y (E.length : Int) (i : Int) O E) (S.remM (S.aptE (fun q => tp (q + ap)) (fun q => wp (q + ap)) E) E.length, 0, O) := by
  have hnp := (tre_ok ht).2.1
  have hdn : ∀ q, q < E.length → 0 ≤ (S.dnI (fun q => tp (q + ap)) (fun q => vp (q + ap)) E) q ∧ (S.dnI (fun q => tp (q + ap)) (fun q => vp (q + ap)) E) q ≤ 60000000 := fun q hq => by have h8 := hEi q hq; have h9 := (dl_bd ht (x := (S.at' E q).toNat) (by omega)).1; unfold S.dnI; omega
  have hmz := maxZ_le (f := (S.dnI (fun q => tp (q + ap)) (fun q => vp (q + ap)) E)) (c := 60000000) (by decide) (fun j hj => (hdn j hj).2)
  intro k
  induction k with
  | zero =>
    intro i y hi ey
    obtain rfl : E.length = i := by omega
    apply Comes.of
    show Goes _ _ _
    (first | rw [q26] | unfold q26)
    repeat' first
      | with_reducible refine goes_if (fun h => ?_) (fun h => ?_) <;> (try simp only [lim64, decide_eq_true_eq, decide_eq_false_iff_not, Int.toNat_natCast, toNat_pred, toNat_succ, Option.getD_some, Option.getD_none, Bool.not_eq_true', Bool.not_eq_false', Bool.and_eq_true, Bool.or_eq_true, Bool.and_eq_false_iff, Bool.or_eq_false_iff, bne_iff_ne, beq_iff_eq, bne_eq_false_iff_eq, beq_eq_false_iff_ne, ne_eq, not_and, Int.not_le, Int.not_lt, ge_iff_le, gt_iff_lt, Nat.not_lt, Nat.not_le, Bool.not_eq_true, Bool.not_eq_false, Bool.true_eq_false, Bool.false_eq_true, not_false_eq_true, not_true_eq_false] at h)
      | exact goes_none.mpr (by omega)
    all_goals first | (exfalso; omega) | exact goes_inr.mpr (by rw [ey.get])
  | succ k ih =>
    intro i y hi ey
    have ih := ih (i + 1) (S.remM (S.aptE (fun q => tp (q + ap)) (fun q => wp (q + ap)) E) (i + 1)) (by omega) ⟨rfl⟩
    have hc := s26c ap np mp tp vp gp wp lm hp1 hp2 ht hl hE h1 hEi i (by omega) O (E.length : Int) 0 _ ih i 0 y (Nat.zero_add _) ey
    apply Comes.of
    show Goes _ _ _
    (first | rw [q26] | unfold q26)
    repeat' first
      | with_reducible refine goes_if (fun h => ?_) (fun h => ?_) <;> (try simp only [lim64, decide_eq_true_eq, decide_eq_false_iff_not, Int.toNat_natCast, toNat_pred, toNat_succ, Option.getD_some, Option.getD_none, Bool.not_eq_true', Bool.not_eq_false', Bool.and_eq_true, Bool.or_eq_true, Bool.and_eq_false_iff, Bool.or_eq_false_iff, bne_iff_ne, beq_iff_eq, bne_eq_false_iff_eq, beq_eq_false_iff_ne, ne_eq, not_and, Int.not_le, Int.not_lt, ge_iff_le, gt_iff_lt, Nat.not_lt, Nat.not_le, Bool.not_eq_true, Bool.not_eq_false, Bool.true_eq_false, Bool.false_eq_true, not_false_eq_true, not_true_eq_false] at h)
      | exact goes_none.mpr (by omega)
    all_goals first | (exfalso; omega) | exact hc
theorem s26e (ap np mp : Nat) (tp : Nat → Int) (vp : Nat → Int) (gp : Nat → Int) (wp : Nat → Int) (lm : Int) (hp1 : ap + np ≤ mp) (hp2 : np ≤ 1000000) (ht : S.treE np (fun q => tp (q + ap)) (fun q => vp (q + ap)) (fun q => gp (q + ap)) (fun q => wp (q + ap)) = 0) (hl : 0 ≤ lm ∧ lm ≤ 1000000000) {E : List Int} (hE : E.length ≤ 60) (h1 : 1 ≤ E.length) (hEi : ∀ q, q < E.length → 0 ≤ S.at' E q ∧ S.at' E q < np) : ∀ (k i : Nat) (O : List Int), i + k = E.length → Holds (O = S.mkl E.length fun j => if j < i then (S.addI (fun q => tp (q + ap)) (fun q => vp (q + ap)) E) j else (S.dnI (fun q => tp (q + ap)) (fun q => vp (q + ap)) E) j) → S.limK (S.addI (fun q => tp (q + ap)) (fun q => vp (q + ap)) E) lm 0 E.length = S.limK (S.addI (fun q => tp (q + ap)) (fun q => vp (q + ap)) E) lm i k → Comes (q26 ap np mp tp vp gp wp lm) (.h1 (S.maxZ (S.dnI (fun q => tp (q + ap)) (fun q => vp (q + ap)) E) E.length) (E.length : Int) (i : Int) E O) (S.cmpE (fun q => tp (q + ap)) (fun q => vp (q + ap)) (fun q => wp (q + ap)) E lm) := by
  have hnp := (tre_ok ht).2.1
  have hdn : ∀ q, q < E.length → 0 ≤ (S.dnI (fun q => tp (q + ap)) (fun q => vp (q + ap)) E) q ∧ (S.dnI (fun q => tp (q + ap)) (fun q => vp (q + ap)) E) q ≤ 60000000 := fun q hq => by have h8 := hEi q hq; have h9 := (dl_bd ht (x := (S.at' E q).toNat) (by omega)).1; unfold S.dnI; omega
  have hmz := maxZ_le (f := (S.dnI (fun q => tp (q + ap)) (fun q => vp (q + ap)) E)) (c := 60000000) (by decide) (fun j hj => (hdn j hj).2)
  unfold S.cmpE
  intro k
  induction k with
  | zero =>
    intro i O hi eO hw
    have hw : S.limK (S.addI (fun q => tp (q + ap)) (fun q => vp (q + ap)) E) lm 0 E.length = true := hw
    rw [if_pos hw]
    obtain rfl : E.length = i := by omega
    have hO : O = S.mkl E.length (S.addI (fun q => tp (q + ap)) (fun q => vp (q + ap)) E) := by rw [eO.get]; exact upd_all
    have hm := s26d ap np mp tp vp gp wp lm hp1 hp2 ht hl hE h1 hEi O E.length 0 0 (Nat.zero_add _) ⟨rfl⟩
    rw [hO] at hm ⊢
    apply Comes.of
    show Goes _ _ _
    (first | rw [q26] | unfold q26)
    repeat' first
      | with_reducible refine goes_if (fun h => ?_) (fun h => ?_) <;> (try simp only [lim64, decide_eq_true_eq, decide_eq_false_iff_not, Int.toNat_natCast, toNat_pred, toNat_succ, Option.getD_some, Option.getD_none, Bool.not_eq_true', Bool.not_eq_false', Bool.and_eq_true, Bool.or_eq_true, Bool.and_eq_false_iff, Bool.or_eq_false_iff, bne_iff_ne, beq_iff_eq, bne_eq_false_iff_eq, beq_eq_false_iff_ne, ne_eq, not_and, Int.not_le, Int.not_lt, ge_iff_le, gt_iff_lt, Nat.not_lt, Nat.not_le, Bool.not_eq_true, Bool.not_eq_false, Bool.true_eq_false, Bool.false_eq_true, not_false_eq_true, not_true_eq_false] at h)
      | exact goes_none.mpr (by omega)
    all_goals first | (exfalso; omega) | exact hm
  | succ k ih =>
    intro i O hi eO hw
    have hd := hdn i (by omega)
    have hL : O.length = E.length := by rw [eO.get]; exact mkl_len
    have hv : S.at' O i = (S.dnI (fun q => tp (q + ap)) (fun q => vp (q + ap)) E) i := by rw [eO.get, at_mkl (by omega), if_neg (Nat.lt_irrefl i)]
    have ha : (S.addI (fun q => tp (q + ap)) (fun q => vp (q + ap)) E) i = (S.maxZ (S.dnI (fun q => tp (q + ap)) (fun q => vp (q + ap)) E) E.length) - (S.dnI (fun q => tp (q + ap)) (fun q => vp (q + ap)) E) i := rfl
    have hbb : Nat.beq i i = true := Nat.beq_refl i
    have hO2 : (S.mkl O.length fun j => bif Nat.beq j i then (S.maxZ (S.dnI (fun q => tp (q + ap)) (fun q => vp (q + ap)) E) E.length) - S.at' O i else S.at' O j) = S.mkl E.length fun j => if j < i + 1 then (S.addI (fun q => tp (q + ap)) (fun q => vp (q + ap)) E) j else (S.dnI (fun q => tp (q + ap)) (fun q => vp (q + ap)) E) j := by
      rw [hL, hv, ← ha]
      have := upd_step (n := E.length) (i := i) (f := (S.dnI (fun q => tp (q + ap)) (fun q => vp (q + ap)) E)) (g := (S.addI (fun q => tp (q + ap)) (fun q => vp (q + ap)) E)) (v := (S.addI (fun q => tp (q + ap)) (fun q => vp (q + ap)) E) i) rfl
      rw [← this, eO.get]
    by_cases h0 : (S.addI (fun q => tp (q + ap)) (fun q => vp (q + ap)) E) i ≤ lm
    · have ih := ih (i + 1) (S.mkl O.length fun j => bif Nat.beq j i then (S.maxZ (S.dnI (fun q => tp (q + ap)) (fun q => vp (q + ap)) E) E.length) - S.at' O i else S.at' O j) (by omega) ⟨hO2⟩ (by rw [hw]; exact limK_yes h0)
      apply Comes.of
      show Goes _ _ _
      (first | rw [q26] | unfold q26)
      repeat' first
        | with_reducible refine goes_if (fun h => ?_) (fun h => ?_) <;> (try simp only [lim64, decide_eq_true_eq, decide_eq_false_iff_not, Int.toNat_natCast, toNat_pred, toNat_succ, Option.getD_some, Option.getD_none, Bool.not_eq_true', Bool.not_eq_false', Bool.and_eq_true, Bool.or_eq_true, Bool.and_eq_false_iff, Bool.or_eq_false_iff, bne_iff_ne, beq_iff_eq, bne_eq_false_iff_eq, beq_eq_false_iff_ne, ne_eq, not_and, Int.not_le, Int.not_lt, ge_iff_le, gt_iff_lt, Nat.not_lt, Nat.not_le, Bool.not_eq_true, Bool.not_eq_false, Bool.true_eq_false, Bool.false_eq_true, not_false_eq_true, not_true_eq_false, hbb, cond_true] at h)
        | exact goes_none.mpr (by omega)
      all_goals first | (exfalso; omega) | exact ih
    · have hw : S.limK (S.addI (fun q => tp (q + ap)) (fun q => vp (q + ap)) E) lm 0 E.length = false := by rw [hw]; exact limK_no h0
      rw [if_neg (by rw [hw]; exact Bool.false_ne_true)]
      apply Comes.of
      show Goes _ _ _
      (first | rw [q26] | unfold q26)
      repeat' first
        | with_reducible refine goes_if (fun h => ?_) (fun h => ?_) <;> (try simp only [lim64, decide_eq_true_eq, decide_eq_false_iff_not, Int.toNat_natCast, toNat_pred, toNat_succ, Option.getD_some, Option.getD_none, Bool.not_eq_true', Bool.not_eq_false', Bool.and_eq_true, Bool.or_eq_true, Bool.and_eq_false_iff, Bool.or_eq_false_iff, bne_iff_ne, beq_iff_eq, bne_eq_false_iff_eq, beq_eq_false_iff_ne, ne_eq, not_and, Int.not_le, Int.not_lt, ge_iff_le, gt_iff_lt, Nat.not_lt, Nat.not_le, Bool.not_eq_true, Bool.not_eq_false, Bool.true_eq_false, Bool.false_eq_true, not_false_eq_true, not_true_eq_false, hbb, cond_true] at h)
        | exact goes_none.mpr (by omega)
      all_goals first | (exfalso; omega) | exact goes_inr.mpr rfl
theorem s26f (ap np mp : Nat) (tp : Nat → Int) (vp : Nat → Int) (gp : Nat → Int) (wp : Nat → Int) (lm : Int) (hp1 : ap + np ≤ mp) (hp2 : np ≤ 1000000) (ht : S.treE np (fun q => tp (q + ap)) (fun q => vp (q + ap)) (fun q => gp (q + ap)) (fun q => wp (q + ap)) = 0) (hl : 0 ≤ lm ∧ lm ≤ 1000000000) {E : List Int} (hE : E.length ≤ 60) (h1 : 1 ≤ E.length) (hEi : ∀ q, q < E.length → 0 ≤ S.at' E q ∧ S.at' E q < np) (he : E = S.leaL (fun q => tp (q + ap)) np) : ∀ (k i : Nat) (O : List Int), i + k = E.length → Holds (O = S.mkl i (S.dnI (fun q => tp (q + ap)) (fun q => vp (q + ap)) E)) → Comes (q26 ap np mp tp vp gp wp lm) (.h0 (i : Int) E O) (S.cmpE (fun q => tp (q + ap)) (fun q => vp (q + ap)) (fun q => wp (q + ap)) E lm) := by
  have hnp := (tre_ok ht).2.1
  have hdn : ∀ q, q < E.length → 0 ≤ (S.dnI (fun q => tp (q + ap)) (fun q => vp (q + ap)) E) q ∧ (S.dnI (fun q => tp (q + ap)) (fun q => vp (q + ap)) E) q ≤ 60000000 := fun q hq => by have h8 := hEi q hq; have h9 := (dl_bd ht (x := (S.at' E q).toNat) (by omega)).1; unfold S.dnI; omega
  have hmz := maxZ_le (f := (S.dnI (fun q => tp (q + ap)) (fun q => vp (q + ap)) E)) (c := 60000000) (by decide) (fun j hj => (hdn j hj).2)
  intro k
  induction k with
  | zero =>
    intro i O hi eO
    obtain rfl : E.length = i := by omega
    have hO : O.length = E.length := by rw [eO.get]; exact mkl_len
    have hm := s26e ap np mp tp vp gp wp lm hp1 hp2 ht hl hE h1 hEi E.length 0 O (Nat.zero_add _) ⟨by rw [eO.get]; exact upd_none⟩ rfl
    have hx : S.maxN (fun j => S.at' O j) (O.length - 1) = (S.maxZ (S.dnI (fun q => tp (q + ap)) (fun q => vp (q + ap)) E) E.length) := by
      rw [hO, maxN_Z (fun j hj => by rw [eO.get, at_mkl (by omega)]; exact (hdn j (by omega)).1), show E.length - 1 + 1 = E.length by omega]
      exact maxZ_congr fun j hj => by rw [eO.get, at_mkl hj]
    rw [← hx, ← hO] at hm
    apply Comes.of
    show Goes _ _ _
    (first | rw [q26] | unfold q26)
    repeat' first
      | with_reducible refine goes_if (fun h => ?_) (fun h => ?_) <;> (try simp only [lim64, decide_eq_true_eq, decide_eq_false_iff_not, Int.toNat_natCast, toNat_pred, toNat_succ, Option.getD_some, Option.getD_none, Bool.not_eq_true', Bool.not_eq_false', Bool.and_eq_true, Bool.or_eq_true, Bool.and_eq_false_iff, Bool.or_eq_false_iff, bne_iff_ne, beq_iff_eq, bne_eq_false_iff_eq, beq_eq_false_iff_ne, ne_eq, not_and, Int.not_le, Int.not_lt, ge_iff_le, gt_iff_lt, Nat.not_lt, Nat.not_le, Bool.not_eq_true, Bool.not_eq_false, Bool.true_eq_false, Bool.false_eq_true, not_false_eq_true, not_true_eq_false, ← he] at h)
      | exact goes_none.mpr (by omega)
    all_goals first | (exfalso; omega) | exact hm
  | succ k ih =>
    intro i O hi eO
    have hb := hEi i (by omega)
    have hL : O.length = i := by rw [eO.get]; exact mkl_len
    apply Comes.of
    show Goes _ _ _
    (first | rw [q26] | unfold q26)
    repeat' first
      | with_reducible refine goes_if (fun h => ?_) (fun h => ?_) <;> (try simp only [lim64, decide_eq_true_eq, decide_eq_false_iff_not, Int.toNat_natCast, toNat_pred, toNat_succ, Option.getD_some, Option.getD_none, Bool.not_eq_true', Bool.not_eq_false', Bool.and_eq_true, Bool.or_eq_true, Bool.and_eq_false_iff, Bool.or_eq_false_iff, bne_iff_ne, beq_iff_eq, bne_eq_false_iff_eq, beq_eq_false_iff_ne, ne_eq, not_and, Int.not_le, Int.not_lt, ge_iff_le, gt_iff_lt, Nat.not_lt, Nat.not_le, Bool.not_eq_true, Bool.not_eq_false, Bool.true_eq_false, Bool.false_eq_true, not_false_eq_true, not_true_eq_false, ← he] at h)
      | exact goes_none.mpr (by omega)
    all_goals first | (exfalso; omega) | (refine ih (i + 1) _ (by omega) ⟨?_⟩; rw [eO.get, mkl_succ]; rfl)
theorem s26 (ap np mp : Nat) (tp : Nat → Int) (vp : Nat → Int) (gp : Nat → Int) (wp : Nat → Int) (lm : Int) (hp : ap + np ≤ mp ∧ np ≤ 1000000) : Goes ((q26 ap np mp tp vp gp wp lm)) ((p26 ap np mp tp vp gp wp lm)) (S.cmpS np (fun q => tp (q + ap)) (fun q => vp (q + ap)) (fun q => gp (q + ap)) (fun q => wp (q + ap)) lm) := by
  unfold S.cmpS
  by_cases h0 : S.treE np (fun q => tp (q + ap)) (fun q => vp (q + ap)) (fun q => gp (q + ap)) (fun q => wp (q + ap)) = 0
  · rw [if_pos h0]
    obtain ⟨v1, v2, v3, v4, v5, v6⟩ := tre_ok h0
    have hE2 : (S.leaL (fun q => tp (q + ap)) np).length ≤ 60 := Nat.le_trans cho_len v2
    have hE1 : 1 ≤ (S.leaL (fun q => tp (q + ap)) np).length := leaL_len v1 v3 v4
    have hEi : ∀ q, q < (S.leaL (fun q => tp (q + ap)) np).length → 0 ≤ S.at' (S.leaL (fun q => tp (q + ap)) np) q ∧ S.at' (S.leaL (fun q => tp (q + ap)) np) q < np := fun q hq => leaL_in hq
    by_cases h2 : 0 ≤ lm ∧ lm ≤ 1000000000
    · rw [if_pos h2]
      have hm := s26f ap np mp tp vp gp wp lm hp.1 hp.2 h0 h2 hE2 hE1 hEi rfl (S.leaL (fun q => tp (q + ap)) np).length 0 [] (Nat.zero_add _) ⟨rfl⟩
      show Goes _ _ _
      unfold p26
      repeat' first
        | with_reducible refine goes_if (fun h => ?_) (fun h => ?_) <;> (try simp only [lim64, decide_eq_true_eq, decide_eq_false_iff_not, Int.toNat_natCast, toNat_pred, toNat_succ, Option.getD_some, Option.getD_none, Bool.not_eq_true', Bool.not_eq_false', Bool.and_eq_true, Bool.or_eq_true, Bool.and_eq_false_iff, Bool.or_eq_false_iff, bne_iff_ne, beq_iff_eq, bne_eq_false_iff_eq, beq_eq_false_iff_ne, ne_eq, not_and, Int.not_le, Int.not_lt, ge_iff_le, gt_iff_lt, Nat.not_lt, Nat.not_le, Bool.not_eq_true, Bool.not_eq_false, Bool.true_eq_false, Bool.false_eq_true, not_false_eq_true, not_true_eq_false] at h)
        | exact goes_none.mpr (by omega)
      all_goals first | (exfalso; omega) | exact hm
    · rw [if_neg h2]
      show Goes _ _ _
      unfold p26
      repeat' first
        | with_reducible refine goes_if (fun h => ?_) (fun h => ?_) <;> (try simp only [lim64, decide_eq_true_eq, decide_eq_false_iff_not, Int.toNat_natCast, toNat_pred, toNat_succ, Option.getD_some, Option.getD_none, Bool.not_eq_true', Bool.not_eq_false', Bool.and_eq_true, Bool.or_eq_true, Bool.and_eq_false_iff, Bool.or_eq_false_iff, bne_iff_ne, beq_iff_eq, bne_eq_false_iff_eq, beq_eq_false_iff_ne, ne_eq, not_and, Int.not_le, Int.not_lt, ge_iff_le, gt_iff_lt, Nat.not_lt, Nat.not_le, Bool.not_eq_true, Bool.not_eq_false, Bool.true_eq_false, Bool.false_eq_true, not_false_eq_true, not_true_eq_false] at h)
        | exact goes_none.mpr (by omega)
      all_goals first | (exfalso; omega) | rfl
  · rw [if_neg h0]
    show Goes _ _ _
    unfold p26
    repeat' first
      | with_reducible refine goes_if (fun h => ?_) (fun h => ?_) <;> (try simp only [lim64, decide_eq_true_eq, decide_eq_false_iff_not, Int.toNat_natCast, toNat_pred, toNat_succ, Option.getD_some, Option.getD_none, Bool.not_eq_true', Bool.not_eq_false', Bool.and_eq_true, Bool.or_eq_true, Bool.and_eq_false_iff, Bool.or_eq_false_iff, bne_iff_ne, beq_iff_eq, bne_eq_false_iff_eq, beq_eq_false_iff_ne, ne_eq, not_and, Int.not_le, Int.not_lt, ge_iff_le, gt_iff_lt, Nat.not_lt, Nat.not_le, Bool.not_eq_true, Bool.not_eq_false, Bool.true_eq_false, Bool.false_eq_true, not_false_eq_true, not_true_eq_false] at h)
      | exact goes_none.mpr (by omega)
    all_goals first | (exfalso; omega) | rfl

theorem k26_ok : k26.ok Try.prog := by
  intro x hx
  obtain ⟨⟨⟨ap, np, mp, tp, vp, gp, wp, _⟩, _⟩, lm, _⟩ := x
  obtain ⟨h1, h2⟩ := a26 ap np mp tp vp gp wp lm (s26 ap np mp tp vp gp wp lm (of_dec hx rfl))
  exact ⟨⟨400, (by decide : 1 + 1 + 1 ≤ 400), h1⟩, h2⟩
end Go.Ev
