/-
  The law of Valid.
-/
import Derived.Test.YtffldkecndnbiaaB1x
namespace Go.Ev
open Go.Proofs
set_option linter.unusedVariables false
set_option linter.unusedSimpArgs false
set_option maxRecDepth 100000

theorem lea_len {n : Nat} {p d u j : Nat → Int} : (S.leaS n p d u j).2.length ≤ n := by
  unfold S.leaS; split
  · exact cho_len
  · exact Nat.zero_le _
theorem dly_len {n : Nat} {p d u j : Nat → Int} : (S.dlyS n p d u j).2.length ≤ n := by
  unfold S.dlyS; split
  · exact Nat.le_of_eq mkl_len
  · exact Nat.zero_le _
abbrev St3 := Empty
abbrev Rt3 := Bool
noncomputable def V3 (ap np mp : Nat) (tp : Nat → Int) (vp : Nat → Int) (gp : Nat → Int) (wp : Nat → Int) (r : Rt3) : PV := PV.bool r
noncomputable def N3 (ap np mp : Nat) (tp : Nat → Int) (vp : Nat → Int) (gp : Nat → Int) (wp : Nat → Int) (r : Rt3) : List Blk := []
noncomputable def I3 (ap np mp : Nat) (tp : Nat → Int) (vp : Nat → Int) (gp : Nat → Int) (wp : Nat → Int) : St3 → Hd := fun s => s.elim
noncomputable def q3 (ap np mp : Nat) (tp : Nat → Int) (vp : Nat → Int) (gp : Nat → Int) (wp : Nat → Int) : St3 → Option (St3 ⊕ Rt3) := fun s => s.elim
noncomputable def p3 (ap np mp : Nat) (tp : Nat → Int) (vp : Nat → Int) (gp : Nat → Int) (wp : Nat → Int) : Option (St3 ⊕ Rt3) := bif (decide ((↑np : Int) ≤ (70 : Int)))
 then (bif (decide (ap + np ≤ mp ∧ np ≤ 1000000))
 then (bif (decide (0 + np ≤ np ∧ np ≤ 1000000))
 then (bif ((S.treE np (fun (q : Nat) => tp (q + ap)) (fun (q : Nat) => vp (q + ap)) (fun (q : Nat) => gp (q + ap))
 fun (q : Nat) => wp (q + ap)) ==
 S.treE np (fun (q : Nat) => tp (q + ap)) (fun (q : Nat) => vp (q + ap)) (fun (q : Nat) => gp (q + ap))
 fun (q : Nat) => wp (q + ap))
 then (bif (Prod.fst
 (S.leaS np (fun (q : Nat) => tp (q + ap)) (fun (q : Nat) => vp (q + ap)) (fun (q : Nat) => gp (q + ap))
 fun (q : Nat) => wp (q + ap)) ==
 Prod.fst
 (S.leaS np (fun (q : Nat) => tp (q + ap)) (fun (q : Nat) => vp (q + ap)) (fun (q : Nat) => gp (q + ap))
 fun (q : Nat) => wp (q + ap)))
 then (bif (decide
 (0 +
 List.length
 (Prod.snd
 (S.leaS np (fun (q : Nat) => tp (q + ap)) (fun (q : Nat) => vp (q + ap))
 (fun (q : Nat) => gp (q + ap)) fun (q : Nat) => wp (q + ap))) ≤
 List.length
 (Prod.snd
 (S.leaS np (fun (q : Nat) => tp (q + ap)) (fun (q : Nat) => vp (q + ap)) (fun (q : Nat) => gp (q + ap))
 fun (q : Nat) => wp (q + ap))) ∧
 List.length
 (Prod.snd
 (S.leaS np (fun (q : Nat) => tp (q + ap)) (fun (q : Nat) => vp (q + ap))
 (fun (q : Nat) => gp (q + ap)) fun (q : Nat) => wp (q + ap))) ≤
 1000000 ∧
 0 +
 List.length
 (Prod.snd
 (S.leaS np (fun (q : Nat) => tp (q + ap)) (fun (q : Nat) => vp (q + ap))
 (fun (q : Nat) => gp (q + ap)) fun (q : Nat) => wp (q + ap))) ≤
 List.length
 (Prod.snd
 (S.leaS np (fun (q : Nat) => tp (q + ap)) (fun (q : Nat) => vp (q + ap))
 (fun (q : Nat) => gp (q + ap)) fun (q : Nat) => wp (q + ap))) ∧
 List.length
 (Prod.snd
 (S.leaS np (fun (q : Nat) => tp (q + ap)) (fun (q : Nat) => vp (q + ap))
 (fun (q : Nat) => gp (q + ap)) fun (q : Nat) => wp (q + ap))) ≤
 1000000))
 then (bif (decide
 ((S.mkl
 (List.length
 (Prod.snd
 (S.leaS np (fun (q : Nat) => tp (q + ap)) (fun (q : Nat) => vp (q + ap)) (fun (q : Nat) => gp (q + ap))
 fun (q : Nat) => wp (q + ap))))
 fun (j : Nat) =>
 S.at'
 (Prod.snd
 (S.leaS np (fun (q : Nat) => tp (q + ap)) (fun (q : Nat) => vp (q + ap)) (fun (q : Nat) => gp (q + ap))
 fun (q : Nat) => wp (q + ap)))
 j) =
 S.mkl
 (List.length
 (Prod.snd
 (S.leaS np (fun (q : Nat) => tp (q + ap)) (fun (q : Nat) => vp (q + ap)) (fun (q : Nat) => gp (q + ap))
 fun (q : Nat) => wp (q + ap))))
 fun (j : Nat) =>
 S.at'
 (Prod.snd
 (S.leaS np (fun (q : Nat) => tp (q + ap)) (fun (q : Nat) => vp (q + ap)) (fun (q : Nat) => gp (q + ap))
 fun (q : Nat) => wp (q + ap)))
 j))
 then (bif (Prod.fst
 (S.dlyS np (fun (q : Nat) => tp (q + ap)) (fun (q : Nat) => vp (q + ap)) (fun (q : Nat) => gp (q + ap))
 fun (q : Nat) => wp (q + ap)) ==
 Prod.fst
 (S.dlyS np (fun (q : Nat) => tp (q + ap)) (fun (q : Nat) => vp (q + ap)) (fun (q : Nat) => gp (q + ap))
 fun (q : Nat) => wp (q + ap)))
 then (bif (decide
 (0 +
 List.length
 (Prod.snd
 (S.dlyS np (fun (q : Nat) => tp (q + ap)) (fun (q : Nat) => vp (q + ap))
 (fun (q : Nat) => gp (q + ap)) fun (q : Nat) => wp (q + ap))) ≤
 List.length
 (Prod.snd
 (S.dlyS np (fun (q : Nat) => tp (q + ap)) (fun (q : Nat) => vp (q + ap)) (fun (q : Nat) => gp (q + ap))
 fun (q : Nat) => wp (q + ap))) ∧
 List.length
 (Prod.snd
 (S.dlyS np (fun (q : Nat) => tp (q + ap)) (fun (q : Nat) => vp (q + ap))
 (fun (q : Nat) => gp (q + ap)) fun (q : Nat) => wp (q + ap))) ≤
 1000000 ∧
 0 +
 List.length
 (Prod.snd
 (S.dlyS np (fun (q : Nat) => tp (q + ap)) (fun (q : Nat) => vp (q + ap))
 (fun (q : Nat) => gp (q + ap)) fun (q : Nat) => wp (q + ap))) ≤
 List.length
 (Prod.snd
 (S.dlyS np (fun (q : Nat) => tp (q + ap)) (fun (q : Nat) => vp (q + ap))
 (fun (q : Nat) => gp (q + ap)) fun (q : Nat) => wp (q + ap))) ∧
 List.length
 (Prod.snd
 (S.dlyS np (fun (q : Nat) => tp (q + ap)) (fun (q : Nat) => vp (q + ap))
 (fun (q : Nat) => gp (q + ap)) fun (q : Nat) => wp (q + ap))) ≤
 1000000))
 then (bif (decide
 ((S.mkl
 (List.length
 (Prod.snd
 (S.dlyS np (fun (q : Nat) => tp (q + ap)) (fun (q : Nat) => vp (q + ap)) (fun (q : Nat) => gp (q + ap))
 fun (q : Nat) => wp (q + ap))))
 fun (j : Nat) =>
 (Prod.fst
 (S.at'
 (Prod.snd
 (S.dlyS np (fun (q : Nat) => tp (q + ap)) (fun (q : Nat) => vp (q + ap))
 (fun (q : Nat) => gp (q + ap)) fun (q : Nat) => wp (q + ap)))
 j),
 Prod.fst
 (Prod.snd
 (S.at'
 (Prod.snd
 (S.dlyS np (fun (q : Nat) => tp (q + ap)) (fun (q : Nat) => vp (q + ap))
 (fun (q : Nat) => gp (q + ap)) fun (q : Nat) => wp (q + ap)))
 j)),
 Prod.fst
 (Prod.snd
 (Prod.snd
 (S.at'
 (Prod.snd
 (S.dlyS np (fun (q : Nat) => tp (q + ap)) (fun (q : Nat) => vp (q + ap))
 (fun (q : Nat) => gp (q + ap)) fun (q : Nat) => wp (q + ap)))
 j))),
 Prod.snd
 (Prod.snd
 (Prod.snd
 (S.at'
 (Prod.snd
 (S.dlyS np (fun (q : Nat) => tp (q + ap)) (fun (q : Nat) => vp (q + ap))
 (fun (q : Nat) => gp (q + ap)) fun (q : Nat) => wp (q + ap)))
 j))))) =
 S.mkl
 (List.length
 (Prod.snd
 (S.dlyS np (fun (q : Nat) => tp (q + ap)) (fun (q : Nat) => vp (q + ap)) (fun (q : Nat) => gp (q + ap))
 fun (q : Nat) => wp (q + ap))))
 fun (j : Nat) =>
 (Prod.fst
 (S.at'
 (Prod.snd
 (S.dlyS np (fun (q : Nat) => tp (q + ap)) (fun (q : Nat) => vp (q + ap))
 (fun (q : Nat) => gp (q + ap)) fun (q : Nat) => wp (q + ap)))
 j),
 Prod.fst
 (Prod.snd
 (S.at'
 (Prod.snd
 (S.dlyS np (fun (q : Nat) => tp (q + ap)) (fun (q : Nat) => vp (q + ap))
 (fun (q : Nat) => gp (q + ap)) fun (q : Nat) => wp (q + ap)))
 j)),
 Prod.fst
 (Prod.snd
 (Prod.snd
 (S.at'
 (Prod.snd
 (S.dlyS np (fun (q : Nat) => tp (q + ap)) (fun (q : Nat) => vp (q + ap))
 (fun (q : Nat) => gp (q + ap)) fun (q : Nat) => wp (q + ap)))
 j))),
 Prod.snd
 (Prod.snd
 (Prod.snd
 (S.at'
 (Prod.snd
 (S.dlyS np (fun (q : Nat) => tp (q + ap)) (fun (q : Nat) => vp (q + ap))
 (fun (q : Nat) => gp (q + ap)) fun (q : Nat) => wp (q + ap)))
 j))))))
 then (some (.inr (true)))
 else (some (.inr (false))))
 else (none))
 else (some (.inr (false))))
 else (some (.inr (false))))
 else (none))
 else (some (.inr (false))))
 else (some (.inr (false))))
 else (none))
 else (none))
 else (some (.inr (true)))
noncomputable def Te3 (test : Bool → Prop → Prop → Prop) (Kst : KS) (Kret : KR) (ap np mp : Nat) (tp : Nat → Int) (vp : Nat → Int) (gp : Nat → Int) (wp : Nat → Int) : Prop :=
  test (true)
 (test (true)
 (test (decide ((↑np : Int) ≤ (70 : Int)))
 (test (decide (ap + np ≤ mp ∧ np ≤ 1000000))
 (test (decide (0 + np ≤ np ∧ np ≤ 1000000))
 (test (decide (ap + np ≤ mp ∧ np ≤ 1000000))
 (test (decide (ap + np ≤ mp ∧ np ≤ 1000000))
 (test (decide (0 + np ≤ np ∧ np ≤ 1000000))
 (test (decide (ap + np ≤ mp ∧ np ≤ 1000000))
 (test (decide (ap + np ≤ mp ∧ np ≤ 1000000))
 (test (decide (0 + np ≤ np ∧ np ≤ 1000000))
 (test (decide (ap + np ≤ mp ∧ np ≤ 1000000))
 (test ((S.treE np (fun (q : Nat) => tp (q + ap)) (fun (q : Nat) => vp (q + ap)) (fun (q : Nat) => gp (q + ap))
 fun (q : Nat) => wp (q + ap)) ==
 S.treE np (fun (q : Nat) => tp (q + ap)) (fun (q : Nat) => vp (q + ap)) (fun (q : Nat) => gp (q + ap))
 fun (q : Nat) => wp (q + ap))
 (test (Prod.fst
 (S.leaS np (fun (q : Nat) => tp (q + ap)) (fun (q : Nat) => vp (q + ap)) (fun (q : Nat) => gp (q + ap))
 fun (q : Nat) => wp (q + ap)) ==
 Prod.fst
 (S.leaS np (fun (q : Nat) => tp (q + ap)) (fun (q : Nat) => vp (q + ap)) (fun (q : Nat) => gp (q + ap))
 fun (q : Nat) => wp (q + ap)))
 (test (decide
 (0 +
 List.length
 (Prod.snd
 (S.leaS np (fun (q : Nat) => tp (q + ap)) (fun (q : Nat) => vp (q + ap))
 (fun (q : Nat) => gp (q + ap)) fun (q : Nat) => wp (q + ap))) ≤
 List.length
 (Prod.snd
 (S.leaS np (fun (q : Nat) => tp (q + ap)) (fun (q : Nat) => vp (q + ap)) (fun (q : Nat) => gp (q + ap))
 fun (q : Nat) => wp (q + ap))) ∧
 List.length
 (Prod.snd
 (S.leaS np (fun (q : Nat) => tp (q + ap)) (fun (q : Nat) => vp (q + ap))
 (fun (q : Nat) => gp (q + ap)) fun (q : Nat) => wp (q + ap))) ≤
 1000000 ∧
 0 +
 List.length
 (Prod.snd
 (S.leaS np (fun (q : Nat) => tp (q + ap)) (fun (q : Nat) => vp (q + ap))
 (fun (q : Nat) => gp (q + ap)) fun (q : Nat) => wp (q + ap))) ≤
 List.length
 (Prod.snd
 (S.leaS np (fun (q : Nat) => tp (q + ap)) (fun (q : Nat) => vp (q + ap))
 (fun (q : Nat) => gp (q + ap)) fun (q : Nat) => wp (q + ap))) ∧
 List.length
 (Prod.snd
 (S.leaS np (fun (q : Nat) => tp (q + ap)) (fun (q : Nat) => vp (q + ap))
 (fun (q : Nat) => gp (q + ap)) fun (q : Nat) => wp (q + ap))) ≤
 1000000))
 (test (decide
 ((S.mkl
 (List.length
 (Prod.snd
 (S.leaS np (fun (q : Nat) => tp (q + ap)) (fun (q : Nat) => vp (q + ap)) (fun (q : Nat) => gp (q + ap))
 fun (q : Nat) => wp (q + ap))))
 fun (j : Nat) =>
 S.at'
 (Prod.snd
 (S.leaS np (fun (q : Nat) => tp (q + ap)) (fun (q : Nat) => vp (q + ap)) (fun (q : Nat) => gp (q + ap))
 fun (q : Nat) => wp (q + ap)))
 j) =
 S.mkl
 (List.length
 (Prod.snd
 (S.leaS np (fun (q : Nat) => tp (q + ap)) (fun (q : Nat) => vp (q + ap)) (fun (q : Nat) => gp (q + ap))
 fun (q : Nat) => wp (q + ap))))
 fun (j : Nat) =>
 S.at'
 (Prod.snd
 (S.leaS np (fun (q : Nat) => tp (q + ap)) (fun (q : Nat) => vp (q + ap)) (fun (q : Nat) => gp (q + ap))
 fun (q : Nat) => wp (q + ap)))
 j))
 (test (Prod.fst
 (S.dlyS np (fun (q : Nat) => tp (q + ap)) (fun (q : Nat) => vp (q + ap)) (fun (q : Nat) => gp (q + ap))
 fun (q : Nat) => wp (q + ap)) ==
 Prod.fst
 (S.dlyS np (fun (q : Nat) => tp (q + ap)) (fun (q : Nat) => vp (q + ap)) (fun (q : Nat) => gp (q + ap))
 fun (q : Nat) => wp (q + ap)))
 (test (decide
 (0 +
 List.length
 (Prod.snd
 (S.dlyS np (fun (q : Nat) => tp (q + ap)) (fun (q : Nat) => vp (q + ap))
 (fun (q : Nat) => gp (q + ap)) fun (q : Nat) => wp (q + ap))) ≤
 List.length
 (Prod.snd
 (S.dlyS np (fun (q : Nat) => tp (q + ap)) (fun (q : Nat) => vp (q + ap)) (fun (q : Nat) => gp (q + ap))
 fun (q : Nat) => wp (q + ap))) ∧
 List.length
 (Prod.snd
 (S.dlyS np (fun (q : Nat) => tp (q + ap)) (fun (q : Nat) => vp (q + ap))
 (fun (q : Nat) => gp (q + ap)) fun (q : Nat) => wp (q + ap))) ≤
 1000000 ∧
 0 +
 List.length
 (Prod.snd
 (S.dlyS np (fun (q : Nat) => tp (q + ap)) (fun (q : Nat) => vp (q + ap))
 (fun (q : Nat) => gp (q + ap)) fun (q : Nat) => wp (q + ap))) ≤
 List.length
 (Prod.snd
 (S.dlyS np (fun (q : Nat) => tp (q + ap)) (fun (q : Nat) => vp (q + ap))
 (fun (q : Nat) => gp (q + ap)) fun (q : Nat) => wp (q + ap))) ∧
 List.length
 (Prod.snd
 (S.dlyS np (fun (q : Nat) => tp (q + ap)) (fun (q : Nat) => vp (q + ap))
 (fun (q : Nat) => gp (q + ap)) fun (q : Nat) => wp (q + ap))) ≤
 1000000))
 (test (decide
 ((S.mkl
 (List.length
 (Prod.snd
 (S.dlyS np (fun (q : Nat) => tp (q + ap)) (fun (q : Nat) => vp (q + ap)) (fun (q : Nat) => gp (q + ap))
 fun (q : Nat) => wp (q + ap))))
 fun (j : Nat) =>
 (Prod.fst
 (S.at'
 (Prod.snd
 (S.dlyS np (fun (q : Nat) => tp (q + ap)) (fun (q : Nat) => vp (q + ap))
 (fun (q : Nat) => gp (q + ap)) fun (q : Nat) => wp (q + ap)))
 j),
 Prod.fst
 (Prod.snd
 (S.at'
 (Prod.snd
 (S.dlyS np (fun (q : Nat) => tp (q + ap)) (fun (q : Nat) => vp (q + ap))
 (fun (q : Nat) => gp (q + ap)) fun (q : Nat) => wp (q + ap)))
 j)),
 Prod.fst
 (Prod.snd
 (Prod.snd
 (S.at'
 (Prod.snd
 (S.dlyS np (fun (q : Nat) => tp (q + ap)) (fun (q : Nat) => vp (q + ap))
 (fun (q : Nat) => gp (q + ap)) fun (q : Nat) => wp (q + ap)))
 j))),
 Prod.snd
 (Prod.snd
 (Prod.snd
 (S.at'
 (Prod.snd
 (S.dlyS np (fun (q : Nat) => tp (q + ap)) (fun (q : Nat) => vp (q + ap))
 (fun (q : Nat) => gp (q + ap)) fun (q : Nat) => wp (q + ap)))
 j))))) =
 S.mkl
 (List.length
 (Prod.snd
 (S.dlyS np (fun (q : Nat) => tp (q + ap)) (fun (q : Nat) => vp (q + ap)) (fun (q : Nat) => gp (q + ap))
 fun (q : Nat) => wp (q + ap))))
 fun (j : Nat) =>
 (Prod.fst
 (S.at'
 (Prod.snd
 (S.dlyS np (fun (q : Nat) => tp (q + ap)) (fun (q : Nat) => vp (q + ap))
 (fun (q : Nat) => gp (q + ap)) fun (q : Nat) => wp (q + ap)))
 j),
 Prod.fst
 (Prod.snd
 (S.at'
 (Prod.snd
 (S.dlyS np (fun (q : Nat) => tp (q + ap)) (fun (q : Nat) => vp (q + ap))
 (fun (q : Nat) => gp (q + ap)) fun (q : Nat) => wp (q + ap)))
 j)),
 Prod.fst
 (Prod.snd
 (Prod.snd
 (S.at'
 (Prod.snd
 (S.dlyS np (fun (q : Nat) => tp (q + ap)) (fun (q : Nat) => vp (q + ap))
 (fun (q : Nat) => gp (q + ap)) fun (q : Nat) => wp (q + ap)))
 j))),
 Prod.snd
 (Prod.snd
 (Prod.snd
 (S.at'
 (Prod.snd
 (S.dlyS np (fun (q : Nat) => tp (q + ap)) (fun (q : Nat) => vp (q + ap))
 (fun (q : Nat) => gp (q + ap)) fun (q : Nat) => wp (q + ap)))
 j))))))
 (Kret (PV.tf true) ([[(0, false,
 Blk.cols mp
 [Col.int IntKind.i64 tp, Col.int IntKind.i64 vp, Col.int IntKind.i64 gp,
 Col.int IntKind.i64 wp])]]) (28))
 (Kret (PV.tf false) ([[(0, false,
 Blk.cols mp
 [Col.int IntKind.i64 tp, Col.int IntKind.i64 vp, Col.int IntKind.i64 gp,
 Col.int IntKind.i64 wp])]]) (28)))
 (False))
 (Kret (PV.tf false) ([[(0, false,
 Blk.cols mp
 [Col.int IntKind.i64 tp, Col.int IntKind.i64 vp, Col.int IntKind.i64 gp,
 Col.int IntKind.i64 wp])]]) (27)))
 (Kret (PV.tf false) ([[(0, false,
 Blk.cols mp
 [Col.int IntKind.i64 tp, Col.int IntKind.i64 vp, Col.int IntKind.i64 gp,
 Col.int IntKind.i64 wp])]]) (27)))
 (False))
 (Kret (PV.tf false) ([[(0, false,
 Blk.cols mp
 [Col.int IntKind.i64 tp, Col.int IntKind.i64 vp, Col.int IntKind.i64 gp,
 Col.int IntKind.i64 wp])]]) (26)))
 (Kret (PV.tf false) ([[(0, false,
 Blk.cols mp
 [Col.int IntKind.i64 tp, Col.int IntKind.i64 vp, Col.int IntKind.i64 gp,
 Col.int IntKind.i64 wp])]]) (26)))
 (False))
 (False))
 (False))
 (False))
 (False))
 (False))
 (False))
 (False))
 (False))
 (test (true)
 (test (true)
 (Kret (PV.tf true) ([[(0, false,
 Blk.cols mp
 [Col.int IntKind.i64 tp, Col.int IntKind.i64 vp, Col.int IntKind.i64 gp,
 Col.int IntKind.i64 wp])]]) (5))
 (Kret (PV.tf false) ([[(0, false,
 Blk.cols mp
 [Col.int IntKind.i64 tp, Col.int IntKind.i64 vp, Col.int IntKind.i64 gp,
 Col.int IntKind.i64 wp])]]) (5)))
 (False)))
 (test (true)
 (test (true)
 (Kret (PV.tf true) ([[(0, false,
 Blk.cols mp
 [Col.int IntKind.i64 tp, Col.int IntKind.i64 vp, Col.int IntKind.i64 gp,
 Col.int IntKind.i64 wp])]]) (4))
 (Kret (PV.tf false) ([[(0, false,
 Blk.cols mp
 [Col.int IntKind.i64 tp, Col.int IntKind.i64 vp, Col.int IntKind.i64 gp,
 Col.int IntKind.i64 wp])]]) (4)))
 (False)))
 (False)
set_option maxRecDepth 100000 in
theorem te3 (test : Bool → Prop → Prop → Prop) (Kst : KS) (Kret : KR) (ap np mp : Nat) (tp : Nat → Int) (vp : Nat → Int) (gp : Nat → Int) (wp : Nat → Int) : run test Try.env true (xF test) true 400 ⟨3, [.cd (mkFn Try.f3).body], argT 0 [.agg [.loose ⟨0, 4, ap, 0⟩ np]], [[], [(0, (false, .cols mp [.int .i64 tp, .int .i64 vp, .int .i64 gp, .int .i64 wp]))]], 1⟩ (proj 1 [] Kst Kret) =
  Te3 test Kst Kret ap np mp tp vp gp wp := by kernel_rfl
set_option maxRecDepth 100000 in
theorem be3 (ap np mp : Nat) (tp : Nat → Int) (vp : Nat → Int) (gp : Nat → Int) (wp : Nat → Int) (Kst : KS) (Kret : KR) (x : St3 ⊕ Rt3) (hS : HS 1 400 ((I3 ap np mp tp vp gp wp)) Kst x) (hR : HR 1 400 ((V3 ap np mp tp vp gp wp)) (fun r => [newL (1 + 1) ((N3 ap np mp tp vp gp wp) r) ++ [(0, (false, .cols mp [.int .i64 tp, .int .i64 vp, .int .i64 gp, .int .i64 wp]))]]) Kret x) (h : (bif (decide ((↑np : Int) ≤ (70 : Int)))
 then (bif (decide (ap + np ≤ mp ∧ np ≤ 1000000))
 then (bif (decide (0 + np ≤ np ∧ np ≤ 1000000))
 then (bif ((S.treE np (fun (q : Nat) => tp (q + ap)) (fun (q : Nat) => vp (q + ap)) (fun (q : Nat) => gp (q + ap))
 fun (q : Nat) => wp (q + ap)) ==
 S.treE np (fun (q : Nat) => tp (q + ap)) (fun (q : Nat) => vp (q + ap)) (fun (q : Nat) => gp (q + ap))
 fun (q : Nat) => wp (q + ap))
 then (bif (Prod.fst
 (S.leaS np (fun (q : Nat) => tp (q + ap)) (fun (q : Nat) => vp (q + ap)) (fun (q : Nat) => gp (q + ap))
 fun (q : Nat) => wp (q + ap)) ==
 Prod.fst
 (S.leaS np (fun (q : Nat) => tp (q + ap)) (fun (q : Nat) => vp (q + ap)) (fun (q : Nat) => gp (q + ap))
 fun (q : Nat) => wp (q + ap)))
 then (bif (decide
 (0 +
 List.length
 (Prod.snd
 (S.leaS np (fun (q : Nat) => tp (q + ap)) (fun (q : Nat) => vp (q + ap))
 (fun (q : Nat) => gp (q + ap)) fun (q : Nat) => wp (q + ap))) ≤
 List.length
 (Prod.snd
 (S.leaS np (fun (q : Nat) => tp (q + ap)) (fun (q : Nat) => vp (q + ap)) (fun (q : Nat) => gp (q + ap))
 fun (q : Nat) => wp (q + ap))) ∧
 List.length
 (Prod.snd
 (S.leaS np (fun (q : Nat) => tp (q + ap)) (fun (q : Nat) => vp (q + ap))
 (fun (q : Nat) => gp (q + ap)) fun (q : Nat) => wp (q + ap))) ≤
 1000000 ∧
 0 +
 List.length
 (Prod.snd
 (S.leaS np (fun (q : Nat) => tp (q + ap)) (fun (q : Nat) => vp (q + ap))
 (fun (q : Nat) => gp (q + ap)) fun (q : Nat) => wp (q + ap))) ≤
 List.length
 (Prod.snd
 (S.leaS np (fun (q : Nat) => tp (q + ap)) (fun (q : Nat) => vp (q + ap))
 (fun (q : Nat) => gp (q + ap)) fun (q : Nat) => wp (q + ap))) ∧
 List.length
 (Prod.snd
 (S.leaS np (fun (q : Nat) => tp (q + ap)) (fun (q : Nat) => vp (q + ap))
 (fun (q : Nat) => gp (q + ap)) fun (q : Nat) => wp (q + ap))) ≤
 1000000))
 then (bif (decide
 ((S.mkl
 (List.length
 (Prod.snd
 (S.leaS np (fun (q : Nat) => tp (q + ap)) (fun (q : Nat) => vp (q + ap)) (fun (q : Nat) => gp (q + ap))
 fun (q : Nat) => wp (q + ap))))
 fun (j : Nat) =>
 S.at'
 (Prod.snd
 (S.leaS np (fun (q : Nat) => tp (q + ap)) (fun (q : Nat) => vp (q + ap)) (fun (q : Nat) => gp (q + ap))
 fun (q : Nat) => wp (q + ap)))
 j) =
 S.mkl
 (List.length
 (Prod.snd
 (S.leaS np (fun (q : Nat) => tp (q + ap)) (fun (q : Nat) => vp (q + ap)) (fun (q : Nat) => gp (q + ap))
 fun (q : Nat) => wp (q + ap))))
 fun (j : Nat) =>
 S.at'
 (Prod.snd
 (S.leaS np (fun (q : Nat) => tp (q + ap)) (fun (q : Nat) => vp (q + ap)) (fun (q : Nat) => gp (q + ap))
 fun (q : Nat) => wp (q + ap)))
 j))
 then (bif (Prod.fst
 (S.dlyS np (fun (q : Nat) => tp (q + ap)) (fun (q : Nat) => vp (q + ap)) (fun (q : Nat) => gp (q + ap))
 fun (q : Nat) => wp (q + ap)) ==
 Prod.fst
 (S.dlyS np (fun (q : Nat) => tp (q + ap)) (fun (q : Nat) => vp (q + ap)) (fun (q : Nat) => gp (q + ap))
 fun (q : Nat) => wp (q + ap)))
 then (bif (decide
 (0 +
 List.length
 (Prod.snd
 (S.dlyS np (fun (q : Nat) => tp (q + ap)) (fun (q : Nat) => vp (q + ap))
 (fun (q : Nat) => gp (q + ap)) fun (q : Nat) => wp (q + ap))) ≤
 List.length
 (Prod.snd
 (S.dlyS np (fun (q : Nat) => tp (q + ap)) (fun (q : Nat) => vp (q + ap)) (fun (q : Nat) => gp (q + ap))
 fun (q : Nat) => wp (q + ap))) ∧
 List.length
 (Prod.snd
 (S.dlyS np (fun (q : Nat) => tp (q + ap)) (fun (q : Nat) => vp (q + ap))
 (fun (q : Nat) => gp (q + ap)) fun (q : Nat) => wp (q + ap))) ≤
 1000000 ∧
 0 +
 List.length
 (Prod.snd
 (S.dlyS np (fun (q : Nat) => tp (q + ap)) (fun (q : Nat) => vp (q + ap))
 (fun (q : Nat) => gp (q + ap)) fun (q : Nat) => wp (q + ap))) ≤
 List.length
 (Prod.snd
 (S.dlyS np (fun (q : Nat) => tp (q + ap)) (fun (q : Nat) => vp (q + ap))
 (fun (q : Nat) => gp (q + ap)) fun (q : Nat) => wp (q + ap))) ∧
 List.length
 (Prod.snd
 (S.dlyS np (fun (q : Nat) => tp (q + ap)) (fun (q : Nat) => vp (q + ap))
 (fun (q : Nat) => gp (q + ap)) fun (q : Nat) => wp (q + ap))) ≤
 1000000))
 then (bif (decide
 ((S.mkl
 (List.length
 (Prod.snd
 (S.dlyS np (fun (q : Nat) => tp (q + ap)) (fun (q : Nat) => vp (q + ap)) (fun (q : Nat) => gp (q + ap))
 fun (q : Nat) => wp (q + ap))))
 fun (j : Nat) =>
 (Prod.fst
 (S.at'
 (Prod.snd
 (S.dlyS np (fun (q : Nat) => tp (q + ap)) (fun (q : Nat) => vp (q + ap))
 (fun (q : Nat) => gp (q + ap)) fun (q : Nat) => wp (q + ap)))
 j),
 Prod.fst
 (Prod.snd
 (S.at'
 (Prod.snd
 (S.dlyS np (fun (q : Nat) => tp (q + ap)) (fun (q : Nat) => vp (q + ap))
 (fun (q : Nat) => gp (q + ap)) fun (q : Nat) => wp (q + ap)))
 j)),
 Prod.fst
 (Prod.snd
 (Prod.snd
 (S.at'
 (Prod.snd
 (S.dlyS np (fun (q : Nat) => tp (q + ap)) (fun (q : Nat) => vp (q + ap))
 (fun (q : Nat) => gp (q + ap)) fun (q : Nat) => wp (q + ap)))
 j))),
 Prod.snd
 (Prod.snd
 (Prod.snd
 (S.at'
 (Prod.snd
 (S.dlyS np (fun (q : Nat) => tp (q + ap)) (fun (q : Nat) => vp (q + ap))
 (fun (q : Nat) => gp (q + ap)) fun (q : Nat) => wp (q + ap)))
 j))))) =
 S.mkl
 (List.length
 (Prod.snd
 (S.dlyS np (fun (q : Nat) => tp (q + ap)) (fun (q : Nat) => vp (q + ap)) (fun (q : Nat) => gp (q + ap))
 fun (q : Nat) => wp (q + ap))))
 fun (j : Nat) =>
 (Prod.fst
 (S.at'
 (Prod.snd
 (S.dlyS np (fun (q : Nat) => tp (q + ap)) (fun (q : Nat) => vp (q + ap))
 (fun (q : Nat) => gp (q + ap)) fun (q : Nat) => wp (q + ap)))
 j),
 Prod.fst
 (Prod.snd
 (S.at'
 (Prod.snd
 (S.dlyS np (fun (q : Nat) => tp (q + ap)) (fun (q : Nat) => vp (q + ap))
 (fun (q : Nat) => gp (q + ap)) fun (q : Nat) => wp (q + ap)))
 j)),
 Prod.fst
 (Prod.snd
 (Prod.snd
 (S.at'
 (Prod.snd
 (S.dlyS np (fun (q : Nat) => tp (q + ap)) (fun (q : Nat) => vp (q + ap))
 (fun (q : Nat) => gp (q + ap)) fun (q : Nat) => wp (q + ap)))
 j))),
 Prod.snd
 (Prod.snd
 (Prod.snd
 (S.at'
 (Prod.snd
 (S.dlyS np (fun (q : Nat) => tp (q + ap)) (fun (q : Nat) => vp (q + ap))
 (fun (q : Nat) => gp (q + ap)) fun (q : Nat) => wp (q + ap)))
 j))))))
 then (some (.inr (true)))
 else (some (.inr (false))))
 else (none))
 else (some (.inr (false))))
 else (some (.inr (false))))
 else (none))
 else (some (.inr (false))))
 else (some (.inr (false))))
 else (none))
 else (none))
 else (some (.inr (true))) : Option (St3 ⊕ Rt3)) = some x) : Te3 cond Kst Kret ap np mp tp vp gp wp := by
  unfold Te3
  exact cond_yes rfl (cond_yes rfl (bif_split h
   (fun c0 h => bif_split h
   (fun c1 h => bif_split h
   (fun c2 h => cond_yes c1 (cond_yes c1 (cond_yes c2 (cond_yes c1 (cond_yes c1 (cond_yes c2 (cond_yes c1 (bif_split h
   (fun c3 h => bif_split h
   (fun c4 h => bif_split h
   (fun c5 h => bif_split h
   (fun c6 h => bif_split h
   (fun c7 h => bif_split h
   (fun c8 h => bif_split h
   (fun c9 h => ret_at hR _ h (fun n => n) rfl rfl rfl (rn_bool_tf rfl) rfl (entl_bor (use_lo rfl) rfl rfl entl_nil))
   (fun c9 h => ret_at hR _ h (fun n => n) rfl rfl rfl (rn_bool_tf rfl) rfl (entl_bor (use_lo rfl) rfl rfl entl_nil)))
   (fun c8 h => no_some h))
   (fun c7 h => ret_at hR _ h (fun n => n) rfl rfl rfl (rn_bool_tf rfl) rfl (entl_bor (use_lo rfl) rfl rfl entl_nil)))
   (fun c6 h => ret_at hR _ h (fun n => n) rfl rfl rfl (rn_bool_tf rfl) rfl (entl_bor (use_lo rfl) rfl rfl entl_nil)))
   (fun c5 h => no_some h))
   (fun c4 h => ret_at hR _ h (fun n => n) rfl rfl rfl (rn_bool_tf rfl) rfl (entl_bor (use_lo rfl) rfl rfl entl_nil)))
   (fun c3 h => ret_at hR _ h (fun n => n) rfl rfl rfl (rn_bool_tf rfl) rfl (entl_bor (use_lo rfl) rfl rfl entl_nil))))))))))
   (fun c2 h => no_some h))
   (fun c1 h => no_some h))
   (fun c0 h => cond_yes rfl (cond_yes rfl (ret_at hR _ h (fun n => n) rfl rfl rfl (rn_bool_tf rfl) rfl (entl_bor (use_lo rfl) rfl rfl entl_nil))))))
theorem a3 (ap np mp : Nat) (tp : Nat → Int) (vp : Nat → Int) (gp : Nat → Int) (wp : Nat → Int) {r : Rt3} (h : Goes ((q3 ap np mp tp vp gp wp)) ((p3 ap np mp tp vp gp wp)) r) : CallR Try.prog 3 [.agg [.loose ⟨0, 4, ap, 0⟩ np]] [[(0, (false, .cols mp [.int .i64 tp, .int .i64 vp, .int .i64 gp, .int .i64 wp]))]] 1 ((V3 ap np mp tp vp gp wp) r) ((fun r => [newL (1 + 1) ((N3 ap np mp tp vp gp wp) r) ++ [(0, (false, .cols mp [.int .i64 tp, .int .i64 vp, .int .i64 gp, .int .i64 wp]))]]) r) 400 ∧ ∃ F, Try.prog.funcs[3]? = some F ∧ F.body.isSome = true ∧ (F.name == "runtime.NumGoroutine") = false := by
  refine dec_calls (f := 3) (lo := 1) (hi := 400) (H := [[(0, (false, .cols mp [.int .i64 tp, .int .i64 vp, .int .i64 gp, .int .i64 wp]))]]) (args := [.agg [.loose ⟨0, 4, ap, 0⟩ np]]) Try.envOk Try.mixed xF_ok ((I3 ap np mp tp vp gp wp)) ((V3 ap np mp tp vp gp wp)) (fun r => [newL (1 + 1) ((N3 ap np mp tp vp gp wp) r) ++ [(0, (false, .cols mp [.int .i64 tp, .int .i64 vp, .int .i64 gp, .int .i64 wp]))]]) (fn := mkFn Try.f3) (ts := []) (n := 400) rfl (by decide) (by simp) (names_of rfl) ?_ ?_ ?_ h
  · intro s; exact s.elim
  · intro Kst Kret x hS hR h
    exact Holds.eq (te3 cond Kst Kret ap np mp tp vp gp wp) (be3 ap np mp tp vp gp wp Kst Kret x hS hR h)
  · intro Kst Kret x hS hR s h; exact s.elim
noncomputable def k3 : Con := ⟨3, [.agg [.list [.int .i64, .int .i64, .int .i64, .int .i64]]], fun (x : ((Nat × Nat × Nat × (Nat → Int) × (Nat → Int) × (Nat → Int) × (Nat → Int) × Unit) × Unit) × Unit) => (fun (ap np mp : Nat) (tp : Nat → Int) (vp : Nat → Int) (gp : Nat → Int) (wp : Nat → Int) => decide (ap + np ≤ mp)) x.1.1.1 x.1.1.2.1 x.1.1.2.2.1 x.1.1.2.2.2.1 x.1.1.2.2.2.2.1 x.1.1.2.2.2.2.2.1 x.1.1.2.2.2.2.2.2.1, fun (x : ((Nat × Nat × Nat × (Nat → Int) × (Nat → Int) × (Nat → Int) × (Nat → Int) × Unit) × Unit) × Unit) => (fun (ap np mp : Nat) (tp : Nat → Int) (vp : Nat → Int) (gp : Nat → Int) (wp : Nat → Int) => (V3 ap np mp tp vp gp wp) (true)) x.1.1.1 x.1.1.2.1 x.1.1.2.2.1 x.1.1.2.2.2.1 x.1.1.2.2.2.2.1 x.1.1.2.2.2.2.2.1 x.1.1.2.2.2.2.2.2.1, fun (x : ((Nat × Nat × Nat × (Nat → Int) × (Nat → Int) × (Nat → Int) × (Nat → Int) × Unit) × Unit) × Unit) => (fun (ap np mp : Nat) (tp : Nat → Int) (vp : Nat → Int) (gp : Nat → Int) (wp : Nat → Int) => (N3 ap np mp tp vp gp wp) (true)) x.1.1.1 x.1.1.2.1 x.1.1.2.2.1 x.1.1.2.2.2.1 x.1.1.2.2.2.2.1 x.1.1.2.2.2.2.2.1 x.1.1.2.2.2.2.2.2.1, fun _ _ => .dead⟩
theorem s3 (ap np mp : Nat) (tp : Nat → Int) (vp : Nat → Int) (gp : Nat → Int) (wp : Nat → Int) (hp : ap + np ≤ mp) : Goes ((q3 ap np mp tp vp gp wp)) ((p3 ap np mp tp vp gp wp)) (true) := by
  unfold p3
  by_cases hn : np ≤ 70
  · skip
    have l1 := lea_len (n := np) (p := (fun q => tp (q + ap))) (d := (fun q => vp (q + ap))) (u := (fun q => gp (q + ap))) (j := (fun q => wp (q + ap)))
    have l2 := dly_len (n := np) (p := (fun q => tp (q + ap))) (d := (fun q => vp (q + ap))) (u := (fun q => gp (q + ap))) (j := (fun q => wp (q + ap)))
    generalize S.leaS np (fun q => tp (q + ap)) (fun q => vp (q + ap)) (fun q => gp (q + ap)) (fun q => wp (q + ap)) = P1 at *
    generalize S.dlyS np (fun q => tp (q + ap)) (fun q => vp (q + ap)) (fun q => gp (q + ap)) (fun q => wp (q + ap)) = P2 at *
    generalize S.treE np (fun q => tp (q + ap)) (fun q => vp (q + ap)) (fun q => gp (q + ap)) (fun q => wp (q + ap)) = E1 at *
    repeat' first
      | with_reducible exact goes_inr.mpr rfl
      | (refine goes_ok ?_ ?_; focus (first | with_reducible exact beq_self_eq_true _ | (simp only [Bool.and_eq_true, decide_eq_true_eq, and_self, eq_self]; done) | with_reducible exact decide_eq_true trivial | with_reducible exact decide_eq_true rfl | (simp only [eq_self, decide_true, Bool.and_self, Bool.and_true, Bool.true_and]; done) | (apply decide_eq_true; omega) | (rw [lim64]; apply decide_eq_true; omega) | (apply decide_eq_true; simp only [mkl_len, mkl_zero, List.length_nil, true_and, and_true, and_self, Nat.zero_add, Nat.add_zero, Nat.le_refl]; done) | (apply decide_eq_true; simp only [mkl_len, mkl_zero, List.length_nil, true_and, and_true, and_self, Nat.zero_add, Nat.add_zero, Nat.le_refl]; omega) | decide))
      | (refine goes_no ?_ ?_; focus (first | with_reducible exact bne_self_eq_false _ | (apply decide_eq_false; omega) | decide))
  · repeat' first
      | with_reducible exact goes_inr.mpr rfl
      | (refine goes_no ?_ ?_; focus (apply decide_eq_false; omega))
      | (refine goes_ok ?_ ?_; focus (apply decide_eq_true; omega))

theorem k3_ok : k3.ok Try.prog := by
  intro x hx
  obtain ⟨⟨⟨ap, np, mp, tp, vp, gp, wp, _⟩, _⟩, _⟩ := x
  obtain ⟨h1, h2⟩ := a3 ap np mp tp vp gp wp (s3 ap np mp tp vp gp wp (of_dec hx rfl))
  exact ⟨⟨400, (by decide : 1 + 1 + 0 ≤ 400), h1⟩, h2⟩

end Go.Ev
