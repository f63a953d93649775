/-
  Possible.
-/
import Derived.Test.YtjkdcbkgfjdoeaaA2x
namespace Go.Ev
open Go.Proofs
set_option linter.unusedVariables false
set_option linter.unusedSimpArgs false
set_option maxRecDepth 100000
abbrev St46 := Empty
abbrev Rt46 := Bool
noncomputable def V46 (ph : Int) (ev : Bool) (ap np mp : Nat) (tp : Nat → Int) (vp : Nat → Int) (gp : Nat → Int) (st : Int) (r : Rt46) : PV := PV.bool r
noncomputable def N46 (ph : Int) (ev : Bool) (ap np mp : Nat) (tp : Nat → Int) (vp : Nat → Int) (gp : Nat → Int) (st : Int) (r : Rt46) : List Blk := []
noncomputable def I46 (ph : Int) (ev : Bool) (ap np mp : Nat) (tp : Nat → Int) (vp : Nat → Int) (gp : Nat → Int) (st : Int) : St46 → Hd := fun s => s.elim
noncomputable def q46 (ph : Int) (ev : Bool) (ap np mp : Nat) (tp : Nat → Int) (vp : Nat → Int) (gp : Nat → Int) (st : Int) : St46 → Option (St46 ⊕ Rt46) := fun s => s.elim
noncomputable def p46 (ph : Int) (ev : Bool) (ap np mp : Nat) (tp : Nat → Int) (vp : Nat → Int) (gp : Nat → Int) (st : Int) : Option (St46 ⊕ Rt46) := bif (st == (80 : Int))
 then (bif (ph == (0 : Int))
 then (some (.inr (true)))
 else (some (.inr (false))))
 else (bif (st == (81 : Int))
 then (bif (ph == (3 : Int))
 then (some (.inr (true)))
 else (some (.inr (false))))
 else (bif (decide (st ≥ (82 : Int)))
 then (bif (lim IntKind.i64 (st - (82 : Int)))
 then (bif (decide (st - (82 : Int) < (↑np : Int)))
 then (bif (decide ((0 : Int) ≤ st - (82 : Int) ∧ st - (82 : Int) < (↑np : Int)))
 then (bif (decide (Int.toNat (st - (82 : Int)) + ap < mp))
 then (bif (vp (Int.toNat (st - (82 : Int)) + ap) != (0 : Int))
 then (some (.inr (false)))
 else (bif (ph == (0 : Int))
 then (bif (decide (gp (Int.toNat (st - (82 : Int)) + ap) ≤ (1 : Int)))
 then (some (.inr (true)))
 else (bif (ph == (1 : Int))
 then (bif (gp (Int.toNat (st - (82 : Int)) + ap) != (4 : Int))
 then (some (.inr (true)))
 else (bif (ph == (2 : Int))
 then (some (.inr (true)))
 else (some (.inr (false)))))
 else (bif (ph == (2 : Int))
 then (some (.inr (true)))
 else (some (.inr (false))))))
 else (bif (ph == (1 : Int))
 then (bif (gp (Int.toNat (st - (82 : Int)) + ap) != (4 : Int))
 then (some (.inr (true)))
 else (bif (ph == (2 : Int))
 then (some (.inr (true)))
 else (some (.inr (false)))))
 else (bif (ph == (2 : Int))
 then (some (.inr (true)))
 else (some (.inr (false)))))))
 else (none))
 else (none))
 else (some (.inr (false))))
 else (none))
 else (bif (decide (st < (0 : Int)))
 then (some (.inr (false)))
 else (bif (lim IntKind.i64 (Int.tdiv st (10 : Int)))
 then (bif (decide (Int.tdiv st (10 : Int) ≥ (↑np : Int)))
 then (some (.inr (false)))
 else (bif (decide ((0 : Int) ≤ Int.tdiv st (10 : Int) ∧ Int.tdiv st (10 : Int) < (↑np : Int)))
 then (bif (decide (Int.toNat (Int.tdiv st (10 : Int)) + ap < mp))
 then (bif (Int.tmod st (10 : Int) == (0 : Int))
 then (bif (vp (Int.toNat (Int.tdiv st (10 : Int)) + ap) != (0 : Int))
 then (bif (decide (tp (Int.toNat (Int.tdiv st (10 : Int)) + ap) < (5 : Int)))
 then (some (.inr (true)))
 else (some (.inr (false))))
 else (some (.inr (false))))
 else (bif (Int.tmod st (10 : Int) == (1 : Int))
 then (bif (vp (Int.toNat (Int.tdiv st (10 : Int)) + ap) != (0 : Int))
 then (some (.inr (true)))
 else (some (.inr (false))))
 else (bif (Int.tmod st (10 : Int) == (2 : Int))
 then (bif (gp (Int.toNat (Int.tdiv st (10 : Int)) + ap) == (1 : Int))
 then (some (.inr (true)))
 else (bif (gp (Int.toNat (Int.tdiv st (10 : Int)) + ap) == (3 : Int))
 then (some (.inr (true)))
 else (some (.inr (false)))))
 else (bif (Int.tmod st (10 : Int) == (3 : Int))
 then (bif (gp (Int.toNat (Int.tdiv st (10 : Int)) + ap) == (1 : Int))
 then (some (.inr (true)))
 else (bif (gp (Int.toNat (Int.tdiv st (10 : Int)) + ap) == (3 : Int))
 then (some (.inr (true)))
 else (some (.inr (false)))))
 else (bif (Int.tmod st (10 : Int) == (4 : Int))
 then (bif (decide (tp (Int.toNat (Int.tdiv st (10 : Int)) + ap) ≤ (2 : Int)))
 then (some (.inr (true)))
 else (some (.inr (false))))
 else (bif (Int.tmod st (10 : Int) == (5 : Int))
 then (bif (decide (tp (Int.toNat (Int.tdiv st (10 : Int)) + ap) < (5 : Int)))
 then (some (.inr (false)))
 else (some (.inr (true))))
 else (bif (Int.tmod st (10 : Int) == (6 : Int))
 then (bif (tp (Int.toNat (Int.tdiv st (10 : Int)) + ap) == (1 : Int))
 then (bif (gp (Int.toNat (Int.tdiv st (10 : Int)) + ap) == (0 : Int))
 then (some (.inr (true)))
 else (bif (tp (Int.toNat (Int.tdiv st (10 : Int)) + ap) == (2 : Int))
 then (bif (gp (Int.toNat (Int.tdiv st (10 : Int)) + ap) == (2 : Int))
 then (some (.inr (true)))
 else (some (.inr (false))))
 else (bif (tp (Int.toNat (Int.tdiv st (10 : Int)) + ap) == (4 : Int))
 then (bif (gp (Int.toNat (Int.tdiv st (10 : Int)) + ap) == (2 : Int))
 then (some (.inr (true)))
 else (some (.inr (false))))
 else (some (.inr (false))))))
 else (bif (tp (Int.toNat (Int.tdiv st (10 : Int)) + ap) == (2 : Int))
 then (bif (gp (Int.toNat (Int.tdiv st (10 : Int)) + ap) == (2 : Int))
 then (some (.inr (true)))
 else (some (.inr (false))))
 else (bif (tp (Int.toNat (Int.tdiv st (10 : Int)) + ap) == (4 : Int))
 then (bif (gp (Int.toNat (Int.tdiv st (10 : Int)) + ap) == (2 : Int))
 then (some (.inr (true)))
 else (some (.inr (false))))
 else (some (.inr (false))))))
 else (bif (Int.tmod st (10 : Int) == (7 : Int))
 then (bif (ev)
 then (bif (tp (Int.toNat (Int.tdiv st (10 : Int)) + ap) == (2 : Int))
 then (some (.inr (true)))
 else (some (.inr (false))))
 else (some (.inr (false))))
 else (bif (Int.tmod st (10 : Int) == (8 : Int))
 then (bif (vp (Int.toNat (Int.tdiv st (10 : Int)) + ap) == (1 : Int))
 then (bif (tp (Int.toNat (Int.tdiv st (10 : Int)) + ap) == (0 : Int))
 then (some (.inr (true)))
 else (some (.inr (false))))
 else (some (.inr (false))))
 else (some (.inr (false))))))))))))
 else (none))
 else (none)))
 else (none)))))
noncomputable def Te46 (test : Bool → Prop → Prop → Prop) (Kst : KS) (Kret : KR) (ph : Int) (ev : Bool) (ap np mp : Nat) (tp : Nat → Int) (vp : Nat → Int) (gp : Nat → Int) (st : Int) : Prop :=
  test (st == (80 : Int))
 (test (ph == (0 : Int))
 (Kret (PV.tf true) ([[(0, false,
 Blk.cols mp
 [Col.int IntKind.i64 tp, Col.int IntKind.i64 vp, Col.int IntKind.i64 gp])]]) (2))
 (Kret (PV.tf false) ([[(0, false,
 Blk.cols mp
 [Col.int IntKind.i64 tp, Col.int IntKind.i64 vp, Col.int IntKind.i64 gp])]]) (2)))
 (test (st == (81 : Int))
 (test (ph == (3 : Int))
 (Kret (PV.tf true) ([[(0, false,
 Blk.cols mp
 [Col.int IntKind.i64 tp, Col.int IntKind.i64 vp, Col.int IntKind.i64 gp])]]) (2))
 (Kret (PV.tf false) ([[(0, false,
 Blk.cols mp
 [Col.int IntKind.i64 tp, Col.int IntKind.i64 vp, Col.int IntKind.i64 gp])]]) (2)))
 (test (decide (st ≥ (82 : Int)))
 (test (lim IntKind.i64 (st - (82 : Int)))
 (test (decide (st - (82 : Int) < (↑np : Int)))
 (test (lim IntKind.i64 (st - (82 : Int)))
 (test (decide ((0 : Int) ≤ st - (82 : Int) ∧ st - (82 : Int) < (↑np : Int)))
 (test (decide (Int.toNat (st - (82 : Int)) + ap < mp))
 (test (decide (Int.toNat (st - (82 : Int)) + ap < mp))
 (test (decide (Int.toNat (st - (82 : Int)) + ap < mp))
 (test (vp (Int.toNat (st - (82 : Int)) + ap) != (0 : Int))
 (test (false)
 (Kret (PV.tf true) ([[(0, false,
 Blk.cols mp
 [Col.int IntKind.i64 tp, Col.int IntKind.i64 vp, Col.int IntKind.i64 gp])]]) (4))
 (Kret (PV.tf false) ([[(0, false,
 Blk.cols mp
 [Col.int IntKind.i64 tp, Col.int IntKind.i64 vp, Col.int IntKind.i64 gp])]]) (4)))
 (test (ph == (0 : Int))
 (test (decide (gp (Int.toNat (st - (82 : Int)) + ap) ≤ (1 : Int)))
 (test (true)
 (Kret (PV.tf true) ([[(0, false,
 Blk.cols mp
 [Col.int IntKind.i64 tp, Col.int IntKind.i64 vp, Col.int IntKind.i64 gp])]]) (4))
 (Kret (PV.tf false) ([[(0, false,
 Blk.cols mp
 [Col.int IntKind.i64 tp, Col.int IntKind.i64 vp, Col.int IntKind.i64 gp])]]) (4)))
 (test (ph == (1 : Int))
 (test (gp (Int.toNat (st - (82 : Int)) + ap) != (4 : Int))
 (test (true)
 (Kret (PV.tf true) ([[(0, false,
 Blk.cols mp
 [Col.int IntKind.i64 tp, Col.int IntKind.i64 vp, Col.int IntKind.i64 gp])]]) (4))
 (Kret (PV.tf false) ([[(0, false,
 Blk.cols mp
 [Col.int IntKind.i64 tp, Col.int IntKind.i64 vp, Col.int IntKind.i64 gp])]]) (4)))
 (test (ph == (2 : Int))
 (test (true)
 (Kret (PV.tf true) ([[(0, false,
 Blk.cols mp
 [Col.int IntKind.i64 tp, Col.int IntKind.i64 vp, Col.int IntKind.i64 gp])]]) (4))
 (Kret (PV.tf false) ([[(0, false,
 Blk.cols mp
 [Col.int IntKind.i64 tp, Col.int IntKind.i64 vp, Col.int IntKind.i64 gp])]]) (4)))
 (test (false)
 (Kret (PV.tf true) ([[(0, false,
 Blk.cols mp
 [Col.int IntKind.i64 tp, Col.int IntKind.i64 vp, Col.int IntKind.i64 gp])]]) (4))
 (Kret (PV.tf false) ([[(0, false,
 Blk.cols mp
 [Col.int IntKind.i64 tp, Col.int IntKind.i64 vp, Col.int IntKind.i64 gp])]]) (4)))))
 (test (ph == (2 : Int))
 (test (true)
 (Kret (PV.tf true) ([[(0, false,
 Blk.cols mp
 [Col.int IntKind.i64 tp, Col.int IntKind.i64 vp, Col.int IntKind.i64 gp])]]) (4))
 (Kret (PV.tf false) ([[(0, false,
 Blk.cols mp
 [Col.int IntKind.i64 tp, Col.int IntKind.i64 vp, Col.int IntKind.i64 gp])]]) (4)))
 (test (false)
 (Kret (PV.tf true) ([[(0, false,
 Blk.cols mp
 [Col.int IntKind.i64 tp, Col.int IntKind.i64 vp, Col.int IntKind.i64 gp])]]) (4))
 (Kret (PV.tf false) ([[(0, false,
 Blk.cols mp
 [Col.int IntKind.i64 tp, Col.int IntKind.i64 vp, Col.int IntKind.i64 gp])]]) (4))))))
 (test (ph == (1 : Int))
 (test (gp (Int.toNat (st - (82 : Int)) + ap) != (4 : Int))
 (test (true)
 (Kret (PV.tf true) ([[(0, false,
 Blk.cols mp
 [Col.int IntKind.i64 tp, Col.int IntKind.i64 vp, Col.int IntKind.i64 gp])]]) (4))
 (Kret (PV.tf false) ([[(0, false,
 Blk.cols mp
 [Col.int IntKind.i64 tp, Col.int IntKind.i64 vp, Col.int IntKind.i64 gp])]]) (4)))
 (test (ph == (2 : Int))
 (test (true)
 (Kret (PV.tf true) ([[(0, false,
 Blk.cols mp
 [Col.int IntKind.i64 tp, Col.int IntKind.i64 vp, Col.int IntKind.i64 gp])]]) (4))
 (Kret (PV.tf false) ([[(0, false,
 Blk.cols mp
 [Col.int IntKind.i64 tp, Col.int IntKind.i64 vp, Col.int IntKind.i64 gp])]]) (4)))
 (test (false)
 (Kret (PV.tf true) ([[(0, false,
 Blk.cols mp
 [Col.int IntKind.i64 tp, Col.int IntKind.i64 vp, Col.int IntKind.i64 gp])]]) (4))
 (Kret (PV.tf false) ([[(0, false,
 Blk.cols mp
 [Col.int IntKind.i64 tp, Col.int IntKind.i64 vp, Col.int IntKind.i64 gp])]]) (4)))))
 (test (ph == (2 : Int))
 (test (true)
 (Kret (PV.tf true) ([[(0, false,
 Blk.cols mp
 [Col.int IntKind.i64 tp, Col.int IntKind.i64 vp, Col.int IntKind.i64 gp])]]) (4))
 (Kret (PV.tf false) ([[(0, false,
 Blk.cols mp
 [Col.int IntKind.i64 tp, Col.int IntKind.i64 vp, Col.int IntKind.i64 gp])]]) (4)))
 (test (false)
 (Kret (PV.tf true) ([[(0, false,
 Blk.cols mp
 [Col.int IntKind.i64 tp, Col.int IntKind.i64 vp, Col.int IntKind.i64 gp])]]) (4))
 (Kret (PV.tf false) ([[(0, false,
 Blk.cols mp
 [Col.int IntKind.i64 tp, Col.int IntKind.i64 vp, Col.int IntKind.i64 gp])]]) (4)))))))
 (False))
 (False))
 (False))
 (False))
 (False))
 (Kret (PV.tf false) ([[(0, false,
 Blk.cols mp
 [Col.int IntKind.i64 tp, Col.int IntKind.i64 vp, Col.int IntKind.i64 gp])]]) (2)))
 (False))
 (test (decide (st < (0 : Int)))
 (Kret (PV.tf false) ([[(0, false,
 Blk.cols mp
 [Col.int IntKind.i64 tp, Col.int IntKind.i64 vp, Col.int IntKind.i64 gp])]]) (2))
 (test (false)
 (False)
 (test (lim IntKind.i64 (Int.tdiv st (10 : Int)))
 (test (decide (Int.tdiv st (10 : Int) ≥ (↑np : Int)))
 (Kret (PV.tf false) ([[(0, false,
 Blk.cols mp
 [Col.int IntKind.i64 tp, Col.int IntKind.i64 vp, Col.int IntKind.i64 gp])]]) (2))
 (test (false)
 (False)
 (test (lim IntKind.i64 (Int.tdiv st (10 : Int)))
 (test (decide ((0 : Int) ≤ Int.tdiv st (10 : Int) ∧ Int.tdiv st (10 : Int) < (↑np : Int)))
 (test (decide (Int.toNat (Int.tdiv st (10 : Int)) + ap < mp))
 (test (decide (Int.toNat (Int.tdiv st (10 : Int)) + ap < mp))
 (test (decide (Int.toNat (Int.tdiv st (10 : Int)) + ap < mp))
 (test (false)
 (False)
 (test (Int.tmod st (10 : Int) == (0 : Int))
 (test (vp (Int.toNat (Int.tdiv st (10 : Int)) + ap) != (0 : Int))
 (test (decide (tp (Int.toNat (Int.tdiv st (10 : Int)) + ap) < (5 : Int)))
 (Kret (PV.tf true) ([[(0, false,
 Blk.cols mp
 [Col.int IntKind.i64 tp, Col.int IntKind.i64 vp, Col.int IntKind.i64 gp])]]) (4))
 (Kret (PV.tf false) ([[(0, false,
 Blk.cols mp
 [Col.int IntKind.i64 tp, Col.int IntKind.i64 vp, Col.int IntKind.i64 gp])]]) (4)))
 (Kret (PV.tf false) ([[(0, false,
 Blk.cols mp
 [Col.int IntKind.i64 tp, Col.int IntKind.i64 vp, Col.int IntKind.i64 gp])]]) (3)))
 (test (Int.tmod st (10 : Int) == (1 : Int))
 (test (vp (Int.toNat (Int.tdiv st (10 : Int)) + ap) != (0 : Int))
 (Kret (PV.tf true) ([[(0, false,
 Blk.cols mp
 [Col.int IntKind.i64 tp, Col.int IntKind.i64 vp, Col.int IntKind.i64 gp])]]) (3))
 (Kret (PV.tf false) ([[(0, false,
 Blk.cols mp
 [Col.int IntKind.i64 tp, Col.int IntKind.i64 vp, Col.int IntKind.i64 gp])]]) (3)))
 (test (Int.tmod st (10 : Int) == (2 : Int))
 (test (gp (Int.toNat (Int.tdiv st (10 : Int)) + ap) == (1 : Int))
 (Kret (PV.tf true) ([[(0, false,
 Blk.cols mp
 [Col.int IntKind.i64 tp, Col.int IntKind.i64 vp, Col.int IntKind.i64 gp])]]) (3))
 (test (gp (Int.toNat (Int.tdiv st (10 : Int)) + ap) == (3 : Int))
 (Kret (PV.tf true) ([[(0, false,
 Blk.cols mp
 [Col.int IntKind.i64 tp, Col.int IntKind.i64 vp, Col.int IntKind.i64 gp])]]) (3))
 (Kret (PV.tf false) ([[(0, false,
 Blk.cols mp
 [Col.int IntKind.i64 tp, Col.int IntKind.i64 vp, Col.int IntKind.i64 gp])]]) (3))))
 (test (Int.tmod st (10 : Int) == (3 : Int))
 (test (gp (Int.toNat (Int.tdiv st (10 : Int)) + ap) == (1 : Int))
 (Kret (PV.tf true) ([[(0, false,
 Blk.cols mp
 [Col.int IntKind.i64 tp, Col.int IntKind.i64 vp, Col.int IntKind.i64 gp])]]) (3))
 (test (gp (Int.toNat (Int.tdiv st (10 : Int)) + ap) == (3 : Int))
 (Kret (PV.tf true) ([[(0, false,
 Blk.cols mp
 [Col.int IntKind.i64 tp, Col.int IntKind.i64 vp, Col.int IntKind.i64 gp])]]) (3))
 (Kret (PV.tf false) ([[(0, false,
 Blk.cols mp
 [Col.int IntKind.i64 tp, Col.int IntKind.i64 vp, Col.int IntKind.i64 gp])]]) (3))))
 (test (Int.tmod st (10 : Int) == (4 : Int))
 (test (decide (tp (Int.toNat (Int.tdiv st (10 : Int)) + ap) ≤ (2 : Int)))
 (Kret (PV.tf true) ([[(0, false,
 Blk.cols mp
 [Col.int IntKind.i64 tp, Col.int IntKind.i64 vp, Col.int IntKind.i64 gp])]]) (3))
 (Kret (PV.tf false) ([[(0, false,
 Blk.cols mp
 [Col.int IntKind.i64 tp, Col.int IntKind.i64 vp, Col.int IntKind.i64 gp])]]) (3)))
 (test (Int.tmod st (10 : Int) == (5 : Int))
 (test (decide (tp (Int.toNat (Int.tdiv st (10 : Int)) + ap) < (5 : Int)))
 (Kret (PV.tf false) ([[(0, false,
 Blk.cols mp
 [Col.int IntKind.i64 tp, Col.int IntKind.i64 vp, Col.int IntKind.i64 gp])]]) (4))
 (Kret (PV.tf true) ([[(0, false,
 Blk.cols mp
 [Col.int IntKind.i64 tp, Col.int IntKind.i64 vp, Col.int IntKind.i64 gp])]]) (4)))
 (test (Int.tmod st (10 : Int) == (6 : Int))
 (test (tp (Int.toNat (Int.tdiv st (10 : Int)) + ap) == (1 : Int))
 (test (gp (Int.toNat (Int.tdiv st (10 : Int)) + ap) == (0 : Int))
 (Kret (PV.tf true) ([[(0, false,
 Blk.cols mp
 [Col.int IntKind.i64 tp, Col.int IntKind.i64 vp, Col.int IntKind.i64 gp])]]) (3))
 (test (tp (Int.toNat (Int.tdiv st (10 : Int)) + ap) == (2 : Int))
 (test (gp (Int.toNat (Int.tdiv st (10 : Int)) + ap) == (2 : Int))
 (Kret (PV.tf true) ([[(0, false,
 Blk.cols mp
 [Col.int IntKind.i64 tp, Col.int IntKind.i64 vp, Col.int IntKind.i64 gp])]]) (3))
 (Kret (PV.tf false) ([[(0, false,
 Blk.cols mp
 [Col.int IntKind.i64 tp, Col.int IntKind.i64 vp, Col.int IntKind.i64 gp])]]) (3)))
 (test (tp (Int.toNat (Int.tdiv st (10 : Int)) + ap) == (4 : Int))
 (test (gp (Int.toNat (Int.tdiv st (10 : Int)) + ap) == (2 : Int))
 (Kret (PV.tf true) ([[(0, false,
 Blk.cols mp
 [Col.int IntKind.i64 tp, Col.int IntKind.i64 vp, Col.int IntKind.i64 gp])]]) (3))
 (Kret (PV.tf false) ([[(0, false,
 Blk.cols mp
 [Col.int IntKind.i64 tp, Col.int IntKind.i64 vp, Col.int IntKind.i64 gp])]]) (3)))
 (Kret (PV.tf false) ([[(0, false,
 Blk.cols mp
 [Col.int IntKind.i64 tp, Col.int IntKind.i64 vp, Col.int IntKind.i64 gp])]]) (3)))))
 (test (tp (Int.toNat (Int.tdiv st (10 : Int)) + ap) == (2 : Int))
 (test (gp (Int.toNat (Int.tdiv st (10 : Int)) + ap) == (2 : Int))
 (Kret (PV.tf true) ([[(0, false,
 Blk.cols mp
 [Col.int IntKind.i64 tp, Col.int IntKind.i64 vp, Col.int IntKind.i64 gp])]]) (3))
 (Kret (PV.tf false) ([[(0, false,
 Blk.cols mp
 [Col.int IntKind.i64 tp, Col.int IntKind.i64 vp, Col.int IntKind.i64 gp])]]) (3)))
 (test (tp (Int.toNat (Int.tdiv st (10 : Int)) + ap) == (4 : Int))
 (test (gp (Int.toNat (Int.tdiv st (10 : Int)) + ap) == (2 : Int))
 (Kret (PV.tf true) ([[(0, false,
 Blk.cols mp
 [Col.int IntKind.i64 tp, Col.int IntKind.i64 vp, Col.int IntKind.i64 gp])]]) (3))
 (Kret (PV.tf false) ([[(0, false,
 Blk.cols mp
 [Col.int IntKind.i64 tp, Col.int IntKind.i64 vp, Col.int IntKind.i64 gp])]]) (3)))
 (Kret (PV.tf false) ([[(0, false,
 Blk.cols mp
 [Col.int IntKind.i64 tp, Col.int IntKind.i64 vp, Col.int IntKind.i64 gp])]]) (3)))))
 (test (Int.tmod st (10 : Int) == (7 : Int))
 (test (ev)
 (test (tp (Int.toNat (Int.tdiv st (10 : Int)) + ap) == (2 : Int))
 (Kret (PV.tf true) ([[(0, false,
 Blk.cols mp
 [Col.int IntKind.i64 tp, Col.int IntKind.i64 vp, Col.int IntKind.i64 gp])]]) (3))
 (Kret (PV.tf false) ([[(0, false,
 Blk.cols mp
 [Col.int IntKind.i64 tp, Col.int IntKind.i64 vp, Col.int IntKind.i64 gp])]]) (3)))
 (Kret (PV.tf false) ([[(0, false,
 Blk.cols mp
 [Col.int IntKind.i64 tp, Col.int IntKind.i64 vp, Col.int IntKind.i64 gp])]]) (3)))
 (test (Int.tmod st (10 : Int) == (8 : Int))
 (test (vp (Int.toNat (Int.tdiv st (10 : Int)) + ap) == (1 : Int))
 (test (tp (Int.toNat (Int.tdiv st (10 : Int)) + ap) == (0 : Int))
 (Kret (PV.tf true) ([[(0, false,
 Blk.cols mp
 [Col.int IntKind.i64 tp, Col.int IntKind.i64 vp, Col.int IntKind.i64 gp])]]) (3))
 (Kret (PV.tf false) ([[(0, false,
 Blk.cols mp
 [Col.int IntKind.i64 tp, Col.int IntKind.i64 vp, Col.int IntKind.i64 gp])]]) (3)))
 (Kret (PV.tf false) ([[(0, false,
 Blk.cols mp
 [Col.int IntKind.i64 tp, Col.int IntKind.i64 vp, Col.int IntKind.i64 gp])]]) (3)))
 (Kret (PV.tf false) ([[(0, false,
 Blk.cols mp
 [Col.int IntKind.i64 tp, Col.int IntKind.i64 vp, Col.int IntKind.i64 gp])]]) (3))))))))))))
 (False))
 (False))
 (False))
 (False))
 (False))))
 (False))))))
set_option maxRecDepth 100000 in
theorem te46 (test : Bool → Prop → Prop → Prop) (Kst : KS) (Kret : KR) (ph : Int) (ev : Bool) (ap np mp : Nat) (tp : Nat → Int) (vp : Nat → Int) (gp : Nat → Int) (st : Int) : run test Try.env true noX true 400 ⟨46, [.cd (mkFn Try.f46).body], argT 0 [.agg [.int .i64 ph, .bool ev, .loose ⟨0, 3, ap, 0⟩ np], .int .i64 st], [[], [(0, (false, .cols mp [.int .i64 tp, .int .i64 vp, .int .i64 gp]))]], 1⟩ (proj 1 [] Kst Kret) =
  Te46 test Kst Kret ph ev ap np mp tp vp gp st := by kernel_rfl
set_option maxRecDepth 100000 in
theorem be46 (ph : Int) (ev : Bool) (ap np mp : Nat) (tp : Nat → Int) (vp : Nat → Int) (gp : Nat → Int) (st : Int) (Kst : KS) (Kret : KR) (x : St46 ⊕ Rt46) (hS : HS 1 400 ((I46 ph ev ap np mp tp vp gp st)) Kst x) (hR : HR 1 400 ((V46 ph ev ap np mp tp vp gp st)) (fun r => [newL (1 + 1) ((N46 ph ev ap np mp tp vp gp st) r) ++ [(0, (false, .cols mp [.int .i64 tp, .int .i64 vp, .int .i64 gp]))]]) Kret x) (h : (bif (st == (80 : Int))
 then (bif (ph == (0 : Int))
 then (some (.inr (true)))
 else (some (.inr (false))))
 else (bif (st == (81 : Int))
 then (bif (ph == (3 : Int))
 then (some (.inr (true)))
 else (some (.inr (false))))
 else (bif (decide (st ≥ (82 : Int)))
 then (bif (lim IntKind.i64 (st - (82 : Int)))
 then (bif (decide (st - (82 : Int) < (↑np : Int)))
 then (bif (decide ((0 : Int) ≤ st - (82 : Int) ∧ st - (82 : Int) < (↑np : Int)))
 then (bif (decide (Int.toNat (st - (82 : Int)) + ap < mp))
 then (bif (vp (Int.toNat (st - (82 : Int)) + ap) != (0 : Int))
 then (some (.inr (false)))
 else (bif (ph == (0 : Int))
 then (bif (decide (gp (Int.toNat (st - (82 : Int)) + ap) ≤ (1 : Int)))
 then (some (.inr (true)))
 else (bif (ph == (1 : Int))
 then (bif (gp (Int.toNat (st - (82 : Int)) + ap) != (4 : Int))
 then (some (.inr (true)))
 else (bif (ph == (2 : Int))
 then (some (.inr (true)))
 else (some (.inr (false)))))
 else (bif (ph == (2 : Int))
 then (some (.inr (true)))
 else (some (.inr (false))))))
 else (bif (ph == (1 : Int))
 then (bif (gp (Int.toNat (st - (82 : Int)) + ap) != (4 : Int))
 then (some (.inr (true)))
 else (bif (ph == (2 : Int))
 then (some (.inr (true)))
 else (some (.inr (false)))))
 else (bif (ph == (2 : Int))
 then (some (.inr (true)))
 else (some (.inr (false)))))))
 else (none))
 else (none))
 else (some (.inr (false))))
 else (none))
 else (bif (decide (st < (0 : Int)))
 then (some (.inr (false)))
 else (bif (lim IntKind.i64 (Int.tdiv st (10 : Int)))
 then (bif (decide (Int.tdiv st (10 : Int) ≥ (↑np : Int)))
 then (some (.inr (false)))
 else (bif (decide ((0 : Int) ≤ Int.tdiv st (10 : Int) ∧ Int.tdiv st (10 : Int) < (↑np : Int)))
 then (bif (decide (Int.toNat (Int.tdiv st (10 : Int)) + ap < mp))
 then (bif (Int.tmod st (10 : Int) == (0 : Int))
 then (bif (vp (Int.toNat (Int.tdiv st (10 : Int)) + ap) != (0 : Int))
 then (bif (decide (tp (Int.toNat (Int.tdiv st (10 : Int)) + ap) < (5 : Int)))
 then (some (.inr (true)))
 else (some (.inr (false))))
 else (some (.inr (false))))
 else (bif (Int.tmod st (10 : Int) == (1 : Int))
 then (bif (vp (Int.toNat (Int.tdiv st (10 : Int)) + ap) != (0 : Int))
 then (some (.inr (true)))
 else (some (.inr (false))))
 else (bif (Int.tmod st (10 : Int) == (2 : Int))
 then (bif (gp (Int.toNat (Int.tdiv st (10 : Int)) + ap) == (1 : Int))
 then (some (.inr (true)))
 else (bif (gp (Int.toNat (Int.tdiv st (10 : Int)) + ap) == (3 : Int))
 then (some (.inr (true)))
 else (some (.inr (false)))))
 else (bif (Int.tmod st (10 : Int) == (3 : Int))
 then (bif (gp (Int.toNat (Int.tdiv st (10 : Int)) + ap) == (1 : Int))
 then (some (.inr (true)))
 else (bif (gp (Int.toNat (Int.tdiv st (10 : Int)) + ap) == (3 : Int))
 then (some (.inr (true)))
 else (some (.inr (false)))))
 else (bif (Int.tmod st (10 : Int) == (4 : Int))
 then (bif (decide (tp (Int.toNat (Int.tdiv st (10 : Int)) + ap) ≤ (2 : Int)))
 then (some (.inr (true)))
 else (some (.inr (false))))
 else (bif (Int.tmod st (10 : Int) == (5 : Int))
 then (bif (decide (tp (Int.toNat (Int.tdiv st (10 : Int)) + ap) < (5 : Int)))
 then (some (.inr (false)))
 else (some (.inr (true))))
 else (bif (Int.tmod st (10 : Int) == (6 : Int))
 then (bif (tp (Int.toNat (Int.tdiv st (10 : Int)) + ap) == (1 : Int))
 then (bif (gp (Int.toNat (Int.tdiv st (10 : Int)) + ap) == (0 : Int))
 then (some (.inr (true)))
 else (bif (tp (Int.toNat (Int.tdiv st (10 : Int)) + ap) == (2 : Int))
 then (bif (gp (Int.toNat (Int.tdiv st (10 : Int)) + ap) == (2 : Int))
 then (some (.inr (true)))
 else (some (.inr (false))))
 else (bif (tp (Int.toNat (Int.tdiv st (10 : Int)) + ap) == (4 : Int))
 then (bif (gp (Int.toNat (Int.tdiv st (10 : Int)) + ap) == (2 : Int))
 then (some (.inr (true)))
 else (some (.inr (false))))
 else (some (.inr (false))))))
 else (bif (tp (Int.toNat (Int.tdiv st (10 : Int)) + ap) == (2 : Int))
 then (bif (gp (Int.toNat (Int.tdiv st (10 : Int)) + ap) == (2 : Int))
 then (some (.inr (true)))
 else (some (.inr (false))))
 else (bif (tp (Int.toNat (Int.tdiv st (10 : Int)) + ap) == (4 : Int))
 then (bif (gp (Int.toNat (Int.tdiv st (10 : Int)) + ap) == (2 : Int))
 then (some (.inr (true)))
 else (some (.inr (false))))
 else (some (.inr (false))))))
 else (bif (Int.tmod st (10 : Int) == (7 : Int))
 then (bif (ev)
 then (bif (tp (Int.toNat (Int.tdiv st (10 : Int)) + ap) == (2 : Int))
 then (some (.inr (true)))
 else (some (.inr (false))))
 else (some (.inr (false))))
 else (bif (Int.tmod st (10 : Int) == (8 : Int))
 then (bif (vp (Int.toNat (Int.tdiv st (10 : Int)) + ap) == (1 : Int))
 then (bif (tp (Int.toNat (Int.tdiv st (10 : Int)) + ap) == (0 : Int))
 then (some (.inr (true)))
 else (some (.inr (false))))
 else (some (.inr (false))))
 else (some (.inr (false))))))))))))
 else (none))
 else (none)))
 else (none))))) : Option (St46 ⊕ Rt46)) = some x) : Te46 cond Kst Kret ph ev ap np mp tp vp gp st := by
  unfold Te46
  exact bif_split h
   (fun c0 h => bif_split h
   (fun c1 h => ret_at hR _ h (fun n => n) rfl rfl rfl (rn_bool_tf rfl) rfl (entl_bor (use_lo rfl) rfl rfl entl_nil))
   (fun c1 h => ret_at hR _ h (fun n => n) rfl rfl rfl (rn_bool_tf rfl) rfl (entl_bor (use_lo rfl) rfl rfl entl_nil)))
   (fun c0 h => bif_split h
   (fun c1 h => bif_split h
   (fun c2 h => ret_at hR _ h (fun n => n) rfl rfl rfl (rn_bool_tf rfl) rfl (entl_bor (use_lo rfl) rfl rfl entl_nil))
   (fun c2 h => ret_at hR _ h (fun n => n) rfl rfl rfl (rn_bool_tf rfl) rfl (entl_bor (use_lo rfl) rfl rfl entl_nil)))
   (fun c1 h => bif_split h
   (fun c2 h => bif_split h
   (fun c3 h => bif_split h
   (fun c4 h => cond_yes c3 (bif_split h
   (fun c5 h => bif_split h
   (fun c6 h => cond_yes c6 (cond_yes c6 (bif_split h
   (fun c7 h => cond_no rfl (ret_at hR _ h (fun n => n) rfl rfl rfl (rn_bool_tf rfl) rfl (entl_bor (use_lo rfl) rfl rfl entl_nil)))
   (fun c7 h => bif_split h
   (fun c8 h => bif_split h
   (fun c9 h => cond_yes rfl (ret_at hR _ h (fun n => n) rfl rfl rfl (rn_bool_tf rfl) rfl (entl_bor (use_lo rfl) rfl rfl entl_nil)))
   (fun c9 h => bif_split h
   (fun c10 h => bif_split h
   (fun c11 h => cond_yes rfl (ret_at hR _ h (fun n => n) rfl rfl rfl (rn_bool_tf rfl) rfl (entl_bor (use_lo rfl) rfl rfl entl_nil)))
   (fun c11 h => bif_split h
   (fun c12 h => cond_yes rfl (ret_at hR _ h (fun n => n) rfl rfl rfl (rn_bool_tf rfl) rfl (entl_bor (use_lo rfl) rfl rfl entl_nil)))
   (fun c12 h => cond_no rfl (ret_at hR _ h (fun n => n) rfl rfl rfl (rn_bool_tf rfl) rfl (entl_bor (use_lo rfl) rfl rfl entl_nil)))))
   (fun c10 h => bif_split h
   (fun c11 h => cond_yes rfl (ret_at hR _ h (fun n => n) rfl rfl rfl (rn_bool_tf rfl) rfl (entl_bor (use_lo rfl) rfl rfl entl_nil)))
   (fun c11 h => cond_no rfl (ret_at hR _ h (fun n => n) rfl rfl rfl (rn_bool_tf rfl) rfl (entl_bor (use_lo rfl) rfl rfl entl_nil))))))
   (fun c8 h => bif_split h
   (fun c9 h => bif_split h
   (fun c10 h => cond_yes rfl (ret_at hR _ h (fun n => n) rfl rfl rfl (rn_bool_tf rfl) rfl (entl_bor (use_lo rfl) rfl rfl entl_nil)))
   (fun c10 h => bif_split h
   (fun c11 h => cond_yes rfl (ret_at hR _ h (fun n => n) rfl rfl rfl (rn_bool_tf rfl) rfl (entl_bor (use_lo rfl) rfl rfl entl_nil)))
   (fun c11 h => cond_no rfl (ret_at hR _ h (fun n => n) rfl rfl rfl (rn_bool_tf rfl) rfl (entl_bor (use_lo rfl) rfl rfl entl_nil)))))
   (fun c9 h => bif_split h
   (fun c10 h => cond_yes rfl (ret_at hR _ h (fun n => n) rfl rfl rfl (rn_bool_tf rfl) rfl (entl_bor (use_lo rfl) rfl rfl entl_nil)))
   (fun c10 h => cond_no rfl (ret_at hR _ h (fun n => n) rfl rfl rfl (rn_bool_tf rfl) rfl (entl_bor (use_lo rfl) rfl rfl entl_nil)))))))))
   (fun c6 h => no_some h))
   (fun c5 h => no_some h)))
   (fun c4 h => ret_at hR _ h (fun n => n) rfl rfl rfl (rn_bool_tf rfl) rfl (entl_bor (use_lo rfl) rfl rfl entl_nil)))
   (fun c3 h => no_some h))
   (fun c2 h => bif_split h
   (fun c3 h => ret_at hR _ h (fun n => n) rfl rfl rfl (rn_bool_tf rfl) rfl (entl_bor (use_lo rfl) rfl rfl entl_nil))
   (fun c3 h => cond_no rfl (bif_split h
   (fun c4 h => bif_split h
   (fun c5 h => ret_at hR _ h (fun n => n) rfl rfl rfl (rn_bool_tf rfl) rfl (entl_bor (use_lo rfl) rfl rfl entl_nil))
   (fun c5 h => cond_no rfl (cond_yes c4 (bif_split h
   (fun c6 h => bif_split h
   (fun c7 h => cond_yes c7 (cond_yes c7 (cond_no rfl (bif_split h
   (fun c8 h => bif_split h
   (fun c9 h => bif_split h
   (fun c10 h => ret_at hR _ h (fun n => n) rfl rfl rfl (rn_bool_tf rfl) rfl (entl_bor (use_lo rfl) rfl rfl entl_nil))
   (fun c10 h => ret_at hR _ h (fun n => n) rfl rfl rfl (rn_bool_tf rfl) rfl (entl_bor (use_lo rfl) rfl rfl entl_nil)))
   (fun c9 h => ret_at hR _ h (fun n => n) rfl rfl rfl (rn_bool_tf rfl) rfl (entl_bor (use_lo rfl) rfl rfl entl_nil)))
   (fun c8 h => bif_split h
   (fun c9 h => bif_split h
   (fun c10 h => ret_at hR _ h (fun n => n) rfl rfl rfl (rn_bool_tf rfl) rfl (entl_bor (use_lo rfl) rfl rfl entl_nil))
   (fun c10 h => ret_at hR _ h (fun n => n) rfl rfl rfl (rn_bool_tf rfl) rfl (entl_bor (use_lo rfl) rfl rfl entl_nil)))
   (fun c9 h => bif_split h
   (fun c10 h => bif_split h
   (fun c11 h => ret_at hR _ h (fun n => n) rfl rfl rfl (rn_bool_tf rfl) rfl (entl_bor (use_lo rfl) rfl rfl entl_nil))
   (fun c11 h => bif_split h
   (fun c12 h => ret_at hR _ h (fun n => n) rfl rfl rfl (rn_bool_tf rfl) rfl (entl_bor (use_lo rfl) rfl rfl entl_nil))
   (fun c12 h => ret_at hR _ h (fun n => n) rfl rfl rfl (rn_bool_tf rfl) rfl (entl_bor (use_lo rfl) rfl rfl entl_nil))))
   (fun c10 h => bif_split h
   (fun c11 h => bif_split h
   (fun c12 h => ret_at hR _ h (fun n => n) rfl rfl rfl (rn_bool_tf rfl) rfl (entl_bor (use_lo rfl) rfl rfl entl_nil))
   (fun c12 h => bif_split h
   (fun c13 h => ret_at hR _ h (fun n => n) rfl rfl rfl (rn_bool_tf rfl) rfl (entl_bor (use_lo rfl) rfl rfl entl_nil))
   (fun c13 h => ret_at hR _ h (fun n => n) rfl rfl rfl (rn_bool_tf rfl) rfl (entl_bor (use_lo rfl) rfl rfl entl_nil))))
   (fun c11 h => bif_split h
   (fun c12 h => bif_split h
   (fun c13 h => ret_at hR _ h (fun n => n) rfl rfl rfl (rn_bool_tf rfl) rfl (entl_bor (use_lo rfl) rfl rfl entl_nil))
   (fun c13 h => ret_at hR _ h (fun n => n) rfl rfl rfl (rn_bool_tf rfl) rfl (entl_bor (use_lo rfl) rfl rfl entl_nil)))
   (fun c12 h => bif_split h
   (fun c13 h => bif_split h
   (fun c14 h => ret_at hR _ h (fun n => n) rfl rfl rfl (rn_bool_tf rfl) rfl (entl_bor (use_lo rfl) rfl rfl entl_nil))
   (fun c14 h => ret_at hR _ h (fun n => n) rfl rfl rfl (rn_bool_tf rfl) rfl (entl_bor (use_lo rfl) rfl rfl entl_nil)))
   (fun c13 h => bif_split h
   (fun c14 h => bif_split h
   (fun c15 h => bif_split h
   (fun c16 h => ret_at hR _ h (fun n => n) rfl rfl rfl (rn_bool_tf rfl) rfl (entl_bor (use_lo rfl) rfl rfl entl_nil))
   (fun c16 h => bif_split h
   (fun c17 h => bif_split h
   (fun c18 h => ret_at hR _ h (fun n => n) rfl rfl rfl (rn_bool_tf rfl) rfl (entl_bor (use_lo rfl) rfl rfl entl_nil))
   (fun c18 h => ret_at hR _ h (fun n => n) rfl rfl rfl (rn_bool_tf rfl) rfl (entl_bor (use_lo rfl) rfl rfl entl_nil)))
   (fun c17 h => bif_split h
   (fun c18 h => bif_split h
   (fun c19 h => ret_at hR _ h (fun n => n) rfl rfl rfl (rn_bool_tf rfl) rfl (entl_bor (use_lo rfl) rfl rfl entl_nil))
   (fun c19 h => ret_at hR _ h (fun n => n) rfl rfl rfl (rn_bool_tf rfl) rfl (entl_bor (use_lo rfl) rfl rfl entl_nil)))
   (fun c18 h => ret_at hR _ h (fun n => n) rfl rfl rfl (rn_bool_tf rfl) rfl (entl_bor (use_lo rfl) rfl rfl entl_nil)))))
   (fun c15 h => bif_split h
   (fun c16 h => bif_split h
   (fun c17 h => ret_at hR _ h (fun n => n) rfl rfl rfl (rn_bool_tf rfl) rfl (entl_bor (use_lo rfl) rfl rfl entl_nil))
   (fun c17 h => ret_at hR _ h (fun n => n) rfl rfl rfl (rn_bool_tf rfl) rfl (entl_bor (use_lo rfl) rfl rfl entl_nil)))
   (fun c16 h => bif_split h
   (fun c17 h => bif_split h
   (fun c18 h => ret_at hR _ h (fun n => n) rfl rfl rfl (rn_bool_tf rfl) rfl (entl_bor (use_lo rfl) rfl rfl entl_nil))
   (fun c18 h => ret_at hR _ h (fun n => n) rfl rfl rfl (rn_bool_tf rfl) rfl (entl_bor (use_lo rfl) rfl rfl entl_nil)))
   (fun c17 h => ret_at hR _ h (fun n => n) rfl rfl rfl (rn_bool_tf rfl) rfl (entl_bor (use_lo rfl) rfl rfl entl_nil)))))
   (fun c14 h => bif_split h
   (fun c15 h => bif_split h
   (fun c16 h => bif_split h
   (fun c17 h => ret_at hR _ h (fun n => n) rfl rfl rfl (rn_bool_tf rfl) rfl (entl_bor (use_lo rfl) rfl rfl entl_nil))
   (fun c17 h => ret_at hR _ h (fun n => n) rfl rfl rfl (rn_bool_tf rfl) rfl (entl_bor (use_lo rfl) rfl rfl entl_nil)))
   (fun c16 h => ret_at hR _ h (fun n => n) rfl rfl rfl (rn_bool_tf rfl) rfl (entl_bor (use_lo rfl) rfl rfl entl_nil)))
   (fun c15 h => bif_split h
   (fun c16 h => bif_split h
   (fun c17 h => bif_split h
   (fun c18 h => ret_at hR _ h (fun n => n) rfl rfl rfl (rn_bool_tf rfl) rfl (entl_bor (use_lo rfl) rfl rfl entl_nil))
   (fun c18 h => ret_at hR _ h (fun n => n) rfl rfl rfl (rn_bool_tf rfl) rfl (entl_bor (use_lo rfl) rfl rfl entl_nil)))
   (fun c17 h => ret_at hR _ h (fun n => n) rfl rfl rfl (rn_bool_tf rfl) rfl (entl_bor (use_lo rfl) rfl rfl entl_nil)))
   (fun c16 h => ret_at hR _ h (fun n => n) rfl rfl rfl (rn_bool_tf rfl) rfl (entl_bor (use_lo rfl) rfl rfl entl_nil))))))))))))))
   (fun c7 h => no_some h))
   (fun c6 h => no_some h)))))
   (fun c4 h => no_some h))))))
theorem a46 (ph : Int) (ev : Bool) (ap np mp : Nat) (tp : Nat → Int) (vp : Nat → Int) (gp : Nat → Int) (st : Int) {r : Rt46} (h : Goes ((q46 ph ev ap np mp tp vp gp st)) ((p46 ph ev ap np mp tp vp gp st)) r) : CallR Try.prog 46 [.agg [.int .i64 ph, .bool ev, .loose ⟨0, 3, ap, 0⟩ np], .int .i64 st] [[(0, (false, .cols mp [.int .i64 tp, .int .i64 vp, .int .i64 gp]))]] 1 ((V46 ph ev ap np mp tp vp gp st) r) ((fun r => [newL (1 + 1) ((N46 ph ev ap np mp tp vp gp st) r) ++ [(0, (false, .cols mp [.int .i64 tp, .int .i64 vp, .int .i64 gp]))]]) r) 400 ∧ ∃ F, Try.prog.funcs[46]? = some F ∧ F.body.isSome = true ∧ (F.name == "runtime.NumGoroutine") = false := by
  refine dec_calls (f := 46) (lo := 1) (hi := 400) (H := [[(0, (false, .cols mp [.int .i64 tp, .int .i64 vp, .int .i64 gp]))]]) (args := [.agg [.int .i64 ph, .bool ev, .loose ⟨0, 3, ap, 0⟩ np], .int .i64 st]) Try.envOk Try.mixed noX_ok ((I46 ph ev ap np mp tp vp gp st)) ((V46 ph ev ap np mp tp vp gp st)) (fun r => [newL (1 + 1) ((N46 ph ev ap np mp tp vp gp st) r) ++ [(0, (false, .cols mp [.int .i64 tp, .int .i64 vp, .int .i64 gp]))]]) (fn := mkFn Try.f46) (ts := []) (n := 400) rfl (by decide) (by simp) (names_of rfl) ?_ ?_ ?_ h
  · intro s; exact s.elim
  · intro Kst Kret x hS hR h
    exact Holds.eq (te46 cond Kst Kret ph ev ap np mp tp vp gp st) (be46 ph ev ap np mp tp vp gp st Kst Kret x hS hR h)
  · intro Kst Kret x hS hR s h; exact s.elim
noncomputable def k46 : Con := ⟨46, [.agg [.plain (.int .i64), .plain (.bool), .list [.int .i64, .int .i64, .int .i64]], .one (.plain (.int .i64))], fun (x : (Int × Bool × (Nat × Nat × Nat × (Nat → Int) × (Nat → Int) × (Nat → Int) × Unit) × Unit) × Int × Unit) => (fun (ph : Int) (ev : Bool) (ap np mp : Nat) (tp : Nat → Int) (vp : Nat → Int) (gp : Nat → Int) (st : Int) => decide (ap + np ≤ mp ∧ np ≤ 1000000 ∧ np ≤ 8 ∧ st ≤ 9223372036854775807)) x.1.1 x.1.2.1 x.1.2.2.1.1 x.1.2.2.1.2.1 x.1.2.2.1.2.2.1 x.1.2.2.1.2.2.2.1 x.1.2.2.1.2.2.2.2.1 x.1.2.2.1.2.2.2.2.2.1 x.2.1, fun (x : (Int × Bool × (Nat × Nat × Nat × (Nat → Int) × (Nat → Int) × (Nat → Int) × Unit) × Unit) × Int × Unit) => (fun (ph : Int) (ev : Bool) (ap np mp : Nat) (tp : Nat → Int) (vp : Nat → Int) (gp : Nat → Int) (st : Int) => (V46 ph ev ap np mp tp vp gp st) ((decide (0 ≤ st) && S.posB ph ev np (fun q => tp (q + ap)) (fun q => vp (q + ap)) (fun q => gp (q + ap)) st.toNat))) x.1.1 x.1.2.1 x.1.2.2.1.1 x.1.2.2.1.2.1 x.1.2.2.1.2.2.1 x.1.2.2.1.2.2.2.1 x.1.2.2.1.2.2.2.2.1 x.1.2.2.1.2.2.2.2.2.1 x.2.1, fun (x : (Int × Bool × (Nat × Nat × Nat × (Nat → Int) × (Nat → Int) × (Nat → Int) × Unit) × Unit) × Int × Unit) => (fun (ph : Int) (ev : Bool) (ap np mp : Nat) (tp : Nat → Int) (vp : Nat → Int) (gp : Nat → Int) (st : Int) => (N46 ph ev ap np mp tp vp gp st) ((decide (0 ≤ st) && S.posB ph ev np (fun q => tp (q + ap)) (fun q => vp (q + ap)) (fun q => gp (q + ap)) st.toNat))) x.1.1 x.1.2.1 x.1.2.2.1.1 x.1.2.2.1.2.1 x.1.2.2.1.2.2.1 x.1.2.2.1.2.2.2.1 x.1.2.2.1.2.2.2.2.1 x.1.2.2.1.2.2.2.2.2.1 x.2.1, fun _ _ => .dead⟩
theorem s46k (ph : Int) (ev : Bool) (ap np mp : Nat) (tp : Nat → Int) (vp : Nat → Int) (gp : Nat → Int) (st : Int) (hp1 : ap + np ≤ mp) (hn : np ≤ 8) (q : Nat) (hq : q < 80) (c : Nat) (hc : q % 10 = c) : Goes ((q46 ph ev ap np mp tp vp gp (q : Int))) ((p46 ph ev ap np mp tp vp gp (q : Int))) (decide (q / 10 < np) && S.stpB ev (tp (q / 10 + ap)) (vp (q / 10 + ap)) (gp (q / 10 + ap)) c) := by
  obtain ⟨k0, k1, k2, k3, k4, k5, k6, k7, k8, k9⟩ := stp_k (ev := ev) (a := tp (q / 10 + ap)) (i := vp (q / 10 + ap)) (o := gp (q / 10 + ap))
  have hd : Int.tdiv (q : Int) 10 = ((q / 10 : Nat) : Int) := rfl
  have hm : Int.tmod (q : Int) 10 = (c : Int) := by rw [← hc]; rfl
  have n1 : ((q : Int) == 80) = false := beq_eq_false_iff_ne.mpr (by omega)
  have n2 : ((q : Int) == 81) = false := beq_eq_false_iff_ne.mpr (by omega)
  have n3 : decide ((q : Int) ≥ 82) = false := decide_eq_false (by omega)
  have n4 : decide ((q : Int) < 0) = false := decide_eq_false (by omega)
  have n5 : lim .i64 ((q / 10 : Nat) : Int) = true := by rw [lim64]; apply decide_eq_true; omega
  unfold p46
  rw [n1, n2, n3]
  simp only [cond_false, n4, hd, hm, n5, cond_true, Int.toNat_natCast]
  show Goes _ _ _
  by_cases hx : q / 10 < np
  · rw [decide_eq_true hx, Bool.true_and]
    have n6 : decide (((q / 10 : Nat) : Int) ≥ (np : Int)) = false := decide_eq_false (by omega)
    have n7 : decide (0 ≤ ((q / 10 : Nat) : Int) ∧ ((q / 10 : Nat) : Int) < (np : Int)) = true := decide_eq_true (by omega)
    have n8 : decide (q / 10 + ap < mp) = true := decide_eq_true (by omega)
    rw [n6, n7, n8]
    simp only [cond_false, cond_true]
    have h10 : c = 0 ∨ c = 1 ∨ c = 2 ∨ c = 3 ∨ c = 4 ∨ c = 5 ∨ c = 6 ∨ c = 7 ∨ c = 8 ∨ c = 9 := by omega
    clear hc hm
    generalize tp (q / 10 + ap) = a at *
    generalize vp (q / 10 + ap) = i at *
    generalize gp (q / 10 + ap) = o at *
    rcases h10 with rfl | rfl | rfl | rfl | rfl | rfl | rfl | rfl | rfl | rfl
    · rw [k0]
      repeat' first
        | (refine goes_ok ?_ ?_; focus decide)
        | (refine goes_no ?_ ?_; focus decide)
        | with_reducible refine goes_if (fun h => ?_) (fun h => ?_) <;> (try simp only [lim64, decide_eq_true_eq, decide_eq_false_iff_not, Int.toNat_natCast, toNat_pred, toNat_succ, Option.getD_some, Option.getD_none, Bool.not_eq_true', Bool.not_eq_false', Bool.and_eq_true, Bool.or_eq_true, Bool.and_eq_false_iff, Bool.or_eq_false_iff, bne_iff_ne, beq_iff_eq, bne_eq_false_iff_eq, beq_eq_false_iff_ne, ne_eq, not_and, Int.not_le, Int.not_lt, ge_iff_le, gt_iff_lt, Nat.not_lt, Nat.not_le, Bool.not_eq_true, Bool.not_eq_false, Bool.true_eq_false, Bool.false_eq_true, not_false_eq_true, not_true_eq_false] at h)
        | exact goes_none.mpr (by omega)
      all_goals first | (exfalso; omega) | (refine goes_inr.mpr ?_; symm; apply decide_eq_true; omega) | (refine goes_inr.mpr ?_; symm; apply decide_eq_false; omega) | exact goes_inr.mpr rfl
    · rw [k1]
      repeat' first
        | (refine goes_ok ?_ ?_; focus decide)
        | (refine goes_no ?_ ?_; focus decide)
        | with_reducible refine goes_if (fun h => ?_) (fun h => ?_) <;> (try simp only [lim64, decide_eq_true_eq, decide_eq_false_iff_not, Int.toNat_natCast, toNat_pred, toNat_succ, Option.getD_some, Option.getD_none, Bool.not_eq_true', Bool.not_eq_false', Bool.and_eq_true, Bool.or_eq_true, Bool.and_eq_false_iff, Bool.or_eq_false_iff, bne_iff_ne, beq_iff_eq, bne_eq_false_iff_eq, beq_eq_false_iff_ne, ne_eq, not_and, Int.not_le, Int.not_lt, ge_iff_le, gt_iff_lt, Nat.not_lt, Nat.not_le, Bool.not_eq_true, Bool.not_eq_false, Bool.true_eq_false, Bool.false_eq_true, not_false_eq_true, not_true_eq_false] at h)
        | exact goes_none.mpr (by omega)
      all_goals first | (exfalso; omega) | (refine goes_inr.mpr ?_; symm; apply decide_eq_true; omega) | (refine goes_inr.mpr ?_; symm; apply decide_eq_false; omega) | exact goes_inr.mpr rfl
    · rw [k2]
      repeat' first
        | (refine goes_ok ?_ ?_; focus decide)
        | (refine goes_no ?_ ?_; focus decide)
        | with_reducible refine goes_if (fun h => ?_) (fun h => ?_) <;> (try simp only [lim64, decide_eq_true_eq, decide_eq_false_iff_not, Int.toNat_natCast, toNat_pred, toNat_succ, Option.getD_some, Option.getD_none, Bool.not_eq_true', Bool.not_eq_false', Bool.and_eq_true, Bool.or_eq_true, Bool.and_eq_false_iff, Bool.or_eq_false_iff, bne_iff_ne, beq_iff_eq, bne_eq_false_iff_eq, beq_eq_false_iff_ne, ne_eq, not_and, Int.not_le, Int.not_lt, ge_iff_le, gt_iff_lt, Nat.not_lt, Nat.not_le, Bool.not_eq_true, Bool.not_eq_false, Bool.true_eq_false, Bool.false_eq_true, not_false_eq_true, not_true_eq_false] at h)
        | exact goes_none.mpr (by omega)
      all_goals first | (exfalso; omega) | (refine goes_inr.mpr ?_; symm; apply decide_eq_true; omega) | (refine goes_inr.mpr ?_; symm; apply decide_eq_false; omega) | exact goes_inr.mpr rfl
    · rw [k3]
      repeat' first
        | (refine goes_ok ?_ ?_; focus decide)
        | (refine goes_no ?_ ?_; focus decide)
        | with_reducible refine goes_if (fun h => ?_) (fun h => ?_) <;> (try simp only [lim64, decide_eq_true_eq, decide_eq_false_iff_not, Int.toNat_natCast, toNat_pred, toNat_succ, Option.getD_some, Option.getD_none, Bool.not_eq_true', Bool.not_eq_false', Bool.and_eq_true, Bool.or_eq_true, Bool.and_eq_false_iff, Bool.or_eq_false_iff, bne_iff_ne, beq_iff_eq, bne_eq_false_iff_eq, beq_eq_false_iff_ne, ne_eq, not_and, Int.not_le, Int.not_lt, ge_iff_le, gt_iff_lt, Nat.not_lt, Nat.not_le, Bool.not_eq_true, Bool.not_eq_false, Bool.true_eq_false, Bool.false_eq_true, not_false_eq_true, not_true_eq_false] at h)
        | exact goes_none.mpr (by omega)
      all_goals first | (exfalso; omega) | (refine goes_inr.mpr ?_; symm; apply decide_eq_true; omega) | (refine goes_inr.mpr ?_; symm; apply decide_eq_false; omega) | exact goes_inr.mpr rfl
    · rw [k4]
      repeat' first
        | (refine goes_ok ?_ ?_; focus decide)
        | (refine goes_no ?_ ?_; focus decide)
        | with_reducible refine goes_if (fun h => ?_) (fun h => ?_) <;> (try simp only [lim64, decide_eq_true_eq, decide_eq_false_iff_not, Int.toNat_natCast, toNat_pred, toNat_succ, Option.getD_some, Option.getD_none, Bool.not_eq_true', Bool.not_eq_false', Bool.and_eq_true, Bool.or_eq_true, Bool.and_eq_false_iff, Bool.or_eq_false_iff, bne_iff_ne, beq_iff_eq, bne_eq_false_iff_eq, beq_eq_false_iff_ne, ne_eq, not_and, Int.not_le, Int.not_lt, ge_iff_le, gt_iff_lt, Nat.not_lt, Nat.not_le, Bool.not_eq_true, Bool.not_eq_false, Bool.true_eq_false, Bool.false_eq_true, not_false_eq_true, not_true_eq_false] at h)
        | exact goes_none.mpr (by omega)
      all_goals first | (exfalso; omega) | (refine goes_inr.mpr ?_; symm; apply decide_eq_true; omega) | (refine goes_inr.mpr ?_; symm; apply decide_eq_false; omega) | exact goes_inr.mpr rfl
    · rw [k5]
      repeat' first
        | (refine goes_ok ?_ ?_; focus decide)
        | (refine goes_no ?_ ?_; focus decide)
        | with_reducible refine goes_if (fun h => ?_) (fun h => ?_) <;> (try simp only [lim64, decide_eq_true_eq, decide_eq_false_iff_not, Int.toNat_natCast, toNat_pred, toNat_succ, Option.getD_some, Option.getD_none, Bool.not_eq_true', Bool.not_eq_false', Bool.and_eq_true, Bool.or_eq_true, Bool.and_eq_false_iff, Bool.or_eq_false_iff, bne_iff_ne, beq_iff_eq, bne_eq_false_iff_eq, beq_eq_false_iff_ne, ne_eq, not_and, Int.not_le, Int.not_lt, ge_iff_le, gt_iff_lt, Nat.not_lt, Nat.not_le, Bool.not_eq_true, Bool.not_eq_false, Bool.true_eq_false, Bool.false_eq_true, not_false_eq_true, not_true_eq_false] at h)
        | exact goes_none.mpr (by omega)
      all_goals first | (exfalso; omega) | (refine goes_inr.mpr ?_; symm; apply decide_eq_true; omega) | (refine goes_inr.mpr ?_; symm; apply decide_eq_false; omega) | exact goes_inr.mpr rfl
    · rw [k6]
      repeat' first
        | (refine goes_ok ?_ ?_; focus decide)
        | (refine goes_no ?_ ?_; focus decide)
        | with_reducible refine goes_if (fun h => ?_) (fun h => ?_) <;> (try simp only [lim64, decide_eq_true_eq, decide_eq_false_iff_not, Int.toNat_natCast, toNat_pred, toNat_succ, Option.getD_some, Option.getD_none, Bool.not_eq_true', Bool.not_eq_false', Bool.and_eq_true, Bool.or_eq_true, Bool.and_eq_false_iff, Bool.or_eq_false_iff, bne_iff_ne, beq_iff_eq, bne_eq_false_iff_eq, beq_eq_false_iff_ne, ne_eq, not_and, Int.not_le, Int.not_lt, ge_iff_le, gt_iff_lt, Nat.not_lt, Nat.not_le, Bool.not_eq_true, Bool.not_eq_false, Bool.true_eq_false, Bool.false_eq_true, not_false_eq_true, not_true_eq_false] at h)
        | exact goes_none.mpr (by omega)
      all_goals first | (exfalso; omega) | (refine goes_inr.mpr ?_; symm; apply decide_eq_true; omega) | (refine goes_inr.mpr ?_; symm; apply decide_eq_false; omega) | exact goes_inr.mpr rfl
    · rw [k7]
      cases ev <;> simp only [Bool.true_and, Bool.false_and, cond_true, cond_false]
      repeat' first
        | (refine goes_ok ?_ ?_; focus decide)
        | (refine goes_no ?_ ?_; focus decide)
        | with_reducible refine goes_if (fun h => ?_) (fun h => ?_) <;> (try simp only [lim64, decide_eq_true_eq, decide_eq_false_iff_not, Int.toNat_natCast, toNat_pred, toNat_succ, Option.getD_some, Option.getD_none, Bool.not_eq_true', Bool.not_eq_false', Bool.and_eq_true, Bool.or_eq_true, Bool.and_eq_false_iff, Bool.or_eq_false_iff, bne_iff_ne, beq_iff_eq, bne_eq_false_iff_eq, beq_eq_false_iff_ne, ne_eq, not_and, Int.not_le, Int.not_lt, ge_iff_le, gt_iff_lt, Nat.not_lt, Nat.not_le, Bool.not_eq_true, Bool.not_eq_false, Bool.true_eq_false, Bool.false_eq_true, not_false_eq_true, not_true_eq_false] at h)
        | exact goes_none.mpr (by omega)
      all_goals first | (exfalso; omega) | (refine goes_inr.mpr ?_; symm; apply decide_eq_true; omega) | (refine goes_inr.mpr ?_; symm; apply decide_eq_false; omega) | exact goes_inr.mpr rfl
    · rw [k8]
      repeat' first
        | (refine goes_ok ?_ ?_; focus decide)
        | (refine goes_no ?_ ?_; focus decide)
        | with_reducible refine goes_if (fun h => ?_) (fun h => ?_) <;> (try simp only [lim64, decide_eq_true_eq, decide_eq_false_iff_not, Int.toNat_natCast, toNat_pred, toNat_succ, Option.getD_some, Option.getD_none, Bool.not_eq_true', Bool.not_eq_false', Bool.and_eq_true, Bool.or_eq_true, Bool.and_eq_false_iff, Bool.or_eq_false_iff, bne_iff_ne, beq_iff_eq, bne_eq_false_iff_eq, beq_eq_false_iff_ne, ne_eq, not_and, Int.not_le, Int.not_lt, ge_iff_le, gt_iff_lt, Nat.not_lt, Nat.not_le, Bool.not_eq_true, Bool.not_eq_false, Bool.true_eq_false, Bool.false_eq_true, not_false_eq_true, not_true_eq_false] at h)
        | exact goes_none.mpr (by omega)
      all_goals first | (exfalso; omega) | (refine goes_inr.mpr ?_; symm; apply decide_eq_true; omega) | (refine goes_inr.mpr ?_; symm; apply decide_eq_false; omega) | exact goes_inr.mpr rfl
    · rw [k9]
      repeat' first
        | (refine goes_ok ?_ ?_; focus decide)
        | (refine goes_no ?_ ?_; focus decide)
        | with_reducible refine goes_if (fun h => ?_) (fun h => ?_) <;> (try simp only [lim64, decide_eq_true_eq, decide_eq_false_iff_not, Int.toNat_natCast, toNat_pred, toNat_succ, Option.getD_some, Option.getD_none, Bool.not_eq_true', Bool.not_eq_false', Bool.and_eq_true, Bool.or_eq_true, Bool.and_eq_false_iff, Bool.or_eq_false_iff, bne_iff_ne, beq_iff_eq, bne_eq_false_iff_eq, beq_eq_false_iff_ne, ne_eq, not_and, Int.not_le, Int.not_lt, ge_iff_le, gt_iff_lt, Nat.not_lt, Nat.not_le, Bool.not_eq_true, Bool.not_eq_false, Bool.true_eq_false, Bool.false_eq_true, not_false_eq_true, not_true_eq_false] at h)
        | exact goes_none.mpr (by omega)
      all_goals first | (exfalso; omega) | (refine goes_inr.mpr ?_; symm; apply decide_eq_true; omega) | (refine goes_inr.mpr ?_; symm; apply decide_eq_false; omega) | exact goes_inr.mpr rfl
  · have n6 : decide (((q / 10 : Nat) : Int) ≥ (np : Int)) = true := decide_eq_true (by omega)
    rw [decide_eq_false hx, Bool.false_and, n6]
    exact goes_inr.mpr rfl
theorem s46 (ph : Int) (ev : Bool) (ap np mp : Nat) (tp : Nat → Int) (vp : Nat → Int) (gp : Nat → Int) (st : Int) (hp : ap + np ≤ mp ∧ np ≤ 1000000 ∧ np ≤ 8 ∧ st ≤ 9223372036854775807) : Goes ((q46 ph ev ap np mp tp vp gp st)) ((p46 ph ev ap np mp tp vp gp st)) ((decide (0 ≤ st) && S.posB ph ev np (fun q => tp (q + ap)) (fun q => vp (q + ap)) (fun q => gp (q + ap)) st.toNat)) := by
  obtain ⟨hp1, hp2, hn, hst⟩ := hp
  by_cases hs : 0 ≤ st
  · obtain ⟨q, rfl⟩ := Int.eq_ofNat_of_zero_le hs
    rw [decide_eq_true hs, Bool.true_and, Int.toNat_natCast]
    by_cases h0 : q = 80
    · subst h0
      rw [pos_80]
      unfold p46
      repeat' first
        | (refine goes_ok ?_ ?_; focus decide)
        | (refine goes_no ?_ ?_; focus decide)
        | with_reducible refine goes_if (fun h => ?_) (fun h => ?_) <;> (try simp only [lim64, decide_eq_true_eq, decide_eq_false_iff_not, Int.toNat_natCast, toNat_pred, toNat_succ, Option.getD_some, Option.getD_none, Bool.not_eq_true', Bool.not_eq_false', Bool.and_eq_true, Bool.or_eq_true, Bool.and_eq_false_iff, Bool.or_eq_false_iff, bne_iff_ne, beq_iff_eq, bne_eq_false_iff_eq, beq_eq_false_iff_ne, ne_eq, not_and, Int.not_le, Int.not_lt, ge_iff_le, gt_iff_lt, Nat.not_lt, Nat.not_le, Bool.not_eq_true, Bool.not_eq_false, Bool.true_eq_false, Bool.false_eq_true, not_false_eq_true, not_true_eq_false] at h)
        | exact goes_none.mpr (by omega)
      all_goals first | (exfalso; omega) | (refine goes_inr.mpr ?_; symm; apply decide_eq_true; omega) | (refine goes_inr.mpr ?_; symm; apply decide_eq_false; omega) | exact goes_inr.mpr rfl
    · by_cases h1 : q = 81
      · subst h1
        rw [pos_81]
        unfold p46
        repeat' first
          | (refine goes_ok ?_ ?_; focus decide)
          | (refine goes_no ?_ ?_; focus decide)
          | with_reducible refine goes_if (fun h => ?_) (fun h => ?_) <;> (try simp only [lim64, decide_eq_true_eq, decide_eq_false_iff_not, Int.toNat_natCast, toNat_pred, toNat_succ, Option.getD_some, Option.getD_none, Bool.not_eq_true', Bool.not_eq_false', Bool.and_eq_true, Bool.or_eq_true, Bool.and_eq_false_iff, Bool.or_eq_false_iff, bne_iff_ne, beq_iff_eq, bne_eq_false_iff_eq, beq_eq_false_iff_ne, ne_eq, not_and, Int.not_le, Int.not_lt, ge_iff_le, gt_iff_lt, Nat.not_lt, Nat.not_le, Bool.not_eq_true, Bool.not_eq_false, Bool.true_eq_false, Bool.false_eq_true, not_false_eq_true, not_true_eq_false] at h)
          | exact goes_none.mpr (by omega)
        all_goals first | (exfalso; omega) | (refine goes_inr.mpr ?_; symm; apply decide_eq_true; omega) | (refine goes_inr.mpr ?_; symm; apply decide_eq_false; omega) | exact goes_inr.mpr rfl
      · by_cases h2 : 82 ≤ q
        · have ht : ((q : Int) - 82).toNat = q - 82 := by omega
          rw [pos_ge h2]
          unfold p46
          simp only [ht]
          show Goes _ _ _
          repeat' first
            | with_reducible refine goes_if (fun h => ?_) (fun h => ?_) <;> (try simp only [lim64, decide_eq_true_eq, decide_eq_false_iff_not, Int.toNat_natCast, toNat_pred, toNat_succ, Option.getD_some, Option.getD_none, Bool.not_eq_true', Bool.not_eq_false', Bool.and_eq_true, Bool.or_eq_true, Bool.and_eq_false_iff, Bool.or_eq_false_iff, bne_iff_ne, beq_iff_eq, bne_eq_false_iff_eq, beq_eq_false_iff_ne, ne_eq, not_and, Int.not_le, Int.not_lt, ge_iff_le, gt_iff_lt, Nat.not_lt, Nat.not_le, Bool.not_eq_true, Bool.not_eq_false, Bool.true_eq_false, Bool.false_eq_true, not_false_eq_true, not_true_eq_false] at h)
            | exact goes_none.mpr (by omega)
          all_goals first | (exfalso; omega) | (refine goes_inr.mpr ?_; symm; apply decide_eq_true; omega) | (refine goes_inr.mpr ?_; symm; apply decide_eq_false; omega) | exact goes_inr.mpr rfl
        · rw [pos_lt (by omega)]
          exact s46k ph ev ap np mp tp vp gp (q : Int) hp1 hn q (by omega) _ rfl
  · rw [decide_eq_false hs, Bool.false_and]
    show Goes _ _ _
    unfold p46
    repeat' first
      | with_reducible refine goes_if (fun h => ?_) (fun h => ?_) <;> (try simp only [lim64, decide_eq_true_eq, decide_eq_false_iff_not, Int.toNat_natCast, toNat_pred, toNat_succ, Option.getD_some, Option.getD_none, Bool.not_eq_true', Bool.not_eq_false', Bool.and_eq_true, Bool.or_eq_true, Bool.and_eq_false_iff, Bool.or_eq_false_iff, bne_iff_ne, beq_iff_eq, bne_eq_false_iff_eq, beq_eq_false_iff_ne, ne_eq, not_and, Int.not_le, Int.not_lt, ge_iff_le, gt_iff_lt, Nat.not_lt, Nat.not_le, Bool.not_eq_true, Bool.not_eq_false, Bool.true_eq_false, Bool.false_eq_true, not_false_eq_true, not_true_eq_false] at h)
      | exact goes_none.mpr (by omega)
    all_goals first | (exfalso; omega) | exact goes_inr.mpr rfl

theorem k46_ok : k46.ok Try.prog := by
  intro x hx
  obtain ⟨⟨ph, ev, ⟨ap, np, mp, tp, vp, gp, _⟩, _⟩, st, _⟩ := x
  obtain ⟨h1, h2⟩ := a46 ph ev ap np mp tp vp gp st (s46 ph ev ap np mp tp vp gp st (of_dec hx rfl))
  exact ⟨⟨400, (by decide : 1 + 1 + 0 ≤ 400), h1⟩, h2⟩
abbrev St47 := Empty
abbrev Rt47 := Bool
noncomputable def V47 (ph : Int) (ev : Bool) (ap np mp : Nat) (tp : Nat → Int) (vp : Nat → Int) (gp : Nat → Int) (ia : Int) (ka : Int) (r : Rt47) : PV := PV.bool r
noncomputable def N47 (ph : Int) (ev : Bool) (ap np mp : Nat) (tp : Nat → Int) (vp : Nat → Int) (gp : Nat → Int) (ia : Int) (ka : Int) (r : Rt47) : List Blk := []
noncomputable def I47 (ph : Int) (ev : Bool) (ap np mp : Nat) (tp : Nat → Int) (vp : Nat → Int) (gp : Nat → Int) (ia : Int) (ka : Int) : St47 → Hd := fun s => s.elim
noncomputable def q47 (ph : Int) (ev : Bool) (ap np mp : Nat) (tp : Nat → Int) (vp : Nat → Int) (gp : Nat → Int) (ia : Int) (ka : Int) : St47 → Option (St47 ⊕ Rt47) := fun s => s.elim
noncomputable def p47 (ph : Int) (ev : Bool) (ap np mp : Nat) (tp : Nat → Int) (vp : Nat → Int) (gp : Nat → Int) (ia : Int) (ka : Int) : Option (St47 ⊕ Rt47) := bif (decide ((0 : Int) ≤ ia ∧ ia < (↑np : Int)))
 then (bif (decide (Int.toNat ia + ap < mp))
 then (bif (gp (Int.toNat ia + ap) == (1 : Int))
 then (bif (ka == (0 : Int))
 then (bif (vp (Int.toNat ia + ap) != (0 : Int))
 then (bif (decide (tp (Int.toNat ia + ap) ≤ (4 : Int)))
 then (some (.inr (true)))
 else (some (.inr (false))))
 else (some (.inr (false))))
 else (bif (ka == (1 : Int))
 then (bif (vp (Int.toNat ia + ap) != (0 : Int))
 then (some (.inr (true)))
 else (some (.inr (false))))
 else (bif (ka == (2 : Int))
 then (some (.inr (true)))
 else (bif (ka == (3 : Int))
 then (some (.inr (true)))
 else (bif (ka == (4 : Int))
 then (bif (decide (tp (Int.toNat ia + ap) ≤ (2 : Int)))
 then (some (.inr (true)))
 else (some (.inr (false))))
 else (bif (ka == (5 : Int))
 then (bif (decide (tp (Int.toNat ia + ap) ≥ (5 : Int)))
 then (some (.inr (true)))
 else (some (.inr (false))))
 else (bif (ka == (6 : Int))
 then (bif (tp (Int.toNat ia + ap) == (1 : Int))
 then (bif (gp (Int.toNat ia + ap) == (0 : Int))
 then (some (.inr (true)))
 else (bif (tp (Int.toNat ia + ap) == (2 : Int))
 then (bif (gp (Int.toNat ia + ap) == (2 : Int))
 then (some (.inr (true)))
 else (some (.inr (false))))
 else (bif (tp (Int.toNat ia + ap) == (4 : Int))
 then (bif (gp (Int.toNat ia + ap) == (2 : Int))
 then (some (.inr (true)))
 else (some (.inr (false))))
 else (some (.inr (false))))))
 else (bif (tp (Int.toNat ia + ap) == (2 : Int))
 then (bif (gp (Int.toNat ia + ap) == (2 : Int))
 then (some (.inr (true)))
 else (some (.inr (false))))
 else (bif (tp (Int.toNat ia + ap) == (4 : Int))
 then (bif (gp (Int.toNat ia + ap) == (2 : Int))
 then (some (.inr (true)))
 else (some (.inr (false))))
 else (some (.inr (false))))))
 else (bif (ka == (7 : Int))
 then (bif (ev)
 then (bif (tp (Int.toNat ia + ap) == (2 : Int))
 then (some (.inr (true)))
 else (some (.inr (false))))
 else (some (.inr (false))))
 else (bif (ka == (8 : Int))
 then (bif (vp (Int.toNat ia + ap) == (1 : Int))
 then (bif (tp (Int.toNat ia + ap) == (0 : Int))
 then (some (.inr (true)))
 else (some (.inr (false))))
 else (some (.inr (false))))
 else (some (.inr (false))))))))))))
 else (bif (gp (Int.toNat ia + ap) == (3 : Int))
 then (bif (ka == (0 : Int))
 then (bif (vp (Int.toNat ia + ap) != (0 : Int))
 then (bif (decide (tp (Int.toNat ia + ap) ≤ (4 : Int)))
 then (some (.inr (true)))
 else (some (.inr (false))))
 else (some (.inr (false))))
 else (bif (ka == (1 : Int))
 then (bif (vp (Int.toNat ia + ap) != (0 : Int))
 then (some (.inr (true)))
 else (some (.inr (false))))
 else (bif (ka == (2 : Int))
 then (some (.inr (true)))
 else (bif (ka == (3 : Int))
 then (some (.inr (true)))
 else (bif (ka == (4 : Int))
 then (bif (decide (tp (Int.toNat ia + ap) ≤ (2 : Int)))
 then (some (.inr (true)))
 else (some (.inr (false))))
 else (bif (ka == (5 : Int))
 then (bif (decide (tp (Int.toNat ia + ap) ≥ (5 : Int)))
 then (some (.inr (true)))
 else (some (.inr (false))))
 else (bif (ka == (6 : Int))
 then (bif (tp (Int.toNat ia + ap) == (1 : Int))
 then (bif (gp (Int.toNat ia + ap) == (0 : Int))
 then (some (.inr (true)))
 else (bif (tp (Int.toNat ia + ap) == (2 : Int))
 then (bif (gp (Int.toNat ia + ap) == (2 : Int))
 then (some (.inr (true)))
 else (some (.inr (false))))
 else (bif (tp (Int.toNat ia + ap) == (4 : Int))
 then (bif (gp (Int.toNat ia + ap) == (2 : Int))
 then (some (.inr (true)))
 else (some (.inr (false))))
 else (some (.inr (false))))))
 else (bif (tp (Int.toNat ia + ap) == (2 : Int))
 then (bif (gp (Int.toNat ia + ap) == (2 : Int))
 then (some (.inr (true)))
 else (some (.inr (false))))
 else (bif (tp (Int.toNat ia + ap) == (4 : Int))
 then (bif (gp (Int.toNat ia + ap) == (2 : Int))
 then (some (.inr (true)))
 else (some (.inr (false))))
 else (some (.inr (false))))))
 else (bif (ka == (7 : Int))
 then (bif (ev)
 then (bif (tp (Int.toNat ia + ap) == (2 : Int))
 then (some (.inr (true)))
 else (some (.inr (false))))
 else (some (.inr (false))))
 else (bif (ka == (8 : Int))
 then (bif (vp (Int.toNat ia + ap) == (1 : Int))
 then (bif (tp (Int.toNat ia + ap) == (0 : Int))
 then (some (.inr (true)))
 else (some (.inr (false))))
 else (some (.inr (false))))
 else (some (.inr (false))))))))))))
 else (bif (ka == (0 : Int))
 then (bif (vp (Int.toNat ia + ap) != (0 : Int))
 then (bif (decide (tp (Int.toNat ia + ap) ≤ (4 : Int)))
 then (some (.inr (true)))
 else (some (.inr (false))))
 else (some (.inr (false))))
 else (bif (ka == (1 : Int))
 then (bif (vp (Int.toNat ia + ap) != (0 : Int))
 then (some (.inr (true)))
 else (some (.inr (false))))
 else (bif (ka == (2 : Int))
 then (some (.inr (false)))
 else (bif (ka == (3 : Int))
 then (some (.inr (false)))
 else (bif (ka == (4 : Int))
 then (bif (decide (tp (Int.toNat ia + ap) ≤ (2 : Int)))
 then (some (.inr (true)))
 else (some (.inr (false))))
 else (bif (ka == (5 : Int))
 then (bif (decide (tp (Int.toNat ia + ap) ≥ (5 : Int)))
 then (some (.inr (true)))
 else (some (.inr (false))))
 else (bif (ka == (6 : Int))
 then (bif (tp (Int.toNat ia + ap) == (1 : Int))
 then (bif (gp (Int.toNat ia + ap) == (0 : Int))
 then (some (.inr (true)))
 else (bif (tp (Int.toNat ia + ap) == (2 : Int))
 then (bif (gp (Int.toNat ia + ap) == (2 : Int))
 then (some (.inr (true)))
 else (some (.inr (false))))
 else (bif (tp (Int.toNat ia + ap) == (4 : Int))
 then (bif (gp (Int.toNat ia + ap) == (2 : Int))
 then (some (.inr (true)))
 else (some (.inr (false))))
 else (some (.inr (false))))))
 else (bif (tp (Int.toNat ia + ap) == (2 : Int))
 then (bif (gp (Int.toNat ia + ap) == (2 : Int))
 then (some (.inr (true)))
 else (some (.inr (false))))
 else (bif (tp (Int.toNat ia + ap) == (4 : Int))
 then (bif (gp (Int.toNat ia + ap) == (2 : Int))
 then (some (.inr (true)))
 else (some (.inr (false))))
 else (some (.inr (false))))))
 else (bif (ka == (7 : Int))
 then (bif (ev)
 then (bif (tp (Int.toNat ia + ap) == (2 : Int))
 then (some (.inr (true)))
 else (some (.inr (false))))
 else (some (.inr (false))))
 else (bif (ka == (8 : Int))
 then (bif (vp (Int.toNat ia + ap) == (1 : Int))
 then (bif (tp (Int.toNat ia + ap) == (0 : Int))
 then (some (.inr (true)))
 else (some (.inr (false))))
 else (some (.inr (false))))
 else (some (.inr (false))))))))))))))
 else (none))
 else (none)
noncomputable def Te47 (test : Bool → Prop → Prop → Prop) (Kst : KS) (Kret : KR) (ph : Int) (ev : Bool) (ap np mp : Nat) (tp : Nat → Int) (vp : Nat → Int) (gp : Nat → Int) (ia : Int) (ka : Int) : Prop :=
  test (decide ((0 : Int) ≤ ia ∧ ia < (↑np : Int)))
 (test (decide (Int.toNat ia + ap < mp))
 (test (decide (Int.toNat ia + ap < mp))
 (test (decide (Int.toNat ia + ap < mp))
 (test (gp (Int.toNat ia + ap) == (1 : Int))
 (test (ka == (0 : Int))
 (test (vp (Int.toNat ia + ap) != (0 : Int))
 (test (decide (tp (Int.toNat ia + ap) ≤ (4 : Int)))
 (Kret (PV.tf true) ([[(0, false,
 Blk.cols mp
 [Col.int IntKind.i64 tp, Col.int IntKind.i64 vp, Col.int IntKind.i64 gp])]]) (3))
 (Kret (PV.tf false) ([[(0, false,
 Blk.cols mp
 [Col.int IntKind.i64 tp, Col.int IntKind.i64 vp, Col.int IntKind.i64 gp])]]) (3)))
 (Kret (PV.tf false) ([[(0, false,
 Blk.cols mp
 [Col.int IntKind.i64 tp, Col.int IntKind.i64 vp, Col.int IntKind.i64 gp])]]) (3)))
 (test (ka == (1 : Int))
 (test (vp (Int.toNat ia + ap) != (0 : Int))
 (Kret (PV.tf true) ([[(0, false,
 Blk.cols mp
 [Col.int IntKind.i64 tp, Col.int IntKind.i64 vp, Col.int IntKind.i64 gp])]]) (3))
 (Kret (PV.tf false) ([[(0, false,
 Blk.cols mp
 [Col.int IntKind.i64 tp, Col.int IntKind.i64 vp, Col.int IntKind.i64 gp])]]) (3)))
 (test (ka == (2 : Int))
 (Kret (PV.tf true) ([[(0, false,
 Blk.cols mp
 [Col.int IntKind.i64 tp, Col.int IntKind.i64 vp, Col.int IntKind.i64 gp])]]) (3))
 (test (ka == (3 : Int))
 (Kret (PV.tf true) ([[(0, false,
 Blk.cols mp
 [Col.int IntKind.i64 tp, Col.int IntKind.i64 vp, Col.int IntKind.i64 gp])]]) (3))
 (test (ka == (4 : Int))
 (test (decide (tp (Int.toNat ia + ap) ≤ (2 : Int)))
 (Kret (PV.tf true) ([[(0, false,
 Blk.cols mp
 [Col.int IntKind.i64 tp, Col.int IntKind.i64 vp, Col.int IntKind.i64 gp])]]) (3))
 (Kret (PV.tf false) ([[(0, false,
 Blk.cols mp
 [Col.int IntKind.i64 tp, Col.int IntKind.i64 vp, Col.int IntKind.i64 gp])]]) (3)))
 (test (ka == (5 : Int))
 (test (decide (tp (Int.toNat ia + ap) ≥ (5 : Int)))
 (Kret (PV.tf true) ([[(0, false,
 Blk.cols mp
 [Col.int IntKind.i64 tp, Col.int IntKind.i64 vp, Col.int IntKind.i64 gp])]]) (3))
 (Kret (PV.tf false) ([[(0, false,
 Blk.cols mp
 [Col.int IntKind.i64 tp, Col.int IntKind.i64 vp, Col.int IntKind.i64 gp])]]) (3)))
 (test (ka == (6 : Int))
 (test (tp (Int.toNat ia + ap) == (1 : Int))
 (test (gp (Int.toNat ia + ap) == (0 : Int))
 (Kret (PV.tf true) ([[(0, false,
 Blk.cols mp
 [Col.int IntKind.i64 tp, Col.int IntKind.i64 vp, Col.int IntKind.i64 gp])]]) (3))
 (test (tp (Int.toNat ia + ap) == (2 : Int))
 (test (gp (Int.toNat ia + ap) == (2 : Int))
 (Kret (PV.tf true) ([[(0, false,
 Blk.cols mp
 [Col.int IntKind.i64 tp, Col.int IntKind.i64 vp, Col.int IntKind.i64 gp])]]) (3))
 (Kret (PV.tf false) ([[(0, false,
 Blk.cols mp
 [Col.int IntKind.i64 tp, Col.int IntKind.i64 vp, Col.int IntKind.i64 gp])]]) (3)))
 (test (tp (Int.toNat ia + ap) == (4 : Int))
 (test (gp (Int.toNat ia + ap) == (2 : Int))
 (Kret (PV.tf true) ([[(0, false,
 Blk.cols mp
 [Col.int IntKind.i64 tp, Col.int IntKind.i64 vp, Col.int IntKind.i64 gp])]]) (3))
 (Kret (PV.tf false) ([[(0, false,
 Blk.cols mp
 [Col.int IntKind.i64 tp, Col.int IntKind.i64 vp, Col.int IntKind.i64 gp])]]) (3)))
 (Kret (PV.tf false) ([[(0, false,
 Blk.cols mp
 [Col.int IntKind.i64 tp, Col.int IntKind.i64 vp, Col.int IntKind.i64 gp])]]) (3)))))
 (test (tp (Int.toNat ia + ap) == (2 : Int))
 (test (gp (Int.toNat ia + ap) == (2 : Int))
 (Kret (PV.tf true) ([[(0, false,
 Blk.cols mp
 [Col.int IntKind.i64 tp, Col.int IntKind.i64 vp, Col.int IntKind.i64 gp])]]) (3))
 (Kret (PV.tf false) ([[(0, false,
 Blk.cols mp
 [Col.int IntKind.i64 tp, Col.int IntKind.i64 vp, Col.int IntKind.i64 gp])]]) (3)))
 (test (tp (Int.toNat ia + ap) == (4 : Int))
 (test (gp (Int.toNat ia + ap) == (2 : Int))
 (Kret (PV.tf true) ([[(0, false,
 Blk.cols mp
 [Col.int IntKind.i64 tp, Col.int IntKind.i64 vp, Col.int IntKind.i64 gp])]]) (3))
 (Kret (PV.tf false) ([[(0, false,
 Blk.cols mp
 [Col.int IntKind.i64 tp, Col.int IntKind.i64 vp, Col.int IntKind.i64 gp])]]) (3)))
 (Kret (PV.tf false) ([[(0, false,
 Blk.cols mp
 [Col.int IntKind.i64 tp, Col.int IntKind.i64 vp, Col.int IntKind.i64 gp])]]) (3)))))
 (test (ka == (7 : Int))
 (test (ev)
 (test (tp (Int.toNat ia + ap) == (2 : Int))
 (Kret (PV.tf true) ([[(0, false,
 Blk.cols mp
 [Col.int IntKind.i64 tp, Col.int IntKind.i64 vp, Col.int IntKind.i64 gp])]]) (3))
 (Kret (PV.tf false) ([[(0, false,
 Blk.cols mp
 [Col.int IntKind.i64 tp, Col.int IntKind.i64 vp, Col.int IntKind.i64 gp])]]) (3)))
 (Kret (PV.tf false) ([[(0, false,
 Blk.cols mp
 [Col.int IntKind.i64 tp, Col.int IntKind.i64 vp, Col.int IntKind.i64 gp])]]) (3)))
 (test (ka == (8 : Int))
 (test (vp (Int.toNat ia + ap) == (1 : Int))
 (test (tp (Int.toNat ia + ap) == (0 : Int))
 (Kret (PV.tf true) ([[(0, false,
 Blk.cols mp
 [Col.int IntKind.i64 tp, Col.int IntKind.i64 vp, Col.int IntKind.i64 gp])]]) (3))
 (Kret (PV.tf false) ([[(0, false,
 Blk.cols mp
 [Col.int IntKind.i64 tp, Col.int IntKind.i64 vp, Col.int IntKind.i64 gp])]]) (3)))
 (Kret (PV.tf false) ([[(0, false,
 Blk.cols mp
 [Col.int IntKind.i64 tp, Col.int IntKind.i64 vp, Col.int IntKind.i64 gp])]]) (3)))
 (Kret (PV.tf false) ([[(0, false,
 Blk.cols mp
 [Col.int IntKind.i64 tp, Col.int IntKind.i64 vp, Col.int IntKind.i64 gp])]]) (3)))))))))))
 (test (gp (Int.toNat ia + ap) == (3 : Int))
 (test (ka == (0 : Int))
 (test (vp (Int.toNat ia + ap) != (0 : Int))
 (test (decide (tp (Int.toNat ia + ap) ≤ (4 : Int)))
 (Kret (PV.tf true) ([[(0, false,
 Blk.cols mp
 [Col.int IntKind.i64 tp, Col.int IntKind.i64 vp, Col.int IntKind.i64 gp])]]) (3))
 (Kret (PV.tf false) ([[(0, false,
 Blk.cols mp
 [Col.int IntKind.i64 tp, Col.int IntKind.i64 vp, Col.int IntKind.i64 gp])]]) (3)))
 (Kret (PV.tf false) ([[(0, false,
 Blk.cols mp
 [Col.int IntKind.i64 tp, Col.int IntKind.i64 vp, Col.int IntKind.i64 gp])]]) (3)))
 (test (ka == (1 : Int))
 (test (vp (Int.toNat ia + ap) != (0 : Int))
 (Kret (PV.tf true) ([[(0, false,
 Blk.cols mp
 [Col.int IntKind.i64 tp, Col.int IntKind.i64 vp, Col.int IntKind.i64 gp])]]) (3))
 (Kret (PV.tf false) ([[(0, false,
 Blk.cols mp
 [Col.int IntKind.i64 tp, Col.int IntKind.i64 vp, Col.int IntKind.i64 gp])]]) (3)))
 (test (ka == (2 : Int))
 (Kret (PV.tf true) ([[(0, false,
 Blk.cols mp
 [Col.int IntKind.i64 tp, Col.int IntKind.i64 vp, Col.int IntKind.i64 gp])]]) (3))
 (test (ka == (3 : Int))
 (Kret (PV.tf true) ([[(0, false,
 Blk.cols mp
 [Col.int IntKind.i64 tp, Col.int IntKind.i64 vp, Col.int IntKind.i64 gp])]]) (3))
 (test (ka == (4 : Int))
 (test (decide (tp (Int.toNat ia + ap) ≤ (2 : Int)))
 (Kret (PV.tf true) ([[(0, false,
 Blk.cols mp
 [Col.int IntKind.i64 tp, Col.int IntKind.i64 vp, Col.int IntKind.i64 gp])]]) (3))
 (Kret (PV.tf false) ([[(0, false,
 Blk.cols mp
 [Col.int IntKind.i64 tp, Col.int IntKind.i64 vp, Col.int IntKind.i64 gp])]]) (3)))
 (test (ka == (5 : Int))
 (test (decide (tp (Int.toNat ia + ap) ≥ (5 : Int)))
 (Kret (PV.tf true) ([[(0, false,
 Blk.cols mp
 [Col.int IntKind.i64 tp, Col.int IntKind.i64 vp, Col.int IntKind.i64 gp])]]) (3))
 (Kret (PV.tf false) ([[(0, false,
 Blk.cols mp
 [Col.int IntKind.i64 tp, Col.int IntKind.i64 vp, Col.int IntKind.i64 gp])]]) (3)))
 (test (ka == (6 : Int))
 (test (tp (Int.toNat ia + ap) == (1 : Int))
 (test (gp (Int.toNat ia + ap) == (0 : Int))
 (Kret (PV.tf true) ([[(0, false,
 Blk.cols mp
 [Col.int IntKind.i64 tp, Col.int IntKind.i64 vp, Col.int IntKind.i64 gp])]]) (3))
 (test (tp (Int.toNat ia + ap) == (2 : Int))
 (test (gp (Int.toNat ia + ap) == (2 : Int))
 (Kret (PV.tf true) ([[(0, false,
 Blk.cols mp
 [Col.int IntKind.i64 tp, Col.int IntKind.i64 vp, Col.int IntKind.i64 gp])]]) (3))
 (Kret (PV.tf false) ([[(0, false,
 Blk.cols mp
 [Col.int IntKind.i64 tp, Col.int IntKind.i64 vp, Col.int IntKind.i64 gp])]]) (3)))
 (test (tp (Int.toNat ia + ap) == (4 : Int))
 (test (gp (Int.toNat ia + ap) == (2 : Int))
 (Kret (PV.tf true) ([[(0, false,
 Blk.cols mp
 [Col.int IntKind.i64 tp, Col.int IntKind.i64 vp, Col.int IntKind.i64 gp])]]) (3))
 (Kret (PV.tf false) ([[(0, false,
 Blk.cols mp
 [Col.int IntKind.i64 tp, Col.int IntKind.i64 vp, Col.int IntKind.i64 gp])]]) (3)))
 (Kret (PV.tf false) ([[(0, false,
 Blk.cols mp
 [Col.int IntKind.i64 tp, Col.int IntKind.i64 vp, Col.int IntKind.i64 gp])]]) (3)))))
 (test (tp (Int.toNat ia + ap) == (2 : Int))
 (test (gp (Int.toNat ia + ap) == (2 : Int))
 (Kret (PV.tf true) ([[(0, false,
 Blk.cols mp
 [Col.int IntKind.i64 tp, Col.int IntKind.i64 vp, Col.int IntKind.i64 gp])]]) (3))
 (Kret (PV.tf false) ([[(0, false,
 Blk.cols mp
 [Col.int IntKind.i64 tp, Col.int IntKind.i64 vp, Col.int IntKind.i64 gp])]]) (3)))
 (test (tp (Int.toNat ia + ap) == (4 : Int))
 (test (gp (Int.toNat ia + ap) == (2 : Int))
 (Kret (PV.tf true) ([[(0, false,
 Blk.cols mp
 [Col.int IntKind.i64 tp, Col.int IntKind.i64 vp, Col.int IntKind.i64 gp])]]) (3))
 (Kret (PV.tf false) ([[(0, false,
 Blk.cols mp
 [Col.int IntKind.i64 tp, Col.int IntKind.i64 vp, Col.int IntKind.i64 gp])]]) (3)))
 (Kret (PV.tf false) ([[(0, false,
 Blk.cols mp
 [Col.int IntKind.i64 tp, Col.int IntKind.i64 vp, Col.int IntKind.i64 gp])]]) (3)))))
 (test (ka == (7 : Int))
 (test (ev)
 (test (tp (Int.toNat ia + ap) == (2 : Int))
 (Kret (PV.tf true) ([[(0, false,
 Blk.cols mp
 [Col.int IntKind.i64 tp, Col.int IntKind.i64 vp, Col.int IntKind.i64 gp])]]) (3))
 (Kret (PV.tf false) ([[(0, false,
 Blk.cols mp
 [Col.int IntKind.i64 tp, Col.int IntKind.i64 vp, Col.int IntKind.i64 gp])]]) (3)))
 (Kret (PV.tf false) ([[(0, false,
 Blk.cols mp
 [Col.int IntKind.i64 tp, Col.int IntKind.i64 vp, Col.int IntKind.i64 gp])]]) (3)))
 (test (ka == (8 : Int))
 (test (vp (Int.toNat ia + ap) == (1 : Int))
 (test (tp (Int.toNat ia + ap) == (0 : Int))
 (Kret (PV.tf true) ([[(0, false,
 Blk.cols mp
 [Col.int IntKind.i64 tp, Col.int IntKind.i64 vp, Col.int IntKind.i64 gp])]]) (3))
 (Kret (PV.tf false) ([[(0, false,
 Blk.cols mp
 [Col.int IntKind.i64 tp, Col.int IntKind.i64 vp, Col.int IntKind.i64 gp])]]) (3)))
 (Kret (PV.tf false) ([[(0, false,
 Blk.cols mp
 [Col.int IntKind.i64 tp, Col.int IntKind.i64 vp, Col.int IntKind.i64 gp])]]) (3)))
 (Kret (PV.tf false) ([[(0, false,
 Blk.cols mp
 [Col.int IntKind.i64 tp, Col.int IntKind.i64 vp, Col.int IntKind.i64 gp])]]) (3)))))))))))
 (test (ka == (0 : Int))
 (test (vp (Int.toNat ia + ap) != (0 : Int))
 (test (decide (tp (Int.toNat ia + ap) ≤ (4 : Int)))
 (Kret (PV.tf true) ([[(0, false,
 Blk.cols mp
 [Col.int IntKind.i64 tp, Col.int IntKind.i64 vp, Col.int IntKind.i64 gp])]]) (3))
 (Kret (PV.tf false) ([[(0, false,
 Blk.cols mp
 [Col.int IntKind.i64 tp, Col.int IntKind.i64 vp, Col.int IntKind.i64 gp])]]) (3)))
 (Kret (PV.tf false) ([[(0, false,
 Blk.cols mp
 [Col.int IntKind.i64 tp, Col.int IntKind.i64 vp, Col.int IntKind.i64 gp])]]) (3)))
 (test (ka == (1 : Int))
 (test (vp (Int.toNat ia + ap) != (0 : Int))
 (Kret (PV.tf true) ([[(0, false,
 Blk.cols mp
 [Col.int IntKind.i64 tp, Col.int IntKind.i64 vp, Col.int IntKind.i64 gp])]]) (3))
 (Kret (PV.tf false) ([[(0, false,
 Blk.cols mp
 [Col.int IntKind.i64 tp, Col.int IntKind.i64 vp, Col.int IntKind.i64 gp])]]) (3)))
 (test (ka == (2 : Int))
 (Kret (PV.tf false) ([[(0, false,
 Blk.cols mp
 [Col.int IntKind.i64 tp, Col.int IntKind.i64 vp, Col.int IntKind.i64 gp])]]) (3))
 (test (ka == (3 : Int))
 (Kret (PV.tf false) ([[(0, false,
 Blk.cols mp
 [Col.int IntKind.i64 tp, Col.int IntKind.i64 vp, Col.int IntKind.i64 gp])]]) (3))
 (test (ka == (4 : Int))
 (test (decide (tp (Int.toNat ia + ap) ≤ (2 : Int)))
 (Kret (PV.tf true) ([[(0, false,
 Blk.cols mp
 [Col.int IntKind.i64 tp, Col.int IntKind.i64 vp, Col.int IntKind.i64 gp])]]) (3))
 (Kret (PV.tf false) ([[(0, false,
 Blk.cols mp
 [Col.int IntKind.i64 tp, Col.int IntKind.i64 vp, Col.int IntKind.i64 gp])]]) (3)))
 (test (ka == (5 : Int))
 (test (decide (tp (Int.toNat ia + ap) ≥ (5 : Int)))
 (Kret (PV.tf true) ([[(0, false,
 Blk.cols mp
 [Col.int IntKind.i64 tp, Col.int IntKind.i64 vp, Col.int IntKind.i64 gp])]]) (3))
 (Kret (PV.tf false) ([[(0, false,
 Blk.cols mp
 [Col.int IntKind.i64 tp, Col.int IntKind.i64 vp, Col.int IntKind.i64 gp])]]) (3)))
 (test (ka == (6 : Int))
 (test (tp (Int.toNat ia + ap) == (1 : Int))
 (test (gp (Int.toNat ia + ap) == (0 : Int))
 (Kret (PV.tf true) ([[(0, false,
 Blk.cols mp
 [Col.int IntKind.i64 tp, Col.int IntKind.i64 vp, Col.int IntKind.i64 gp])]]) (3))
 (test (tp (Int.toNat ia + ap) == (2 : Int))
 (test (gp (Int.toNat ia + ap) == (2 : Int))
 (Kret (PV.tf true) ([[(0, false,
 Blk.cols mp
 [Col.int IntKind.i64 tp, Col.int IntKind.i64 vp, Col.int IntKind.i64 gp])]]) (3))
 (Kret (PV.tf false) ([[(0, false,
 Blk.cols mp
 [Col.int IntKind.i64 tp, Col.int IntKind.i64 vp, Col.int IntKind.i64 gp])]]) (3)))
 (test (tp (Int.toNat ia + ap) == (4 : Int))
 (test (gp (Int.toNat ia + ap) == (2 : Int))
 (Kret (PV.tf true) ([[(0, false,
 Blk.cols mp
 [Col.int IntKind.i64 tp, Col.int IntKind.i64 vp, Col.int IntKind.i64 gp])]]) (3))
 (Kret (PV.tf false) ([[(0, false,
 Blk.cols mp
 [Col.int IntKind.i64 tp, Col.int IntKind.i64 vp, Col.int IntKind.i64 gp])]]) (3)))
 (Kret (PV.tf false) ([[(0, false,
 Blk.cols mp
 [Col.int IntKind.i64 tp, Col.int IntKind.i64 vp, Col.int IntKind.i64 gp])]]) (3)))))
 (test (tp (Int.toNat ia + ap) == (2 : Int))
 (test (gp (Int.toNat ia + ap) == (2 : Int))
 (Kret (PV.tf true) ([[(0, false,
 Blk.cols mp
 [Col.int IntKind.i64 tp, Col.int IntKind.i64 vp, Col.int IntKind.i64 gp])]]) (3))
 (Kret (PV.tf false) ([[(0, false,
 Blk.cols mp
 [Col.int IntKind.i64 tp, Col.int IntKind.i64 vp, Col.int IntKind.i64 gp])]]) (3)))
 (test (tp (Int.toNat ia + ap) == (4 : Int))
 (test (gp (Int.toNat ia + ap) == (2 : Int))
 (Kret (PV.tf true) ([[(0, false,
 Blk.cols mp
 [Col.int IntKind.i64 tp, Col.int IntKind.i64 vp, Col.int IntKind.i64 gp])]]) (3))
 (Kret (PV.tf false) ([[(0, false,
 Blk.cols mp
 [Col.int IntKind.i64 tp, Col.int IntKind.i64 vp, Col.int IntKind.i64 gp])]]) (3)))
 (Kret (PV.tf false) ([[(0, false,
 Blk.cols mp
 [Col.int IntKind.i64 tp, Col.int IntKind.i64 vp, Col.int IntKind.i64 gp])]]) (3)))))
 (test (ka == (7 : Int))
 (test (ev)
 (test (tp (Int.toNat ia + ap) == (2 : Int))
 (Kret (PV.tf true) ([[(0, false,
 Blk.cols mp
 [Col.int IntKind.i64 tp, Col.int IntKind.i64 vp, Col.int IntKind.i64 gp])]]) (3))
 (Kret (PV.tf false) ([[(0, false,
 Blk.cols mp
 [Col.int IntKind.i64 tp, Col.int IntKind.i64 vp, Col.int IntKind.i64 gp])]]) (3)))
 (Kret (PV.tf false) ([[(0, false,
 Blk.cols mp
 [Col.int IntKind.i64 tp, Col.int IntKind.i64 vp, Col.int IntKind.i64 gp])]]) (3)))
 (test (ka == (8 : Int))
 (test (vp (Int.toNat ia + ap) == (1 : Int))
 (test (tp (Int.toNat ia + ap) == (0 : Int))
 (Kret (PV.tf true) ([[(0, false,
 Blk.cols mp
 [Col.int IntKind.i64 tp, Col.int IntKind.i64 vp, Col.int IntKind.i64 gp])]]) (3))
 (Kret (PV.tf false) ([[(0, false,
 Blk.cols mp
 [Col.int IntKind.i64 tp, Col.int IntKind.i64 vp, Col.int IntKind.i64 gp])]]) (3)))
 (Kret (PV.tf false) ([[(0, false,
 Blk.cols mp
 [Col.int IntKind.i64 tp, Col.int IntKind.i64 vp, Col.int IntKind.i64 gp])]]) (3)))
 (Kret (PV.tf false) ([[(0, false,
 Blk.cols mp
 [Col.int IntKind.i64 tp, Col.int IntKind.i64 vp, Col.int IntKind.i64 gp])]]) (3)))))))))))))
 (False))
 (False))
 (False))
 (False)
set_option maxRecDepth 100000 in
theorem te47 (test : Bool → Prop → Prop → Prop) (Kst : KS) (Kret : KR) (ph : Int) (ev : Bool) (ap np mp : Nat) (tp : Nat → Int) (vp : Nat → Int) (gp : Nat → Int) (ia : Int) (ka : Int) : run test Try.env true noX true 400 ⟨47, [.cd (mkFn Try.f47).body], argT 0 [.agg [.int .i64 ph, .bool ev, .loose ⟨0, 3, ap, 0⟩ np], .int .i64 ia, .int .i64 ka], [[], [(0, (false, .cols mp [.int .i64 tp, .int .i64 vp, .int .i64 gp]))]], 1⟩ (proj 1 [] Kst Kret) =
  Te47 test Kst Kret ph ev ap np mp tp vp gp ia ka := by kernel_rfl
set_option maxRecDepth 100000 in
theorem be47 (ph : Int) (ev : Bool) (ap np mp : Nat) (tp : Nat → Int) (vp : Nat → Int) (gp : Nat → Int) (ia : Int) (ka : Int) (Kst : KS) (Kret : KR) (x : St47 ⊕ Rt47) (hS : HS 1 400 ((I47 ph ev ap np mp tp vp gp ia ka)) Kst x) (hR : HR 1 400 ((V47 ph ev ap np mp tp vp gp ia ka)) (fun r => [newL (1 + 1) ((N47 ph ev ap np mp tp vp gp ia ka) r) ++ [(0, (false, .cols mp [.int .i64 tp, .int .i64 vp, .int .i64 gp]))]]) Kret x) (h : (bif (decide ((0 : Int) ≤ ia ∧ ia < (↑np : Int)))
 then (bif (decide (Int.toNat ia + ap < mp))
 then (bif (gp (Int.toNat ia + ap) == (1 : Int))
 then (bif (ka == (0 : Int))
 then (bif (vp (Int.toNat ia + ap) != (0 : Int))
 then (bif (decide (tp (Int.toNat ia + ap) ≤ (4 : Int)))
 then (some (.inr (true)))
 else (some (.inr (false))))
 else (some (.inr (false))))
 else (bif (ka == (1 : Int))
 then (bif (vp (Int.toNat ia + ap) != (0 : Int))
 then (some (.inr (true)))
 else (some (.inr (false))))
 else (bif (ka == (2 : Int))
 then (some (.inr (true)))
 else (bif (ka == (3 : Int))
 then (some (.inr (true)))
 else (bif (ka == (4 : Int))
 then (bif (decide (tp (Int.toNat ia + ap) ≤ (2 : Int)))
 then (some (.inr (true)))
 else (some (.inr (false))))
 else (bif (ka == (5 : Int))
 then (bif (decide (tp (Int.toNat ia + ap) ≥ (5 : Int)))
 then (some (.inr (true)))
 else (some (.inr (false))))
 else (bif (ka == (6 : Int))
 then (bif (tp (Int.toNat ia + ap) == (1 : Int))
 then (bif (gp (Int.toNat ia + ap) == (0 : Int))
 then (some (.inr (true)))
 else (bif (tp (Int.toNat ia + ap) == (2 : Int))
 then (bif (gp (Int.toNat ia + ap) == (2 : Int))
 then (some (.inr (true)))
 else (some (.inr (false))))
 else (bif (tp (Int.toNat ia + ap) == (4 : Int))
 then (bif (gp (Int.toNat ia + ap) == (2 : Int))
 then (some (.inr (true)))
 else (some (.inr (false))))
 else (some (.inr (false))))))
 else (bif (tp (Int.toNat ia + ap) == (2 : Int))
 then (bif (gp (Int.toNat ia + ap) == (2 : Int))
 then (some (.inr (true)))
 else (some (.inr (false))))
 else (bif (tp (Int.toNat ia + ap) == (4 : Int))
 then (bif (gp (Int.toNat ia + ap) == (2 : Int))
 then (some (.inr (true)))
 else (some (.inr (false))))
 else (some (.inr (false))))))
 else (bif (ka == (7 : Int))
 then (bif (ev)
 then (bif (tp (Int.toNat ia + ap) == (2 : Int))
 then (some (.inr (true)))
 else (some (.inr (false))))
 else (some (.inr (false))))
 else (bif (ka == (8 : Int))
 then (bif (vp (Int.toNat ia + ap) == (1 : Int))
 then (bif (tp (Int.toNat ia + ap) == (0 : Int))
 then (some (.inr (true)))
 else (some (.inr (false))))
 else (some (.inr (false))))
 else (some (.inr (false))))))))))))
 else (bif (gp (Int.toNat ia + ap) == (3 : Int))
 then (bif (ka == (0 : Int))
 then (bif (vp (Int.toNat ia + ap) != (0 : Int))
 then (bif (decide (tp (Int.toNat ia + ap) ≤ (4 : Int)))
 then (some (.inr (true)))
 else (some (.inr (false))))
 else (some (.inr (false))))
 else (bif (ka == (1 : Int))
 then (bif (vp (Int.toNat ia + ap) != (0 : Int))
 then (some (.inr (true)))
 else (some (.inr (false))))
 else (bif (ka == (2 : Int))
 then (some (.inr (true)))
 else (bif (ka == (3 : Int))
 then (some (.inr (true)))
 else (bif (ka == (4 : Int))
 then (bif (decide (tp (Int.toNat ia + ap) ≤ (2 : Int)))
 then (some (.inr (true)))
 else (some (.inr (false))))
 else (bif (ka == (5 : Int))
 then (bif (decide (tp (Int.toNat ia + ap) ≥ (5 : Int)))
 then (some (.inr (true)))
 else (some (.inr (false))))
 else (bif (ka == (6 : Int))
 then (bif (tp (Int.toNat ia + ap) == (1 : Int))
 then (bif (gp (Int.toNat ia + ap) == (0 : Int))
 then (some (.inr (true)))
 else (bif (tp (Int.toNat ia + ap) == (2 : Int))
 then (bif (gp (Int.toNat ia + ap) == (2 : Int))
 then (some (.inr (true)))
 else (some (.inr (false))))
 else (bif (tp (Int.toNat ia + ap) == (4 : Int))
 then (bif (gp (Int.toNat ia + ap) == (2 : Int))
 then (some (.inr (true)))
 else (some (.inr (false))))
 else (some (.inr (false))))))
 else (bif (tp (Int.toNat ia + ap) == (2 : Int))
 then (bif (gp (Int.toNat ia + ap) == (2 : Int))
 then (some (.inr (true)))
 else (some (.inr (false))))
 else (bif (tp (Int.toNat ia + ap) == (4 : Int))
 then (bif (gp (Int.toNat ia + ap) == (2 : Int))
 then (some (.inr (true)))
 else (some (.inr (false))))
 else (some (.inr (false))))))
 else (bif (ka == (7 : Int))
 then (bif (ev)
 then (bif (tp (Int.toNat ia + ap) == (2 : Int))
 then (some (.inr (true)))
 else (some (.inr (false))))
 else (some (.inr (false))))
 else (bif (ka == (8 : Int))
 then (bif (vp (Int.toNat ia + ap) == (1 : Int))
 then (bif (tp (Int.toNat ia + ap) == (0 : Int))
 then (some (.inr (true)))
 else (some (.inr (false))))
 else (some (.inr (false))))
 else (some (.inr (false))))))))))))
 else (bif (ka == (0 : Int))
 then (bif (vp (Int.toNat ia + ap) != (0 : Int))
 then (bif (decide (tp (Int.toNat ia + ap) ≤ (4 : Int)))
 then (some (.inr (true)))
 else (some (.inr (false))))
 else (some (.inr (false))))
 else (bif (ka == (1 : Int))
 then (bif (vp (Int.toNat ia + ap) != (0 : Int))
 then (some (.inr (true)))
 else (some (.inr (false))))
 else (bif (ka == (2 : Int))
 then (some (.inr (false)))
 else (bif (ka == (3 : Int))
 then (some (.inr (false)))
 else (bif (ka == (4 : Int))
 then (bif (decide (tp (Int.toNat ia + ap) ≤ (2 : Int)))
 then (some (.inr (true)))
 else (some (.inr (false))))
 else (bif (ka == (5 : Int))
 then (bif (decide (tp (Int.toNat ia + ap) ≥ (5 : Int)))
 then (some (.inr (true)))
 else (some (.inr (false))))
 else (bif (ka == (6 : Int))
 then (bif (tp (Int.toNat ia + ap) == (1 : Int))
 then (bif (gp (Int.toNat ia + ap) == (0 : Int))
 then (some (.inr (true)))
 else (bif (tp (Int.toNat ia + ap) == (2 : Int))
 then (bif (gp (Int.toNat ia + ap) == (2 : Int))
 then (some (.inr (true)))
 else (some (.inr (false))))
 else (bif (tp (Int.toNat ia + ap) == (4 : Int))
 then (bif (gp (Int.toNat ia + ap) == (2 : Int))
 then (some (.inr (true)))
 else (some (.inr (false))))
 else (some (.inr (false))))))
 else (bif (tp (Int.toNat ia + ap) == (2 : Int))
 then (bif (gp (Int.toNat ia + ap) == (2 : Int))
 then (some (.inr (true)))
 else (some (.inr (false))))
 else (bif (tp (Int.toNat ia + ap) == (4 : Int))
 then (bif (gp (Int.toNat ia + ap) == (2 : Int))
 then (some (.inr (true)))
 else (some (.inr (false))))
 else (some (.inr (false))))))
 else (bif (ka == (7 : Int))
 then (bif (ev)
 then (bif (tp (Int.toNat ia + ap) == (2 : Int))
 then (some (.inr (true)))
 else (some (.inr (false))))
 else (some (.inr (false))))
 else (bif (ka == (8 : Int))
 then (bif (vp (Int.toNat ia + ap) == (1 : Int))
 then (bif (tp (Int.toNat ia + ap) == (0 : Int))
 then (some (.inr (true)))
 else (some (.inr (false))))
 else (some (.inr (false))))
 else (some (.inr (false))))))))))))))
 else (none))
 else (none) : Option (St47 ⊕ Rt47)) = some x) : Te47 cond Kst Kret ph ev ap np mp tp vp gp ia ka := by
  unfold Te47
  exact bif_split h
   (fun c0 h => bif_split h
   (fun c1 h => cond_yes c1 (cond_yes c1 (bif_split h
   (fun c2 h => bif_split h
   (fun c3 h => bif_split h
   (fun c4 h => bif_split h
   (fun c5 h => ret_at hR _ h (fun n => n) rfl rfl rfl (rn_bool_tf rfl) rfl (entl_bor (use_lo rfl) rfl rfl entl_nil))
   (fun c5 h => ret_at hR _ h (fun n => n) rfl rfl rfl (rn_bool_tf rfl) rfl (entl_bor (use_lo rfl) rfl rfl entl_nil)))
   (fun c4 h => ret_at hR _ h (fun n => n) rfl rfl rfl (rn_bool_tf rfl) rfl (entl_bor (use_lo rfl) rfl rfl entl_nil)))
   (fun c3 h => bif_split h
   (fun c4 h => bif_split h
   (fun c5 h => ret_at hR _ h (fun n => n) rfl rfl rfl (rn_bool_tf rfl) rfl (entl_bor (use_lo rfl) rfl rfl entl_nil))
   (fun c5 h => ret_at hR _ h (fun n => n) rfl rfl rfl (rn_bool_tf rfl) rfl (entl_bor (use_lo rfl) rfl rfl entl_nil)))
   (fun c4 h => bif_split h
   (fun c5 h => ret_at hR _ h (fun n => n) rfl rfl rfl (rn_bool_tf rfl) rfl (entl_bor (use_lo rfl) rfl rfl entl_nil))
   (fun c5 h => bif_split h
   (fun c6 h => ret_at hR _ h (fun n => n) rfl rfl rfl (rn_bool_tf rfl) rfl (entl_bor (use_lo rfl) rfl rfl entl_nil))
   (fun c6 h => bif_split h
   (fun c7 h => bif_split h
   (fun c8 h => ret_at hR _ h (fun n => n) rfl rfl rfl (rn_bool_tf rfl) rfl (entl_bor (use_lo rfl) rfl rfl entl_nil))
   (fun c8 h => ret_at hR _ h (fun n => n) rfl rfl rfl (rn_bool_tf rfl) rfl (entl_bor (use_lo rfl) rfl rfl entl_nil)))
   (fun c7 h => bif_split h
   (fun c8 h => bif_split h
   (fun c9 h => ret_at hR _ h (fun n => n) rfl rfl rfl (rn_bool_tf rfl) rfl (entl_bor (use_lo rfl) rfl rfl entl_nil))
   (fun c9 h => ret_at hR _ h (fun n => n) rfl rfl rfl (rn_bool_tf rfl) rfl (entl_bor (use_lo rfl) rfl rfl entl_nil)))
   (fun c8 h => bif_split h
   (fun c9 h => bif_split h
   (fun c10 h => bif_split h
   (fun c11 h => ret_at hR _ h (fun n => n) rfl rfl rfl (rn_bool_tf rfl) rfl (entl_bor (use_lo rfl) rfl rfl entl_nil))
   (fun c11 h => bif_split h
   (fun c12 h => bif_split h
   (fun c13 h => ret_at hR _ h (fun n => n) rfl rfl rfl (rn_bool_tf rfl) rfl (entl_bor (use_lo rfl) rfl rfl entl_nil))
   (fun c13 h => ret_at hR _ h (fun n => n) rfl rfl rfl (rn_bool_tf rfl) rfl (entl_bor (use_lo rfl) rfl rfl entl_nil)))
   (fun c12 h => bif_split h
   (fun c13 h => bif_split h
   (fun c14 h => ret_at hR _ h (fun n => n) rfl rfl rfl (rn_bool_tf rfl) rfl (entl_bor (use_lo rfl) rfl rfl entl_nil))
   (fun c14 h => ret_at hR _ h (fun n => n) rfl rfl rfl (rn_bool_tf rfl) rfl (entl_bor (use_lo rfl) rfl rfl entl_nil)))
   (fun c13 h => ret_at hR _ h (fun n => n) rfl rfl rfl (rn_bool_tf rfl) rfl (entl_bor (use_lo rfl) rfl rfl entl_nil)))))
   (fun c10 h => bif_split h
   (fun c11 h => bif_split h
   (fun c12 h => ret_at hR _ h (fun n => n) rfl rfl rfl (rn_bool_tf rfl) rfl (entl_bor (use_lo rfl) rfl rfl entl_nil))
   (fun c12 h => ret_at hR _ h (fun n => n) rfl rfl rfl (rn_bool_tf rfl) rfl (entl_bor (use_lo rfl) rfl rfl entl_nil)))
   (fun c11 h => bif_split h
   (fun c12 h => bif_split h
   (fun c13 h => ret_at hR _ h (fun n => n) rfl rfl rfl (rn_bool_tf rfl) rfl (entl_bor (use_lo rfl) rfl rfl entl_nil))
   (fun c13 h => ret_at hR _ h (fun n => n) rfl rfl rfl (rn_bool_tf rfl) rfl (entl_bor (use_lo rfl) rfl rfl entl_nil)))
   (fun c12 h => ret_at hR _ h (fun n => n) rfl rfl rfl (rn_bool_tf rfl) rfl (entl_bor (use_lo rfl) rfl rfl entl_nil)))))
   (fun c9 h => bif_split h
   (fun c10 h => bif_split h
   (fun c11 h => bif_split h
   (fun c12 h => ret_at hR _ h (fun n => n) rfl rfl rfl (rn_bool_tf rfl) rfl (entl_bor (use_lo rfl) rfl rfl entl_nil))
   (fun c12 h => ret_at hR _ h (fun n => n) rfl rfl rfl (rn_bool_tf rfl) rfl (entl_bor (use_lo rfl) rfl rfl entl_nil)))
   (fun c11 h => ret_at hR _ h (fun n => n) rfl rfl rfl (rn_bool_tf rfl) rfl (entl_bor (use_lo rfl) rfl rfl entl_nil)))
   (fun c10 h => bif_split h
   (fun c11 h => bif_split h
   (fun c12 h => bif_split h
   (fun c13 h => ret_at hR _ h (fun n => n) rfl rfl rfl (rn_bool_tf rfl) rfl (entl_bor (use_lo rfl) rfl rfl entl_nil))
   (fun c13 h => ret_at hR _ h (fun n => n) rfl rfl rfl (rn_bool_tf rfl) rfl (entl_bor (use_lo rfl) rfl rfl entl_nil)))
   (fun c12 h => ret_at hR _ h (fun n => n) rfl rfl rfl (rn_bool_tf rfl) rfl (entl_bor (use_lo rfl) rfl rfl entl_nil)))
   (fun c11 h => ret_at hR _ h (fun n => n) rfl rfl rfl (rn_bool_tf rfl) rfl (entl_bor (use_lo rfl) rfl rfl entl_nil)))))))))))
   (fun c2 h => bif_split h
   (fun c3 h => bif_split h
   (fun c4 h => bif_split h
   (fun c5 h => bif_split h
   (fun c6 h => ret_at hR _ h (fun n => n) rfl rfl rfl (rn_bool_tf rfl) rfl (entl_bor (use_lo rfl) rfl rfl entl_nil))
   (fun c6 h => ret_at hR _ h (fun n => n) rfl rfl rfl (rn_bool_tf rfl) rfl (entl_bor (use_lo rfl) rfl rfl entl_nil)))
   (fun c5 h => ret_at hR _ h (fun n => n) rfl rfl rfl (rn_bool_tf rfl) rfl (entl_bor (use_lo rfl) rfl rfl entl_nil)))
   (fun c4 h => bif_split h
   (fun c5 h => bif_split h
   (fun c6 h => ret_at hR _ h (fun n => n) rfl rfl rfl (rn_bool_tf rfl) rfl (entl_bor (use_lo rfl) rfl rfl entl_nil))
   (fun c6 h => ret_at hR _ h (fun n => n) rfl rfl rfl (rn_bool_tf rfl) rfl (entl_bor (use_lo rfl) rfl rfl entl_nil)))
   (fun c5 h => bif_split h
   (fun c6 h => ret_at hR _ h (fun n => n) rfl rfl rfl (rn_bool_tf rfl) rfl (entl_bor (use_lo rfl) rfl rfl entl_nil))
   (fun c6 h => bif_split h
   (fun c7 h => ret_at hR _ h (fun n => n) rfl rfl rfl (rn_bool_tf rfl) rfl (entl_bor (use_lo rfl) rfl rfl entl_nil))
   (fun c7 h => bif_split h
   (fun c8 h => bif_split h
   (fun c9 h => ret_at hR _ h (fun n => n) rfl rfl rfl (rn_bool_tf rfl) rfl (entl_bor (use_lo rfl) rfl rfl entl_nil))
   (fun c9 h => ret_at hR _ h (fun n => n) rfl rfl rfl (rn_bool_tf rfl) rfl (entl_bor (use_lo rfl) rfl rfl entl_nil)))
   (fun c8 h => bif_split h
   (fun c9 h => bif_split h
   (fun c10 h => ret_at hR _ h (fun n => n) rfl rfl rfl (rn_bool_tf rfl) rfl (entl_bor (use_lo rfl) rfl rfl entl_nil))
   (fun c10 h => ret_at hR _ h (fun n => n) rfl rfl rfl (rn_bool_tf rfl) rfl (entl_bor (use_lo rfl) rfl rfl entl_nil)))
   (fun c9 h => bif_split h
   (fun c10 h => bif_split h
   (fun c11 h => bif_split h
   (fun c12 h => ret_at hR _ h (fun n => n) rfl rfl rfl (rn_bool_tf rfl) rfl (entl_bor (use_lo rfl) rfl rfl entl_nil))
   (fun c12 h => bif_split h
   (fun c13 h => bif_split h
   (fun c14 h => ret_at hR _ h (fun n => n) rfl rfl rfl (rn_bool_tf rfl) rfl (entl_bor (use_lo rfl) rfl rfl entl_nil))
   (fun c14 h => ret_at hR _ h (fun n => n) rfl rfl rfl (rn_bool_tf rfl) rfl (entl_bor (use_lo rfl) rfl rfl entl_nil)))
   (fun c13 h => bif_split h
   (fun c14 h => bif_split h
   (fun c15 h => ret_at hR _ h (fun n => n) rfl rfl rfl (rn_bool_tf rfl) rfl (entl_bor (use_lo rfl) rfl rfl entl_nil))
   (fun c15 h => ret_at hR _ h (fun n => n) rfl rfl rfl (rn_bool_tf rfl) rfl (entl_bor (use_lo rfl) rfl rfl entl_nil)))
   (fun c14 h => ret_at hR _ h (fun n => n) rfl rfl rfl (rn_bool_tf rfl) rfl (entl_bor (use_lo rfl) rfl rfl entl_nil)))))
   (fun c11 h => bif_split h
   (fun c12 h => bif_split h
   (fun c13 h => ret_at hR _ h (fun n => n) rfl rfl rfl (rn_bool_tf rfl) rfl (entl_bor (use_lo rfl) rfl rfl entl_nil))
   (fun c13 h => ret_at hR _ h (fun n => n) rfl rfl rfl (rn_bool_tf rfl) rfl (entl_bor (use_lo rfl) rfl rfl entl_nil)))
   (fun c12 h => bif_split h
   (fun c13 h => bif_split h
   (fun c14 h => ret_at hR _ h (fun n => n) rfl rfl rfl (rn_bool_tf rfl) rfl (entl_bor (use_lo rfl) rfl rfl entl_nil))
   (fun c14 h => ret_at hR _ h (fun n => n) rfl rfl rfl (rn_bool_tf rfl) rfl (entl_bor (use_lo rfl) rfl rfl entl_nil)))
   (fun c13 h => ret_at hR _ h (fun n => n) rfl rfl rfl (rn_bool_tf rfl) rfl (entl_bor (use_lo rfl) rfl rfl entl_nil)))))
   (fun c10 h => bif_split h
   (fun c11 h => bif_split h
   (fun c12 h => bif_split h
   (fun c13 h => ret_at hR _ h (fun n => n) rfl rfl rfl (rn_bool_tf rfl) rfl (entl_bor (use_lo rfl) rfl rfl entl_nil))
   (fun c13 h => ret_at hR _ h (fun n => n) rfl rfl rfl (rn_bool_tf rfl) rfl (entl_bor (use_lo rfl) rfl rfl entl_nil)))
   (fun c12 h => ret_at hR _ h (fun n => n) rfl rfl rfl (rn_bool_tf rfl) rfl (entl_bor (use_lo rfl) rfl rfl entl_nil)))
   (fun c11 h => bif_split h
   (fun c12 h => bif_split h
   (fun c13 h => bif_split h
   (fun c14 h => ret_at hR _ h (fun n => n) rfl rfl rfl (rn_bool_tf rfl) rfl (entl_bor (use_lo rfl) rfl rfl entl_nil))
   (fun c14 h => ret_at hR _ h (fun n => n) rfl rfl rfl (rn_bool_tf rfl) rfl (entl_bor (use_lo rfl) rfl rfl entl_nil)))
   (fun c13 h => ret_at hR _ h (fun n => n) rfl rfl rfl (rn_bool_tf rfl) rfl (entl_bor (use_lo rfl) rfl rfl entl_nil)))
   (fun c12 h => ret_at hR _ h (fun n => n) rfl rfl rfl (rn_bool_tf rfl) rfl (entl_bor (use_lo rfl) rfl rfl entl_nil)))))))))))
   (fun c3 h => bif_split h
   (fun c4 h => bif_split h
   (fun c5 h => bif_split h
   (fun c6 h => ret_at hR _ h (fun n => n) rfl rfl rfl (rn_bool_tf rfl) rfl (entl_bor (use_lo rfl) rfl rfl entl_nil))
   (fun c6 h => ret_at hR _ h (fun n => n) rfl rfl rfl (rn_bool_tf rfl) rfl (entl_bor (use_lo rfl) rfl rfl entl_nil)))
   (fun c5 h => ret_at hR _ h (fun n => n) rfl rfl rfl (rn_bool_tf rfl) rfl (entl_bor (use_lo rfl) rfl rfl entl_nil)))
   (fun c4 h => bif_split h
   (fun c5 h => bif_split h
   (fun c6 h => ret_at hR _ h (fun n => n) rfl rfl rfl (rn_bool_tf rfl) rfl (entl_bor (use_lo rfl) rfl rfl entl_nil))
   (fun c6 h => ret_at hR _ h (fun n => n) rfl rfl rfl (rn_bool_tf rfl) rfl (entl_bor (use_lo rfl) rfl rfl entl_nil)))
   (fun c5 h => bif_split h
   (fun c6 h => ret_at hR _ h (fun n => n) rfl rfl rfl (rn_bool_tf rfl) rfl (entl_bor (use_lo rfl) rfl rfl entl_nil))
   (fun c6 h => bif_split h
   (fun c7 h => ret_at hR _ h (fun n => n) rfl rfl rfl (rn_bool_tf rfl) rfl (entl_bor (use_lo rfl) rfl rfl entl_nil))
   (fun c7 h => bif_split h
   (fun c8 h => bif_split h
   (fun c9 h => ret_at hR _ h (fun n => n) rfl rfl rfl (rn_bool_tf rfl) rfl (entl_bor (use_lo rfl) rfl rfl entl_nil))
   (fun c9 h => ret_at hR _ h (fun n => n) rfl rfl rfl (rn_bool_tf rfl) rfl (entl_bor (use_lo rfl) rfl rfl entl_nil)))
   (fun c8 h => bif_split h
   (fun c9 h => bif_split h
   (fun c10 h => ret_at hR _ h (fun n => n) rfl rfl rfl (rn_bool_tf rfl) rfl (entl_bor (use_lo rfl) rfl rfl entl_nil))
   (fun c10 h => ret_at hR _ h (fun n => n) rfl rfl rfl (rn_bool_tf rfl) rfl (entl_bor (use_lo rfl) rfl rfl entl_nil)))
   (fun c9 h => bif_split h
   (fun c10 h => bif_split h
   (fun c11 h => bif_split h
   (fun c12 h => ret_at hR _ h (fun n => n) rfl rfl rfl (rn_bool_tf rfl) rfl (entl_bor (use_lo rfl) rfl rfl entl_nil))
   (fun c12 h => bif_split h
   (fun c13 h => bif_split h
   (fun c14 h => ret_at hR _ h (fun n => n) rfl rfl rfl (rn_bool_tf rfl) rfl (entl_bor (use_lo rfl) rfl rfl entl_nil))
   (fun c14 h => ret_at hR _ h (fun n => n) rfl rfl rfl (rn_bool_tf rfl) rfl (entl_bor (use_lo rfl) rfl rfl entl_nil)))
   (fun c13 h => bif_split h
   (fun c14 h => bif_split h
   (fun c15 h => ret_at hR _ h (fun n => n) rfl rfl rfl (rn_bool_tf rfl) rfl (entl_bor (use_lo rfl) rfl rfl entl_nil))
   (fun c15 h => ret_at hR _ h (fun n => n) rfl rfl rfl (rn_bool_tf rfl) rfl (entl_bor (use_lo rfl) rfl rfl entl_nil)))
   (fun c14 h => ret_at hR _ h (fun n => n) rfl rfl rfl (rn_bool_tf rfl) rfl (entl_bor (use_lo rfl) rfl rfl entl_nil)))))
   (fun c11 h => bif_split h
   (fun c12 h => bif_split h
   (fun c13 h => ret_at hR _ h (fun n => n) rfl rfl rfl (rn_bool_tf rfl) rfl (entl_bor (use_lo rfl) rfl rfl entl_nil))
   (fun c13 h => ret_at hR _ h (fun n => n) rfl rfl rfl (rn_bool_tf rfl) rfl (entl_bor (use_lo rfl) rfl rfl entl_nil)))
   (fun c12 h => bif_split h
   (fun c13 h => bif_split h
   (fun c14 h => ret_at hR _ h (fun n => n) rfl rfl rfl (rn_bool_tf rfl) rfl (entl_bor (use_lo rfl) rfl rfl entl_nil))
   (fun c14 h => ret_at hR _ h (fun n => n) rfl rfl rfl (rn_bool_tf rfl) rfl (entl_bor (use_lo rfl) rfl rfl entl_nil)))
   (fun c13 h => ret_at hR _ h (fun n => n) rfl rfl rfl (rn_bool_tf rfl) rfl (entl_bor (use_lo rfl) rfl rfl entl_nil)))))
   (fun c10 h => bif_split h
   (fun c11 h => bif_split h
   (fun c12 h => bif_split h
   (fun c13 h => ret_at hR _ h (fun n => n) rfl rfl rfl (rn_bool_tf rfl) rfl (entl_bor (use_lo rfl) rfl rfl entl_nil))
   (fun c13 h => ret_at hR _ h (fun n => n) rfl rfl rfl (rn_bool_tf rfl) rfl (entl_bor (use_lo rfl) rfl rfl entl_nil)))
   (fun c12 h => ret_at hR _ h (fun n => n) rfl rfl rfl (rn_bool_tf rfl) rfl (entl_bor (use_lo rfl) rfl rfl entl_nil)))
   (fun c11 h => bif_split h
   (fun c12 h => bif_split h
   (fun c13 h => bif_split h
   (fun c14 h => ret_at hR _ h (fun n => n) rfl rfl rfl (rn_bool_tf rfl) rfl (entl_bor (use_lo rfl) rfl rfl entl_nil))
   (fun c14 h => ret_at hR _ h (fun n => n) rfl rfl rfl (rn_bool_tf rfl) rfl (entl_bor (use_lo rfl) rfl rfl entl_nil)))
   (fun c13 h => ret_at hR _ h (fun n => n) rfl rfl rfl (rn_bool_tf rfl) rfl (entl_bor (use_lo rfl) rfl rfl entl_nil)))
   (fun c12 h => ret_at hR _ h (fun n => n) rfl rfl rfl (rn_bool_tf rfl) rfl (entl_bor (use_lo rfl) rfl rfl entl_nil)))))))))))))))
   (fun c1 h => no_some h))
   (fun c0 h => no_some h)
theorem a47 (ph : Int) (ev : Bool) (ap np mp : Nat) (tp : Nat → Int) (vp : Nat → Int) (gp : Nat → Int) (ia : Int) (ka : Int) {r : Rt47} (h : Goes ((q47 ph ev ap np mp tp vp gp ia ka)) ((p47 ph ev ap np mp tp vp gp ia ka)) r) : CallR Try.prog 47 [.agg [.int .i64 ph, .bool ev, .loose ⟨0, 3, ap, 0⟩ np], .int .i64 ia, .int .i64 ka] [[(0, (false, .cols mp [.int .i64 tp, .int .i64 vp, .int .i64 gp]))]] 1 ((V47 ph ev ap np mp tp vp gp ia ka) r) ((fun r => [newL (1 + 1) ((N47 ph ev ap np mp tp vp gp ia ka) r) ++ [(0, (false, .cols mp [.int .i64 tp, .int .i64 vp, .int .i64 gp]))]]) r) 400 ∧ ∃ F, Try.prog.funcs[47]? = some F ∧ F.body.isSome = true ∧ (F.name == "runtime.NumGoroutine") = false := by
  refine dec_calls (f := 47) (lo := 1) (hi := 400) (H := [[(0, (false, .cols mp [.int .i64 tp, .int .i64 vp, .int .i64 gp]))]]) (args := [.agg [.int .i64 ph, .bool ev, .loose ⟨0, 3, ap, 0⟩ np], .int .i64 ia, .int .i64 ka]) Try.envOk Try.mixed noX_ok ((I47 ph ev ap np mp tp vp gp ia ka)) ((V47 ph ev ap np mp tp vp gp ia ka)) (fun r => [newL (1 + 1) ((N47 ph ev ap np mp tp vp gp ia ka) r) ++ [(0, (false, .cols mp [.int .i64 tp, .int .i64 vp, .int .i64 gp]))]]) (fn := mkFn Try.f47) (ts := []) (n := 400) rfl (by decide) (by simp) (names_of rfl) ?_ ?_ ?_ h
  · intro s; exact s.elim
  · intro Kst Kret x hS hR h
    exact Holds.eq (te47 cond Kst Kret ph ev ap np mp tp vp gp ia ka) (be47 ph ev ap np mp tp vp gp ia ka Kst Kret x hS hR h)
  · intro Kst Kret x hS hR s h; exact s.elim
noncomputable def k47 : Con := ⟨47, [.agg [.plain (.int .i64), .plain (.bool), .list [.int .i64, .int .i64, .int .i64]], .one (.plain (.int .i64)), .one (.plain (.int .i64))], fun (x : (Int × Bool × (Nat × Nat × Nat × (Nat → Int) × (Nat → Int) × (Nat → Int) × Unit) × Unit) × Int × Int × Unit) => (fun (ph : Int) (ev : Bool) (ap np mp : Nat) (tp : Nat → Int) (vp : Nat → Int) (gp : Nat → Int) (ia : Int) (ka : Int) => decide (ap + np ≤ mp ∧ np ≤ 1000000 ∧ (0 ≤ ia ∧ ia < np) ∧ 0 ≤ ka ∧ ka ≤ 8)) x.1.1 x.1.2.1 x.1.2.2.1.1 x.1.2.2.1.2.1 x.1.2.2.1.2.2.1 x.1.2.2.1.2.2.2.1 x.1.2.2.1.2.2.2.2.1 x.1.2.2.1.2.2.2.2.2.1 x.2.1 x.2.2.1, fun (x : (Int × Bool × (Nat × Nat × Nat × (Nat → Int) × (Nat → Int) × (Nat → Int) × Unit) × Unit) × Int × Int × Unit) => (fun (ph : Int) (ev : Bool) (ap np mp : Nat) (tp : Nat → Int) (vp : Nat → Int) (gp : Nat → Int) (ia : Int) (ka : Int) => (V47 ph ev ap np mp tp vp gp ia ka) (S.stpB ev (tp (ia.toNat + ap)) (vp (ia.toNat + ap)) (gp (ia.toNat + ap)) ka.toNat)) x.1.1 x.1.2.1 x.1.2.2.1.1 x.1.2.2.1.2.1 x.1.2.2.1.2.2.1 x.1.2.2.1.2.2.2.1 x.1.2.2.1.2.2.2.2.1 x.1.2.2.1.2.2.2.2.2.1 x.2.1 x.2.2.1, fun (x : (Int × Bool × (Nat × Nat × Nat × (Nat → Int) × (Nat → Int) × (Nat → Int) × Unit) × Unit) × Int × Int × Unit) => (fun (ph : Int) (ev : Bool) (ap np mp : Nat) (tp : Nat → Int) (vp : Nat → Int) (gp : Nat → Int) (ia : Int) (ka : Int) => (N47 ph ev ap np mp tp vp gp ia ka) (S.stpB ev (tp (ia.toNat + ap)) (vp (ia.toNat + ap)) (gp (ia.toNat + ap)) ka.toNat)) x.1.1 x.1.2.1 x.1.2.2.1.1 x.1.2.2.1.2.1 x.1.2.2.1.2.2.1 x.1.2.2.1.2.2.2.1 x.1.2.2.1.2.2.2.2.1 x.1.2.2.1.2.2.2.2.2.1 x.2.1 x.2.2.1, fun _ _ => .dead⟩
theorem s47 (ph : Int) (ev : Bool) (ap np mp : Nat) (tp : Nat → Int) (vp : Nat → Int) (gp : Nat → Int) (ia : Int) (ka : Int) (hp : ap + np ≤ mp ∧ np ≤ 1000000 ∧ (0 ≤ ia ∧ ia < np) ∧ 0 ≤ ka ∧ ka ≤ 8) : Goes ((q47 ph ev ap np mp tp vp gp ia ka)) ((p47 ph ev ap np mp tp vp gp ia ka)) (S.stpB ev (tp (ia.toNat + ap)) (vp (ia.toNat + ap)) (gp (ia.toNat + ap)) ka.toNat) := by
  obtain ⟨hp1, hp2, ⟨hi1, hi2⟩, hk1, hk2⟩ := hp
  obtain ⟨k0, k1, k2, k3, k4, k5, k6, k7, k8, k9⟩ := stp_k (ev := ev) (a := tp (ia.toNat + ap)) (i := vp (ia.toNat + ap)) (o := gp (ia.toNat + ap))
  have n7 : decide (0 ≤ ia ∧ ia < (np : Int)) = true := decide_eq_true (by omega)
  have n8 : decide (ia.toNat + ap < mp) = true := decide_eq_true (by omega)
  have h10 : ka = 0 ∨ ka = 1 ∨ ka = 2 ∨ ka = 3 ∨ ka = 4 ∨ ka = 5 ∨ ka = 6 ∨ ka = 7 ∨ ka = 8 := by omega
  unfold p47
  rw [n7, n8]
  simp only [cond_true]
  generalize tp (ia.toNat + ap) = a at *
  generalize vp (ia.toNat + ap) = i at *
  generalize gp (ia.toNat + ap) = o at *
  show Goes _ _ _
  rcases h10 with rfl | rfl | rfl | rfl | rfl | rfl | rfl | rfl | rfl
  · show Goes _ _ (S.stpB ev a i o 0)
    rw [k0]
    repeat' first
      | (refine goes_ok ?_ ?_; focus decide)
      | (refine goes_no ?_ ?_; focus decide)
      | with_reducible refine goes_if (fun h => ?_) (fun h => ?_) <;> (try simp only [lim64, decide_eq_true_eq, decide_eq_false_iff_not, Int.toNat_natCast, toNat_pred, toNat_succ, Option.getD_some, Option.getD_none, Bool.not_eq_true', Bool.not_eq_false', Bool.and_eq_true, Bool.or_eq_true, Bool.and_eq_false_iff, Bool.or_eq_false_iff, bne_iff_ne, beq_iff_eq, bne_eq_false_iff_eq, beq_eq_false_iff_ne, ne_eq, not_and, Int.not_le, Int.not_lt, ge_iff_le, gt_iff_lt, Nat.not_lt, Nat.not_le, Bool.not_eq_true, Bool.not_eq_false, Bool.true_eq_false, Bool.false_eq_true, not_false_eq_true, not_true_eq_false] at h)
      | exact goes_none.mpr (by omega)
    all_goals first | (exfalso; omega) | (refine goes_inr.mpr ?_; symm; apply decide_eq_true; omega) | (refine goes_inr.mpr ?_; symm; apply decide_eq_false; omega) | exact goes_inr.mpr rfl
  · show Goes _ _ (S.stpB ev a i o 1)
    rw [k1]
    repeat' first
      | (refine goes_ok ?_ ?_; focus decide)
      | (refine goes_no ?_ ?_; focus decide)
      | with_reducible refine goes_if (fun h => ?_) (fun h => ?_) <;> (try simp only [lim64, decide_eq_true_eq, decide_eq_false_iff_not, Int.toNat_natCast, toNat_pred, toNat_succ, Option.getD_some, Option.getD_none, Bool.not_eq_true', Bool.not_eq_false', Bool.and_eq_true, Bool.or_eq_true, Bool.and_eq_false_iff, Bool.or_eq_false_iff, bne_iff_ne, beq_iff_eq, bne_eq_false_iff_eq, beq_eq_false_iff_ne, ne_eq, not_and, Int.not_le, Int.not_lt, ge_iff_le, gt_iff_lt, Nat.not_lt, Nat.not_le, Bool.not_eq_true, Bool.not_eq_false, Bool.true_eq_false, Bool.false_eq_true, not_false_eq_true, not_true_eq_false] at h)
      | exact goes_none.mpr (by omega)
    all_goals first | (exfalso; omega) | (refine goes_inr.mpr ?_; symm; apply decide_eq_true; omega) | (refine goes_inr.mpr ?_; symm; apply decide_eq_false; omega) | exact goes_inr.mpr rfl
  · show Goes _ _ (S.stpB ev a i o 2)
    rw [k2]
    repeat' first
      | (refine goes_ok ?_ ?_; focus decide)
      | (refine goes_no ?_ ?_; focus decide)
      | with_reducible refine goes_if (fun h => ?_) (fun h => ?_) <;> (try simp only [lim64, decide_eq_true_eq, decide_eq_false_iff_not, Int.toNat_natCast, toNat_pred, toNat_succ, Option.getD_some, Option.getD_none, Bool.not_eq_true', Bool.not_eq_false', Bool.and_eq_true, Bool.or_eq_true, Bool.and_eq_false_iff, Bool.or_eq_false_iff, bne_iff_ne, beq_iff_eq, bne_eq_false_iff_eq, beq_eq_false_iff_ne, ne_eq, not_and, Int.not_le, Int.not_lt, ge_iff_le, gt_iff_lt, Nat.not_lt, Nat.not_le, Bool.not_eq_true, Bool.not_eq_false, Bool.true_eq_false, Bool.false_eq_true, not_false_eq_true, not_true_eq_false] at h)
      | exact goes_none.mpr (by omega)
    all_goals first | (exfalso; omega) | (refine goes_inr.mpr ?_; symm; apply decide_eq_true; omega) | (refine goes_inr.mpr ?_; symm; apply decide_eq_false; omega) | exact goes_inr.mpr rfl
  · show Goes _ _ (S.stpB ev a i o 3)
    rw [k3]
    repeat' first
      | (refine goes_ok ?_ ?_; focus decide)
      | (refine goes_no ?_ ?_; focus decide)
      | with_reducible refine goes_if (fun h => ?_) (fun h => ?_) <;> (try simp only [lim64, decide_eq_true_eq, decide_eq_false_iff_not, Int.toNat_natCast, toNat_pred, toNat_succ, Option.getD_some, Option.getD_none, Bool.not_eq_true', Bool.not_eq_false', Bool.and_eq_true, Bool.or_eq_true, Bool.and_eq_false_iff, Bool.or_eq_false_iff, bne_iff_ne, beq_iff_eq, bne_eq_false_iff_eq, beq_eq_false_iff_ne, ne_eq, not_and, Int.not_le, Int.not_lt, ge_iff_le, gt_iff_lt, Nat.not_lt, Nat.not_le, Bool.not_eq_true, Bool.not_eq_false, Bool.true_eq_false, Bool.false_eq_true, not_false_eq_true, not_true_eq_false] at h)
      | exact goes_none.mpr (by omega)
    all_goals first | (exfalso; omega) | (refine goes_inr.mpr ?_; symm; apply decide_eq_true; omega) | (refine goes_inr.mpr ?_; symm; apply decide_eq_false; omega) | exact goes_inr.mpr rfl
  · show Goes _ _ (S.stpB ev a i o 4)
    rw [k4]
    repeat' first
      | (refine goes_ok ?_ ?_; focus decide)
      | (refine goes_no ?_ ?_; focus decide)
      | with_reducible refine goes_if (fun h => ?_) (fun h => ?_) <;> (try simp only [lim64, decide_eq_true_eq, decide_eq_false_iff_not, Int.toNat_natCast, toNat_pred, toNat_succ, Option.getD_some, Option.getD_none, Bool.not_eq_true', Bool.not_eq_false', Bool.and_eq_true, Bool.or_eq_true, Bool.and_eq_false_iff, Bool.or_eq_false_iff, bne_iff_ne, beq_iff_eq, bne_eq_false_iff_eq, beq_eq_false_iff_ne, ne_eq, not_and, Int.not_le, Int.not_lt, ge_iff_le, gt_iff_lt, Nat.not_lt, Nat.not_le, Bool.not_eq_true, Bool.not_eq_false, Bool.true_eq_false, Bool.false_eq_true, not_false_eq_true, not_true_eq_false] at h)
      | exact goes_none.mpr (by omega)
    all_goals first | (exfalso; omega) | (refine goes_inr.mpr ?_; symm; apply decide_eq_true; omega) | (refine goes_inr.mpr ?_; symm; apply decide_eq_false; omega) | exact goes_inr.mpr rfl
  · show Goes _ _ (S.stpB ev a i o 5)
    rw [k5]
    repeat' first
      | (refine goes_ok ?_ ?_; focus decide)
      | (refine goes_no ?_ ?_; focus decide)
      | with_reducible refine goes_if (fun h => ?_) (fun h => ?_) <;> (try simp only [lim64, decide_eq_true_eq, decide_eq_false_iff_not, Int.toNat_natCast, toNat_pred, toNat_succ, Option.getD_some, Option.getD_none, Bool.not_eq_true', Bool.not_eq_false', Bool.and_eq_true, Bool.or_eq_true, Bool.and_eq_false_iff, Bool.or_eq_false_iff, bne_iff_ne, beq_iff_eq, bne_eq_false_iff_eq, beq_eq_false_iff_ne, ne_eq, not_and, Int.not_le, Int.not_lt, ge_iff_le, gt_iff_lt, Nat.not_lt, Nat.not_le, Bool.not_eq_true, Bool.not_eq_false, Bool.true_eq_false, Bool.false_eq_true, not_false_eq_true, not_true_eq_false] at h)
      | exact goes_none.mpr (by omega)
    all_goals first | (exfalso; omega) | (refine goes_inr.mpr ?_; symm; apply decide_eq_true; omega) | (refine goes_inr.mpr ?_; symm; apply decide_eq_false; omega) | exact goes_inr.mpr rfl
  · show Goes _ _ (S.stpB ev a i o 6)
    rw [k6]
    repeat' first
      | (refine goes_ok ?_ ?_; focus decide)
      | (refine goes_no ?_ ?_; focus decide)
      | with_reducible refine goes_if (fun h => ?_) (fun h => ?_) <;> (try simp only [lim64, decide_eq_true_eq, decide_eq_false_iff_not, Int.toNat_natCast, toNat_pred, toNat_succ, Option.getD_some, Option.getD_none, Bool.not_eq_true', Bool.not_eq_false', Bool.and_eq_true, Bool.or_eq_true, Bool.and_eq_false_iff, Bool.or_eq_false_iff, bne_iff_ne, beq_iff_eq, bne_eq_false_iff_eq, beq_eq_false_iff_ne, ne_eq, not_and, Int.not_le, Int.not_lt, ge_iff_le, gt_iff_lt, Nat.not_lt, Nat.not_le, Bool.not_eq_true, Bool.not_eq_false, Bool.true_eq_false, Bool.false_eq_true, not_false_eq_true, not_true_eq_false] at h)
      | exact goes_none.mpr (by omega)
    all_goals first | (exfalso; omega) | (refine goes_inr.mpr ?_; symm; apply decide_eq_true; omega) | (refine goes_inr.mpr ?_; symm; apply decide_eq_false; omega) | exact goes_inr.mpr rfl
  · show Goes _ _ (S.stpB ev a i o 7)
    rw [k7]
    cases ev <;> simp only [Bool.true_and, Bool.false_and, cond_true, cond_false]
    repeat' first
      | (refine goes_ok ?_ ?_; focus decide)
      | (refine goes_no ?_ ?_; focus decide)
      | with_reducible refine goes_if (fun h => ?_) (fun h => ?_) <;> (try simp only [lim64, decide_eq_true_eq, decide_eq_false_iff_not, Int.toNat_natCast, toNat_pred, toNat_succ, Option.getD_some, Option.getD_none, Bool.not_eq_true', Bool.not_eq_false', Bool.and_eq_true, Bool.or_eq_true, Bool.and_eq_false_iff, Bool.or_eq_false_iff, bne_iff_ne, beq_iff_eq, bne_eq_false_iff_eq, beq_eq_false_iff_ne, ne_eq, not_and, Int.not_le, Int.not_lt, ge_iff_le, gt_iff_lt, Nat.not_lt, Nat.not_le, Bool.not_eq_true, Bool.not_eq_false, Bool.true_eq_false, Bool.false_eq_true, not_false_eq_true, not_true_eq_false] at h)
      | exact goes_none.mpr (by omega)
    all_goals first | (exfalso; omega) | (refine goes_inr.mpr ?_; symm; apply decide_eq_true; omega) | (refine goes_inr.mpr ?_; symm; apply decide_eq_false; omega) | exact goes_inr.mpr rfl
  · show Goes _ _ (S.stpB ev a i o 8)
    rw [k8]
    repeat' first
      | (refine goes_ok ?_ ?_; focus decide)
      | (refine goes_no ?_ ?_; focus decide)
      | with_reducible refine goes_if (fun h => ?_) (fun h => ?_) <;> (try simp only [lim64, decide_eq_true_eq, decide_eq_false_iff_not, Int.toNat_natCast, toNat_pred, toNat_succ, Option.getD_some, Option.getD_none, Bool.not_eq_true', Bool.not_eq_false', Bool.and_eq_true, Bool.or_eq_true, Bool.and_eq_false_iff, Bool.or_eq_false_iff, bne_iff_ne, beq_iff_eq, bne_eq_false_iff_eq, beq_eq_false_iff_ne, ne_eq, not_and, Int.not_le, Int.not_lt, ge_iff_le, gt_iff_lt, Nat.not_lt, Nat.not_le, Bool.not_eq_true, Bool.not_eq_false, Bool.true_eq_false, Bool.false_eq_true, not_false_eq_true, not_true_eq_false] at h)
      | exact goes_none.mpr (by omega)
    all_goals first | (exfalso; omega) | (refine goes_inr.mpr ?_; symm; apply decide_eq_true; omega) | (refine goes_inr.mpr ?_; symm; apply decide_eq_false; omega) | exact goes_inr.mpr rfl

theorem k47_ok : k47.ok Try.prog := by
  intro x hx
  obtain ⟨⟨ph, ev, ⟨ap, np, mp, tp, vp, gp, _⟩, _⟩, ia, ka, _⟩ := x
  obtain ⟨h1, h2⟩ := a47 ph ev ap np mp tp vp gp ia ka (s47 ph ev ap np mp tp vp gp ia ka (of_dec hx rfl))
  exact ⟨⟨400, (by decide : 1 + 1 + 0 ≤ 400), h1⟩, h2⟩
noncomputable def xB (test : Bool → Prop → Prop → Prop) : Ext := consX test [k13, k15, k46, k47]
theorem xB_ok : ExtOk Try.prog (xB cond) := consX_ok ⟨k13_ok, k15_ok, k46_ok, k47_ok, trivial⟩

end Go.Ev
