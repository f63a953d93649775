/-
  Are two magnets the same?
-/
import Derived.Test.YtccojphjkaikeaaEvY
import Derived.Test.YtccojphjkaikeaaEnv
namespace Go.Ev
open Go.Proofs
set_option linter.unusedVariables false
set_option linter.unusedSimpArgs false
set_option maxRecDepth 100000
inductive St23 where
  | h0 (x0 : Int)
  | h1 (x0 : Int)
abbrev Rt23 := Bool
noncomputable def V23 (ap np mp : Nat) (tp : Nat → Int) (vp : Nat → Int) (gp : Nat → Int) (aq nq mq : Nat) (tq : Nat → Bool) (au nu mu : Nat) (tu : Nat → Int) (vu : Nat → Int) (gu : Nat → Int) (aw nw mw : Nat) (tw : Nat → Bool) (r : Rt23) : PV := PV.bool r
noncomputable def N23 (ap np mp : Nat) (tp : Nat → Int) (vp : Nat → Int) (gp : Nat → Int) (aq nq mq : Nat) (tq : Nat → Bool) (au nu mu : Nat) (tu : Nat → Int) (vu : Nat → Int) (gu : Nat → Int) (aw nw mw : Nat) (tw : Nat → Bool) (r : Rt23) : List Blk := []
noncomputable def I23 (ap np mp : Nat) (tp : Nat → Int) (vp : Nat → Int) (gp : Nat → Int) (aq nq mq : Nat) (tq : Nat → Bool) (au nu mu : Nat) (tu : Nat → Int) (vu : Nat → Int) (gu : Nat → Int) (aw nw mw : Nat) (tw : Nat → Bool) : St23 → Hd
  | .h0 x0 => ⟨hd Try.f23 0, [PV.ptr (PA.mk (4) (0) (0) (0)),
 PV.ptr (PA.mk (5) (0) (0) (0)), PV.int IntKind.i64 x0,
 PV.unk], [[(4, (true, Blk.cells
 [PV.loose (PA.mk (0) (3) ap (0)) np,
 PV.loose (PA.mk (1) (1) aq (0)) nq])), (5, (true, Blk.cells
 [PV.loose (PA.mk (2) (3) au (0)) nu,
 PV.loose (PA.mk (3) (1) aw (0)) nw]))], [(0, (false, .cols mp [.int .i64 tp, .int .i64 vp, .int .i64 gp])), (1, (false, .cols mq [.bool tq])), (2, (false, .cols mu [.int .i64 tu, .int .i64 vu, .int .i64 gu])), (3, (false, .cols mw [.bool tw]))]], 6⟩
  | .h1 x0 => ⟨hd Try.f23 1, [PV.ptr (PA.mk (4) (0) (0) (0)),
 PV.ptr (PA.mk (5) (0) (0) (0)), PV.unk,
 PV.int IntKind.i64 x0], [[(4, (true, Blk.cells
 [PV.loose (PA.mk (0) (3) ap (0)) np,
 PV.loose (PA.mk (1) (1) aq (0)) nq])), (5, (true, Blk.cells
 [PV.loose (PA.mk (2) (3) au (0)) nu,
 PV.loose (PA.mk (3) (1) aw (0)) nw]))], [(0, (false, .cols mp [.int .i64 tp, .int .i64 vp, .int .i64 gp])), (1, (false, .cols mq [.bool tq])), (2, (false, .cols mu [.int .i64 tu, .int .i64 vu, .int .i64 gu])), (3, (false, .cols mw [.bool tw]))]], 6⟩
noncomputable def q23 (ap np mp : Nat) (tp : Nat → Int) (vp : Nat → Int) (gp : Nat → Int) (aq nq mq : Nat) (tq : Nat → Bool) (au nu mu : Nat) (tu : Nat → Int) (vu : Nat → Int) (gu : Nat → Int) (aw nw mw : Nat) (tw : Nat → Bool) : St23 → Option (St23 ⊕ Rt23)
  | .h0 x0 => bif (decide (x0 < (↑np : Int)))
 then (bif (decide ((0 : Int) ≤ x0 ∧ x0 < (↑np : Int)))
 then (bif (decide (Int.toNat x0 + ap < mp))
 then (bif (decide ((0 : Int) ≤ x0 ∧ x0 < (↑nu : Int)))
 then (bif (decide (Int.toNat x0 + au < mu))
 then (bif (!(tp (Int.toNat x0 + ap) == tu (Int.toNat x0 + au) &&
 (vp (Int.toNat x0 + ap) == vu (Int.toNat x0 + au) &&
 (gp (Int.toNat x0 + ap) == gu (Int.toNat x0 + au) && true))))
 then (some (.inr (false)))
 else (bif (lim IntKind.i64 (x0 + (1 : Int)))
 then (some (.inl (.h0 (x0 + (1 : Int)))))
 else (none)))
 else (none))
 else (none))
 else (none))
 else (none))
 else (some (.inl (.h1 ((0 : Int)))))
  | .h1 x0 => bif (decide (x0 < (↑nq : Int)))
 then (bif (decide ((0 : Int) ≤ x0 ∧ x0 < (↑nq : Int)))
 then (bif (decide (Int.toNat x0 + aq < mq))
 then (bif (tq (Int.toNat x0 + aq))
 then (bif (decide ((0 : Int) ≤ x0 ∧ x0 < (↑nw : Int)))
 then (bif (decide (Int.toNat x0 + aw < mw))
 then (bif (tw (Int.toNat x0 + aw))
 then (bif (lim IntKind.i64 (x0 + (1 : Int)))
 then (some (.inl (.h1 (x0 + (1 : Int)))))
 else (none))
 else (some (.inr (false))))
 else (none))
 else (none))
 else (bif (decide ((0 : Int) ≤ x0 ∧ x0 < (↑nw : Int)))
 then (bif (decide (Int.toNat x0 + aw < mw))
 then (bif (tw (Int.toNat x0 + aw))
 then (some (.inr (false)))
 else (bif (lim IntKind.i64 (x0 + (1 : Int)))
 then (some (.inl (.h1 (x0 + (1 : Int)))))
 else (none)))
 else (none))
 else (none)))
 else (none))
 else (none))
 else (some (.inr (true)))
noncomputable def p23 (ap np mp : Nat) (tp : Nat → Int) (vp : Nat → Int) (gp : Nat → Int) (aq nq mq : Nat) (tq : Nat → Bool) (au nu mu : Nat) (tu : Nat → Int) (vu : Nat → Int) (gu : Nat → Int) (aw nw mw : Nat) (tw : Nat → Bool) : Option (St23 ⊕ Rt23) := bif ((↑np : Int) != (↑nu : Int))
 then (some (.inr (false)))
 else (bif ((↑nq : Int) != (↑nw : Int))
 then (some (.inr (false)))
 else (some (.inl (.h0 ((0 : Int))))))
noncomputable def Te23 (test : Bool → Prop → Prop → Prop) (Kst : KS) (Kret : KR) (ap np mp : Nat) (tp : Nat → Int) (vp : Nat → Int) (gp : Nat → Int) (aq nq mq : Nat) (tq : Nat → Bool) (au nu mu : Nat) (tu : Nat → Int) (vu : Nat → Int) (gu : Nat → Int) (aw nw mw : Nat) (tw : Nat → Bool) : Prop :=
  test ((↑np : Int) != (↑nu : Int))
 (Kret (PV.tf false) ([[(3, false, Blk.cols mw [Col.bool tw]),
 (2, false,
 Blk.cols mu
 [Col.int IntKind.i64 tu, Col.int IntKind.i64 vu, Col.int IntKind.i64 gu]),
 (1, false, Blk.cols mq [Col.bool tq]),
 (0, false,
 Blk.cols mp
 [Col.int IntKind.i64 tp, Col.int IntKind.i64 vp, Col.int IntKind.i64 gp])]]) (6))
 (test ((↑nq : Int) != (↑nw : Int))
 (Kret (PV.tf false) ([[(3, false, Blk.cols mw [Col.bool tw]),
 (2, false,
 Blk.cols mu
 [Col.int IntKind.i64 tu, Col.int IntKind.i64 vu, Col.int IntKind.i64 gu]),
 (1, false, Blk.cols mq [Col.bool tq]),
 (0, false,
 Blk.cols mp
 [Col.int IntKind.i64 tp, Col.int IntKind.i64 vp, Col.int IntKind.i64 gp])]]) (6))
 (Kst (hd Try.f23 0) ([PV.ptr (PA.mk (4) (0) (0) (0)),
 PV.ptr (PA.mk (5) (0) (0) (0)), PV.int IntKind.i64 (0 : Int),
 PV.unk]) ([[(3, false, Blk.cols mw [Col.bool tw]),
 (2, false,
 Blk.cols mu
 [Col.int IntKind.i64 tu, Col.int IntKind.i64 vu, Col.int IntKind.i64 gu]),
 (1, false, Blk.cols mq [Col.bool tq]),
 (0, false,
 Blk.cols mp
 [Col.int IntKind.i64 tp, Col.int IntKind.i64 vp, Col.int IntKind.i64 gp]),
 (5, true,
 Blk.cells
 [PV.loose (PA.mk (2) (3) au (0)) nu,
 PV.loose (PA.mk (3) (1) aw (0)) nw]),
 (4, true,
 Blk.cells
 [PV.loose (PA.mk (0) (3) ap (0)) np,
 PV.loose (PA.mk (1) (1) aq (0)) nq])]]) (6)))
set_option maxRecDepth 100000 in
theorem te23 (test : Bool → Prop → Prop → Prop) (Kst : KS) (Kret : KR) (ap np mp : Nat) (tp : Nat → Int) (vp : Nat → Int) (gp : Nat → Int) (aq nq mq : Nat) (tq : Nat → Bool) (au nu mu : Nat) (tu : Nat → Int) (vu : Nat → Int) (gu : Nat → Int) (aw nw mw : Nat) (tw : Nat → Bool) : run test Try.env true noX true 400 ⟨23, [.cd (mkFn Try.f23).body], argT 0 [.agg [.loose ⟨0, 3, ap, 0⟩ np, .loose ⟨1, 1, aq, 0⟩ nq], .agg [.loose ⟨2, 3, au, 0⟩ nu, .loose ⟨3, 1, aw, 0⟩ nw]], [[], [(0, (false, .cols mp [.int .i64 tp, .int .i64 vp, .int .i64 gp])), (1, (false, .cols mq [.bool tq])), (2, (false, .cols mu [.int .i64 tu, .int .i64 vu, .int .i64 gu])), (3, (false, .cols mw [.bool tw]))]], 4⟩ (proj 4 [2, 3, 5, 6] Kst Kret) =
  Te23 test Kst Kret ap np mp tp vp gp aq nq mq tq au nu mu tu vu gu aw nw mw tw := by kernel_rfl
noncomputable def T23_0 (test : Bool → Prop → Prop → Prop) (Kst : KS) (Kret : KR) (ap np mp : Nat) (tp : Nat → Int) (vp : Nat → Int) (gp : Nat → Int) (aq nq mq : Nat) (tq : Nat → Bool) (au nu mu : Nat) (tu : Nat → Int) (vu : Nat → Int) (gu : Nat → Int) (aw nw mw : Nat) (tw : Nat → Bool) (x0 : Int) : Prop :=
  test (decide (x0 < (↑np : Int)))
 (test (decide ((0 : Int) ≤ x0 ∧ x0 < (↑np : Int)))
 (test (decide (Int.toNat x0 + ap < mp))
 (test (decide (Int.toNat x0 + ap < mp))
 (test (decide (Int.toNat x0 + ap < mp))
 (test (decide ((0 : Int) ≤ x0 ∧ x0 < (↑nu : Int)))
 (test (decide (Int.toNat x0 + au < mu))
 (test (decide (Int.toNat x0 + au < mu))
 (test (decide (Int.toNat x0 + au < mu))
 (test (!(tp (Int.toNat x0 + ap) == tu (Int.toNat x0 + au) &&
 (vp (Int.toNat x0 + ap) == vu (Int.toNat x0 + au) &&
 (gp (Int.toNat x0 + ap) == gu (Int.toNat x0 + au) && true))))
 (Kret (PV.tf false) ([[(3, false, Blk.cols mw [Col.bool tw]),
 (2, false,
 Blk.cols mu
 [Col.int IntKind.i64 tu, Col.int IntKind.i64 vu, Col.int IntKind.i64 gu]),
 (1, false, Blk.cols mq [Col.bool tq]),
 (0, false,
 Blk.cols mp
 [Col.int IntKind.i64 tp, Col.int IntKind.i64 vp, Col.int IntKind.i64 gp])]]) (6))
 (test (lim IntKind.i64 (x0 + (1 : Int)))
 (Kst (hd Try.f23 0) ([PV.ptr (PA.mk (4) (0) (0) (0)),
 PV.ptr (PA.mk (5) (0) (0) (0)),
 PV.int IntKind.i64 (x0 + (1 : Int)), PV.unk]) ([[(3, false, Blk.cols mw [Col.bool tw]),
 (2, false,
 Blk.cols mu
 [Col.int IntKind.i64 tu, Col.int IntKind.i64 vu, Col.int IntKind.i64 gu]),
 (1, false, Blk.cols mq [Col.bool tq]),
 (0, false,
 Blk.cols mp
 [Col.int IntKind.i64 tp, Col.int IntKind.i64 vp, Col.int IntKind.i64 gp]),
 (5, true,
 Blk.cells
 [PV.loose (PA.mk (2) (3) au (0)) nu,
 PV.loose (PA.mk (3) (1) aw (0)) nw]),
 (4, true,
 Blk.cells
 [PV.loose (PA.mk (0) (3) ap (0)) np,
 PV.loose (PA.mk (1) (1) aq (0)) nq])]]) (6))
 (False)))
 (False))
 (False))
 (False))
 (False))
 (False))
 (False))
 (False))
 (False))
 (Kst (hd Try.f23 1) ([PV.ptr (PA.mk (4) (0) (0) (0)),
 PV.ptr (PA.mk (5) (0) (0) (0)), PV.int IntKind.i64 x0,
 PV.int IntKind.i64 (0 : Int)]) ([[(3, false, Blk.cols mw [Col.bool tw]),
 (2, false,
 Blk.cols mu
 [Col.int IntKind.i64 tu, Col.int IntKind.i64 vu, Col.int IntKind.i64 gu]),
 (1, false, Blk.cols mq [Col.bool tq]),
 (0, false,
 Blk.cols mp
 [Col.int IntKind.i64 tp, Col.int IntKind.i64 vp, Col.int IntKind.i64 gp]),
 (5, true,
 Blk.cells
 [PV.loose (PA.mk (2) (3) au (0)) nu,
 PV.loose (PA.mk (3) (1) aw (0)) nw]),
 (4, true,
 Blk.cells
 [PV.loose (PA.mk (0) (3) ap (0)) np,
 PV.loose (PA.mk (1) (1) aq (0)) nq])]]) (6))
set_option maxRecDepth 100000 in
theorem t23_0 (test : Bool → Prop → Prop → Prop) (Kst : KS) (Kret : KR) (ap np mp : Nat) (tp : Nat → Int) (vp : Nat → Int) (gp : Nat → Int) (aq nq mq : Nat) (tq : Nat → Bool) (au nu mu : Nat) (tu : Nat → Int) (vu : Nat → Int) (gu : Nat → Int) (aw nw mw : Nat) (tw : Nat → Bool) (x0 : Int) : run test Try.env true noX true 400 ⟨23, hd Try.f23 0, zipT [2, 3, 5, 6] [PV.ptr (PA.mk (4) (0) (0) (0)),
 PV.ptr (PA.mk (5) (0) (0) (0)), PV.int IntKind.i64 x0,
 PV.unk], [[(4, (true, Blk.cells
 [PV.loose (PA.mk (0) (3) ap (0)) np,
 PV.loose (PA.mk (1) (1) aq (0)) nq])), (5, (true, Blk.cells
 [PV.loose (PA.mk (2) (3) au (0)) nu,
 PV.loose (PA.mk (3) (1) aw (0)) nw]))], [(0, (false, .cols mp [.int .i64 tp, .int .i64 vp, .int .i64 gp])), (1, (false, .cols mq [.bool tq])), (2, (false, .cols mu [.int .i64 tu, .int .i64 vu, .int .i64 gu])), (3, (false, .cols mw [.bool tw]))]], 6⟩ (proj 4 [2, 3, 5, 6] Kst Kret) =
  T23_0 test Kst Kret ap np mp tp vp gp aq nq mq tq au nu mu tu vu gu aw nw mw tw x0 := by kernel_rfl
noncomputable def T23_1 (test : Bool → Prop → Prop → Prop) (Kst : KS) (Kret : KR) (ap np mp : Nat) (tp : Nat → Int) (vp : Nat → Int) (gp : Nat → Int) (aq nq mq : Nat) (tq : Nat → Bool) (au nu mu : Nat) (tu : Nat → Int) (vu : Nat → Int) (gu : Nat → Int) (aw nw mw : Nat) (tw : Nat → Bool) (x0 : Int) : Prop :=
  test (decide (x0 < (↑nq : Int)))
 (test (decide ((0 : Int) ≤ x0 ∧ x0 < (↑nq : Int)))
 (test (decide (Int.toNat x0 + aq < mq))
 (test (tq (Int.toNat x0 + aq))
 (test (decide ((0 : Int) ≤ x0 ∧ x0 < (↑nw : Int)))
 (test (decide (Int.toNat x0 + aw < mw))
 (test (tw (Int.toNat x0 + aw))
 (test (lim IntKind.i64 (x0 + (1 : Int)))
 (Kst (hd Try.f23 1) ([PV.ptr (PA.mk (4) (0) (0) (0)),
 PV.ptr (PA.mk (5) (0) (0) (0)), PV.unk,
 PV.int IntKind.i64 (x0 + (1 : Int))]) ([[(3, false, Blk.cols mw [Col.bool tw]),
 (2, false,
 Blk.cols mu
 [Col.int IntKind.i64 tu, Col.int IntKind.i64 vu, Col.int IntKind.i64 gu]),
 (1, false, Blk.cols mq [Col.bool tq]),
 (0, false,
 Blk.cols mp
 [Col.int IntKind.i64 tp, Col.int IntKind.i64 vp, Col.int IntKind.i64 gp]),
 (5, true,
 Blk.cells
 [PV.loose (PA.mk (2) (3) au (0)) nu,
 PV.loose (PA.mk (3) (1) aw (0)) nw]),
 (4, true,
 Blk.cells
 [PV.loose (PA.mk (0) (3) ap (0)) np,
 PV.loose (PA.mk (1) (1) aq (0)) nq])]]) (6))
 (False))
 (Kret (PV.tf false) ([[(3, false, Blk.cols mw [Col.bool tw]),
 (2, false,
 Blk.cols mu
 [Col.int IntKind.i64 tu, Col.int IntKind.i64 vu, Col.int IntKind.i64 gu]),
 (1, false, Blk.cols mq [Col.bool tq]),
 (0, false,
 Blk.cols mp
 [Col.int IntKind.i64 tp, Col.int IntKind.i64 vp, Col.int IntKind.i64 gp])]]) (6)))
 (False))
 (False))
 (test (decide ((0 : Int) ≤ x0 ∧ x0 < (↑nw : Int)))
 (test (decide (Int.toNat x0 + aw < mw))
 (test (tw (Int.toNat x0 + aw))
 (Kret (PV.tf false) ([[(3, false, Blk.cols mw [Col.bool tw]),
 (2, false,
 Blk.cols mu
 [Col.int IntKind.i64 tu, Col.int IntKind.i64 vu, Col.int IntKind.i64 gu]),
 (1, false, Blk.cols mq [Col.bool tq]),
 (0, false,
 Blk.cols mp
 [Col.int IntKind.i64 tp, Col.int IntKind.i64 vp, Col.int IntKind.i64 gp])]]) (6))
 (test (lim IntKind.i64 (x0 + (1 : Int)))
 (Kst (hd Try.f23 1) ([PV.ptr (PA.mk (4) (0) (0) (0)),
 PV.ptr (PA.mk (5) (0) (0) (0)), PV.unk,
 PV.int IntKind.i64 (x0 + (1 : Int))]) ([[(3, false, Blk.cols mw [Col.bool tw]),
 (2, false,
 Blk.cols mu
 [Col.int IntKind.i64 tu, Col.int IntKind.i64 vu, Col.int IntKind.i64 gu]),
 (1, false, Blk.cols mq [Col.bool tq]),
 (0, false,
 Blk.cols mp
 [Col.int IntKind.i64 tp, Col.int IntKind.i64 vp, Col.int IntKind.i64 gp]),
 (5, true,
 Blk.cells
 [PV.loose (PA.mk (2) (3) au (0)) nu,
 PV.loose (PA.mk (3) (1) aw (0)) nw]),
 (4, true,
 Blk.cells
 [PV.loose (PA.mk (0) (3) ap (0)) np,
 PV.loose (PA.mk (1) (1) aq (0)) nq])]]) (6))
 (False)))
 (False))
 (False)))
 (False))
 (False))
 (Kret (PV.tf true) ([[(3, false, Blk.cols mw [Col.bool tw]),
 (2, false,
 Blk.cols mu
 [Col.int IntKind.i64 tu, Col.int IntKind.i64 vu, Col.int IntKind.i64 gu]),
 (1, false, Blk.cols mq [Col.bool tq]),
 (0, false,
 Blk.cols mp
 [Col.int IntKind.i64 tp, Col.int IntKind.i64 vp, Col.int IntKind.i64 gp])]]) (6))
set_option maxRecDepth 100000 in
theorem t23_1 (test : Bool → Prop → Prop → Prop) (Kst : KS) (Kret : KR) (ap np mp : Nat) (tp : Nat → Int) (vp : Nat → Int) (gp : Nat → Int) (aq nq mq : Nat) (tq : Nat → Bool) (au nu mu : Nat) (tu : Nat → Int) (vu : Nat → Int) (gu : Nat → Int) (aw nw mw : Nat) (tw : Nat → Bool) (x0 : Int) : run test Try.env true noX true 400 ⟨23, hd Try.f23 1, zipT [2, 3, 5, 6] [PV.ptr (PA.mk (4) (0) (0) (0)),
 PV.ptr (PA.mk (5) (0) (0) (0)), PV.unk,
 PV.int IntKind.i64 x0], [[(4, (true, Blk.cells
 [PV.loose (PA.mk (0) (3) ap (0)) np,
 PV.loose (PA.mk (1) (1) aq (0)) nq])), (5, (true, Blk.cells
 [PV.loose (PA.mk (2) (3) au (0)) nu,
 PV.loose (PA.mk (3) (1) aw (0)) nw]))], [(0, (false, .cols mp [.int .i64 tp, .int .i64 vp, .int .i64 gp])), (1, (false, .cols mq [.bool tq])), (2, (false, .cols mu [.int .i64 tu, .int .i64 vu, .int .i64 gu])), (3, (false, .cols mw [.bool tw]))]], 6⟩ (proj 4 [2, 3, 5, 6] Kst Kret) =
  T23_1 test Kst Kret ap np mp tp vp gp aq nq mq tq au nu mu tu vu gu aw nw mw tw x0 := by kernel_rfl
set_option maxRecDepth 100000 in
theorem be23 (ap np mp : Nat) (tp : Nat → Int) (vp : Nat → Int) (gp : Nat → Int) (aq nq mq : Nat) (tq : Nat → Bool) (au nu mu : Nat) (tu : Nat → Int) (vu : Nat → Int) (gu : Nat → Int) (aw nw mw : Nat) (tw : Nat → Bool) (Kst : KS) (Kret : KR) (x : St23 ⊕ Rt23) (hS : HS 4 400 ((I23 ap np mp tp vp gp aq nq mq tq au nu mu tu vu gu aw nw mw tw)) Kst x) (hR : HR 4 400 ((V23 ap np mp tp vp gp aq nq mq tq au nu mu tu vu gu aw nw mw tw)) (fun r => [newL (4 + 1) ((N23 ap np mp tp vp gp aq nq mq tq au nu mu tu vu gu aw nw mw tw) r) ++ [(0, (false, .cols mp [.int .i64 tp, .int .i64 vp, .int .i64 gp])), (1, (false, .cols mq [.bool tq])), (2, (false, .cols mu [.int .i64 tu, .int .i64 vu, .int .i64 gu])), (3, (false, .cols mw [.bool tw]))]]) Kret x) (h : (bif ((↑np : Int) != (↑nu : Int))
 then (some (.inr (false)))
 else (bif ((↑nq : Int) != (↑nw : Int))
 then (some (.inr (false)))
 else (some (.inl (.h0 ((0 : Int)))))) : Option (St23 ⊕ Rt23)) = some x) : Te23 cond Kst Kret ap np mp tp vp gp aq nq mq tq au nu mu tu vu gu aw nw mw tw := by
  unfold Te23
  exact bif_split h
   (fun c0 h => ret_at hR _ h (fun n => n) rfl rfl rfl (rn_bool_tf rfl) rfl (entl_bor (use_lo rfl) rfl rfl (entl_bor (use_lo rfl) rfl rfl (entl_bor (use_lo rfl) rfl rfl (entl_bor (use_lo rfl) rfl rfl entl_nil)))))
   (fun c0 h => bif_split h
   (fun c1 h => ret_at hR _ h (fun n => n) rfl rfl rfl (rn_bool_tf rfl) rfl (entl_bor (use_lo rfl) rfl rfl (entl_bor (use_lo rfl) rfl rfl (entl_bor (use_lo rfl) rfl rfl (entl_bor (use_lo rfl) rfl rfl entl_nil)))))
   (fun c1 h => stop_at hS _ h (fun n => bif Nat.beq n 4 then 4 else bif Nat.beq n 5 then 5 else n) rfl rfl rfl ⟨(rn_ptr (use_own rfl) rfl rfl), ⟨(rn_ptr (use_own rfl) rfl rfl), ⟨(rn_int rfl), ⟨(rn_unk _), trivial⟩⟩⟩⟩ rfl (entl_b (use_own rfl) rfl (by simp) (rb_cells ⟨(rn_loose (use_lo rfl) rfl rfl rfl), (rn_loose (use_lo rfl) rfl rfl rfl), trivial⟩) (entl_b (use_own rfl) rfl (by simp) (rb_cells ⟨(rn_loose (use_lo rfl) rfl rfl rfl), (rn_loose (use_lo rfl) rfl rfl rfl), trivial⟩) (entl_bor (use_lo rfl) rfl rfl (entl_bor (use_lo rfl) rfl rfl (entl_bor (use_lo rfl) rfl rfl (entl_bor (use_lo rfl) rfl rfl entl_nil))))))))
set_option maxRecDepth 100000 in
theorem b23_0 (ap np mp : Nat) (tp : Nat → Int) (vp : Nat → Int) (gp : Nat → Int) (aq nq mq : Nat) (tq : Nat → Bool) (au nu mu : Nat) (tu : Nat → Int) (vu : Nat → Int) (gu : Nat → Int) (aw nw mw : Nat) (tw : Nat → Bool) (Kst : KS) (Kret : KR) (x : St23 ⊕ Rt23) (hS : HS 4 400 ((I23 ap np mp tp vp gp aq nq mq tq au nu mu tu vu gu aw nw mw tw)) Kst x) (hR : HR 4 400 ((V23 ap np mp tp vp gp aq nq mq tq au nu mu tu vu gu aw nw mw tw)) (fun r => [newL (4 + 1) ((N23 ap np mp tp vp gp aq nq mq tq au nu mu tu vu gu aw nw mw tw) r) ++ [(0, (false, .cols mp [.int .i64 tp, .int .i64 vp, .int .i64 gp])), (1, (false, .cols mq [.bool tq])), (2, (false, .cols mu [.int .i64 tu, .int .i64 vu, .int .i64 gu])), (3, (false, .cols mw [.bool tw]))]]) Kret x) (x0 : Int) (h : (bif (decide (x0 < (↑np : Int)))
 then (bif (decide ((0 : Int) ≤ x0 ∧ x0 < (↑np : Int)))
 then (bif (decide (Int.toNat x0 + ap < mp))
 then (bif (decide ((0 : Int) ≤ x0 ∧ x0 < (↑nu : Int)))
 then (bif (decide (Int.toNat x0 + au < mu))
 then (bif (!(tp (Int.toNat x0 + ap) == tu (Int.toNat x0 + au) &&
 (vp (Int.toNat x0 + ap) == vu (Int.toNat x0 + au) &&
 (gp (Int.toNat x0 + ap) == gu (Int.toNat x0 + au) && true))))
 then (some (.inr (false)))
 else (bif (lim IntKind.i64 (x0 + (1 : Int)))
 then (some (.inl (.h0 (x0 + (1 : Int)))))
 else (none)))
 else (none))
 else (none))
 else (none))
 else (none))
 else (some (.inl (.h1 ((0 : Int))))) : Option (St23 ⊕ Rt23)) = some x) : T23_0 cond Kst Kret ap np mp tp vp gp aq nq mq tq au nu mu tu vu gu aw nw mw tw x0 := by
  unfold T23_0
  exact bif_split h
   (fun c0 h => bif_split h
   (fun c1 h => bif_split h
   (fun c2 h => cond_yes c2 (cond_yes c2 (bif_split h
   (fun c3 h => bif_split h
   (fun c4 h => cond_yes c4 (cond_yes c4 (bif_split h
   (fun c5 h => ret_at hR _ h (fun n => n) rfl rfl rfl (rn_bool_tf rfl) rfl (entl_bor (use_lo rfl) rfl rfl (entl_bor (use_lo rfl) rfl rfl (entl_bor (use_lo rfl) rfl rfl (entl_bor (use_lo rfl) rfl rfl entl_nil)))))
   (fun c5 h => bif_split h
   (fun c6 h => stop_at hS _ h (fun n => bif Nat.beq n 4 then 4 else bif Nat.beq n 5 then 5 else n) rfl rfl rfl ⟨(rn_ptr (use_own rfl) rfl rfl), ⟨(rn_ptr (use_own rfl) rfl rfl), ⟨(rn_int rfl), ⟨(rn_unk _), trivial⟩⟩⟩⟩ rfl (entl_b (use_own rfl) rfl (by simp) (rb_cells ⟨(rn_loose (use_lo rfl) rfl rfl rfl), (rn_loose (use_lo rfl) rfl rfl rfl), trivial⟩) (entl_b (use_own rfl) rfl (by simp) (rb_cells ⟨(rn_loose (use_lo rfl) rfl rfl rfl), (rn_loose (use_lo rfl) rfl rfl rfl), trivial⟩) (entl_bor (use_lo rfl) rfl rfl (entl_bor (use_lo rfl) rfl rfl (entl_bor (use_lo rfl) rfl rfl (entl_bor (use_lo rfl) rfl rfl entl_nil)))))))
   (fun c6 h => no_some h)))))
   (fun c4 h => no_some h))
   (fun c3 h => no_some h))))
   (fun c2 h => no_some h))
   (fun c1 h => no_some h))
   (fun c0 h => stop_at hS _ h (fun n => bif Nat.beq n 4 then 4 else bif Nat.beq n 5 then 5 else n) rfl rfl rfl ⟨(rn_ptr (use_own rfl) rfl rfl), ⟨(rn_ptr (use_own rfl) rfl rfl), ⟨(rn_unk _), ⟨(rn_int rfl), trivial⟩⟩⟩⟩ rfl (entl_b (use_own rfl) rfl (by simp) (rb_cells ⟨(rn_loose (use_lo rfl) rfl rfl rfl), (rn_loose (use_lo rfl) rfl rfl rfl), trivial⟩) (entl_b (use_own rfl) rfl (by simp) (rb_cells ⟨(rn_loose (use_lo rfl) rfl rfl rfl), (rn_loose (use_lo rfl) rfl rfl rfl), trivial⟩) (entl_bor (use_lo rfl) rfl rfl (entl_bor (use_lo rfl) rfl rfl (entl_bor (use_lo rfl) rfl rfl (entl_bor (use_lo rfl) rfl rfl entl_nil)))))))
set_option maxRecDepth 100000 in
theorem b23_1 (ap np mp : Nat) (tp : Nat → Int) (vp : Nat → Int) (gp : Nat → Int) (aq nq mq : Nat) (tq : Nat → Bool) (au nu mu : Nat) (tu : Nat → Int) (vu : Nat → Int) (gu : Nat → Int) (aw nw mw : Nat) (tw : Nat → Bool) (Kst : KS) (Kret : KR) (x : St23 ⊕ Rt23) (hS : HS 4 400 ((I23 ap np mp tp vp gp aq nq mq tq au nu mu tu vu gu aw nw mw tw)) Kst x) (hR : HR 4 400 ((V23 ap np mp tp vp gp aq nq mq tq au nu mu tu vu gu aw nw mw tw)) (fun r => [newL (4 + 1) ((N23 ap np mp tp vp gp aq nq mq tq au nu mu tu vu gu aw nw mw tw) r) ++ [(0, (false, .cols mp [.int .i64 tp, .int .i64 vp, .int .i64 gp])), (1, (false, .cols mq [.bool tq])), (2, (false, .cols mu [.int .i64 tu, .int .i64 vu, .int .i64 gu])), (3, (false, .cols mw [.bool tw]))]]) Kret x) (x0 : Int) (h : (bif (decide (x0 < (↑nq : Int)))
 then (bif (decide ((0 : Int) ≤ x0 ∧ x0 < (↑nq : Int)))
 then (bif (decide (Int.toNat x0 + aq < mq))
 then (bif (tq (Int.toNat x0 + aq))
 then (bif (decide ((0 : Int) ≤ x0 ∧ x0 < (↑nw : Int)))
 then (bif (decide (Int.toNat x0 + aw < mw))
 then (bif (tw (Int.toNat x0 + aw))
 then (bif (lim IntKind.i64 (x0 + (1 : Int)))
 then (some (.inl (.h1 (x0 + (1 : Int)))))
 else (none))
 else (some (.inr (false))))
 else (none))
 else (none))
 else (bif (decide ((0 : Int) ≤ x0 ∧ x0 < (↑nw : Int)))
 then (bif (decide (Int.toNat x0 + aw < mw))
 then (bif (tw (Int.toNat x0 + aw))
 then (some (.inr (false)))
 else (bif (lim IntKind.i64 (x0 + (1 : Int)))
 then (some (.inl (.h1 (x0 + (1 : Int)))))
 else (none)))
 else (none))
 else (none)))
 else (none))
 else (none))
 else (some (.inr (true))) : Option (St23 ⊕ Rt23)) = some x) : T23_1 cond Kst Kret ap np mp tp vp gp aq nq mq tq au nu mu tu vu gu aw nw mw tw x0 := by
  unfold T23_1
  exact bif_split h
   (fun c0 h => bif_split h
   (fun c1 h => bif_split h
   (fun c2 h => bif_split h
   (fun c3 h => bif_split h
   (fun c4 h => bif_split h
   (fun c5 h => bif_split h
   (fun c6 h => bif_split h
   (fun c7 h => stop_at hS _ h (fun n => bif Nat.beq n 4 then 4 else bif Nat.beq n 5 then 5 else n) rfl rfl rfl ⟨(rn_ptr (use_own rfl) rfl rfl), ⟨(rn_ptr (use_own rfl) rfl rfl), ⟨(rn_unk _), ⟨(rn_int rfl), trivial⟩⟩⟩⟩ rfl (entl_b (use_own rfl) rfl (by simp) (rb_cells ⟨(rn_loose (use_lo rfl) rfl rfl rfl), (rn_loose (use_lo rfl) rfl rfl rfl), trivial⟩) (entl_b (use_own rfl) rfl (by simp) (rb_cells ⟨(rn_loose (use_lo rfl) rfl rfl rfl), (rn_loose (use_lo rfl) rfl rfl rfl), trivial⟩) (entl_bor (use_lo rfl) rfl rfl (entl_bor (use_lo rfl) rfl rfl (entl_bor (use_lo rfl) rfl rfl (entl_bor (use_lo rfl) rfl rfl entl_nil)))))))
   (fun c7 h => no_some h))
   (fun c6 h => ret_at hR _ h (fun n => n) rfl rfl rfl (rn_bool_tf rfl) rfl (entl_bor (use_lo rfl) rfl rfl (entl_bor (use_lo rfl) rfl rfl (entl_bor (use_lo rfl) rfl rfl (entl_bor (use_lo rfl) rfl rfl entl_nil))))))
   (fun c5 h => no_some h))
   (fun c4 h => no_some h))
   (fun c3 h => bif_split h
   (fun c4 h => bif_split h
   (fun c5 h => bif_split h
   (fun c6 h => ret_at hR _ h (fun n => n) rfl rfl rfl (rn_bool_tf rfl) rfl (entl_bor (use_lo rfl) rfl rfl (entl_bor (use_lo rfl) rfl rfl (entl_bor (use_lo rfl) rfl rfl (entl_bor (use_lo rfl) rfl rfl entl_nil)))))
   (fun c6 h => bif_split h
   (fun c7 h => stop_at hS _ h (fun n => bif Nat.beq n 4 then 4 else bif Nat.beq n 5 then 5 else n) rfl rfl rfl ⟨(rn_ptr (use_own rfl) rfl rfl), ⟨(rn_ptr (use_own rfl) rfl rfl), ⟨(rn_unk _), ⟨(rn_int rfl), trivial⟩⟩⟩⟩ rfl (entl_b (use_own rfl) rfl (by simp) (rb_cells ⟨(rn_loose (use_lo rfl) rfl rfl rfl), (rn_loose (use_lo rfl) rfl rfl rfl), trivial⟩) (entl_b (use_own rfl) rfl (by simp) (rb_cells ⟨(rn_loose (use_lo rfl) rfl rfl rfl), (rn_loose (use_lo rfl) rfl rfl rfl), trivial⟩) (entl_bor (use_lo rfl) rfl rfl (entl_bor (use_lo rfl) rfl rfl (entl_bor (use_lo rfl) rfl rfl (entl_bor (use_lo rfl) rfl rfl entl_nil)))))))
   (fun c7 h => no_some h)))
   (fun c5 h => no_some h))
   (fun c4 h => no_some h)))
   (fun c2 h => no_some h))
   (fun c1 h => no_some h))
   (fun c0 h => ret_at hR _ h (fun n => n) rfl rfl rfl (rn_bool_tf rfl) rfl (entl_bor (use_lo rfl) rfl rfl (entl_bor (use_lo rfl) rfl rfl (entl_bor (use_lo rfl) rfl rfl (entl_bor (use_lo rfl) rfl rfl entl_nil)))))
theorem a23 (ap np mp : Nat) (tp : Nat → Int) (vp : Nat → Int) (gp : Nat → Int) (aq nq mq : Nat) (tq : Nat → Bool) (au nu mu : Nat) (tu : Nat → Int) (vu : Nat → Int) (gu : Nat → Int) (aw nw mw : Nat) (tw : Nat → Bool) {r : Rt23} (h : Goes ((q23 ap np mp tp vp gp aq nq mq tq au nu mu tu vu gu aw nw mw tw)) ((p23 ap np mp tp vp gp aq nq mq tq au nu mu tu vu gu aw nw mw tw)) r) : CallR Try.prog 23 [.agg [.loose ⟨0, 3, ap, 0⟩ np, .loose ⟨1, 1, aq, 0⟩ nq], .agg [.loose ⟨2, 3, au, 0⟩ nu, .loose ⟨3, 1, aw, 0⟩ nw]] [[(0, (false, .cols mp [.int .i64 tp, .int .i64 vp, .int .i64 gp])), (1, (false, .cols mq [.bool tq])), (2, (false, .cols mu [.int .i64 tu, .int .i64 vu, .int .i64 gu])), (3, (false, .cols mw [.bool tw]))]] 4 ((V23 ap np mp tp vp gp aq nq mq tq au nu mu tu vu gu aw nw mw tw) r) ((fun r => [newL (4 + 1) ((N23 ap np mp tp vp gp aq nq mq tq au nu mu tu vu gu aw nw mw tw) r) ++ [(0, (false, .cols mp [.int .i64 tp, .int .i64 vp, .int .i64 gp])), (1, (false, .cols mq [.bool tq])), (2, (false, .cols mu [.int .i64 tu, .int .i64 vu, .int .i64 gu])), (3, (false, .cols mw [.bool tw]))]]) r) 400 ∧ ∃ F, Try.prog.funcs[23]? = some F ∧ F.body.isSome = true ∧ (F.name == "runtime.NumGoroutine") = false := by
  refine dec_calls (f := 23) (lo := 4) (hi := 400) (H := [[(0, (false, .cols mp [.int .i64 tp, .int .i64 vp, .int .i64 gp])), (1, (false, .cols mq [.bool tq])), (2, (false, .cols mu [.int .i64 tu, .int .i64 vu, .int .i64 gu])), (3, (false, .cols mw [.bool tw]))]]) (args := [.agg [.loose ⟨0, 3, ap, 0⟩ np, .loose ⟨1, 1, aq, 0⟩ nq], .agg [.loose ⟨2, 3, au, 0⟩ nu, .loose ⟨3, 1, aw, 0⟩ nw]]) Try.envOk Try.mixed noX_ok ((I23 ap np mp tp vp gp aq nq mq tq au nu mu tu vu gu aw nw mw tw)) ((V23 ap np mp tp vp gp aq nq mq tq au nu mu tu vu gu aw nw mw tw)) (fun r => [newL (4 + 1) ((N23 ap np mp tp vp gp aq nq mq tq au nu mu tu vu gu aw nw mw tw) r) ++ [(0, (false, .cols mp [.int .i64 tp, .int .i64 vp, .int .i64 gp])), (1, (false, .cols mq [.bool tq])), (2, (false, .cols mu [.int .i64 tu, .int .i64 vu, .int .i64 gu])), (3, (false, .cols mw [.bool tw]))]]) (fn := mkFn Try.f23) (ts := [2, 3, 5, 6]) (n := 400) rfl (by decide) (by simp) (names_of rfl) ?_ ?_ ?_ h
  · intro s; cases s <;> exact ⟨hd_ok _ _, by simp [I23], names_of rfl, Nat.le_of_ble_eq_true rfl⟩
  · intro Kst Kret x hS hR h
    exact Holds.eq (te23 cond Kst Kret ap np mp tp vp gp aq nq mq tq au nu mu tu vu gu aw nw mw tw) (be23 ap np mp tp vp gp aq nq mq tq au nu mu tu vu gu aw nw mw tw Kst Kret x hS hR h)
  · intro Kst Kret x hS hR s h
    cases s with
    | h0 x0 => exact Holds.eq (t23_0 cond Kst Kret ap np mp tp vp gp aq nq mq tq au nu mu tu vu gu aw nw mw tw x0) (b23_0 ap np mp tp vp gp aq nq mq tq au nu mu tu vu gu aw nw mw tw Kst Kret x hS hR x0 h)
    | h1 x0 => exact Holds.eq (t23_1 cond Kst Kret ap np mp tp vp gp aq nq mq tq au nu mu tu vu gu aw nw mw tw x0) (b23_1 ap np mp tp vp gp aq nq mq tq au nu mu tu vu gu aw nw mw tw Kst Kret x hS hR x0 h)
noncomputable def k23 : Con := ⟨23, [.agg [.list [.int .i64, .int .i64, .int .i64], .list [.bool]], .agg [.list [.int .i64, .int .i64, .int .i64], .list [.bool]]], fun (x : ((Nat × Nat × Nat × (Nat → Int) × (Nat → Int) × (Nat → Int) × Unit) × (Nat × Nat × Nat × (Nat → Bool) × Unit) × Unit) × ((Nat × Nat × Nat × (Nat → Int) × (Nat → Int) × (Nat → Int) × Unit) × (Nat × Nat × Nat × (Nat → Bool) × Unit) × Unit) × Unit) => (fun (ap np mp : Nat) (tp : Nat → Int) (vp : Nat → Int) (gp : Nat → Int) (aq nq mq : Nat) (tq : Nat → Bool) (au nu mu : Nat) (tu : Nat → Int) (vu : Nat → Int) (gu : Nat → Int) (aw nw mw : Nat) (tw : Nat → Bool) => decide (ap + np ≤ mp ∧ np ≤ 1000000 ∧ aq + nq ≤ mq ∧ nq ≤ 1000000 ∧ au + nu ≤ mu ∧ nu ≤ 1000000 ∧ aw + nw ≤ mw ∧ nw ≤ 1000000)) x.1.1.1 x.1.1.2.1 x.1.1.2.2.1 x.1.1.2.2.2.1 x.1.1.2.2.2.2.1 x.1.1.2.2.2.2.2.1 x.1.2.1.1 x.1.2.1.2.1 x.1.2.1.2.2.1 x.1.2.1.2.2.2.1 x.2.1.1.1 x.2.1.1.2.1 x.2.1.1.2.2.1 x.2.1.1.2.2.2.1 x.2.1.1.2.2.2.2.1 x.2.1.1.2.2.2.2.2.1 x.2.1.2.1.1 x.2.1.2.1.2.1 x.2.1.2.1.2.2.1 x.2.1.2.1.2.2.2.1, fun (x : ((Nat × Nat × Nat × (Nat → Int) × (Nat → Int) × (Nat → Int) × Unit) × (Nat × Nat × Nat × (Nat → Bool) × Unit) × Unit) × ((Nat × Nat × Nat × (Nat → Int) × (Nat → Int) × (Nat → Int) × Unit) × (Nat × Nat × Nat × (Nat → Bool) × Unit) × Unit) × Unit) => (fun (ap np mp : Nat) (tp : Nat → Int) (vp : Nat → Int) (gp : Nat → Int) (aq nq mq : Nat) (tq : Nat → Bool) (au nu mu : Nat) (tu : Nat → Int) (vu : Nat → Int) (gu : Nat → Int) (aw nw mw : Nat) (tw : Nat → Bool) => (V23 ap np mp tp vp gp aq nq mq tq au nu mu tu vu gu aw nw mw tw) ((decide ((S.mkl np fun j => (tp (j + ap), vp (j + ap), gp (j + ap))) = (S.mkl nu fun j => (tu (j + au), vu (j + au), gu (j + au)))) && decide ((S.mkl nq fun j => tq (j + aq)) = (S.mkl nw fun j => tw (j + aw)))))) x.1.1.1 x.1.1.2.1 x.1.1.2.2.1 x.1.1.2.2.2.1 x.1.1.2.2.2.2.1 x.1.1.2.2.2.2.2.1 x.1.2.1.1 x.1.2.1.2.1 x.1.2.1.2.2.1 x.1.2.1.2.2.2.1 x.2.1.1.1 x.2.1.1.2.1 x.2.1.1.2.2.1 x.2.1.1.2.2.2.1 x.2.1.1.2.2.2.2.1 x.2.1.1.2.2.2.2.2.1 x.2.1.2.1.1 x.2.1.2.1.2.1 x.2.1.2.1.2.2.1 x.2.1.2.1.2.2.2.1, fun (x : ((Nat × Nat × Nat × (Nat → Int) × (Nat → Int) × (Nat → Int) × Unit) × (Nat × Nat × Nat × (Nat → Bool) × Unit) × Unit) × ((Nat × Nat × Nat × (Nat → Int) × (Nat → Int) × (Nat → Int) × Unit) × (Nat × Nat × Nat × (Nat → Bool) × Unit) × Unit) × Unit) => (fun (ap np mp : Nat) (tp : Nat → Int) (vp : Nat → Int) (gp : Nat → Int) (aq nq mq : Nat) (tq : Nat → Bool) (au nu mu : Nat) (tu : Nat → Int) (vu : Nat → Int) (gu : Nat → Int) (aw nw mw : Nat) (tw : Nat → Bool) => (N23 ap np mp tp vp gp aq nq mq tq au nu mu tu vu gu aw nw mw tw) ((decide ((S.mkl np fun j => (tp (j + ap), vp (j + ap), gp (j + ap))) = (S.mkl nu fun j => (tu (j + au), vu (j + au), gu (j + au)))) && decide ((S.mkl nq fun j => tq (j + aq)) = (S.mkl nw fun j => tw (j + aw)))))) x.1.1.1 x.1.1.2.1 x.1.1.2.2.1 x.1.1.2.2.2.1 x.1.1.2.2.2.2.1 x.1.1.2.2.2.2.2.1 x.1.2.1.1 x.1.2.1.2.1 x.1.2.1.2.2.1 x.1.2.1.2.2.2.1 x.2.1.1.1 x.2.1.1.2.1 x.2.1.1.2.2.1 x.2.1.1.2.2.2.1 x.2.1.1.2.2.2.2.1 x.2.1.1.2.2.2.2.2.1 x.2.1.2.1.1 x.2.1.2.1.2.1 x.2.1.2.1.2.2.1 x.2.1.2.1.2.2.2.1, fun _ _ => .dead⟩

theorem s23b (ap np mp : Nat) (tp : Nat → Int) (vp : Nat → Int) (gp : Nat → Int) (aq nq mq : Nat) (tq : Nat → Bool) (au nu mu : Nat) (tu : Nat → Int) (vu : Nat → Int) (gu : Nat → Int) (aw nw mw : Nat) (tw : Nat → Bool) (hp : ap + np ≤ mp ∧ np ≤ 1000000 ∧ aq + nq ≤ mq ∧ nq ≤ 1000000 ∧ au + nu ≤ mu ∧ nu ≤ 1000000 ∧ aw + nw ≤ mw ∧ nw ≤ 1000000) (he : nq = nw) {R : Bool} (hR : R = true ↔ ∀ j, j < nq → tq (j + aq) = tw (j + aw)) : ∀ k i : Nat, i + k = nq → (∀ j, j < i → tq (j + aq) = tw (j + aw)) → Comes (q23 ap np mp tp vp gp aq nq mq tq au nu mu tu vu gu aw nw mw tw) (.h1 (i : Int)) R := by
  obtain ⟨hp1, hp2, hp3, hp4, hp5, hp6, hp7, hp8⟩ := hp
  have hw : ∀ {P : Prop}, (R = true → P) → ¬ P → false = R := fun h1 h2 => by cases R; rfl; exact absurd (h1 rfl) h2
  intro k
  induction k with
  | zero =>
    intro i hi hj
    obtain rfl : nq = i := by omega
    apply Comes.of
    show Goes _ _ _
    unfold q23
    repeat' first
      | with_reducible refine goes_if (fun h => ?_) (fun h => ?_) <;> (try simp only [lim64, decide_eq_true_eq, decide_eq_false_iff_not, Int.toNat_natCast, toNat_pred, toNat_succ, Option.getD_some, Option.getD_none, Bool.not_eq_true', Bool.not_eq_false', Bool.and_eq_true, Bool.or_eq_true, Bool.and_eq_false_iff, Bool.or_eq_false_iff, bne_iff_ne, beq_iff_eq, bne_eq_false_iff_eq, beq_eq_false_iff_ne, ne_eq, not_and, Int.not_le, Int.not_lt, ge_iff_le, gt_iff_lt, Nat.not_lt, Nat.not_le, Bool.not_eq_true, Bool.not_eq_false, Bool.true_eq_false, Bool.false_eq_true, not_false_eq_true, not_true_eq_false] at h)
      | exact goes_none.mpr (by omega)
    all_goals first | (exfalso; omega) | (exact goes_inr.mpr (hR.mpr hj).symm)
  | succ k ih =>
    intro i hi hj
    apply Comes.of
    show Goes _ _ _
    unfold q23
    repeat' first
      | with_reducible refine goes_if (fun h => ?_) (fun h => ?_) <;> (try simp only [lim64, decide_eq_true_eq, decide_eq_false_iff_not, Int.toNat_natCast, toNat_pred, toNat_succ, Option.getD_some, Option.getD_none, Bool.not_eq_true', Bool.not_eq_false', Bool.and_eq_true, Bool.or_eq_true, Bool.and_eq_false_iff, Bool.or_eq_false_iff, bne_iff_ne, beq_iff_eq, bne_eq_false_iff_eq, beq_eq_false_iff_ne, ne_eq, not_and, Int.not_le, Int.not_lt, ge_iff_le, gt_iff_lt, Nat.not_lt, Nat.not_le, Bool.not_eq_true, Bool.not_eq_false, Bool.true_eq_false, Bool.false_eq_true, not_false_eq_true, not_true_eq_false] at h)
      | exact goes_none.mpr (by omega)
    all_goals first
      | (exfalso; omega)
      | (refine ih (i + 1) (by omega) fun j hlt => ?_
         rcases Nat.lt_or_eq_of_le (Nat.le_of_lt_succ hlt) with h1 | h1
         · exact hj j h1
         · subst h1; simp_all)
      | (refine goes_inr.mpr (hw (fun e => hR.mp e i (by omega)) fun e => ?_); simp_all)
theorem s23a (ap np mp : Nat) (tp : Nat → Int) (vp : Nat → Int) (gp : Nat → Int) (aq nq mq : Nat) (tq : Nat → Bool) (au nu mu : Nat) (tu : Nat → Int) (vu : Nat → Int) (gu : Nat → Int) (aw nw mw : Nat) (tw : Nat → Bool) (hp : ap + np ≤ mp ∧ np ≤ 1000000 ∧ aq + nq ≤ mq ∧ nq ≤ 1000000 ∧ au + nu ≤ mu ∧ nu ≤ 1000000 ∧ aw + nw ≤ mw ∧ nw ≤ 1000000) (he : np = nu) (he2 : nq = nw) {R : Bool} (hR : R = true ↔ (∀ j, j < np → tp (j + ap) = tu (j + au) ∧ vp (j + ap) = vu (j + au) ∧ gp (j + ap) = gu (j + au)) ∧ ∀ j, j < nq → tq (j + aq) = tw (j + aw)) : ∀ k i : Nat, i + k = np → (∀ j, j < i → tp (j + ap) = tu (j + au) ∧ vp (j + ap) = vu (j + au) ∧ gp (j + ap) = gu (j + au)) → Comes (q23 ap np mp tp vp gp aq nq mq tq au nu mu tu vu gu aw nw mw tw) (.h0 (i : Int)) R := by
  have hp' := hp
  obtain ⟨hp1, hp2, hp3, hp4, hp5, hp6, hp7, hp8⟩ := hp
  have hw : ∀ {P : Prop}, (R = true → P) → ¬ P → false = R := fun h1 h2 => by cases R; rfl; exact absurd (h1 rfl) h2
  intro k
  induction k with
  | zero =>
    intro i hi hj
    have hb := s23b ap np mp tp vp gp aq nq mq tq au nu mu tu vu gu aw nw mw tw hp' he2 (R := R) (hR.trans ⟨fun h => h.2, fun h => ⟨fun j hj' => hj j (by omega), h⟩⟩) nq 0 (by omega) (fun j hj => absurd hj (Nat.not_lt_zero j))
    apply Comes.of
    show Goes _ _ _
    unfold q23
    repeat' first
      | with_reducible refine goes_if (fun h => ?_) (fun h => ?_) <;> (try simp only [lim64, decide_eq_true_eq, decide_eq_false_iff_not, Int.toNat_natCast, toNat_pred, toNat_succ, Option.getD_some, Option.getD_none, Bool.not_eq_true', Bool.not_eq_false', Bool.and_eq_true, Bool.or_eq_true, Bool.and_eq_false_iff, Bool.or_eq_false_iff, bne_iff_ne, beq_iff_eq, bne_eq_false_iff_eq, beq_eq_false_iff_ne, ne_eq, not_and, Int.not_le, Int.not_lt, ge_iff_le, gt_iff_lt, Nat.not_lt, Nat.not_le, Bool.not_eq_true, Bool.not_eq_false, Bool.true_eq_false, Bool.false_eq_true, not_false_eq_true, not_true_eq_false] at h)
      | exact goes_none.mpr (by omega)
    all_goals first | (exfalso; omega) | exact hb
  | succ k ih =>
    intro i hi hj
    apply Comes.of
    show Goes _ _ _
    unfold q23
    repeat' first
      | with_reducible refine goes_if (fun h => ?_) (fun h => ?_) <;> (try simp only [lim64, decide_eq_true_eq, decide_eq_false_iff_not, Int.toNat_natCast, toNat_pred, toNat_succ, Option.getD_some, Option.getD_none, Bool.not_eq_true', Bool.not_eq_false', Bool.and_eq_true, Bool.or_eq_true, Bool.and_eq_false_iff, Bool.or_eq_false_iff, bne_iff_ne, beq_iff_eq, bne_eq_false_iff_eq, beq_eq_false_iff_ne, ne_eq, not_and, Int.not_le, Int.not_lt, ge_iff_le, gt_iff_lt, Nat.not_lt, Nat.not_le, Bool.not_eq_true, Bool.not_eq_false, Bool.true_eq_false, Bool.false_eq_true, not_false_eq_true, not_true_eq_false] at h)
      | exact goes_none.mpr (by omega)
    all_goals first
      | (exfalso; omega)
      | (refine ih (i + 1) (by omega) fun j hlt => ?_
         rcases Nat.lt_or_eq_of_le (Nat.le_of_lt_succ hlt) with h1 | h1
         · exact hj j h1
         · subst h1; simp_all)
      | (refine goes_inr.mpr (hw (fun e => (hR.mp e).1 i (by omega)) fun e => ?_); simp_all)
theorem s23 (ap np mp : Nat) (tp : Nat → Int) (vp : Nat → Int) (gp : Nat → Int) (aq nq mq : Nat) (tq : Nat → Bool) (au nu mu : Nat) (tu : Nat → Int) (vu : Nat → Int) (gu : Nat → Int) (aw nw mw : Nat) (tw : Nat → Bool) (hp : ap + np ≤ mp ∧ np ≤ 1000000 ∧ aq + nq ≤ mq ∧ nq ≤ 1000000 ∧ au + nu ≤ mu ∧ nu ≤ 1000000 ∧ aw + nw ≤ mw ∧ nw ≤ 1000000) : Goes ((q23 ap np mp tp vp gp aq nq mq tq au nu mu tu vu gu aw nw mw tw)) ((p23 ap np mp tp vp gp aq nq mq tq au nu mu tu vu gu aw nw mw tw)) ((decide ((S.mkl np fun j => (tp (j + ap), vp (j + ap), gp (j + ap))) = (S.mkl nu fun j => (tu (j + au), vu (j + au), gu (j + au)))) && decide ((S.mkl nq fun j => tq (j + aq)) = (S.mkl nw fun j => tw (j + aw))))) := by
  by_cases he : np = nu
  · by_cases he2 : nq = nw
    · have hm := s23a ap np mp tp vp gp aq nq mq tq au nu mu tu vu gu aw nw mw tw hp he he2 (R := (decide ((S.mkl np fun j => (tp (j + ap), vp (j + ap), gp (j + ap))) = (S.mkl nu fun j => (tu (j + au), vu (j + au), gu (j + au)))) && decide ((S.mkl nq fun j => tq (j + aq)) = (S.mkl nw fun j => tw (j + aw))))) (by rw [Bool.and_eq_true, decide_eq_true_eq, decide_eq_true_eq, mkl_inj, mkl_inj]; simp only [he, he2, true_and, Prod.mk.injEq]) np 0 (by omega) (fun j hj => absurd hj (Nat.not_lt_zero j))
      show Goes _ _ _
      unfold p23
      repeat' first
        | with_reducible refine goes_if (fun h => ?_) (fun h => ?_) <;> (try simp only [lim64, decide_eq_true_eq, decide_eq_false_iff_not, Int.toNat_natCast, toNat_pred, toNat_succ, Option.getD_some, Option.getD_none, Bool.not_eq_true', Bool.not_eq_false', Bool.and_eq_true, Bool.or_eq_true, Bool.and_eq_false_iff, Bool.or_eq_false_iff, bne_iff_ne, beq_iff_eq, bne_eq_false_iff_eq, beq_eq_false_iff_ne, ne_eq, not_and, Int.not_le, Int.not_lt, ge_iff_le, gt_iff_lt, Nat.not_lt, Nat.not_le, Bool.not_eq_true, Bool.not_eq_false, Bool.true_eq_false, Bool.false_eq_true, not_false_eq_true, not_true_eq_false] at h)
        | exact goes_none.mpr (by omega)
      all_goals first | (exfalso; omega) | exact hm
    · have hd : (decide ((S.mkl np fun j => (tp (j + ap), vp (j + ap), gp (j + ap))) = (S.mkl nu fun j => (tu (j + au), vu (j + au), gu (j + au)))) && decide ((S.mkl nq fun j => tq (j + aq)) = (S.mkl nw fun j => tw (j + aw)))) = false := by rw [decide_eq_false (fun e => he2 (mkl_inj.mp e).1 : ¬ (S.mkl nq fun j => tq (j + aq)) = (S.mkl nw fun j => tw (j + aw))), Bool.and_false]
      rw [hd]
      show Goes _ _ _
      unfold p23
      repeat' first
        | with_reducible refine goes_if (fun h => ?_) (fun h => ?_) <;> (try simp only [lim64, decide_eq_true_eq, decide_eq_false_iff_not, Int.toNat_natCast, toNat_pred, toNat_succ, Option.getD_some, Option.getD_none, Bool.not_eq_true', Bool.not_eq_false', Bool.and_eq_true, Bool.or_eq_true, Bool.and_eq_false_iff, Bool.or_eq_false_iff, bne_iff_ne, beq_iff_eq, bne_eq_false_iff_eq, beq_eq_false_iff_ne, ne_eq, not_and, Int.not_le, Int.not_lt, ge_iff_le, gt_iff_lt, Nat.not_lt, Nat.not_le, Bool.not_eq_true, Bool.not_eq_false, Bool.true_eq_false, Bool.false_eq_true, not_false_eq_true, not_true_eq_false] at h)
        | exact goes_none.mpr (by omega)
      all_goals first | (exfalso; omega) | rfl
  · have hd : (decide ((S.mkl np fun j => (tp (j + ap), vp (j + ap), gp (j + ap))) = (S.mkl nu fun j => (tu (j + au), vu (j + au), gu (j + au)))) && decide ((S.mkl nq fun j => tq (j + aq)) = (S.mkl nw fun j => tw (j + aw)))) = false := by rw [decide_eq_false (fun e => he (mkl_inj.mp e).1 : ¬ (S.mkl np fun j => (tp (j + ap), vp (j + ap), gp (j + ap))) = (S.mkl nu fun j => (tu (j + au), vu (j + au), gu (j + au)))), Bool.false_and]
    rw [hd]
    show Goes _ _ _
    unfold p23
    repeat' first
      | with_reducible refine goes_if (fun h => ?_) (fun h => ?_) <;> (try simp only [lim64, decide_eq_true_eq, decide_eq_false_iff_not, Int.toNat_natCast, toNat_pred, toNat_succ, Option.getD_some, Option.getD_none, Bool.not_eq_true', Bool.not_eq_false', Bool.and_eq_true, Bool.or_eq_true, Bool.and_eq_false_iff, Bool.or_eq_false_iff, bne_iff_ne, beq_iff_eq, bne_eq_false_iff_eq, beq_eq_false_iff_ne, ne_eq, not_and, Int.not_le, Int.not_lt, ge_iff_le, gt_iff_lt, Nat.not_lt, Nat.not_le, Bool.not_eq_true, Bool.not_eq_false, Bool.true_eq_false, Bool.false_eq_true, not_false_eq_true, not_true_eq_false] at h)
      | exact goes_none.mpr (by omega)
    all_goals first | (exfalso; omega) | rfl

theorem k23_ok : k23.ok Try.prog := by
  intro x hx
  obtain ⟨⟨⟨ap, np, mp, tp, vp, gp, _⟩, ⟨aq, nq, mq, tq, _⟩, _⟩, ⟨⟨au, nu, mu, tu, vu, gu, _⟩, ⟨aw, nw, mw, tw, _⟩, _⟩, _⟩ := x
  obtain ⟨h1, h2⟩ := a23 ap np mp tp vp gp aq nq mq tq au nu mu tu vu gu aw nw mw tw (s23 ap np mp tp vp gp aq nq mq tq au nu mu tu vu gu aw nw mw tw (of_decide_eq_true hx))
  exact ⟨⟨400, (by decide : 4 + 1 + 0 ≤ 400), h1⟩, h2⟩


end Go.Ev
