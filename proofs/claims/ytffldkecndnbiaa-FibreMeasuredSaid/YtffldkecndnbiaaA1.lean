/-
  The error of a tree.
-/
import Derived.Test.YtffldkecndnbiaaA0
namespace Go.Ev
open Go.Proofs
set_option linter.unusedVariables false
set_option linter.unusedSimpArgs false
set_option maxRecDepth 100000
inductive St19 where
  | h0 (x0 : Int)
abbrev Rt19 := Int
noncomputable def V19 (ap np mp : Nat) (tp : Nat → Int) (vp : Nat → Int) (gp : Nat → Int) (wp : Nat → Int) (r : Rt19) : PV := PV.int IntKind.i64 r
noncomputable def N19 (ap np mp : Nat) (tp : Nat → Int) (vp : Nat → Int) (gp : Nat → Int) (wp : Nat → Int) (r : Rt19) : List Blk := []
noncomputable def I19 (ap np mp : Nat) (tp : Nat → Int) (vp : Nat → Int) (gp : Nat → Int) (wp : Nat → Int) : St19 → Hd
  | .h0 x0 => ⟨hd Try.f19 0, [PV.loose (PA.mk (0) (4) ap (0)) np, PV.int IntKind.i64 (↑np : Int),
 PV.int IntKind.i64 x0], [[], [(0, (false, .cols mp [.int .i64 tp, .int .i64 vp, .int .i64 gp, .int .i64 wp]))]], 1⟩
noncomputable def q19 (ap np mp : Nat) (tp : Nat → Int) (vp : Nat → Int) (gp : Nat → Int) (wp : Nat → Int) : St19 → Option (St19 ⊕ Rt19)
  | .h0 x0 => bif (decide (x0 < (↑np : Int)))
 then (bif (decide ((0 : Int) ≤ x0 ∧ x0 < (↑np : Int)))
 then (bif (decide (Int.toNat x0 + ap < mp))
 then (bif (x0 == (0 : Int))
 then (bif (tp (Int.toNat x0 + ap) != (-1 : Int))
 then (some (.inr ((15 : Int))))
 else (bif (decide (x0 > (0 : Int)))
 then (bif (lim IntKind.i64 (x0 - (1 : Int)))
 then (bif (decide (tp (Int.toNat x0 + ap) ≥ (0 : Int)))
 then (bif (decide (tp (Int.toNat x0 + ap) ≤ x0 - (1 : Int)))
 then (bif (decide (vp (Int.toNat x0 + ap) ≥ (0 : Int)))
 then (bif (decide (vp (Int.toNat x0 + ap) ≤ (0 : Int)))
 then (bif (decide (gp (Int.toNat x0 + ap) ≥ (0 : Int)))
 then (bif (decide (gp (Int.toNat x0 + ap) ≤ (0 : Int)))
 then (bif (decide (wp (Int.toNat x0 + ap) ≥ (0 : Int)))
 then (bif (decide (wp (Int.toNat x0 + ap) ≤ Min.min (vp (Int.toNat x0 + ap)) (gp (Int.toNat x0 + ap))))
 then (bif (lim IntKind.i64 (x0 + (1 : Int)))
 then (some (.inl (.h0 (x0 + (1 : Int)))))
 else (none))
 else (some (.inr ((6 : Int)))))
 else (some (.inr ((6 : Int)))))
 else (some (.inr ((6 : Int)))))
 else (some (.inr ((6 : Int)))))
 else (some (.inr ((6 : Int)))))
 else (some (.inr ((6 : Int)))))
 else (some (.inr ((15 : Int)))))
 else (some (.inr ((15 : Int)))))
 else (none))
 else (bif (decide (vp (Int.toNat x0 + ap) ≥ (0 : Int)))
 then (bif (decide (vp (Int.toNat x0 + ap) ≤ (0 : Int)))
 then (bif (decide (gp (Int.toNat x0 + ap) ≥ (0 : Int)))
 then (bif (decide (gp (Int.toNat x0 + ap) ≤ (0 : Int)))
 then (bif (decide (wp (Int.toNat x0 + ap) ≥ (0 : Int)))
 then (bif (decide (wp (Int.toNat x0 + ap) ≤ Min.min (vp (Int.toNat x0 + ap)) (gp (Int.toNat x0 + ap))))
 then (bif (lim IntKind.i64 (x0 + (1 : Int)))
 then (some (.inl (.h0 (x0 + (1 : Int)))))
 else (none))
 else (some (.inr ((6 : Int)))))
 else (some (.inr ((6 : Int)))))
 else (some (.inr ((6 : Int)))))
 else (some (.inr ((6 : Int)))))
 else (some (.inr ((6 : Int)))))
 else (some (.inr ((6 : Int)))))))
 else (bif (decide (x0 > (0 : Int)))
 then (bif (lim IntKind.i64 (x0 - (1 : Int)))
 then (bif (decide (tp (Int.toNat x0 + ap) ≥ (0 : Int)))
 then (bif (decide (tp (Int.toNat x0 + ap) ≤ x0 - (1 : Int)))
 then (bif (decide (vp (Int.toNat x0 + ap) ≥ (0 : Int)))
 then (bif (decide (vp (Int.toNat x0 + ap) ≤ (1000000 : Int)))
 then (bif (decide (gp (Int.toNat x0 + ap) ≥ (0 : Int)))
 then (bif (decide (gp (Int.toNat x0 + ap) ≤ (1000000 : Int)))
 then (bif (decide (wp (Int.toNat x0 + ap) ≥ (0 : Int)))
 then (bif (decide (wp (Int.toNat x0 + ap) ≤ Min.min (vp (Int.toNat x0 + ap)) (gp (Int.toNat x0 + ap))))
 then (bif (lim IntKind.i64 (x0 + (1 : Int)))
 then (some (.inl (.h0 (x0 + (1 : Int)))))
 else (none))
 else (some (.inr ((6 : Int)))))
 else (some (.inr ((6 : Int)))))
 else (some (.inr ((6 : Int)))))
 else (some (.inr ((6 : Int)))))
 else (some (.inr ((6 : Int)))))
 else (some (.inr ((6 : Int)))))
 else (some (.inr ((15 : Int)))))
 else (some (.inr ((15 : Int)))))
 else (none))
 else (bif (decide (vp (Int.toNat x0 + ap) ≥ (0 : Int)))
 then (bif (decide (vp (Int.toNat x0 + ap) ≤ (1000000 : Int)))
 then (bif (decide (gp (Int.toNat x0 + ap) ≥ (0 : Int)))
 then (bif (decide (gp (Int.toNat x0 + ap) ≤ (1000000 : Int)))
 then (bif (decide (wp (Int.toNat x0 + ap) ≥ (0 : Int)))
 then (bif (decide (wp (Int.toNat x0 + ap) ≤ Min.min (vp (Int.toNat x0 + ap)) (gp (Int.toNat x0 + ap))))
 then (bif (lim IntKind.i64 (x0 + (1 : Int)))
 then (some (.inl (.h0 (x0 + (1 : Int)))))
 else (none))
 else (some (.inr ((6 : Int)))))
 else (some (.inr ((6 : Int)))))
 else (some (.inr ((6 : Int)))))
 else (some (.inr ((6 : Int)))))
 else (some (.inr ((6 : Int)))))
 else (some (.inr ((6 : Int)))))))
 else (none))
 else (none))
 else (some (.inr ((0 : Int))))
noncomputable def p19 (ap np mp : Nat) (tp : Nat → Int) (vp : Nat → Int) (gp : Nat → Int) (wp : Nat → Int) : Option (St19 ⊕ Rt19) := bif ((↑np : Int) == (0 : Int))
 then (some (.inr ((7 : Int))))
 else (bif (decide ((↑np : Int) > (60 : Int)))
 then (some (.inr ((3 : Int))))
 else (some (.inl (.h0 ((0 : Int))))))
noncomputable def Te19 (test : Bool → Prop → Prop → Prop) (Kst : KS) (Kret : KR) (ap np mp : Nat) (tp : Nat → Int) (vp : Nat → Int) (gp : Nat → Int) (wp : Nat → Int) : Prop :=
  test ((↑np : Int) == (0 : Int))
 (Kret (PV.int IntKind.i64 (7 : Int)) ([[(0, false,
 Blk.cols mp
 [Col.int IntKind.i64 tp, Col.int IntKind.i64 vp, Col.int IntKind.i64 gp,
 Col.int IntKind.i64 wp])]]) (2))
 (test (decide ((↑np : Int) > (60 : Int)))
 (Kret (PV.int IntKind.i64 (3 : Int)) ([[(0, false,
 Blk.cols mp
 [Col.int IntKind.i64 tp, Col.int IntKind.i64 vp, Col.int IntKind.i64 gp,
 Col.int IntKind.i64 wp])]]) (2))
 (Kst (hd Try.f19 0) ([PV.loose (PA.mk (0) (4) ap (0)) np, PV.int IntKind.i64 (↑np : Int),
 PV.int IntKind.i64 (0 : Int)]) ([[(0, false,
 Blk.cols mp
 [Col.int IntKind.i64 tp, Col.int IntKind.i64 vp, Col.int IntKind.i64 gp,
 Col.int IntKind.i64 wp])]]) (2)))
set_option maxRecDepth 100000 in
theorem te19 (test : Bool → Prop → Prop → Prop) (Kst : KS) (Kret : KR) (ap np mp : Nat) (tp : Nat → Int) (vp : Nat → Int) (gp : Nat → Int) (wp : Nat → Int) : run test Try.env true noX true 400 ⟨19, [.cd (mkFn Try.f19).body], argT 0 [.agg [.loose ⟨0, 4, ap, 0⟩ np]], [[], [(0, (false, .cols mp [.int .i64 tp, .int .i64 vp, .int .i64 gp, .int .i64 wp]))]], 1⟩ (proj 1 [15, 16, 17] Kst Kret) =
  Te19 test Kst Kret ap np mp tp vp gp wp := by kernel_rfl
noncomputable def T19_0 (test : Bool → Prop → Prop → Prop) (Kst : KS) (Kret : KR) (ap np mp : Nat) (tp : Nat → Int) (vp : Nat → Int) (gp : Nat → Int) (wp : Nat → Int) (x0 : Int) : Prop :=
  test (decide (x0 < (↑np : Int)))
 (test (decide ((0 : Int) ≤ x0 ∧ x0 < (↑np : Int)))
 (test (decide (Int.toNat x0 + ap < mp))
 (test (decide (Int.toNat x0 + ap < mp))
 (test (decide (Int.toNat x0 + ap < mp))
 (test (decide (Int.toNat x0 + ap < mp))
 (test (x0 == (0 : Int))
 (test (tp (Int.toNat x0 + ap) != (-1 : Int))
 (Kret (PV.int IntKind.i64 (15 : Int)) ([[(0, false,
 Blk.cols mp
 [Col.int IntKind.i64 tp, Col.int IntKind.i64 vp, Col.int IntKind.i64 gp,
 Col.int IntKind.i64 wp])]]) (2))
 (test (decide (x0 > (0 : Int)))
 (test (lim IntKind.i64 (x0 - (1 : Int)))
 (test (decide (tp (Int.toNat x0 + ap) ≥ (0 : Int)))
 (test (decide (tp (Int.toNat x0 + ap) ≤ x0 - (1 : Int)))
 (test (x0 == (0 : Int))
 (test (decide (vp (Int.toNat x0 + ap) ≥ (0 : Int)))
 (test (decide (vp (Int.toNat x0 + ap) ≤ (0 : Int)))
 (test (decide (gp (Int.toNat x0 + ap) ≥ (0 : Int)))
 (test (decide (gp (Int.toNat x0 + ap) ≤ (0 : Int)))
 (test (decide (wp (Int.toNat x0 + ap) ≥ (0 : Int)))
 (test (decide (wp (Int.toNat x0 + ap) ≤ Min.min (vp (Int.toNat x0 + ap)) (gp (Int.toNat x0 + ap))))
 (test (lim IntKind.i64 (x0 + (1 : Int)))
 (Kst (hd Try.f19 0) ([PV.loose (PA.mk (0) (4) ap (0)) np, PV.int IntKind.i64 (↑np : Int),
 PV.int IntKind.i64 (x0 + (1 : Int))]) ([[(0, false,
 Blk.cols mp
 [Col.int IntKind.i64 tp, Col.int IntKind.i64 vp, Col.int IntKind.i64 gp,
 Col.int IntKind.i64 wp])]]) (2))
 (False))
 (Kret (PV.int IntKind.i64 (6 : Int)) ([[(0, false,
 Blk.cols mp
 [Col.int IntKind.i64 tp, Col.int IntKind.i64 vp, Col.int IntKind.i64 gp,
 Col.int IntKind.i64 wp])]]) (2)))
 (Kret (PV.int IntKind.i64 (6 : Int)) ([[(0, false,
 Blk.cols mp
 [Col.int IntKind.i64 tp, Col.int IntKind.i64 vp, Col.int IntKind.i64 gp,
 Col.int IntKind.i64 wp])]]) (2)))
 (Kret (PV.int IntKind.i64 (6 : Int)) ([[(0, false,
 Blk.cols mp
 [Col.int IntKind.i64 tp, Col.int IntKind.i64 vp, Col.int IntKind.i64 gp,
 Col.int IntKind.i64 wp])]]) (2)))
 (Kret (PV.int IntKind.i64 (6 : Int)) ([[(0, false,
 Blk.cols mp
 [Col.int IntKind.i64 tp, Col.int IntKind.i64 vp, Col.int IntKind.i64 gp,
 Col.int IntKind.i64 wp])]]) (2)))
 (Kret (PV.int IntKind.i64 (6 : Int)) ([[(0, false,
 Blk.cols mp
 [Col.int IntKind.i64 tp, Col.int IntKind.i64 vp, Col.int IntKind.i64 gp,
 Col.int IntKind.i64 wp])]]) (2)))
 (Kret (PV.int IntKind.i64 (6 : Int)) ([[(0, false,
 Blk.cols mp
 [Col.int IntKind.i64 tp, Col.int IntKind.i64 vp, Col.int IntKind.i64 gp,
 Col.int IntKind.i64 wp])]]) (2)))
 (test (decide (vp (Int.toNat x0 + ap) ≥ (0 : Int)))
 (test (decide (vp (Int.toNat x0 + ap) ≤ (1000000 : Int)))
 (test (decide (gp (Int.toNat x0 + ap) ≥ (0 : Int)))
 (test (decide (gp (Int.toNat x0 + ap) ≤ (1000000 : Int)))
 (test (decide (wp (Int.toNat x0 + ap) ≥ (0 : Int)))
 (test (decide (wp (Int.toNat x0 + ap) ≤ Min.min (vp (Int.toNat x0 + ap)) (gp (Int.toNat x0 + ap))))
 (test (lim IntKind.i64 (x0 + (1 : Int)))
 (Kst (hd Try.f19 0) ([PV.loose (PA.mk (0) (4) ap (0)) np, PV.int IntKind.i64 (↑np : Int),
 PV.int IntKind.i64 (x0 + (1 : Int))]) ([[(0, false,
 Blk.cols mp
 [Col.int IntKind.i64 tp, Col.int IntKind.i64 vp, Col.int IntKind.i64 gp,
 Col.int IntKind.i64 wp])]]) (2))
 (False))
 (Kret (PV.int IntKind.i64 (6 : Int)) ([[(0, false,
 Blk.cols mp
 [Col.int IntKind.i64 tp, Col.int IntKind.i64 vp, Col.int IntKind.i64 gp,
 Col.int IntKind.i64 wp])]]) (2)))
 (Kret (PV.int IntKind.i64 (6 : Int)) ([[(0, false,
 Blk.cols mp
 [Col.int IntKind.i64 tp, Col.int IntKind.i64 vp, Col.int IntKind.i64 gp,
 Col.int IntKind.i64 wp])]]) (2)))
 (Kret (PV.int IntKind.i64 (6 : Int)) ([[(0, false,
 Blk.cols mp
 [Col.int IntKind.i64 tp, Col.int IntKind.i64 vp, Col.int IntKind.i64 gp,
 Col.int IntKind.i64 wp])]]) (2)))
 (Kret (PV.int IntKind.i64 (6 : Int)) ([[(0, false,
 Blk.cols mp
 [Col.int IntKind.i64 tp, Col.int IntKind.i64 vp, Col.int IntKind.i64 gp,
 Col.int IntKind.i64 wp])]]) (2)))
 (Kret (PV.int IntKind.i64 (6 : Int)) ([[(0, false,
 Blk.cols mp
 [Col.int IntKind.i64 tp, Col.int IntKind.i64 vp, Col.int IntKind.i64 gp,
 Col.int IntKind.i64 wp])]]) (2)))
 (Kret (PV.int IntKind.i64 (6 : Int)) ([[(0, false,
 Blk.cols mp
 [Col.int IntKind.i64 tp, Col.int IntKind.i64 vp, Col.int IntKind.i64 gp,
 Col.int IntKind.i64 wp])]]) (2))))
 (Kret (PV.int IntKind.i64 (15 : Int)) ([[(0, false,
 Blk.cols mp
 [Col.int IntKind.i64 tp, Col.int IntKind.i64 vp, Col.int IntKind.i64 gp,
 Col.int IntKind.i64 wp])]]) (2)))
 (Kret (PV.int IntKind.i64 (15 : Int)) ([[(0, false,
 Blk.cols mp
 [Col.int IntKind.i64 tp, Col.int IntKind.i64 vp, Col.int IntKind.i64 gp,
 Col.int IntKind.i64 wp])]]) (2)))
 (False))
 (test (x0 == (0 : Int))
 (test (decide (vp (Int.toNat x0 + ap) ≥ (0 : Int)))
 (test (decide (vp (Int.toNat x0 + ap) ≤ (0 : Int)))
 (test (decide (gp (Int.toNat x0 + ap) ≥ (0 : Int)))
 (test (decide (gp (Int.toNat x0 + ap) ≤ (0 : Int)))
 (test (decide (wp (Int.toNat x0 + ap) ≥ (0 : Int)))
 (test (decide (wp (Int.toNat x0 + ap) ≤ Min.min (vp (Int.toNat x0 + ap)) (gp (Int.toNat x0 + ap))))
 (test (lim IntKind.i64 (x0 + (1 : Int)))
 (Kst (hd Try.f19 0) ([PV.loose (PA.mk (0) (4) ap (0)) np, PV.int IntKind.i64 (↑np : Int),
 PV.int IntKind.i64 (x0 + (1 : Int))]) ([[(0, false,
 Blk.cols mp
 [Col.int IntKind.i64 tp, Col.int IntKind.i64 vp, Col.int IntKind.i64 gp,
 Col.int IntKind.i64 wp])]]) (2))
 (False))
 (Kret (PV.int IntKind.i64 (6 : Int)) ([[(0, false,
 Blk.cols mp
 [Col.int IntKind.i64 tp, Col.int IntKind.i64 vp, Col.int IntKind.i64 gp,
 Col.int IntKind.i64 wp])]]) (2)))
 (Kret (PV.int IntKind.i64 (6 : Int)) ([[(0, false,
 Blk.cols mp
 [Col.int IntKind.i64 tp, Col.int IntKind.i64 vp, Col.int IntKind.i64 gp,
 Col.int IntKind.i64 wp])]]) (2)))
 (Kret (PV.int IntKind.i64 (6 : Int)) ([[(0, false,
 Blk.cols mp
 [Col.int IntKind.i64 tp, Col.int IntKind.i64 vp, Col.int IntKind.i64 gp,
 Col.int IntKind.i64 wp])]]) (2)))
 (Kret (PV.int IntKind.i64 (6 : Int)) ([[(0, false,
 Blk.cols mp
 [Col.int IntKind.i64 tp, Col.int IntKind.i64 vp, Col.int IntKind.i64 gp,
 Col.int IntKind.i64 wp])]]) (2)))
 (Kret (PV.int IntKind.i64 (6 : Int)) ([[(0, false,
 Blk.cols mp
 [Col.int IntKind.i64 tp, Col.int IntKind.i64 vp, Col.int IntKind.i64 gp,
 Col.int IntKind.i64 wp])]]) (2)))
 (Kret (PV.int IntKind.i64 (6 : Int)) ([[(0, false,
 Blk.cols mp
 [Col.int IntKind.i64 tp, Col.int IntKind.i64 vp, Col.int IntKind.i64 gp,
 Col.int IntKind.i64 wp])]]) (2)))
 (test (decide (vp (Int.toNat x0 + ap) ≥ (0 : Int)))
 (test (decide (vp (Int.toNat x0 + ap) ≤ (1000000 : Int)))
 (test (decide (gp (Int.toNat x0 + ap) ≥ (0 : Int)))
 (test (decide (gp (Int.toNat x0 + ap) ≤ (1000000 : Int)))
 (test (decide (wp (Int.toNat x0 + ap) ≥ (0 : Int)))
 (test (decide (wp (Int.toNat x0 + ap) ≤ Min.min (vp (Int.toNat x0 + ap)) (gp (Int.toNat x0 + ap))))
 (test (lim IntKind.i64 (x0 + (1 : Int)))
 (Kst (hd Try.f19 0) ([PV.loose (PA.mk (0) (4) ap (0)) np, PV.int IntKind.i64 (↑np : Int),
 PV.int IntKind.i64 (x0 + (1 : Int))]) ([[(0, false,
 Blk.cols mp
 [Col.int IntKind.i64 tp, Col.int IntKind.i64 vp, Col.int IntKind.i64 gp,
 Col.int IntKind.i64 wp])]]) (2))
 (False))
 (Kret (PV.int IntKind.i64 (6 : Int)) ([[(0, false,
 Blk.cols mp
 [Col.int IntKind.i64 tp, Col.int IntKind.i64 vp, Col.int IntKind.i64 gp,
 Col.int IntKind.i64 wp])]]) (2)))
 (Kret (PV.int IntKind.i64 (6 : Int)) ([[(0, false,
 Blk.cols mp
 [Col.int IntKind.i64 tp, Col.int IntKind.i64 vp, Col.int IntKind.i64 gp,
 Col.int IntKind.i64 wp])]]) (2)))
 (Kret (PV.int IntKind.i64 (6 : Int)) ([[(0, false,
 Blk.cols mp
 [Col.int IntKind.i64 tp, Col.int IntKind.i64 vp, Col.int IntKind.i64 gp,
 Col.int IntKind.i64 wp])]]) (2)))
 (Kret (PV.int IntKind.i64 (6 : Int)) ([[(0, false,
 Blk.cols mp
 [Col.int IntKind.i64 tp, Col.int IntKind.i64 vp, Col.int IntKind.i64 gp,
 Col.int IntKind.i64 wp])]]) (2)))
 (Kret (PV.int IntKind.i64 (6 : Int)) ([[(0, false,
 Blk.cols mp
 [Col.int IntKind.i64 tp, Col.int IntKind.i64 vp, Col.int IntKind.i64 gp,
 Col.int IntKind.i64 wp])]]) (2)))
 (Kret (PV.int IntKind.i64 (6 : Int)) ([[(0, false,
 Blk.cols mp
 [Col.int IntKind.i64 tp, Col.int IntKind.i64 vp, Col.int IntKind.i64 gp,
 Col.int IntKind.i64 wp])]]) (2))))))
 (test (decide (x0 > (0 : Int)))
 (test (lim IntKind.i64 (x0 - (1 : Int)))
 (test (decide (tp (Int.toNat x0 + ap) ≥ (0 : Int)))
 (test (decide (tp (Int.toNat x0 + ap) ≤ x0 - (1 : Int)))
 (test (x0 == (0 : Int))
 (test (decide (vp (Int.toNat x0 + ap) ≥ (0 : Int)))
 (test (decide (vp (Int.toNat x0 + ap) ≤ (0 : Int)))
 (test (decide (gp (Int.toNat x0 + ap) ≥ (0 : Int)))
 (test (decide (gp (Int.toNat x0 + ap) ≤ (0 : Int)))
 (test (decide (wp (Int.toNat x0 + ap) ≥ (0 : Int)))
 (test (decide (wp (Int.toNat x0 + ap) ≤ Min.min (vp (Int.toNat x0 + ap)) (gp (Int.toNat x0 + ap))))
 (test (lim IntKind.i64 (x0 + (1 : Int)))
 (Kst (hd Try.f19 0) ([PV.loose (PA.mk (0) (4) ap (0)) np, PV.int IntKind.i64 (↑np : Int),
 PV.int IntKind.i64 (x0 + (1 : Int))]) ([[(0, false,
 Blk.cols mp
 [Col.int IntKind.i64 tp, Col.int IntKind.i64 vp, Col.int IntKind.i64 gp,
 Col.int IntKind.i64 wp])]]) (2))
 (False))
 (Kret (PV.int IntKind.i64 (6 : Int)) ([[(0, false,
 Blk.cols mp
 [Col.int IntKind.i64 tp, Col.int IntKind.i64 vp, Col.int IntKind.i64 gp,
 Col.int IntKind.i64 wp])]]) (2)))
 (Kret (PV.int IntKind.i64 (6 : Int)) ([[(0, false,
 Blk.cols mp
 [Col.int IntKind.i64 tp, Col.int IntKind.i64 vp, Col.int IntKind.i64 gp,
 Col.int IntKind.i64 wp])]]) (2)))
 (Kret (PV.int IntKind.i64 (6 : Int)) ([[(0, false,
 Blk.cols mp
 [Col.int IntKind.i64 tp, Col.int IntKind.i64 vp, Col.int IntKind.i64 gp,
 Col.int IntKind.i64 wp])]]) (2)))
 (Kret (PV.int IntKind.i64 (6 : Int)) ([[(0, false,
 Blk.cols mp
 [Col.int IntKind.i64 tp, Col.int IntKind.i64 vp, Col.int IntKind.i64 gp,
 Col.int IntKind.i64 wp])]]) (2)))
 (Kret (PV.int IntKind.i64 (6 : Int)) ([[(0, false,
 Blk.cols mp
 [Col.int IntKind.i64 tp, Col.int IntKind.i64 vp, Col.int IntKind.i64 gp,
 Col.int IntKind.i64 wp])]]) (2)))
 (Kret (PV.int IntKind.i64 (6 : Int)) ([[(0, false,
 Blk.cols mp
 [Col.int IntKind.i64 tp, Col.int IntKind.i64 vp, Col.int IntKind.i64 gp,
 Col.int IntKind.i64 wp])]]) (2)))
 (test (decide (vp (Int.toNat x0 + ap) ≥ (0 : Int)))
 (test (decide (vp (Int.toNat x0 + ap) ≤ (1000000 : Int)))
 (test (decide (gp (Int.toNat x0 + ap) ≥ (0 : Int)))
 (test (decide (gp (Int.toNat x0 + ap) ≤ (1000000 : Int)))
 (test (decide (wp (Int.toNat x0 + ap) ≥ (0 : Int)))
 (test (decide (wp (Int.toNat x0 + ap) ≤ Min.min (vp (Int.toNat x0 + ap)) (gp (Int.toNat x0 + ap))))
 (test (lim IntKind.i64 (x0 + (1 : Int)))
 (Kst (hd Try.f19 0) ([PV.loose (PA.mk (0) (4) ap (0)) np, PV.int IntKind.i64 (↑np : Int),
 PV.int IntKind.i64 (x0 + (1 : Int))]) ([[(0, false,
 Blk.cols mp
 [Col.int IntKind.i64 tp, Col.int IntKind.i64 vp, Col.int IntKind.i64 gp,
 Col.int IntKind.i64 wp])]]) (2))
 (False))
 (Kret (PV.int IntKind.i64 (6 : Int)) ([[(0, false,
 Blk.cols mp
 [Col.int IntKind.i64 tp, Col.int IntKind.i64 vp, Col.int IntKind.i64 gp,
 Col.int IntKind.i64 wp])]]) (2)))
 (Kret (PV.int IntKind.i64 (6 : Int)) ([[(0, false,
 Blk.cols mp
 [Col.int IntKind.i64 tp, Col.int IntKind.i64 vp, Col.int IntKind.i64 gp,
 Col.int IntKind.i64 wp])]]) (2)))
 (Kret (PV.int IntKind.i64 (6 : Int)) ([[(0, false,
 Blk.cols mp
 [Col.int IntKind.i64 tp, Col.int IntKind.i64 vp, Col.int IntKind.i64 gp,
 Col.int IntKind.i64 wp])]]) (2)))
 (Kret (PV.int IntKind.i64 (6 : Int)) ([[(0, false,
 Blk.cols mp
 [Col.int IntKind.i64 tp, Col.int IntKind.i64 vp, Col.int IntKind.i64 gp,
 Col.int IntKind.i64 wp])]]) (2)))
 (Kret (PV.int IntKind.i64 (6 : Int)) ([[(0, false,
 Blk.cols mp
 [Col.int IntKind.i64 tp, Col.int IntKind.i64 vp, Col.int IntKind.i64 gp,
 Col.int IntKind.i64 wp])]]) (2)))
 (Kret (PV.int IntKind.i64 (6 : Int)) ([[(0, false,
 Blk.cols mp
 [Col.int IntKind.i64 tp, Col.int IntKind.i64 vp, Col.int IntKind.i64 gp,
 Col.int IntKind.i64 wp])]]) (2))))
 (Kret (PV.int IntKind.i64 (15 : Int)) ([[(0, false,
 Blk.cols mp
 [Col.int IntKind.i64 tp, Col.int IntKind.i64 vp, Col.int IntKind.i64 gp,
 Col.int IntKind.i64 wp])]]) (2)))
 (Kret (PV.int IntKind.i64 (15 : Int)) ([[(0, false,
 Blk.cols mp
 [Col.int IntKind.i64 tp, Col.int IntKind.i64 vp, Col.int IntKind.i64 gp,
 Col.int IntKind.i64 wp])]]) (2)))
 (False))
 (test (x0 == (0 : Int))
 (test (decide (vp (Int.toNat x0 + ap) ≥ (0 : Int)))
 (test (decide (vp (Int.toNat x0 + ap) ≤ (0 : Int)))
 (test (decide (gp (Int.toNat x0 + ap) ≥ (0 : Int)))
 (test (decide (gp (Int.toNat x0 + ap) ≤ (0 : Int)))
 (test (decide (wp (Int.toNat x0 + ap) ≥ (0 : Int)))
 (test (decide (wp (Int.toNat x0 + ap) ≤ Min.min (vp (Int.toNat x0 + ap)) (gp (Int.toNat x0 + ap))))
 (test (lim IntKind.i64 (x0 + (1 : Int)))
 (Kst (hd Try.f19 0) ([PV.loose (PA.mk (0) (4) ap (0)) np, PV.int IntKind.i64 (↑np : Int),
 PV.int IntKind.i64 (x0 + (1 : Int))]) ([[(0, false,
 Blk.cols mp
 [Col.int IntKind.i64 tp, Col.int IntKind.i64 vp, Col.int IntKind.i64 gp,
 Col.int IntKind.i64 wp])]]) (2))
 (False))
 (Kret (PV.int IntKind.i64 (6 : Int)) ([[(0, false,
 Blk.cols mp
 [Col.int IntKind.i64 tp, Col.int IntKind.i64 vp, Col.int IntKind.i64 gp,
 Col.int IntKind.i64 wp])]]) (2)))
 (Kret (PV.int IntKind.i64 (6 : Int)) ([[(0, false,
 Blk.cols mp
 [Col.int IntKind.i64 tp, Col.int IntKind.i64 vp, Col.int IntKind.i64 gp,
 Col.int IntKind.i64 wp])]]) (2)))
 (Kret (PV.int IntKind.i64 (6 : Int)) ([[(0, false,
 Blk.cols mp
 [Col.int IntKind.i64 tp, Col.int IntKind.i64 vp, Col.int IntKind.i64 gp,
 Col.int IntKind.i64 wp])]]) (2)))
 (Kret (PV.int IntKind.i64 (6 : Int)) ([[(0, false,
 Blk.cols mp
 [Col.int IntKind.i64 tp, Col.int IntKind.i64 vp, Col.int IntKind.i64 gp,
 Col.int IntKind.i64 wp])]]) (2)))
 (Kret (PV.int IntKind.i64 (6 : Int)) ([[(0, false,
 Blk.cols mp
 [Col.int IntKind.i64 tp, Col.int IntKind.i64 vp, Col.int IntKind.i64 gp,
 Col.int IntKind.i64 wp])]]) (2)))
 (Kret (PV.int IntKind.i64 (6 : Int)) ([[(0, false,
 Blk.cols mp
 [Col.int IntKind.i64 tp, Col.int IntKind.i64 vp, Col.int IntKind.i64 gp,
 Col.int IntKind.i64 wp])]]) (2)))
 (test (decide (vp (Int.toNat x0 + ap) ≥ (0 : Int)))
 (test (decide (vp (Int.toNat x0 + ap) ≤ (1000000 : Int)))
 (test (decide (gp (Int.toNat x0 + ap) ≥ (0 : Int)))
 (test (decide (gp (Int.toNat x0 + ap) ≤ (1000000 : Int)))
 (test (decide (wp (Int.toNat x0 + ap) ≥ (0 : Int)))
 (test (decide (wp (Int.toNat x0 + ap) ≤ Min.min (vp (Int.toNat x0 + ap)) (gp (Int.toNat x0 + ap))))
 (test (lim IntKind.i64 (x0 + (1 : Int)))
 (Kst (hd Try.f19 0) ([PV.loose (PA.mk (0) (4) ap (0)) np, PV.int IntKind.i64 (↑np : Int),
 PV.int IntKind.i64 (x0 + (1 : Int))]) ([[(0, false,
 Blk.cols mp
 [Col.int IntKind.i64 tp, Col.int IntKind.i64 vp, Col.int IntKind.i64 gp,
 Col.int IntKind.i64 wp])]]) (2))
 (False))
 (Kret (PV.int IntKind.i64 (6 : Int)) ([[(0, false,
 Blk.cols mp
 [Col.int IntKind.i64 tp, Col.int IntKind.i64 vp, Col.int IntKind.i64 gp,
 Col.int IntKind.i64 wp])]]) (2)))
 (Kret (PV.int IntKind.i64 (6 : Int)) ([[(0, false,
 Blk.cols mp
 [Col.int IntKind.i64 tp, Col.int IntKind.i64 vp, Col.int IntKind.i64 gp,
 Col.int IntKind.i64 wp])]]) (2)))
 (Kret (PV.int IntKind.i64 (6 : Int)) ([[(0, false,
 Blk.cols mp
 [Col.int IntKind.i64 tp, Col.int IntKind.i64 vp, Col.int IntKind.i64 gp,
 Col.int IntKind.i64 wp])]]) (2)))
 (Kret (PV.int IntKind.i64 (6 : Int)) ([[(0, false,
 Blk.cols mp
 [Col.int IntKind.i64 tp, Col.int IntKind.i64 vp, Col.int IntKind.i64 gp,
 Col.int IntKind.i64 wp])]]) (2)))
 (Kret (PV.int IntKind.i64 (6 : Int)) ([[(0, false,
 Blk.cols mp
 [Col.int IntKind.i64 tp, Col.int IntKind.i64 vp, Col.int IntKind.i64 gp,
 Col.int IntKind.i64 wp])]]) (2)))
 (Kret (PV.int IntKind.i64 (6 : Int)) ([[(0, false,
 Blk.cols mp
 [Col.int IntKind.i64 tp, Col.int IntKind.i64 vp, Col.int IntKind.i64 gp,
 Col.int IntKind.i64 wp])]]) (2))))))
 (False))
 (False))
 (False))
 (False))
 (False))
 (Kret (PV.int IntKind.i64 (0 : Int)) ([[(0, false,
 Blk.cols mp
 [Col.int IntKind.i64 tp, Col.int IntKind.i64 vp, Col.int IntKind.i64 gp,
 Col.int IntKind.i64 wp])]]) (1))
set_option maxRecDepth 100000 in
theorem t19_0 (test : Bool → Prop → Prop → Prop) (Kst : KS) (Kret : KR) (ap np mp : Nat) (tp : Nat → Int) (vp : Nat → Int) (gp : Nat → Int) (wp : Nat → Int) (x0 : Int) : run test Try.env true noX true 400 ⟨19, hd Try.f19 0, zipT [15, 16, 17] [PV.loose (PA.mk (0) (4) ap (0)) np, PV.int IntKind.i64 (↑np : Int),
 PV.int IntKind.i64 x0], [[], [(0, (false, .cols mp [.int .i64 tp, .int .i64 vp, .int .i64 gp, .int .i64 wp]))]], 1⟩ (proj 1 [15, 16, 17] Kst Kret) =
  T19_0 test Kst Kret ap np mp tp vp gp wp x0 := by kernel_rfl
set_option maxRecDepth 100000 in
theorem be19 (ap np mp : Nat) (tp : Nat → Int) (vp : Nat → Int) (gp : Nat → Int) (wp : Nat → Int) (Kst : KS) (Kret : KR) (x : St19 ⊕ Rt19) (hS : HS 1 400 ((I19 ap np mp tp vp gp wp)) Kst x) (hR : HR 1 400 ((V19 ap np mp tp vp gp wp)) (fun r => [newL (1 + 1) ((N19 ap np mp tp vp gp wp) r) ++ [(0, (false, .cols mp [.int .i64 tp, .int .i64 vp, .int .i64 gp, .int .i64 wp]))]]) Kret x) (h : (bif ((↑np : Int) == (0 : Int))
 then (some (.inr ((7 : Int))))
 else (bif (decide ((↑np : Int) > (60 : Int)))
 then (some (.inr ((3 : Int))))
 else (some (.inl (.h0 ((0 : Int)))))) : Option (St19 ⊕ Rt19)) = some x) : Te19 cond Kst Kret ap np mp tp vp gp wp := by
  unfold Te19
  exact bif_split h
   (fun c0 h => ret_at hR _ h (fun n => n) rfl rfl rfl (rn_int rfl) rfl (entl_bor (use_lo rfl) rfl rfl entl_nil))
   (fun c0 h => bif_split h
   (fun c1 h => ret_at hR _ h (fun n => n) rfl rfl rfl (rn_int rfl) rfl (entl_bor (use_lo rfl) rfl rfl entl_nil))
   (fun c1 h => stop_at hS _ h (fun n => n) rfl rfl rfl ⟨(rn_loose (use_lo rfl) rfl rfl rfl), ⟨(rn_int rfl), ⟨(rn_int rfl), trivial⟩⟩⟩ rfl (entl_bor (use_lo rfl) rfl rfl entl_nil)))
set_option maxRecDepth 100000 in
theorem b19_0 (ap np mp : Nat) (tp : Nat → Int) (vp : Nat → Int) (gp : Nat → Int) (wp : Nat → Int) (Kst : KS) (Kret : KR) (x : St19 ⊕ Rt19) (hS : HS 1 400 ((I19 ap np mp tp vp gp wp)) Kst x) (hR : HR 1 400 ((V19 ap np mp tp vp gp wp)) (fun r => [newL (1 + 1) ((N19 ap np mp tp vp gp wp) r) ++ [(0, (false, .cols mp [.int .i64 tp, .int .i64 vp, .int .i64 gp, .int .i64 wp]))]]) Kret x) (x0 : Int) (h : (bif (decide (x0 < (↑np : Int)))
 then (bif (decide ((0 : Int) ≤ x0 ∧ x0 < (↑np : Int)))
 then (bif (decide (Int.toNat x0 + ap < mp))
 then (bif (x0 == (0 : Int))
 then (bif (tp (Int.toNat x0 + ap) != (-1 : Int))
 then (some (.inr ((15 : Int))))
 else (bif (decide (x0 > (0 : Int)))
 then (bif (lim IntKind.i64 (x0 - (1 : Int)))
 then (bif (decide (tp (Int.toNat x0 + ap) ≥ (0 : Int)))
 then (bif (decide (tp (Int.toNat x0 + ap) ≤ x0 - (1 : Int)))
 then (bif (decide (vp (Int.toNat x0 + ap) ≥ (0 : Int)))
 then (bif (decide (vp (Int.toNat x0 + ap) ≤ (0 : Int)))
 then (bif (decide (gp (Int.toNat x0 + ap) ≥ (0 : Int)))
 then (bif (decide (gp (Int.toNat x0 + ap) ≤ (0 : Int)))
 then (bif (decide (wp (Int.toNat x0 + ap) ≥ (0 : Int)))
 then (bif (decide (wp (Int.toNat x0 + ap) ≤ Min.min (vp (Int.toNat x0 + ap)) (gp (Int.toNat x0 + ap))))
 then (bif (lim IntKind.i64 (x0 + (1 : Int)))
 then (some (.inl (.h0 (x0 + (1 : Int)))))
 else (none))
 else (some (.inr ((6 : Int)))))
 else (some (.inr ((6 : Int)))))
 else (some (.inr ((6 : Int)))))
 else (some (.inr ((6 : Int)))))
 else (some (.inr ((6 : Int)))))
 else (some (.inr ((6 : Int)))))
 else (some (.inr ((15 : Int)))))
 else (some (.inr ((15 : Int)))))
 else (none))
 else (bif (decide (vp (Int.toNat x0 + ap) ≥ (0 : Int)))
 then (bif (decide (vp (Int.toNat x0 + ap) ≤ (0 : Int)))
 then (bif (decide (gp (Int.toNat x0 + ap) ≥ (0 : Int)))
 then (bif (decide (gp (Int.toNat x0 + ap) ≤ (0 : Int)))
 then (bif (decide (wp (Int.toNat x0 + ap) ≥ (0 : Int)))
 then (bif (decide (wp (Int.toNat x0 + ap) ≤ Min.min (vp (Int.toNat x0 + ap)) (gp (Int.toNat x0 + ap))))
 then (bif (lim IntKind.i64 (x0 + (1 : Int)))
 then (some (.inl (.h0 (x0 + (1 : Int)))))
 else (none))
 else (some (.inr ((6 : Int)))))
 else (some (.inr ((6 : Int)))))
 else (some (.inr ((6 : Int)))))
 else (some (.inr ((6 : Int)))))
 else (some (.inr ((6 : Int)))))
 else (some (.inr ((6 : Int)))))))
 else (bif (decide (x0 > (0 : Int)))
 then (bif (lim IntKind.i64 (x0 - (1 : Int)))
 then (bif (decide (tp (Int.toNat x0 + ap) ≥ (0 : Int)))
 then (bif (decide (tp (Int.toNat x0 + ap) ≤ x0 - (1 : Int)))
 then (bif (decide (vp (Int.toNat x0 + ap) ≥ (0 : Int)))
 then (bif (decide (vp (Int.toNat x0 + ap) ≤ (1000000 : Int)))
 then (bif (decide (gp (Int.toNat x0 + ap) ≥ (0 : Int)))
 then (bif (decide (gp (Int.toNat x0 + ap) ≤ (1000000 : Int)))
 then (bif (decide (wp (Int.toNat x0 + ap) ≥ (0 : Int)))
 then (bif (decide (wp (Int.toNat x0 + ap) ≤ Min.min (vp (Int.toNat x0 + ap)) (gp (Int.toNat x0 + ap))))
 then (bif (lim IntKind.i64 (x0 + (1 : Int)))
 then (some (.inl (.h0 (x0 + (1 : Int)))))
 else (none))
 else (some (.inr ((6 : Int)))))
 else (some (.inr ((6 : Int)))))
 else (some (.inr ((6 : Int)))))
 else (some (.inr ((6 : Int)))))
 else (some (.inr ((6 : Int)))))
 else (some (.inr ((6 : Int)))))
 else (some (.inr ((15 : Int)))))
 else (some (.inr ((15 : Int)))))
 else (none))
 else (bif (decide (vp (Int.toNat x0 + ap) ≥ (0 : Int)))
 then (bif (decide (vp (Int.toNat x0 + ap) ≤ (1000000 : Int)))
 then (bif (decide (gp (Int.toNat x0 + ap) ≥ (0 : Int)))
 then (bif (decide (gp (Int.toNat x0 + ap) ≤ (1000000 : Int)))
 then (bif (decide (wp (Int.toNat x0 + ap) ≥ (0 : Int)))
 then (bif (decide (wp (Int.toNat x0 + ap) ≤ Min.min (vp (Int.toNat x0 + ap)) (gp (Int.toNat x0 + ap))))
 then (bif (lim IntKind.i64 (x0 + (1 : Int)))
 then (some (.inl (.h0 (x0 + (1 : Int)))))
 else (none))
 else (some (.inr ((6 : Int)))))
 else (some (.inr ((6 : Int)))))
 else (some (.inr ((6 : Int)))))
 else (some (.inr ((6 : Int)))))
 else (some (.inr ((6 : Int)))))
 else (some (.inr ((6 : Int)))))))
 else (none))
 else (none))
 else (some (.inr ((0 : Int)))) : Option (St19 ⊕ Rt19)) = some x) : T19_0 cond Kst Kret ap np mp tp vp gp wp x0 := by
  unfold T19_0
  exact bif_split h
   (fun c0 h => bif_split h
   (fun c1 h => bif_split h
   (fun c2 h => cond_yes c2 (cond_yes c2 (cond_yes c2 (bif_split h
   (fun c3 h => bif_split h
   (fun c4 h => ret_at hR _ h (fun n => n) rfl rfl rfl (rn_int rfl) rfl (entl_bor (use_lo rfl) rfl rfl entl_nil))
   (fun c4 h => bif_split h
   (fun c5 h => bif_split h
   (fun c6 h => bif_split h
   (fun c7 h => bif_split h
   (fun c8 h => cond_yes c3 (bif_split h
   (fun c9 h => bif_split h
   (fun c10 h => bif_split h
   (fun c11 h => bif_split h
   (fun c12 h => bif_split h
   (fun c13 h => bif_split h
   (fun c14 h => bif_split h
   (fun c15 h => stop_at hS _ h (fun n => n) rfl rfl rfl ⟨(rn_loose (use_lo rfl) rfl rfl rfl), ⟨(rn_int rfl), ⟨(rn_int rfl), trivial⟩⟩⟩ rfl (entl_bor (use_lo rfl) rfl rfl entl_nil))
   (fun c15 h => no_some h))
   (fun c14 h => ret_at hR _ h (fun n => n) rfl rfl rfl (rn_int rfl) rfl (entl_bor (use_lo rfl) rfl rfl entl_nil)))
   (fun c13 h => ret_at hR _ h (fun n => n) rfl rfl rfl (rn_int rfl) rfl (entl_bor (use_lo rfl) rfl rfl entl_nil)))
   (fun c12 h => ret_at hR _ h (fun n => n) rfl rfl rfl (rn_int rfl) rfl (entl_bor (use_lo rfl) rfl rfl entl_nil)))
   (fun c11 h => ret_at hR _ h (fun n => n) rfl rfl rfl (rn_int rfl) rfl (entl_bor (use_lo rfl) rfl rfl entl_nil)))
   (fun c10 h => ret_at hR _ h (fun n => n) rfl rfl rfl (rn_int rfl) rfl (entl_bor (use_lo rfl) rfl rfl entl_nil)))
   (fun c9 h => ret_at hR _ h (fun n => n) rfl rfl rfl (rn_int rfl) rfl (entl_bor (use_lo rfl) rfl rfl entl_nil))))
   (fun c8 h => ret_at hR _ h (fun n => n) rfl rfl rfl (rn_int rfl) rfl (entl_bor (use_lo rfl) rfl rfl entl_nil)))
   (fun c7 h => ret_at hR _ h (fun n => n) rfl rfl rfl (rn_int rfl) rfl (entl_bor (use_lo rfl) rfl rfl entl_nil)))
   (fun c6 h => no_some h))
   (fun c5 h => cond_yes c3 (bif_split h
   (fun c6 h => bif_split h
   (fun c7 h => bif_split h
   (fun c8 h => bif_split h
   (fun c9 h => bif_split h
   (fun c10 h => bif_split h
   (fun c11 h => bif_split h
   (fun c12 h => stop_at hS _ h (fun n => n) rfl rfl rfl ⟨(rn_loose (use_lo rfl) rfl rfl rfl), ⟨(rn_int rfl), ⟨(rn_int rfl), trivial⟩⟩⟩ rfl (entl_bor (use_lo rfl) rfl rfl entl_nil))
   (fun c12 h => no_some h))
   (fun c11 h => ret_at hR _ h (fun n => n) rfl rfl rfl (rn_int rfl) rfl (entl_bor (use_lo rfl) rfl rfl entl_nil)))
   (fun c10 h => ret_at hR _ h (fun n => n) rfl rfl rfl (rn_int rfl) rfl (entl_bor (use_lo rfl) rfl rfl entl_nil)))
   (fun c9 h => ret_at hR _ h (fun n => n) rfl rfl rfl (rn_int rfl) rfl (entl_bor (use_lo rfl) rfl rfl entl_nil)))
   (fun c8 h => ret_at hR _ h (fun n => n) rfl rfl rfl (rn_int rfl) rfl (entl_bor (use_lo rfl) rfl rfl entl_nil)))
   (fun c7 h => ret_at hR _ h (fun n => n) rfl rfl rfl (rn_int rfl) rfl (entl_bor (use_lo rfl) rfl rfl entl_nil)))
   (fun c6 h => ret_at hR _ h (fun n => n) rfl rfl rfl (rn_int rfl) rfl (entl_bor (use_lo rfl) rfl rfl entl_nil))))))
   (fun c3 h => bif_split h
   (fun c4 h => bif_split h
   (fun c5 h => bif_split h
   (fun c6 h => bif_split h
   (fun c7 h => cond_no c3 (bif_split h
   (fun c8 h => bif_split h
   (fun c9 h => bif_split h
   (fun c10 h => bif_split h
   (fun c11 h => bif_split h
   (fun c12 h => bif_split h
   (fun c13 h => bif_split h
   (fun c14 h => stop_at hS _ h (fun n => n) rfl rfl rfl ⟨(rn_loose (use_lo rfl) rfl rfl rfl), ⟨(rn_int rfl), ⟨(rn_int rfl), trivial⟩⟩⟩ rfl (entl_bor (use_lo rfl) rfl rfl entl_nil))
   (fun c14 h => no_some h))
   (fun c13 h => ret_at hR _ h (fun n => n) rfl rfl rfl (rn_int rfl) rfl (entl_bor (use_lo rfl) rfl rfl entl_nil)))
   (fun c12 h => ret_at hR _ h (fun n => n) rfl rfl rfl (rn_int rfl) rfl (entl_bor (use_lo rfl) rfl rfl entl_nil)))
   (fun c11 h => ret_at hR _ h (fun n => n) rfl rfl rfl (rn_int rfl) rfl (entl_bor (use_lo rfl) rfl rfl entl_nil)))
   (fun c10 h => ret_at hR _ h (fun n => n) rfl rfl rfl (rn_int rfl) rfl (entl_bor (use_lo rfl) rfl rfl entl_nil)))
   (fun c9 h => ret_at hR _ h (fun n => n) rfl rfl rfl (rn_int rfl) rfl (entl_bor (use_lo rfl) rfl rfl entl_nil)))
   (fun c8 h => ret_at hR _ h (fun n => n) rfl rfl rfl (rn_int rfl) rfl (entl_bor (use_lo rfl) rfl rfl entl_nil))))
   (fun c7 h => ret_at hR _ h (fun n => n) rfl rfl rfl (rn_int rfl) rfl (entl_bor (use_lo rfl) rfl rfl entl_nil)))
   (fun c6 h => ret_at hR _ h (fun n => n) rfl rfl rfl (rn_int rfl) rfl (entl_bor (use_lo rfl) rfl rfl entl_nil)))
   (fun c5 h => no_some h))
   (fun c4 h => cond_no c3 (bif_split h
   (fun c5 h => bif_split h
   (fun c6 h => bif_split h
   (fun c7 h => bif_split h
   (fun c8 h => bif_split h
   (fun c9 h => bif_split h
   (fun c10 h => bif_split h
   (fun c11 h => stop_at hS _ h (fun n => n) rfl rfl rfl ⟨(rn_loose (use_lo rfl) rfl rfl rfl), ⟨(rn_int rfl), ⟨(rn_int rfl), trivial⟩⟩⟩ rfl (entl_bor (use_lo rfl) rfl rfl entl_nil))
   (fun c11 h => no_some h))
   (fun c10 h => ret_at hR _ h (fun n => n) rfl rfl rfl (rn_int rfl) rfl (entl_bor (use_lo rfl) rfl rfl entl_nil)))
   (fun c9 h => ret_at hR _ h (fun n => n) rfl rfl rfl (rn_int rfl) rfl (entl_bor (use_lo rfl) rfl rfl entl_nil)))
   (fun c8 h => ret_at hR _ h (fun n => n) rfl rfl rfl (rn_int rfl) rfl (entl_bor (use_lo rfl) rfl rfl entl_nil)))
   (fun c7 h => ret_at hR _ h (fun n => n) rfl rfl rfl (rn_int rfl) rfl (entl_bor (use_lo rfl) rfl rfl entl_nil)))
   (fun c6 h => ret_at hR _ h (fun n => n) rfl rfl rfl (rn_int rfl) rfl (entl_bor (use_lo rfl) rfl rfl entl_nil)))
   (fun c5 h => ret_at hR _ h (fun n => n) rfl rfl rfl (rn_int rfl) rfl (entl_bor (use_lo rfl) rfl rfl entl_nil)))))))))
   (fun c2 h => no_some h))
   (fun c1 h => no_some h))
   (fun c0 h => ret_at hR _ h (fun n => n) rfl rfl rfl (rn_int rfl) rfl (entl_bor (use_lo rfl) rfl rfl entl_nil))
theorem a19 (ap np mp : Nat) (tp : Nat → Int) (vp : Nat → Int) (gp : Nat → Int) (wp : Nat → Int) {r : Rt19} (h : Goes ((q19 ap np mp tp vp gp wp)) ((p19 ap np mp tp vp gp wp)) r) : CallR Try.prog 19 [.agg [.loose ⟨0, 4, ap, 0⟩ np]] [[(0, (false, .cols mp [.int .i64 tp, .int .i64 vp, .int .i64 gp, .int .i64 wp]))]] 1 ((V19 ap np mp tp vp gp wp) r) ((fun r => [newL (1 + 1) ((N19 ap np mp tp vp gp wp) r) ++ [(0, (false, .cols mp [.int .i64 tp, .int .i64 vp, .int .i64 gp, .int .i64 wp]))]]) r) 400 ∧ ∃ F, Try.prog.funcs[19]? = some F ∧ F.body.isSome = true ∧ (F.name == "runtime.NumGoroutine") = false := by
  refine dec_calls (f := 19) (lo := 1) (hi := 400) (H := [[(0, (false, .cols mp [.int .i64 tp, .int .i64 vp, .int .i64 gp, .int .i64 wp]))]]) (args := [.agg [.loose ⟨0, 4, ap, 0⟩ np]]) Try.envOk Try.mixed noX_ok ((I19 ap np mp tp vp gp wp)) ((V19 ap np mp tp vp gp wp)) (fun r => [newL (1 + 1) ((N19 ap np mp tp vp gp wp) r) ++ [(0, (false, .cols mp [.int .i64 tp, .int .i64 vp, .int .i64 gp, .int .i64 wp]))]]) (fn := mkFn Try.f19) (ts := [15, 16, 17]) (n := 400) rfl (by decide) (by simp) (names_of rfl) ?_ ?_ ?_ h
  · intro s; cases s <;> exact ⟨hd_ok _ _, by simp [I19], names_of rfl, Nat.le_of_ble_eq_true rfl⟩
  · intro Kst Kret x hS hR h
    exact Holds.eq (te19 cond Kst Kret ap np mp tp vp gp wp) (be19 ap np mp tp vp gp wp Kst Kret x hS hR h)
  · intro Kst Kret x hS hR s h
    cases s with
    | h0 x0 => exact Holds.eq (t19_0 cond Kst Kret ap np mp tp vp gp wp x0) (b19_0 ap np mp tp vp gp wp Kst Kret x hS hR x0 h)
noncomputable def k19 : Con := ⟨19, [.agg [.list [.int .i64, .int .i64, .int .i64, .int .i64]]], fun (x : ((Nat × Nat × Nat × (Nat → Int) × (Nat → Int) × (Nat → Int) × (Nat → Int) × Unit) × Unit) × Unit) => (fun (ap np mp : Nat) (tp : Nat → Int) (vp : Nat → Int) (gp : Nat → Int) (wp : Nat → Int) => decide (ap + np ≤ mp ∧ np ≤ 1000000)) x.1.1.1 x.1.1.2.1 x.1.1.2.2.1 x.1.1.2.2.2.1 x.1.1.2.2.2.2.1 x.1.1.2.2.2.2.2.1 x.1.1.2.2.2.2.2.2.1, fun (x : ((Nat × Nat × Nat × (Nat → Int) × (Nat → Int) × (Nat → Int) × (Nat → Int) × Unit) × Unit) × Unit) => (fun (ap np mp : Nat) (tp : Nat → Int) (vp : Nat → Int) (gp : Nat → Int) (wp : Nat → Int) => (V19 ap np mp tp vp gp wp) (S.treE np (fun q => tp (q + ap)) (fun q => vp (q + ap)) (fun q => gp (q + ap)) (fun q => wp (q + ap)))) x.1.1.1 x.1.1.2.1 x.1.1.2.2.1 x.1.1.2.2.2.1 x.1.1.2.2.2.2.1 x.1.1.2.2.2.2.2.1 x.1.1.2.2.2.2.2.2.1, fun (x : ((Nat × Nat × Nat × (Nat → Int) × (Nat → Int) × (Nat → Int) × (Nat → Int) × Unit) × Unit) × Unit) => (fun (ap np mp : Nat) (tp : Nat → Int) (vp : Nat → Int) (gp : Nat → Int) (wp : Nat → Int) => (N19 ap np mp tp vp gp wp) (S.treE np (fun q => tp (q + ap)) (fun q => vp (q + ap)) (fun q => gp (q + ap)) (fun q => wp (q + ap)))) x.1.1.1 x.1.1.2.1 x.1.1.2.2.1 x.1.1.2.2.2.1 x.1.1.2.2.2.2.1 x.1.1.2.2.2.2.2.1 x.1.1.2.2.2.2.2.2.1, fun _ _ => .dead⟩
theorem s19' (ap np mp : Nat) (tp : Nat → Int) (vp : Nat → Int) (gp : Nat → Int) (wp : Nat → Int) (hp : ap + np ≤ mp ∧ np ≤ 1000000) : ∀ k i : Nat, i + k = np → Comes (q19 ap np mp tp vp gp wp) (.h0 (i : Int)) (S.nodE (fun q => tp (q + ap)) (fun q => vp (q + ap)) (fun q => gp (q + ap)) (fun q => wp (q + ap)) i k) := by
  obtain ⟨hp1, hp2⟩ := hp
  intro k
  induction k with
  | zero =>
    intro i hi
    apply Comes.of
    show Goes _ _ _
    (first | rw [q19] | unfold q19)
    repeat' first
      | with_reducible refine goes_if (fun h => ?_) (fun h => ?_) <;> (try simp only [lim64, decide_eq_true_eq, decide_eq_false_iff_not, Int.toNat_natCast, toNat_pred, toNat_succ, Option.getD_some, Option.getD_none, Bool.not_eq_true', Bool.not_eq_false', Bool.and_eq_true, Bool.or_eq_true, Bool.and_eq_false_iff, Bool.or_eq_false_iff, bne_iff_ne, beq_iff_eq, bne_eq_false_iff_eq, beq_eq_false_iff_ne, ne_eq, not_and, Int.not_le, Int.not_lt, ge_iff_le, gt_iff_lt, Nat.not_lt, Nat.not_le, Bool.not_eq_true, Bool.not_eq_false, Bool.true_eq_false, Bool.false_eq_true, not_false_eq_true, not_true_eq_false] at h)
      | exact goes_none.mpr (by omega)
    all_goals first | (exfalso; omega) | exact goes_inr.mpr rfl
  | succ k ih =>
    intro i hi
    have ih := ih (i + 1) (by omega)
    have e : S.nodE (fun q => tp (q + ap)) (fun q => vp (q + ap)) (fun q => gp (q + ap)) (fun q => wp (q + ap)) i (k + 1) = if S.okO i (tp (i + ap)) = true then (if S.okB i (vp (i + ap)) (gp (i + ap)) (wp (i + ap)) = true then S.nodE (fun q => tp (q + ap)) (fun q => vp (q + ap)) (fun q => gp (q + ap)) (fun q => wp (q + ap)) (i + 1) k else 6) else 15 := rfl
    rw [e]
    simp only [S.okO, S.okB, decide_eq_true_eq]
    apply Comes.of
    show Goes _ _ _
    (first | rw [q19] | unfold q19)
    repeat' first
      | with_reducible refine goes_if (fun h => ?_) (fun h => ?_) <;> (try simp only [lim64, decide_eq_true_eq, decide_eq_false_iff_not, Int.toNat_natCast, toNat_pred, toNat_succ, Option.getD_some, Option.getD_none, Bool.not_eq_true', Bool.not_eq_false', Bool.and_eq_true, Bool.or_eq_true, Bool.and_eq_false_iff, Bool.or_eq_false_iff, bne_iff_ne, beq_iff_eq, bne_eq_false_iff_eq, beq_eq_false_iff_ne, ne_eq, not_and, Int.not_le, Int.not_lt, ge_iff_le, gt_iff_lt, Nat.not_lt, Nat.not_le, Bool.not_eq_true, Bool.not_eq_false, Bool.true_eq_false, Bool.false_eq_true, not_false_eq_true, not_true_eq_false] at h)
      | exact goes_none.mpr (by omega)
    all_goals first
      | (exfalso; omega)
      | (rw [if_pos (by omega), if_pos (by omega)]; exact ih)
      | (rw [if_pos (by omega), if_neg (by omega)]; exact goes_inr.mpr rfl)
      | (rw [if_neg (by omega)]; exact goes_inr.mpr rfl)
theorem s19 (ap np mp : Nat) (tp : Nat → Int) (vp : Nat → Int) (gp : Nat → Int) (wp : Nat → Int) (hp : ap + np ≤ mp ∧ np ≤ 1000000) : Goes ((q19 ap np mp tp vp gp wp)) ((p19 ap np mp tp vp gp wp)) (S.treE np (fun q => tp (q + ap)) (fun q => vp (q + ap)) (fun q => gp (q + ap)) (fun q => wp (q + ap))) := by
  have hm := s19' ap np mp tp vp gp wp hp np 0 (by omega)
  unfold S.treE
  by_cases h1 : np = 0
  · rw [if_pos h1]
    show Goes _ _ _
    unfold p19
    repeat' first
      | with_reducible refine goes_if (fun h => ?_) (fun h => ?_) <;> (try simp only [lim64, decide_eq_true_eq, decide_eq_false_iff_not, Int.toNat_natCast, toNat_pred, toNat_succ, Option.getD_some, Option.getD_none, Bool.not_eq_true', Bool.not_eq_false', Bool.and_eq_true, Bool.or_eq_true, Bool.and_eq_false_iff, Bool.or_eq_false_iff, bne_iff_ne, beq_iff_eq, bne_eq_false_iff_eq, beq_eq_false_iff_ne, ne_eq, not_and, Int.not_le, Int.not_lt, ge_iff_le, gt_iff_lt, Nat.not_lt, Nat.not_le, Bool.not_eq_true, Bool.not_eq_false, Bool.true_eq_false, Bool.false_eq_true, not_false_eq_true, not_true_eq_false] at h)
      | exact goes_none.mpr (by omega)
    all_goals first | (exfalso; omega) | exact goes_inr.mpr rfl
  · rw [if_neg h1]
    by_cases h2 : 60 < np
    · rw [if_pos h2]
      show Goes _ _ _
      unfold p19
      repeat' first
        | with_reducible refine goes_if (fun h => ?_) (fun h => ?_) <;> (try simp only [lim64, decide_eq_true_eq, decide_eq_false_iff_not, Int.toNat_natCast, toNat_pred, toNat_succ, Option.getD_some, Option.getD_none, Bool.not_eq_true', Bool.not_eq_false', Bool.and_eq_true, Bool.or_eq_true, Bool.and_eq_false_iff, Bool.or_eq_false_iff, bne_iff_ne, beq_iff_eq, bne_eq_false_iff_eq, beq_eq_false_iff_ne, ne_eq, not_and, Int.not_le, Int.not_lt, ge_iff_le, gt_iff_lt, Nat.not_lt, Nat.not_le, Bool.not_eq_true, Bool.not_eq_false, Bool.true_eq_false, Bool.false_eq_true, not_false_eq_true, not_true_eq_false] at h)
        | exact goes_none.mpr (by omega)
      all_goals first | (exfalso; omega) | exact goes_inr.mpr rfl
    · rw [if_neg h2]
      show Goes _ _ _
      unfold p19
      repeat' first
        | with_reducible refine goes_if (fun h => ?_) (fun h => ?_) <;> (try simp only [lim64, decide_eq_true_eq, decide_eq_false_iff_not, Int.toNat_natCast, toNat_pred, toNat_succ, Option.getD_some, Option.getD_none, Bool.not_eq_true', Bool.not_eq_false', Bool.and_eq_true, Bool.or_eq_true, Bool.and_eq_false_iff, Bool.or_eq_false_iff, bne_iff_ne, beq_iff_eq, bne_eq_false_iff_eq, beq_eq_false_iff_ne, ne_eq, not_and, Int.not_le, Int.not_lt, ge_iff_le, gt_iff_lt, Nat.not_lt, Nat.not_le, Bool.not_eq_true, Bool.not_eq_false, Bool.true_eq_false, Bool.false_eq_true, not_false_eq_true, not_true_eq_false] at h)
        | exact goes_none.mpr (by omega)
      all_goals first | (exfalso; omega) | exact hm

theorem k19_ok : k19.ok Try.prog := by
  intro x hx
  obtain ⟨⟨⟨ap, np, mp, tp, vp, gp, wp, _⟩, _⟩, _⟩ := x
  obtain ⟨h1, h2⟩ := a19 ap np mp tp vp gp wp (s19 ap np mp tp vp gp wp (of_dec hx rfl))
  exact ⟨⟨400, (by decide : 1 + 1 + 0 ≤ 400), h1⟩, h2⟩
inductive St20 where
  | h0 (x0 : Int)
abbrev Rt20 := Int
noncomputable def V20 (ap np mp : Nat) (tp : Nat → Int) (vp : Nat → Int) (gp : Nat → Int) (wp : Nat → Int) (r : Rt20) : PV := PV.int IntKind.i64 r
noncomputable def N20 (ap np mp : Nat) (tp : Nat → Int) (vp : Nat → Int) (gp : Nat → Int) (wp : Nat → Int) (r : Rt20) : List Blk := []
noncomputable def I20 (ap np mp : Nat) (tp : Nat → Int) (vp : Nat → Int) (gp : Nat → Int) (wp : Nat → Int) : St20 → Hd
  | .h0 x0 => ⟨hd Try.f20 0, [PV.ptr (PA.mk (1) (0) (0) (0)), PV.int IntKind.i64 x0], [[(1, (true, Blk.cells [PV.loose (PA.mk (0) (4) ap (0)) np]))], [(0, (false, .cols mp [.int .i64 tp, .int .i64 vp, .int .i64 gp, .int .i64 wp]))]], 2⟩
noncomputable def q20 (ap np mp : Nat) (tp : Nat → Int) (vp : Nat → Int) (gp : Nat → Int) (wp : Nat → Int) : St20 → Option (St20 ⊕ Rt20)
  | .h0 x0 => bif (decide (x0 < (↑np : Int)))
 then (bif (decide ((0 : Int) ≤ x0 ∧ x0 < (↑np : Int)))
 then (bif (decide (Int.toNat x0 + ap < mp))
 then (bif (x0 == (0 : Int))
 then (bif (tp (Int.toNat x0 + ap) != (-1 : Int))
 then (some (.inr ((15 : Int))))
 else (bif (decide (x0 > (0 : Int)))
 then (bif (decide (tp (Int.toNat x0 + ap) < (0 : Int)))
 then (some (.inr ((15 : Int))))
 else (bif (decide (tp (Int.toNat x0 + ap) ≥ x0))
 then (some (.inr ((15 : Int))))
 else (bif (vp (Int.toNat x0 + ap) != (0 : Int))
 then (some (.inr ((6 : Int))))
 else (bif (gp (Int.toNat x0 + ap) != (0 : Int))
 then (some (.inr ((6 : Int))))
 else (bif (wp (Int.toNat x0 + ap) != (0 : Int))
 then (some (.inr ((6 : Int))))
 else (bif (decide (vp (Int.toNat x0 + ap) < (0 : Int)))
 then (some (.inr ((6 : Int))))
 else (bif (decide (vp (Int.toNat x0 + ap) > (1000000 : Int)))
 then (some (.inr ((6 : Int))))
 else (bif (decide (gp (Int.toNat x0 + ap) < (0 : Int)))
 then (some (.inr ((6 : Int))))
 else (bif (decide (gp (Int.toNat x0 + ap) > (1000000 : Int)))
 then (some (.inr ((6 : Int))))
 else (bif (decide (wp (Int.toNat x0 + ap) < (0 : Int)))
 then (some (.inr ((6 : Int))))
 else (bif (decide (wp (Int.toNat x0 + ap) > Min.min (vp (Int.toNat x0 + ap)) (gp (Int.toNat x0 + ap))))
 then (some (.inr ((6 : Int))))
 else (bif (lim IntKind.i64 (x0 + (1 : Int)))
 then (some (.inl (.h0 (x0 + (1 : Int)))))
 else (none)))))))))))))
 else (bif (vp (Int.toNat x0 + ap) != (0 : Int))
 then (some (.inr ((6 : Int))))
 else (bif (gp (Int.toNat x0 + ap) != (0 : Int))
 then (some (.inr ((6 : Int))))
 else (bif (wp (Int.toNat x0 + ap) != (0 : Int))
 then (some (.inr ((6 : Int))))
 else (bif (decide (vp (Int.toNat x0 + ap) < (0 : Int)))
 then (some (.inr ((6 : Int))))
 else (bif (decide (vp (Int.toNat x0 + ap) > (1000000 : Int)))
 then (some (.inr ((6 : Int))))
 else (bif (decide (gp (Int.toNat x0 + ap) < (0 : Int)))
 then (some (.inr ((6 : Int))))
 else (bif (decide (gp (Int.toNat x0 + ap) > (1000000 : Int)))
 then (some (.inr ((6 : Int))))
 else (bif (decide (wp (Int.toNat x0 + ap) < (0 : Int)))
 then (some (.inr ((6 : Int))))
 else (bif (decide (wp (Int.toNat x0 + ap) > Min.min (vp (Int.toNat x0 + ap)) (gp (Int.toNat x0 + ap))))
 then (some (.inr ((6 : Int))))
 else (bif (lim IntKind.i64 (x0 + (1 : Int)))
 then (some (.inl (.h0 (x0 + (1 : Int)))))
 else (none)))))))))))))
 else (bif (decide (x0 > (0 : Int)))
 then (bif (decide (tp (Int.toNat x0 + ap) < (0 : Int)))
 then (some (.inr ((15 : Int))))
 else (bif (decide (tp (Int.toNat x0 + ap) ≥ x0))
 then (some (.inr ((15 : Int))))
 else (bif (decide (vp (Int.toNat x0 + ap) < (0 : Int)))
 then (some (.inr ((6 : Int))))
 else (bif (decide (vp (Int.toNat x0 + ap) > (1000000 : Int)))
 then (some (.inr ((6 : Int))))
 else (bif (decide (gp (Int.toNat x0 + ap) < (0 : Int)))
 then (some (.inr ((6 : Int))))
 else (bif (decide (gp (Int.toNat x0 + ap) > (1000000 : Int)))
 then (some (.inr ((6 : Int))))
 else (bif (decide (wp (Int.toNat x0 + ap) < (0 : Int)))
 then (some (.inr ((6 : Int))))
 else (bif (decide (wp (Int.toNat x0 + ap) > Min.min (vp (Int.toNat x0 + ap)) (gp (Int.toNat x0 + ap))))
 then (some (.inr ((6 : Int))))
 else (bif (lim IntKind.i64 (x0 + (1 : Int)))
 then (some (.inl (.h0 (x0 + (1 : Int)))))
 else (none))))))))))
 else (bif (decide (vp (Int.toNat x0 + ap) < (0 : Int)))
 then (some (.inr ((6 : Int))))
 else (bif (decide (vp (Int.toNat x0 + ap) > (1000000 : Int)))
 then (some (.inr ((6 : Int))))
 else (bif (decide (gp (Int.toNat x0 + ap) < (0 : Int)))
 then (some (.inr ((6 : Int))))
 else (bif (decide (gp (Int.toNat x0 + ap) > (1000000 : Int)))
 then (some (.inr ((6 : Int))))
 else (bif (decide (wp (Int.toNat x0 + ap) < (0 : Int)))
 then (some (.inr ((6 : Int))))
 else (bif (decide (wp (Int.toNat x0 + ap) > Min.min (vp (Int.toNat x0 + ap)) (gp (Int.toNat x0 + ap))))
 then (some (.inr ((6 : Int))))
 else (bif (lim IntKind.i64 (x0 + (1 : Int)))
 then (some (.inl (.h0 (x0 + (1 : Int)))))
 else (none))))))))))
 else (none))
 else (none))
 else (some (.inr ((0 : Int))))
noncomputable def p20 (ap np mp : Nat) (tp : Nat → Int) (vp : Nat → Int) (gp : Nat → Int) (wp : Nat → Int) : Option (St20 ⊕ Rt20) := bif ((↑np : Int) == (0 : Int))
 then (some (.inr ((7 : Int))))
 else (bif (decide ((↑np : Int) > (60 : Int)))
 then (some (.inr ((3 : Int))))
 else (some (.inl (.h0 ((0 : Int))))))
noncomputable def Te20 (test : Bool → Prop → Prop → Prop) (Kst : KS) (Kret : KR) (ap np mp : Nat) (tp : Nat → Int) (vp : Nat → Int) (gp : Nat → Int) (wp : Nat → Int) : Prop :=
  test ((↑np : Int) == (0 : Int))
 (Kret (PV.int IntKind.i64 (7 : Int)) ([[(0, false,
 Blk.cols mp
 [Col.int IntKind.i64 tp, Col.int IntKind.i64 vp, Col.int IntKind.i64 gp,
 Col.int IntKind.i64 wp])]]) (2))
 (test (decide ((↑np : Int) > (60 : Int)))
 (Kret (PV.int IntKind.i64 (3 : Int)) ([[(0, false,
 Blk.cols mp
 [Col.int IntKind.i64 tp, Col.int IntKind.i64 vp, Col.int IntKind.i64 gp,
 Col.int IntKind.i64 wp])]]) (2))
 (Kst (hd Try.f20 0) ([PV.ptr (PA.mk (1) (0) (0) (0)), PV.int IntKind.i64 (0 : Int)]) ([[(0, false,
 Blk.cols mp
 [Col.int IntKind.i64 tp, Col.int IntKind.i64 vp, Col.int IntKind.i64 gp,
 Col.int IntKind.i64 wp]),
 (1, true, Blk.cells [PV.loose (PA.mk (0) (4) ap (0)) np])]]) (2)))
set_option maxRecDepth 100000 in
theorem te20 (test : Bool → Prop → Prop → Prop) (Kst : KS) (Kret : KR) (ap np mp : Nat) (tp : Nat → Int) (vp : Nat → Int) (gp : Nat → Int) (wp : Nat → Int) : run test Try.env true noX true 400 ⟨20, [.cd (mkFn Try.f20).body], argT 0 [.agg [.loose ⟨0, 4, ap, 0⟩ np]], [[], [(0, (false, .cols mp [.int .i64 tp, .int .i64 vp, .int .i64 gp, .int .i64 wp]))]], 1⟩ (proj 1 [1, 3] Kst Kret) =
  Te20 test Kst Kret ap np mp tp vp gp wp := by kernel_rfl
noncomputable def T20_0 (test : Bool → Prop → Prop → Prop) (Kst : KS) (Kret : KR) (ap np mp : Nat) (tp : Nat → Int) (vp : Nat → Int) (gp : Nat → Int) (wp : Nat → Int) (x0 : Int) : Prop :=
  test (decide (x0 < (↑np : Int)))
 (test (decide ((0 : Int) ≤ x0 ∧ x0 < (↑np : Int)))
 (test (decide (Int.toNat x0 + ap < mp))
 (test (decide (Int.toNat x0 + ap < mp))
 (test (decide (Int.toNat x0 + ap < mp))
 (test (decide (Int.toNat x0 + ap < mp))
 (test (x0 == (0 : Int))
 (test (tp (Int.toNat x0 + ap) != (-1 : Int))
 (Kret (PV.int IntKind.i64 (15 : Int)) ([[(0, false,
 Blk.cols mp
 [Col.int IntKind.i64 tp, Col.int IntKind.i64 vp, Col.int IntKind.i64 gp,
 Col.int IntKind.i64 wp])]]) (3))
 (test (decide (x0 > (0 : Int)))
 (test (decide (tp (Int.toNat x0 + ap) < (0 : Int)))
 (Kret (PV.int IntKind.i64 (15 : Int)) ([[(0, false,
 Blk.cols mp
 [Col.int IntKind.i64 tp, Col.int IntKind.i64 vp, Col.int IntKind.i64 gp,
 Col.int IntKind.i64 wp])]]) (3))
 (test (decide (tp (Int.toNat x0 + ap) ≥ x0))
 (Kret (PV.int IntKind.i64 (15 : Int)) ([[(0, false,
 Blk.cols mp
 [Col.int IntKind.i64 tp, Col.int IntKind.i64 vp, Col.int IntKind.i64 gp,
 Col.int IntKind.i64 wp])]]) (3))
 (test (x0 == (0 : Int))
 (test (vp (Int.toNat x0 + ap) != (0 : Int))
 (Kret (PV.int IntKind.i64 (6 : Int)) ([[(0, false,
 Blk.cols mp
 [Col.int IntKind.i64 tp, Col.int IntKind.i64 vp, Col.int IntKind.i64 gp,
 Col.int IntKind.i64 wp])]]) (3))
 (test (gp (Int.toNat x0 + ap) != (0 : Int))
 (Kret (PV.int IntKind.i64 (6 : Int)) ([[(0, false,
 Blk.cols mp
 [Col.int IntKind.i64 tp, Col.int IntKind.i64 vp, Col.int IntKind.i64 gp,
 Col.int IntKind.i64 wp])]]) (3))
 (test (wp (Int.toNat x0 + ap) != (0 : Int))
 (Kret (PV.int IntKind.i64 (6 : Int)) ([[(0, false,
 Blk.cols mp
 [Col.int IntKind.i64 tp, Col.int IntKind.i64 vp, Col.int IntKind.i64 gp,
 Col.int IntKind.i64 wp])]]) (3))
 (test (decide (vp (Int.toNat x0 + ap) < (0 : Int)))
 (Kret (PV.int IntKind.i64 (6 : Int)) ([[(0, false,
 Blk.cols mp
 [Col.int IntKind.i64 tp, Col.int IntKind.i64 vp, Col.int IntKind.i64 gp,
 Col.int IntKind.i64 wp])]]) (3))
 (test (decide (vp (Int.toNat x0 + ap) > (1000000 : Int)))
 (Kret (PV.int IntKind.i64 (6 : Int)) ([[(0, false,
 Blk.cols mp
 [Col.int IntKind.i64 tp, Col.int IntKind.i64 vp, Col.int IntKind.i64 gp,
 Col.int IntKind.i64 wp])]]) (3))
 (test (decide (gp (Int.toNat x0 + ap) < (0 : Int)))
 (Kret (PV.int IntKind.i64 (6 : Int)) ([[(0, false,
 Blk.cols mp
 [Col.int IntKind.i64 tp, Col.int IntKind.i64 vp, Col.int IntKind.i64 gp,
 Col.int IntKind.i64 wp])]]) (3))
 (test (decide (gp (Int.toNat x0 + ap) > (1000000 : Int)))
 (Kret (PV.int IntKind.i64 (6 : Int)) ([[(0, false,
 Blk.cols mp
 [Col.int IntKind.i64 tp, Col.int IntKind.i64 vp, Col.int IntKind.i64 gp,
 Col.int IntKind.i64 wp])]]) (3))
 (test (decide (wp (Int.toNat x0 + ap) < (0 : Int)))
 (Kret (PV.int IntKind.i64 (6 : Int)) ([[(0, false,
 Blk.cols mp
 [Col.int IntKind.i64 tp, Col.int IntKind.i64 vp, Col.int IntKind.i64 gp,
 Col.int IntKind.i64 wp])]]) (3))
 (test (decide (wp (Int.toNat x0 + ap) > Min.min (vp (Int.toNat x0 + ap)) (gp (Int.toNat x0 + ap))))
 (Kret (PV.int IntKind.i64 (6 : Int)) ([[(0, false,
 Blk.cols mp
 [Col.int IntKind.i64 tp, Col.int IntKind.i64 vp, Col.int IntKind.i64 gp,
 Col.int IntKind.i64 wp])]]) (3))
 (test (lim IntKind.i64 (x0 + (1 : Int)))
 (Kst (hd Try.f20 0) ([PV.ptr (PA.mk (1) (0) (0) (0)),
 PV.int IntKind.i64 (x0 + (1 : Int))]) ([[(0, false,
 Blk.cols mp
 [Col.int IntKind.i64 tp, Col.int IntKind.i64 vp, Col.int IntKind.i64 gp,
 Col.int IntKind.i64 wp]),
 (1, true, Blk.cells [PV.loose (PA.mk (0) (4) ap (0)) np])]]) (3))
 (False)))))))))))
 (test (decide (vp (Int.toNat x0 + ap) < (0 : Int)))
 (Kret (PV.int IntKind.i64 (6 : Int)) ([[(0, false,
 Blk.cols mp
 [Col.int IntKind.i64 tp, Col.int IntKind.i64 vp, Col.int IntKind.i64 gp,
 Col.int IntKind.i64 wp])]]) (3))
 (test (decide (vp (Int.toNat x0 + ap) > (1000000 : Int)))
 (Kret (PV.int IntKind.i64 (6 : Int)) ([[(0, false,
 Blk.cols mp
 [Col.int IntKind.i64 tp, Col.int IntKind.i64 vp, Col.int IntKind.i64 gp,
 Col.int IntKind.i64 wp])]]) (3))
 (test (decide (gp (Int.toNat x0 + ap) < (0 : Int)))
 (Kret (PV.int IntKind.i64 (6 : Int)) ([[(0, false,
 Blk.cols mp
 [Col.int IntKind.i64 tp, Col.int IntKind.i64 vp, Col.int IntKind.i64 gp,
 Col.int IntKind.i64 wp])]]) (3))
 (test (decide (gp (Int.toNat x0 + ap) > (1000000 : Int)))
 (Kret (PV.int IntKind.i64 (6 : Int)) ([[(0, false,
 Blk.cols mp
 [Col.int IntKind.i64 tp, Col.int IntKind.i64 vp, Col.int IntKind.i64 gp,
 Col.int IntKind.i64 wp])]]) (3))
 (test (decide (wp (Int.toNat x0 + ap) < (0 : Int)))
 (Kret (PV.int IntKind.i64 (6 : Int)) ([[(0, false,
 Blk.cols mp
 [Col.int IntKind.i64 tp, Col.int IntKind.i64 vp, Col.int IntKind.i64 gp,
 Col.int IntKind.i64 wp])]]) (3))
 (test (decide (wp (Int.toNat x0 + ap) > Min.min (vp (Int.toNat x0 + ap)) (gp (Int.toNat x0 + ap))))
 (Kret (PV.int IntKind.i64 (6 : Int)) ([[(0, false,
 Blk.cols mp
 [Col.int IntKind.i64 tp, Col.int IntKind.i64 vp, Col.int IntKind.i64 gp,
 Col.int IntKind.i64 wp])]]) (3))
 (test (lim IntKind.i64 (x0 + (1 : Int)))
 (Kst (hd Try.f20 0) ([PV.ptr (PA.mk (1) (0) (0) (0)),
 PV.int IntKind.i64 (x0 + (1 : Int))]) ([[(0, false,
 Blk.cols mp
 [Col.int IntKind.i64 tp, Col.int IntKind.i64 vp, Col.int IntKind.i64 gp,
 Col.int IntKind.i64 wp]),
 (1, true, Blk.cells [PV.loose (PA.mk (0) (4) ap (0)) np])]]) (3))
 (False)))))))))))
 (test (x0 == (0 : Int))
 (test (vp (Int.toNat x0 + ap) != (0 : Int))
 (Kret (PV.int IntKind.i64 (6 : Int)) ([[(0, false,
 Blk.cols mp
 [Col.int IntKind.i64 tp, Col.int IntKind.i64 vp, Col.int IntKind.i64 gp,
 Col.int IntKind.i64 wp])]]) (3))
 (test (gp (Int.toNat x0 + ap) != (0 : Int))
 (Kret (PV.int IntKind.i64 (6 : Int)) ([[(0, false,
 Blk.cols mp
 [Col.int IntKind.i64 tp, Col.int IntKind.i64 vp, Col.int IntKind.i64 gp,
 Col.int IntKind.i64 wp])]]) (3))
 (test (wp (Int.toNat x0 + ap) != (0 : Int))
 (Kret (PV.int IntKind.i64 (6 : Int)) ([[(0, false,
 Blk.cols mp
 [Col.int IntKind.i64 tp, Col.int IntKind.i64 vp, Col.int IntKind.i64 gp,
 Col.int IntKind.i64 wp])]]) (3))
 (test (decide (vp (Int.toNat x0 + ap) < (0 : Int)))
 (Kret (PV.int IntKind.i64 (6 : Int)) ([[(0, false,
 Blk.cols mp
 [Col.int IntKind.i64 tp, Col.int IntKind.i64 vp, Col.int IntKind.i64 gp,
 Col.int IntKind.i64 wp])]]) (3))
 (test (decide (vp (Int.toNat x0 + ap) > (1000000 : Int)))
 (Kret (PV.int IntKind.i64 (6 : Int)) ([[(0, false,
 Blk.cols mp
 [Col.int IntKind.i64 tp, Col.int IntKind.i64 vp, Col.int IntKind.i64 gp,
 Col.int IntKind.i64 wp])]]) (3))
 (test (decide (gp (Int.toNat x0 + ap) < (0 : Int)))
 (Kret (PV.int IntKind.i64 (6 : Int)) ([[(0, false,
 Blk.cols mp
 [Col.int IntKind.i64 tp, Col.int IntKind.i64 vp, Col.int IntKind.i64 gp,
 Col.int IntKind.i64 wp])]]) (3))
 (test (decide (gp (Int.toNat x0 + ap) > (1000000 : Int)))
 (Kret (PV.int IntKind.i64 (6 : Int)) ([[(0, false,
 Blk.cols mp
 [Col.int IntKind.i64 tp, Col.int IntKind.i64 vp, Col.int IntKind.i64 gp,
 Col.int IntKind.i64 wp])]]) (3))
 (test (decide (wp (Int.toNat x0 + ap) < (0 : Int)))
 (Kret (PV.int IntKind.i64 (6 : Int)) ([[(0, false,
 Blk.cols mp
 [Col.int IntKind.i64 tp, Col.int IntKind.i64 vp, Col.int IntKind.i64 gp,
 Col.int IntKind.i64 wp])]]) (3))
 (test (decide (wp (Int.toNat x0 + ap) > Min.min (vp (Int.toNat x0 + ap)) (gp (Int.toNat x0 + ap))))
 (Kret (PV.int IntKind.i64 (6 : Int)) ([[(0, false,
 Blk.cols mp
 [Col.int IntKind.i64 tp, Col.int IntKind.i64 vp, Col.int IntKind.i64 gp,
 Col.int IntKind.i64 wp])]]) (3))
 (test (lim IntKind.i64 (x0 + (1 : Int)))
 (Kst (hd Try.f20 0) ([PV.ptr (PA.mk (1) (0) (0) (0)),
 PV.int IntKind.i64 (x0 + (1 : Int))]) ([[(0, false,
 Blk.cols mp
 [Col.int IntKind.i64 tp, Col.int IntKind.i64 vp, Col.int IntKind.i64 gp,
 Col.int IntKind.i64 wp]),
 (1, true, Blk.cells [PV.loose (PA.mk (0) (4) ap (0)) np])]]) (3))
 (False)))))))))))
 (test (decide (vp (Int.toNat x0 + ap) < (0 : Int)))
 (Kret (PV.int IntKind.i64 (6 : Int)) ([[(0, false,
 Blk.cols mp
 [Col.int IntKind.i64 tp, Col.int IntKind.i64 vp, Col.int IntKind.i64 gp,
 Col.int IntKind.i64 wp])]]) (3))
 (test (decide (vp (Int.toNat x0 + ap) > (1000000 : Int)))
 (Kret (PV.int IntKind.i64 (6 : Int)) ([[(0, false,
 Blk.cols mp
 [Col.int IntKind.i64 tp, Col.int IntKind.i64 vp, Col.int IntKind.i64 gp,
 Col.int IntKind.i64 wp])]]) (3))
 (test (decide (gp (Int.toNat x0 + ap) < (0 : Int)))
 (Kret (PV.int IntKind.i64 (6 : Int)) ([[(0, false,
 Blk.cols mp
 [Col.int IntKind.i64 tp, Col.int IntKind.i64 vp, Col.int IntKind.i64 gp,
 Col.int IntKind.i64 wp])]]) (3))
 (test (decide (gp (Int.toNat x0 + ap) > (1000000 : Int)))
 (Kret (PV.int IntKind.i64 (6 : Int)) ([[(0, false,
 Blk.cols mp
 [Col.int IntKind.i64 tp, Col.int IntKind.i64 vp, Col.int IntKind.i64 gp,
 Col.int IntKind.i64 wp])]]) (3))
 (test (decide (wp (Int.toNat x0 + ap) < (0 : Int)))
 (Kret (PV.int IntKind.i64 (6 : Int)) ([[(0, false,
 Blk.cols mp
 [Col.int IntKind.i64 tp, Col.int IntKind.i64 vp, Col.int IntKind.i64 gp,
 Col.int IntKind.i64 wp])]]) (3))
 (test (decide (wp (Int.toNat x0 + ap) > Min.min (vp (Int.toNat x0 + ap)) (gp (Int.toNat x0 + ap))))
 (Kret (PV.int IntKind.i64 (6 : Int)) ([[(0, false,
 Blk.cols mp
 [Col.int IntKind.i64 tp, Col.int IntKind.i64 vp, Col.int IntKind.i64 gp,
 Col.int IntKind.i64 wp])]]) (3))
 (test (lim IntKind.i64 (x0 + (1 : Int)))
 (Kst (hd Try.f20 0) ([PV.ptr (PA.mk (1) (0) (0) (0)),
 PV.int IntKind.i64 (x0 + (1 : Int))]) ([[(0, false,
 Blk.cols mp
 [Col.int IntKind.i64 tp, Col.int IntKind.i64 vp, Col.int IntKind.i64 gp,
 Col.int IntKind.i64 wp]),
 (1, true, Blk.cells [PV.loose (PA.mk (0) (4) ap (0)) np])]]) (3))
 (False)))))))))))
 (test (decide (x0 > (0 : Int)))
 (test (decide (tp (Int.toNat x0 + ap) < (0 : Int)))
 (Kret (PV.int IntKind.i64 (15 : Int)) ([[(0, false,
 Blk.cols mp
 [Col.int IntKind.i64 tp, Col.int IntKind.i64 vp, Col.int IntKind.i64 gp,
 Col.int IntKind.i64 wp])]]) (3))
 (test (decide (tp (Int.toNat x0 + ap) ≥ x0))
 (Kret (PV.int IntKind.i64 (15 : Int)) ([[(0, false,
 Blk.cols mp
 [Col.int IntKind.i64 tp, Col.int IntKind.i64 vp, Col.int IntKind.i64 gp,
 Col.int IntKind.i64 wp])]]) (3))
 (test (x0 == (0 : Int))
 (test (vp (Int.toNat x0 + ap) != (0 : Int))
 (Kret (PV.int IntKind.i64 (6 : Int)) ([[(0, false,
 Blk.cols mp
 [Col.int IntKind.i64 tp, Col.int IntKind.i64 vp, Col.int IntKind.i64 gp,
 Col.int IntKind.i64 wp])]]) (3))
 (test (gp (Int.toNat x0 + ap) != (0 : Int))
 (Kret (PV.int IntKind.i64 (6 : Int)) ([[(0, false,
 Blk.cols mp
 [Col.int IntKind.i64 tp, Col.int IntKind.i64 vp, Col.int IntKind.i64 gp,
 Col.int IntKind.i64 wp])]]) (3))
 (test (wp (Int.toNat x0 + ap) != (0 : Int))
 (Kret (PV.int IntKind.i64 (6 : Int)) ([[(0, false,
 Blk.cols mp
 [Col.int IntKind.i64 tp, Col.int IntKind.i64 vp, Col.int IntKind.i64 gp,
 Col.int IntKind.i64 wp])]]) (3))
 (test (decide (vp (Int.toNat x0 + ap) < (0 : Int)))
 (Kret (PV.int IntKind.i64 (6 : Int)) ([[(0, false,
 Blk.cols mp
 [Col.int IntKind.i64 tp, Col.int IntKind.i64 vp, Col.int IntKind.i64 gp,
 Col.int IntKind.i64 wp])]]) (3))
 (test (decide (vp (Int.toNat x0 + ap) > (1000000 : Int)))
 (Kret (PV.int IntKind.i64 (6 : Int)) ([[(0, false,
 Blk.cols mp
 [Col.int IntKind.i64 tp, Col.int IntKind.i64 vp, Col.int IntKind.i64 gp,
 Col.int IntKind.i64 wp])]]) (3))
 (test (decide (gp (Int.toNat x0 + ap) < (0 : Int)))
 (Kret (PV.int IntKind.i64 (6 : Int)) ([[(0, false,
 Blk.cols mp
 [Col.int IntKind.i64 tp, Col.int IntKind.i64 vp, Col.int IntKind.i64 gp,
 Col.int IntKind.i64 wp])]]) (3))
 (test (decide (gp (Int.toNat x0 + ap) > (1000000 : Int)))
 (Kret (PV.int IntKind.i64 (6 : Int)) ([[(0, false,
 Blk.cols mp
 [Col.int IntKind.i64 tp, Col.int IntKind.i64 vp, Col.int IntKind.i64 gp,
 Col.int IntKind.i64 wp])]]) (3))
 (test (decide (wp (Int.toNat x0 + ap) < (0 : Int)))
 (Kret (PV.int IntKind.i64 (6 : Int)) ([[(0, false,
 Blk.cols mp
 [Col.int IntKind.i64 tp, Col.int IntKind.i64 vp, Col.int IntKind.i64 gp,
 Col.int IntKind.i64 wp])]]) (3))
 (test (decide (wp (Int.toNat x0 + ap) > Min.min (vp (Int.toNat x0 + ap)) (gp (Int.toNat x0 + ap))))
 (Kret (PV.int IntKind.i64 (6 : Int)) ([[(0, false,
 Blk.cols mp
 [Col.int IntKind.i64 tp, Col.int IntKind.i64 vp, Col.int IntKind.i64 gp,
 Col.int IntKind.i64 wp])]]) (3))
 (test (lim IntKind.i64 (x0 + (1 : Int)))
 (Kst (hd Try.f20 0) ([PV.ptr (PA.mk (1) (0) (0) (0)),
 PV.int IntKind.i64 (x0 + (1 : Int))]) ([[(0, false,
 Blk.cols mp
 [Col.int IntKind.i64 tp, Col.int IntKind.i64 vp, Col.int IntKind.i64 gp,
 Col.int IntKind.i64 wp]),
 (1, true, Blk.cells [PV.loose (PA.mk (0) (4) ap (0)) np])]]) (3))
 (False)))))))))))
 (test (decide (vp (Int.toNat x0 + ap) < (0 : Int)))
 (Kret (PV.int IntKind.i64 (6 : Int)) ([[(0, false,
 Blk.cols mp
 [Col.int IntKind.i64 tp, Col.int IntKind.i64 vp, Col.int IntKind.i64 gp,
 Col.int IntKind.i64 wp])]]) (3))
 (test (decide (vp (Int.toNat x0 + ap) > (1000000 : Int)))
 (Kret (PV.int IntKind.i64 (6 : Int)) ([[(0, false,
 Blk.cols mp
 [Col.int IntKind.i64 tp, Col.int IntKind.i64 vp, Col.int IntKind.i64 gp,
 Col.int IntKind.i64 wp])]]) (3))
 (test (decide (gp (Int.toNat x0 + ap) < (0 : Int)))
 (Kret (PV.int IntKind.i64 (6 : Int)) ([[(0, false,
 Blk.cols mp
 [Col.int IntKind.i64 tp, Col.int IntKind.i64 vp, Col.int IntKind.i64 gp,
 Col.int IntKind.i64 wp])]]) (3))
 (test (decide (gp (Int.toNat x0 + ap) > (1000000 : Int)))
 (Kret (PV.int IntKind.i64 (6 : Int)) ([[(0, false,
 Blk.cols mp
 [Col.int IntKind.i64 tp, Col.int IntKind.i64 vp, Col.int IntKind.i64 gp,
 Col.int IntKind.i64 wp])]]) (3))
 (test (decide (wp (Int.toNat x0 + ap) < (0 : Int)))
 (Kret (PV.int IntKind.i64 (6 : Int)) ([[(0, false,
 Blk.cols mp
 [Col.int IntKind.i64 tp, Col.int IntKind.i64 vp, Col.int IntKind.i64 gp,
 Col.int IntKind.i64 wp])]]) (3))
 (test (decide (wp (Int.toNat x0 + ap) > Min.min (vp (Int.toNat x0 + ap)) (gp (Int.toNat x0 + ap))))
 (Kret (PV.int IntKind.i64 (6 : Int)) ([[(0, false,
 Blk.cols mp
 [Col.int IntKind.i64 tp, Col.int IntKind.i64 vp, Col.int IntKind.i64 gp,
 Col.int IntKind.i64 wp])]]) (3))
 (test (lim IntKind.i64 (x0 + (1 : Int)))
 (Kst (hd Try.f20 0) ([PV.ptr (PA.mk (1) (0) (0) (0)),
 PV.int IntKind.i64 (x0 + (1 : Int))]) ([[(0, false,
 Blk.cols mp
 [Col.int IntKind.i64 tp, Col.int IntKind.i64 vp, Col.int IntKind.i64 gp,
 Col.int IntKind.i64 wp]),
 (1, true, Blk.cells [PV.loose (PA.mk (0) (4) ap (0)) np])]]) (3))
 (False)))))))))))
 (test (x0 == (0 : Int))
 (test (vp (Int.toNat x0 + ap) != (0 : Int))
 (Kret (PV.int IntKind.i64 (6 : Int)) ([[(0, false,
 Blk.cols mp
 [Col.int IntKind.i64 tp, Col.int IntKind.i64 vp, Col.int IntKind.i64 gp,
 Col.int IntKind.i64 wp])]]) (3))
 (test (gp (Int.toNat x0 + ap) != (0 : Int))
 (Kret (PV.int IntKind.i64 (6 : Int)) ([[(0, false,
 Blk.cols mp
 [Col.int IntKind.i64 tp, Col.int IntKind.i64 vp, Col.int IntKind.i64 gp,
 Col.int IntKind.i64 wp])]]) (3))
 (test (wp (Int.toNat x0 + ap) != (0 : Int))
 (Kret (PV.int IntKind.i64 (6 : Int)) ([[(0, false,
 Blk.cols mp
 [Col.int IntKind.i64 tp, Col.int IntKind.i64 vp, Col.int IntKind.i64 gp,
 Col.int IntKind.i64 wp])]]) (3))
 (test (decide (vp (Int.toNat x0 + ap) < (0 : Int)))
 (Kret (PV.int IntKind.i64 (6 : Int)) ([[(0, false,
 Blk.cols mp
 [Col.int IntKind.i64 tp, Col.int IntKind.i64 vp, Col.int IntKind.i64 gp,
 Col.int IntKind.i64 wp])]]) (3))
 (test (decide (vp (Int.toNat x0 + ap) > (1000000 : Int)))
 (Kret (PV.int IntKind.i64 (6 : Int)) ([[(0, false,
 Blk.cols mp
 [Col.int IntKind.i64 tp, Col.int IntKind.i64 vp, Col.int IntKind.i64 gp,
 Col.int IntKind.i64 wp])]]) (3))
 (test (decide (gp (Int.toNat x0 + ap) < (0 : Int)))
 (Kret (PV.int IntKind.i64 (6 : Int)) ([[(0, false,
 Blk.cols mp
 [Col.int IntKind.i64 tp, Col.int IntKind.i64 vp, Col.int IntKind.i64 gp,
 Col.int IntKind.i64 wp])]]) (3))
 (test (decide (gp (Int.toNat x0 + ap) > (1000000 : Int)))
 (Kret (PV.int IntKind.i64 (6 : Int)) ([[(0, false,
 Blk.cols mp
 [Col.int IntKind.i64 tp, Col.int IntKind.i64 vp, Col.int IntKind.i64 gp,
 Col.int IntKind.i64 wp])]]) (3))
 (test (decide (wp (Int.toNat x0 + ap) < (0 : Int)))
 (Kret (PV.int IntKind.i64 (6 : Int)) ([[(0, false,
 Blk.cols mp
 [Col.int IntKind.i64 tp, Col.int IntKind.i64 vp, Col.int IntKind.i64 gp,
 Col.int IntKind.i64 wp])]]) (3))
 (test (decide (wp (Int.toNat x0 + ap) > Min.min (vp (Int.toNat x0 + ap)) (gp (Int.toNat x0 + ap))))
 (Kret (PV.int IntKind.i64 (6 : Int)) ([[(0, false,
 Blk.cols mp
 [Col.int IntKind.i64 tp, Col.int IntKind.i64 vp, Col.int IntKind.i64 gp,
 Col.int IntKind.i64 wp])]]) (3))
 (test (lim IntKind.i64 (x0 + (1 : Int)))
 (Kst (hd Try.f20 0) ([PV.ptr (PA.mk (1) (0) (0) (0)),
 PV.int IntKind.i64 (x0 + (1 : Int))]) ([[(0, false,
 Blk.cols mp
 [Col.int IntKind.i64 tp, Col.int IntKind.i64 vp, Col.int IntKind.i64 gp,
 Col.int IntKind.i64 wp]),
 (1, true, Blk.cells [PV.loose (PA.mk (0) (4) ap (0)) np])]]) (3))
 (False)))))))))))
 (test (decide (vp (Int.toNat x0 + ap) < (0 : Int)))
 (Kret (PV.int IntKind.i64 (6 : Int)) ([[(0, false,
 Blk.cols mp
 [Col.int IntKind.i64 tp, Col.int IntKind.i64 vp, Col.int IntKind.i64 gp,
 Col.int IntKind.i64 wp])]]) (3))
 (test (decide (vp (Int.toNat x0 + ap) > (1000000 : Int)))
 (Kret (PV.int IntKind.i64 (6 : Int)) ([[(0, false,
 Blk.cols mp
 [Col.int IntKind.i64 tp, Col.int IntKind.i64 vp, Col.int IntKind.i64 gp,
 Col.int IntKind.i64 wp])]]) (3))
 (test (decide (gp (Int.toNat x0 + ap) < (0 : Int)))
 (Kret (PV.int IntKind.i64 (6 : Int)) ([[(0, false,
 Blk.cols mp
 [Col.int IntKind.i64 tp, Col.int IntKind.i64 vp, Col.int IntKind.i64 gp,
 Col.int IntKind.i64 wp])]]) (3))
 (test (decide (gp (Int.toNat x0 + ap) > (1000000 : Int)))
 (Kret (PV.int IntKind.i64 (6 : Int)) ([[(0, false,
 Blk.cols mp
 [Col.int IntKind.i64 tp, Col.int IntKind.i64 vp, Col.int IntKind.i64 gp,
 Col.int IntKind.i64 wp])]]) (3))
 (test (decide (wp (Int.toNat x0 + ap) < (0 : Int)))
 (Kret (PV.int IntKind.i64 (6 : Int)) ([[(0, false,
 Blk.cols mp
 [Col.int IntKind.i64 tp, Col.int IntKind.i64 vp, Col.int IntKind.i64 gp,
 Col.int IntKind.i64 wp])]]) (3))
 (test (decide (wp (Int.toNat x0 + ap) > Min.min (vp (Int.toNat x0 + ap)) (gp (Int.toNat x0 + ap))))
 (Kret (PV.int IntKind.i64 (6 : Int)) ([[(0, false,
 Blk.cols mp
 [Col.int IntKind.i64 tp, Col.int IntKind.i64 vp, Col.int IntKind.i64 gp,
 Col.int IntKind.i64 wp])]]) (3))
 (test (lim IntKind.i64 (x0 + (1 : Int)))
 (Kst (hd Try.f20 0) ([PV.ptr (PA.mk (1) (0) (0) (0)),
 PV.int IntKind.i64 (x0 + (1 : Int))]) ([[(0, false,
 Blk.cols mp
 [Col.int IntKind.i64 tp, Col.int IntKind.i64 vp, Col.int IntKind.i64 gp,
 Col.int IntKind.i64 wp]),
 (1, true, Blk.cells [PV.loose (PA.mk (0) (4) ap (0)) np])]]) (3))
 (False)))))))))))
 (False))
 (False))
 (False))
 (False))
 (False))
 (Kret (PV.int IntKind.i64 (0 : Int)) ([[(0, false,
 Blk.cols mp
 [Col.int IntKind.i64 tp, Col.int IntKind.i64 vp, Col.int IntKind.i64 gp,
 Col.int IntKind.i64 wp])]]) (2))
set_option maxRecDepth 100000 in
theorem t20_0 (test : Bool → Prop → Prop → Prop) (Kst : KS) (Kret : KR) (ap np mp : Nat) (tp : Nat → Int) (vp : Nat → Int) (gp : Nat → Int) (wp : Nat → Int) (x0 : Int) : run test Try.env true noX true 400 ⟨20, hd Try.f20 0, zipT [1, 3] [PV.ptr (PA.mk (1) (0) (0) (0)), PV.int IntKind.i64 x0], [[(1, (true, Blk.cells [PV.loose (PA.mk (0) (4) ap (0)) np]))], [(0, (false, .cols mp [.int .i64 tp, .int .i64 vp, .int .i64 gp, .int .i64 wp]))]], 2⟩ (proj 1 [1, 3] Kst Kret) =
  T20_0 test Kst Kret ap np mp tp vp gp wp x0 := by kernel_rfl
set_option maxRecDepth 100000 in
theorem be20 (ap np mp : Nat) (tp : Nat → Int) (vp : Nat → Int) (gp : Nat → Int) (wp : Nat → Int) (Kst : KS) (Kret : KR) (x : St20 ⊕ Rt20) (hS : HS 1 400 ((I20 ap np mp tp vp gp wp)) Kst x) (hR : HR 1 400 ((V20 ap np mp tp vp gp wp)) (fun r => [newL (1 + 1) ((N20 ap np mp tp vp gp wp) r) ++ [(0, (false, .cols mp [.int .i64 tp, .int .i64 vp, .int .i64 gp, .int .i64 wp]))]]) Kret x) (h : (bif ((↑np : Int) == (0 : Int))
 then (some (.inr ((7 : Int))))
 else (bif (decide ((↑np : Int) > (60 : Int)))
 then (some (.inr ((3 : Int))))
 else (some (.inl (.h0 ((0 : Int)))))) : Option (St20 ⊕ Rt20)) = some x) : Te20 cond Kst Kret ap np mp tp vp gp wp := by
  unfold Te20
  exact bif_split h
   (fun c0 h => ret_at hR _ h (fun n => n) rfl rfl rfl (rn_int rfl) rfl (entl_bor (use_lo rfl) rfl rfl entl_nil))
   (fun c0 h => bif_split h
   (fun c1 h => ret_at hR _ h (fun n => n) rfl rfl rfl (rn_int rfl) rfl (entl_bor (use_lo rfl) rfl rfl entl_nil))
   (fun c1 h => stop_at hS _ h (fun n => bif Nat.beq n 1 then 1 else n) rfl rfl rfl ⟨(rn_ptr (use_own rfl) rfl rfl), ⟨(rn_int rfl), trivial⟩⟩ rfl (entl_b (use_own rfl) rfl (by simp) (rb_cells ⟨(rn_loose (use_lo rfl) rfl rfl rfl), trivial⟩) (entl_bor (use_lo rfl) rfl rfl entl_nil))))
set_option maxRecDepth 100000 in
theorem b20_0 (ap np mp : Nat) (tp : Nat → Int) (vp : Nat → Int) (gp : Nat → Int) (wp : Nat → Int) (Kst : KS) (Kret : KR) (x : St20 ⊕ Rt20) (hS : HS 1 400 ((I20 ap np mp tp vp gp wp)) Kst x) (hR : HR 1 400 ((V20 ap np mp tp vp gp wp)) (fun r => [newL (1 + 1) ((N20 ap np mp tp vp gp wp) r) ++ [(0, (false, .cols mp [.int .i64 tp, .int .i64 vp, .int .i64 gp, .int .i64 wp]))]]) Kret x) (x0 : Int) (h : (bif (decide (x0 < (↑np : Int)))
 then (bif (decide ((0 : Int) ≤ x0 ∧ x0 < (↑np : Int)))
 then (bif (decide (Int.toNat x0 + ap < mp))
 then (bif (x0 == (0 : Int))
 then (bif (tp (Int.toNat x0 + ap) != (-1 : Int))
 then (some (.inr ((15 : Int))))
 else (bif (decide (x0 > (0 : Int)))
 then (bif (decide (tp (Int.toNat x0 + ap) < (0 : Int)))
 then (some (.inr ((15 : Int))))
 else (bif (decide (tp (Int.toNat x0 + ap) ≥ x0))
 then (some (.inr ((15 : Int))))
 else (bif (vp (Int.toNat x0 + ap) != (0 : Int))
 then (some (.inr ((6 : Int))))
 else (bif (gp (Int.toNat x0 + ap) != (0 : Int))
 then (some (.inr ((6 : Int))))
 else (bif (wp (Int.toNat x0 + ap) != (0 : Int))
 then (some (.inr ((6 : Int))))
 else (bif (decide (vp (Int.toNat x0 + ap) < (0 : Int)))
 then (some (.inr ((6 : Int))))
 else (bif (decide (vp (Int.toNat x0 + ap) > (1000000 : Int)))
 then (some (.inr ((6 : Int))))
 else (bif (decide (gp (Int.toNat x0 + ap) < (0 : Int)))
 then (some (.inr ((6 : Int))))
 else (bif (decide (gp (Int.toNat x0 + ap) > (1000000 : Int)))
 then (some (.inr ((6 : Int))))
 else (bif (decide (wp (Int.toNat x0 + ap) < (0 : Int)))
 then (some (.inr ((6 : Int))))
 else (bif (decide (wp (Int.toNat x0 + ap) > Min.min (vp (Int.toNat x0 + ap)) (gp (Int.toNat x0 + ap))))
 then (some (.inr ((6 : Int))))
 else (bif (lim IntKind.i64 (x0 + (1 : Int)))
 then (some (.inl (.h0 (x0 + (1 : Int)))))
 else (none)))))))))))))
 else (bif (vp (Int.toNat x0 + ap) != (0 : Int))
 then (some (.inr ((6 : Int))))
 else (bif (gp (Int.toNat x0 + ap) != (0 : Int))
 then (some (.inr ((6 : Int))))
 else (bif (wp (Int.toNat x0 + ap) != (0 : Int))
 then (some (.inr ((6 : Int))))
 else (bif (decide (vp (Int.toNat x0 + ap) < (0 : Int)))
 then (some (.inr ((6 : Int))))
 else (bif (decide (vp (Int.toNat x0 + ap) > (1000000 : Int)))
 then (some (.inr ((6 : Int))))
 else (bif (decide (gp (Int.toNat x0 + ap) < (0 : Int)))
 then (some (.inr ((6 : Int))))
 else (bif (decide (gp (Int.toNat x0 + ap) > (1000000 : Int)))
 then (some (.inr ((6 : Int))))
 else (bif (decide (wp (Int.toNat x0 + ap) < (0 : Int)))
 then (some (.inr ((6 : Int))))
 else (bif (decide (wp (Int.toNat x0 + ap) > Min.min (vp (Int.toNat x0 + ap)) (gp (Int.toNat x0 + ap))))
 then (some (.inr ((6 : Int))))
 else (bif (lim IntKind.i64 (x0 + (1 : Int)))
 then (some (.inl (.h0 (x0 + (1 : Int)))))
 else (none)))))))))))))
 else (bif (decide (x0 > (0 : Int)))
 then (bif (decide (tp (Int.toNat x0 + ap) < (0 : Int)))
 then (some (.inr ((15 : Int))))
 else (bif (decide (tp (Int.toNat x0 + ap) ≥ x0))
 then (some (.inr ((15 : Int))))
 else (bif (decide (vp (Int.toNat x0 + ap) < (0 : Int)))
 then (some (.inr ((6 : Int))))
 else (bif (decide (vp (Int.toNat x0 + ap) > (1000000 : Int)))
 then (some (.inr ((6 : Int))))
 else (bif (decide (gp (Int.toNat x0 + ap) < (0 : Int)))
 then (some (.inr ((6 : Int))))
 else (bif (decide (gp (Int.toNat x0 + ap) > (1000000 : Int)))
 then (some (.inr ((6 : Int))))
 else (bif (decide (wp (Int.toNat x0 + ap) < (0 : Int)))
 then (some (.inr ((6 : Int))))
 else (bif (decide (wp (Int.toNat x0 + ap) > Min.min (vp (Int.toNat x0 + ap)) (gp (Int.toNat x0 + ap))))
 then (some (.inr ((6 : Int))))
 else (bif (lim IntKind.i64 (x0 + (1 : Int)))
 then (some (.inl (.h0 (x0 + (1 : Int)))))
 else (none))))))))))
 else (bif (decide (vp (Int.toNat x0 + ap) < (0 : Int)))
 then (some (.inr ((6 : Int))))
 else (bif (decide (vp (Int.toNat x0 + ap) > (1000000 : Int)))
 then (some (.inr ((6 : Int))))
 else (bif (decide (gp (Int.toNat x0 + ap) < (0 : Int)))
 then (some (.inr ((6 : Int))))
 else (bif (decide (gp (Int.toNat x0 + ap) > (1000000 : Int)))
 then (some (.inr ((6 : Int))))
 else (bif (decide (wp (Int.toNat x0 + ap) < (0 : Int)))
 then (some (.inr ((6 : Int))))
 else (bif (decide (wp (Int.toNat x0 + ap) > Min.min (vp (Int.toNat x0 + ap)) (gp (Int.toNat x0 + ap))))
 then (some (.inr ((6 : Int))))
 else (bif (lim IntKind.i64 (x0 + (1 : Int)))
 then (some (.inl (.h0 (x0 + (1 : Int)))))
 else (none))))))))))
 else (none))
 else (none))
 else (some (.inr ((0 : Int)))) : Option (St20 ⊕ Rt20)) = some x) : T20_0 cond Kst Kret ap np mp tp vp gp wp x0 := by
  unfold T20_0
  exact bif_split h
   (fun c0 h => bif_split h
   (fun c1 h => bif_split h
   (fun c2 h => cond_yes c2 (cond_yes c2 (cond_yes c2 (bif_split h
   (fun c3 h => bif_split h
   (fun c4 h => ret_at hR _ h (fun n => n) rfl rfl rfl (rn_int rfl) rfl (entl_bor (use_lo rfl) rfl rfl entl_nil))
   (fun c4 h => bif_split h
   (fun c5 h => bif_split h
   (fun c6 h => ret_at hR _ h (fun n => n) rfl rfl rfl (rn_int rfl) rfl (entl_bor (use_lo rfl) rfl rfl entl_nil))
   (fun c6 h => bif_split h
   (fun c7 h => ret_at hR _ h (fun n => n) rfl rfl rfl (rn_int rfl) rfl (entl_bor (use_lo rfl) rfl rfl entl_nil))
   (fun c7 h => cond_yes c3 (bif_split h
   (fun c8 h => ret_at hR _ h (fun n => n) rfl rfl rfl (rn_int rfl) rfl (entl_bor (use_lo rfl) rfl rfl entl_nil))
   (fun c8 h => bif_split h
   (fun c9 h => ret_at hR _ h (fun n => n) rfl rfl rfl (rn_int rfl) rfl (entl_bor (use_lo rfl) rfl rfl entl_nil))
   (fun c9 h => bif_split h
   (fun c10 h => ret_at hR _ h (fun n => n) rfl rfl rfl (rn_int rfl) rfl (entl_bor (use_lo rfl) rfl rfl entl_nil))
   (fun c10 h => bif_split h
   (fun c11 h => ret_at hR _ h (fun n => n) rfl rfl rfl (rn_int rfl) rfl (entl_bor (use_lo rfl) rfl rfl entl_nil))
   (fun c11 h => bif_split h
   (fun c12 h => ret_at hR _ h (fun n => n) rfl rfl rfl (rn_int rfl) rfl (entl_bor (use_lo rfl) rfl rfl entl_nil))
   (fun c12 h => bif_split h
   (fun c13 h => ret_at hR _ h (fun n => n) rfl rfl rfl (rn_int rfl) rfl (entl_bor (use_lo rfl) rfl rfl entl_nil))
   (fun c13 h => bif_split h
   (fun c14 h => ret_at hR _ h (fun n => n) rfl rfl rfl (rn_int rfl) rfl (entl_bor (use_lo rfl) rfl rfl entl_nil))
   (fun c14 h => bif_split h
   (fun c15 h => ret_at hR _ h (fun n => n) rfl rfl rfl (rn_int rfl) rfl (entl_bor (use_lo rfl) rfl rfl entl_nil))
   (fun c15 h => bif_split h
   (fun c16 h => ret_at hR _ h (fun n => n) rfl rfl rfl (rn_int rfl) rfl (entl_bor (use_lo rfl) rfl rfl entl_nil))
   (fun c16 h => bif_split h
   (fun c17 h => stop_at hS _ h (fun n => bif Nat.beq n 1 then 1 else n) rfl rfl rfl ⟨(rn_ptr (use_own rfl) rfl rfl), ⟨(rn_int rfl), trivial⟩⟩ rfl (entl_b (use_own rfl) rfl (by simp) (rb_cells ⟨(rn_loose (use_lo rfl) rfl rfl rfl), trivial⟩) (entl_bor (use_lo rfl) rfl rfl entl_nil)))
   (fun c17 h => no_some h))))))))))))))
   (fun c5 h => cond_yes c3 (bif_split h
   (fun c6 h => ret_at hR _ h (fun n => n) rfl rfl rfl (rn_int rfl) rfl (entl_bor (use_lo rfl) rfl rfl entl_nil))
   (fun c6 h => bif_split h
   (fun c7 h => ret_at hR _ h (fun n => n) rfl rfl rfl (rn_int rfl) rfl (entl_bor (use_lo rfl) rfl rfl entl_nil))
   (fun c7 h => bif_split h
   (fun c8 h => ret_at hR _ h (fun n => n) rfl rfl rfl (rn_int rfl) rfl (entl_bor (use_lo rfl) rfl rfl entl_nil))
   (fun c8 h => bif_split h
   (fun c9 h => ret_at hR _ h (fun n => n) rfl rfl rfl (rn_int rfl) rfl (entl_bor (use_lo rfl) rfl rfl entl_nil))
   (fun c9 h => bif_split h
   (fun c10 h => ret_at hR _ h (fun n => n) rfl rfl rfl (rn_int rfl) rfl (entl_bor (use_lo rfl) rfl rfl entl_nil))
   (fun c10 h => bif_split h
   (fun c11 h => ret_at hR _ h (fun n => n) rfl rfl rfl (rn_int rfl) rfl (entl_bor (use_lo rfl) rfl rfl entl_nil))
   (fun c11 h => bif_split h
   (fun c12 h => ret_at hR _ h (fun n => n) rfl rfl rfl (rn_int rfl) rfl (entl_bor (use_lo rfl) rfl rfl entl_nil))
   (fun c12 h => bif_split h
   (fun c13 h => ret_at hR _ h (fun n => n) rfl rfl rfl (rn_int rfl) rfl (entl_bor (use_lo rfl) rfl rfl entl_nil))
   (fun c13 h => bif_split h
   (fun c14 h => ret_at hR _ h (fun n => n) rfl rfl rfl (rn_int rfl) rfl (entl_bor (use_lo rfl) rfl rfl entl_nil))
   (fun c14 h => bif_split h
   (fun c15 h => stop_at hS _ h (fun n => bif Nat.beq n 1 then 1 else n) rfl rfl rfl ⟨(rn_ptr (use_own rfl) rfl rfl), ⟨(rn_int rfl), trivial⟩⟩ rfl (entl_b (use_own rfl) rfl (by simp) (rb_cells ⟨(rn_loose (use_lo rfl) rfl rfl rfl), trivial⟩) (entl_bor (use_lo rfl) rfl rfl entl_nil)))
   (fun c15 h => no_some h))))))))))))))
   (fun c3 h => bif_split h
   (fun c4 h => bif_split h
   (fun c5 h => ret_at hR _ h (fun n => n) rfl rfl rfl (rn_int rfl) rfl (entl_bor (use_lo rfl) rfl rfl entl_nil))
   (fun c5 h => bif_split h
   (fun c6 h => ret_at hR _ h (fun n => n) rfl rfl rfl (rn_int rfl) rfl (entl_bor (use_lo rfl) rfl rfl entl_nil))
   (fun c6 h => cond_no c3 (bif_split h
   (fun c7 h => ret_at hR _ h (fun n => n) rfl rfl rfl (rn_int rfl) rfl (entl_bor (use_lo rfl) rfl rfl entl_nil))
   (fun c7 h => bif_split h
   (fun c8 h => ret_at hR _ h (fun n => n) rfl rfl rfl (rn_int rfl) rfl (entl_bor (use_lo rfl) rfl rfl entl_nil))
   (fun c8 h => bif_split h
   (fun c9 h => ret_at hR _ h (fun n => n) rfl rfl rfl (rn_int rfl) rfl (entl_bor (use_lo rfl) rfl rfl entl_nil))
   (fun c9 h => bif_split h
   (fun c10 h => ret_at hR _ h (fun n => n) rfl rfl rfl (rn_int rfl) rfl (entl_bor (use_lo rfl) rfl rfl entl_nil))
   (fun c10 h => bif_split h
   (fun c11 h => ret_at hR _ h (fun n => n) rfl rfl rfl (rn_int rfl) rfl (entl_bor (use_lo rfl) rfl rfl entl_nil))
   (fun c11 h => bif_split h
   (fun c12 h => ret_at hR _ h (fun n => n) rfl rfl rfl (rn_int rfl) rfl (entl_bor (use_lo rfl) rfl rfl entl_nil))
   (fun c12 h => bif_split h
   (fun c13 h => stop_at hS _ h (fun n => bif Nat.beq n 1 then 1 else n) rfl rfl rfl ⟨(rn_ptr (use_own rfl) rfl rfl), ⟨(rn_int rfl), trivial⟩⟩ rfl (entl_b (use_own rfl) rfl (by simp) (rb_cells ⟨(rn_loose (use_lo rfl) rfl rfl rfl), trivial⟩) (entl_bor (use_lo rfl) rfl rfl entl_nil)))
   (fun c13 h => no_some h)))))))))))
   (fun c4 h => cond_no c3 (bif_split h
   (fun c5 h => ret_at hR _ h (fun n => n) rfl rfl rfl (rn_int rfl) rfl (entl_bor (use_lo rfl) rfl rfl entl_nil))
   (fun c5 h => bif_split h
   (fun c6 h => ret_at hR _ h (fun n => n) rfl rfl rfl (rn_int rfl) rfl (entl_bor (use_lo rfl) rfl rfl entl_nil))
   (fun c6 h => bif_split h
   (fun c7 h => ret_at hR _ h (fun n => n) rfl rfl rfl (rn_int rfl) rfl (entl_bor (use_lo rfl) rfl rfl entl_nil))
   (fun c7 h => bif_split h
   (fun c8 h => ret_at hR _ h (fun n => n) rfl rfl rfl (rn_int rfl) rfl (entl_bor (use_lo rfl) rfl rfl entl_nil))
   (fun c8 h => bif_split h
   (fun c9 h => ret_at hR _ h (fun n => n) rfl rfl rfl (rn_int rfl) rfl (entl_bor (use_lo rfl) rfl rfl entl_nil))
   (fun c9 h => bif_split h
   (fun c10 h => ret_at hR _ h (fun n => n) rfl rfl rfl (rn_int rfl) rfl (entl_bor (use_lo rfl) rfl rfl entl_nil))
   (fun c10 h => bif_split h
   (fun c11 h => stop_at hS _ h (fun n => bif Nat.beq n 1 then 1 else n) rfl rfl rfl ⟨(rn_ptr (use_own rfl) rfl rfl), ⟨(rn_int rfl), trivial⟩⟩ rfl (entl_b (use_own rfl) rfl (by simp) (rb_cells ⟨(rn_loose (use_lo rfl) rfl rfl rfl), trivial⟩) (entl_bor (use_lo rfl) rfl rfl entl_nil)))
   (fun c11 h => no_some h))))))))))))))
   (fun c2 h => no_some h))
   (fun c1 h => no_some h))
   (fun c0 h => ret_at hR _ h (fun n => n) rfl rfl rfl (rn_int rfl) rfl (entl_bor (use_lo rfl) rfl rfl entl_nil))
theorem a20 (ap np mp : Nat) (tp : Nat → Int) (vp : Nat → Int) (gp : Nat → Int) (wp : Nat → Int) {r : Rt20} (h : Goes ((q20 ap np mp tp vp gp wp)) ((p20 ap np mp tp vp gp wp)) r) : CallR Try.prog 20 [.agg [.loose ⟨0, 4, ap, 0⟩ np]] [[(0, (false, .cols mp [.int .i64 tp, .int .i64 vp, .int .i64 gp, .int .i64 wp]))]] 1 ((V20 ap np mp tp vp gp wp) r) ((fun r => [newL (1 + 1) ((N20 ap np mp tp vp gp wp) r) ++ [(0, (false, .cols mp [.int .i64 tp, .int .i64 vp, .int .i64 gp, .int .i64 wp]))]]) r) 400 ∧ ∃ F, Try.prog.funcs[20]? = some F ∧ F.body.isSome = true ∧ (F.name == "runtime.NumGoroutine") = false := by
  refine dec_calls (f := 20) (lo := 1) (hi := 400) (H := [[(0, (false, .cols mp [.int .i64 tp, .int .i64 vp, .int .i64 gp, .int .i64 wp]))]]) (args := [.agg [.loose ⟨0, 4, ap, 0⟩ np]]) Try.envOk Try.mixed noX_ok ((I20 ap np mp tp vp gp wp)) ((V20 ap np mp tp vp gp wp)) (fun r => [newL (1 + 1) ((N20 ap np mp tp vp gp wp) r) ++ [(0, (false, .cols mp [.int .i64 tp, .int .i64 vp, .int .i64 gp, .int .i64 wp]))]]) (fn := mkFn Try.f20) (ts := [1, 3]) (n := 400) rfl (by decide) (by simp) (names_of rfl) ?_ ?_ ?_ h
  · intro s; cases s <;> exact ⟨hd_ok _ _, by simp [I20], names_of rfl, Nat.le_of_ble_eq_true rfl⟩
  · intro Kst Kret x hS hR h
    exact Holds.eq (te20 cond Kst Kret ap np mp tp vp gp wp) (be20 ap np mp tp vp gp wp Kst Kret x hS hR h)
  · intro Kst Kret x hS hR s h
    cases s with
    | h0 x0 => exact Holds.eq (t20_0 cond Kst Kret ap np mp tp vp gp wp x0) (b20_0 ap np mp tp vp gp wp Kst Kret x hS hR x0 h)
noncomputable def k20 : Con := ⟨20, [.agg [.list [.int .i64, .int .i64, .int .i64, .int .i64]]], fun (x : ((Nat × Nat × Nat × (Nat → Int) × (Nat → Int) × (Nat → Int) × (Nat → Int) × Unit) × Unit) × Unit) => (fun (ap np mp : Nat) (tp : Nat → Int) (vp : Nat → Int) (gp : Nat → Int) (wp : Nat → Int) => decide (ap + np ≤ mp ∧ np ≤ 1000000)) x.1.1.1 x.1.1.2.1 x.1.1.2.2.1 x.1.1.2.2.2.1 x.1.1.2.2.2.2.1 x.1.1.2.2.2.2.2.1 x.1.1.2.2.2.2.2.2.1, fun (x : ((Nat × Nat × Nat × (Nat → Int) × (Nat → Int) × (Nat → Int) × (Nat → Int) × Unit) × Unit) × Unit) => (fun (ap np mp : Nat) (tp : Nat → Int) (vp : Nat → Int) (gp : Nat → Int) (wp : Nat → Int) => (V20 ap np mp tp vp gp wp) (S.treE np (fun q => tp (q + ap)) (fun q => vp (q + ap)) (fun q => gp (q + ap)) (fun q => wp (q + ap)))) x.1.1.1 x.1.1.2.1 x.1.1.2.2.1 x.1.1.2.2.2.1 x.1.1.2.2.2.2.1 x.1.1.2.2.2.2.2.1 x.1.1.2.2.2.2.2.2.1, fun (x : ((Nat × Nat × Nat × (Nat → Int) × (Nat → Int) × (Nat → Int) × (Nat → Int) × Unit) × Unit) × Unit) => (fun (ap np mp : Nat) (tp : Nat → Int) (vp : Nat → Int) (gp : Nat → Int) (wp : Nat → Int) => (N20 ap np mp tp vp gp wp) (S.treE np (fun q => tp (q + ap)) (fun q => vp (q + ap)) (fun q => gp (q + ap)) (fun q => wp (q + ap)))) x.1.1.1 x.1.1.2.1 x.1.1.2.2.1 x.1.1.2.2.2.1 x.1.1.2.2.2.2.1 x.1.1.2.2.2.2.2.1 x.1.1.2.2.2.2.2.2.1, fun _ _ => .dead⟩
theorem s20' (ap np mp : Nat) (tp : Nat → Int) (vp : Nat → Int) (gp : Nat → Int) (wp : Nat → Int) (hp : ap + np ≤ mp ∧ np ≤ 1000000) : ∀ k i : Nat, i + k = np → Comes (q20 ap np mp tp vp gp wp) (.h0 (i : Int)) (S.nodE (fun q => tp (q + ap)) (fun q => vp (q + ap)) (fun q => gp (q + ap)) (fun q => wp (q + ap)) i k) := by
  obtain ⟨hp1, hp2⟩ := hp
  intro k
  induction k with
  | zero =>
    intro i hi
    apply Comes.of
    show Goes _ _ _
    (first | rw [q20] | unfold q20)
    repeat' first
      | with_reducible refine goes_if (fun h => ?_) (fun h => ?_) <;> (try simp only [lim64, decide_eq_true_eq, decide_eq_false_iff_not, Int.toNat_natCast, toNat_pred, toNat_succ, Option.getD_some, Option.getD_none, Bool.not_eq_true', Bool.not_eq_false', Bool.and_eq_true, Bool.or_eq_true, Bool.and_eq_false_iff, Bool.or_eq_false_iff, bne_iff_ne, beq_iff_eq, bne_eq_false_iff_eq, beq_eq_false_iff_ne, ne_eq, not_and, Int.not_le, Int.not_lt, ge_iff_le, gt_iff_lt, Nat.not_lt, Nat.not_le, Bool.not_eq_true, Bool.not_eq_false, Bool.true_eq_false, Bool.false_eq_true, not_false_eq_true, not_true_eq_false] at h)
      | exact goes_none.mpr (by omega)
    all_goals first | (exfalso; omega) | exact goes_inr.mpr rfl
  | succ k ih =>
    intro i hi
    have ih := ih (i + 1) (by omega)
    have e : S.nodE (fun q => tp (q + ap)) (fun q => vp (q + ap)) (fun q => gp (q + ap)) (fun q => wp (q + ap)) i (k + 1) = if S.okO i (tp (i + ap)) = true then (if S.okB i (vp (i + ap)) (gp (i + ap)) (wp (i + ap)) = true then S.nodE (fun q => tp (q + ap)) (fun q => vp (q + ap)) (fun q => gp (q + ap)) (fun q => wp (q + ap)) (i + 1) k else 6) else 15 := rfl
    rw [e]
    simp only [S.okO, S.okB, decide_eq_true_eq]
    apply Comes.of
    show Goes _ _ _
    (first | rw [q20] | unfold q20)
    repeat' first
      | with_reducible refine goes_if (fun h => ?_) (fun h => ?_) <;> (try simp only [lim64, decide_eq_true_eq, decide_eq_false_iff_not, Int.toNat_natCast, toNat_pred, toNat_succ, Option.getD_some, Option.getD_none, Bool.not_eq_true', Bool.not_eq_false', Bool.and_eq_true, Bool.or_eq_true, Bool.and_eq_false_iff, Bool.or_eq_false_iff, bne_iff_ne, beq_iff_eq, bne_eq_false_iff_eq, beq_eq_false_iff_ne, ne_eq, not_and, Int.not_le, Int.not_lt, ge_iff_le, gt_iff_lt, Nat.not_lt, Nat.not_le, Bool.not_eq_true, Bool.not_eq_false, Bool.true_eq_false, Bool.false_eq_true, not_false_eq_true, not_true_eq_false] at h)
      | exact goes_none.mpr (by omega)
    all_goals first
      | (exfalso; omega)
      | (rw [if_pos (by omega), if_pos (by omega)]; exact ih)
      | (rw [if_pos (by omega), if_neg (by omega)]; exact goes_inr.mpr rfl)
      | (rw [if_neg (by omega)]; exact goes_inr.mpr rfl)
theorem s20 (ap np mp : Nat) (tp : Nat → Int) (vp : Nat → Int) (gp : Nat → Int) (wp : Nat → Int) (hp : ap + np ≤ mp ∧ np ≤ 1000000) : Goes ((q20 ap np mp tp vp gp wp)) ((p20 ap np mp tp vp gp wp)) (S.treE np (fun q => tp (q + ap)) (fun q => vp (q + ap)) (fun q => gp (q + ap)) (fun q => wp (q + ap))) := by
  have hm := s20' ap np mp tp vp gp wp hp np 0 (by omega)
  unfold S.treE
  by_cases h1 : np = 0
  · rw [if_pos h1]
    show Goes _ _ _
    unfold p20
    repeat' first
      | with_reducible refine goes_if (fun h => ?_) (fun h => ?_) <;> (try simp only [lim64, decide_eq_true_eq, decide_eq_false_iff_not, Int.toNat_natCast, toNat_pred, toNat_succ, Option.getD_some, Option.getD_none, Bool.not_eq_true', Bool.not_eq_false', Bool.and_eq_true, Bool.or_eq_true, Bool.and_eq_false_iff, Bool.or_eq_false_iff, bne_iff_ne, beq_iff_eq, bne_eq_false_iff_eq, beq_eq_false_iff_ne, ne_eq, not_and, Int.not_le, Int.not_lt, ge_iff_le, gt_iff_lt, Nat.not_lt, Nat.not_le, Bool.not_eq_true, Bool.not_eq_false, Bool.true_eq_false, Bool.false_eq_true, not_false_eq_true, not_true_eq_false] at h)
      | exact goes_none.mpr (by omega)
    all_goals first | (exfalso; omega) | exact goes_inr.mpr rfl
  · rw [if_neg h1]
    by_cases h2 : 60 < np
    · rw [if_pos h2]
      show Goes _ _ _
      unfold p20
      repeat' first
        | with_reducible refine goes_if (fun h => ?_) (fun h => ?_) <;> (try simp only [lim64, decide_eq_true_eq, decide_eq_false_iff_not, Int.toNat_natCast, toNat_pred, toNat_succ, Option.getD_some, Option.getD_none, Bool.not_eq_true', Bool.not_eq_false', Bool.and_eq_true, Bool.or_eq_true, Bool.and_eq_false_iff, Bool.or_eq_false_iff, bne_iff_ne, beq_iff_eq, bne_eq_false_iff_eq, beq_eq_false_iff_ne, ne_eq, not_and, Int.not_le, Int.not_lt, ge_iff_le, gt_iff_lt, Nat.not_lt, Nat.not_le, Bool.not_eq_true, Bool.not_eq_false, Bool.true_eq_false, Bool.false_eq_true, not_false_eq_true, not_true_eq_false] at h)
        | exact goes_none.mpr (by omega)
      all_goals first | (exfalso; omega) | exact goes_inr.mpr rfl
    · rw [if_neg h2]
      show Goes _ _ _
      unfold p20
      repeat' first
        | with_reducible refine goes_if (fun h => ?_) (fun h => ?_) <;> (try simp only [lim64, decide_eq_true_eq, decide_eq_false_iff_not, Int.toNat_natCast, toNat_pred, toNat_succ, Option.getD_some, Option.getD_none, Bool.not_eq_true', Bool.not_eq_false', Bool.and_eq_true, Bool.or_eq_true, Bool.and_eq_false_iff, Bool.or_eq_false_iff, bne_iff_ne, beq_iff_eq, bne_eq_false_iff_eq, beq_eq_false_iff_ne, ne_eq, not_and, Int.not_le, Int.not_lt, ge_iff_le, gt_iff_lt, Nat.not_lt, Nat.not_le, Bool.not_eq_true, Bool.not_eq_false, Bool.true_eq_false, Bool.false_eq_true, not_false_eq_true, not_true_eq_false] at h)
        | exact goes_none.mpr (by omega)
      all_goals first | (exfalso; omega) | exact hm

theorem k20_ok : k20.ok Try.prog := by
  intro x hx
  obtain ⟨⟨⟨ap, np, mp, tp, vp, gp, wp, _⟩, _⟩, _⟩ := x
  obtain ⟨h1, h2⟩ := a20 ap np mp tp vp gp wp (s20 ap np mp tp vp gp wp (of_dec hx rfl))
  exact ⟨⟨400, (by decide : 1 + 1 + 0 ≤ 400), h1⟩, h2⟩

end Go.Ev
