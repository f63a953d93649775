/-
  The law of Number.
-/
import Derived.Test.YtjkdcbkgfjdoeaaN4x
namespace Go.Ev
open Go.Proofs
set_option linter.unusedVariables false
set_option linter.unusedSimpArgs false
set_option maxRecDepth 100000

theorem sta_len {n co : Int} : (S.staS n co).2.2.2.length ≤ 8 := by
  unfold S.staS
  split
  · split
    · show (S.mkl _ _).length ≤ 8
      rw [mkl_len]; omega
    · exact Nat.zero_le _
  · exact Nat.zero_le _
theorem same_refl {c : Int} {e : Bool} {L : List (Int × Int × Int)} : S.sameB c e c e L L = true := decide_eq_true ⟨rfl, rfl, rfl⟩
abbrev St6 := Empty
abbrev Rt6 := Bool
noncomputable def V6 (ph : Int) (ev : Bool) (ap np mp : Nat) (tp : Nat → Int) (vp : Nat → Int) (gp : Nat → Int) (nn : Int) (co : Int) (r : Rt6) : PV := PV.bool r
noncomputable def N6 (ph : Int) (ev : Bool) (ap np mp : Nat) (tp : Nat → Int) (vp : Nat → Int) (gp : Nat → Int) (nn : Int) (co : Int) (r : Rt6) : List Blk := []
noncomputable def I6 (ph : Int) (ev : Bool) (ap np mp : Nat) (tp : Nat → Int) (vp : Nat → Int) (gp : Nat → Int) (nn : Int) (co : Int) : St6 → Hd := fun s => s.elim
noncomputable def q6 (ph : Int) (ev : Bool) (ap np mp : Nat) (tp : Nat → Int) (vp : Nat → Int) (gp : Nat → Int) (nn : Int) (co : Int) : St6 → Option (St6 ⊕ Rt6) := fun s => s.elim
noncomputable def p6 (ph : Int) (ev : Bool) (ap np mp : Nat) (tp : Nat → Int) (vp : Nat → Int) (gp : Nat → Int) (nn : Int) (co : Int) : Option (St6 ⊕ Rt6) := bif (decide ((↑np : Int) > (12 : Int)))
 then (some (.inr (true)))
 else (bif (decide (ap + np ≤ mp ∧ np ≤ 1000000))
 then (bif (decide (0 + np ≤ np ∧ np ≤ 1000000))
 then (bif (decide (co ≤ (9223372036854775807 : Int)))
 then (bif (Prod.fst
 (S.numS ph ev np (fun (q : Nat) => tp (q + ap)) (fun (q : Nat) => vp (q + ap)) fun (q : Nat) =>
 gp (q + ap)) !=
 Prod.fst
 (S.numS ph ev np (fun (q : Nat) => tp (q + ap)) (fun (q : Nat) => vp (q + ap)) fun (q : Nat) => gp (q + ap)))
 then (some (.inr (false)))
 else (bif (Prod.snd
 (S.numS ph ev np (fun (q : Nat) => tp (q + ap)) (fun (q : Nat) => vp (q + ap)) fun (q : Nat) =>
 gp (q + ap)) !=
 Prod.snd
 (S.numS ph ev np (fun (q : Nat) => tp (q + ap)) (fun (q : Nat) => vp (q + ap)) fun (q : Nat) => gp (q + ap)))
 then (some (.inr (false)))
 else (bif ((S.staS nn co).2.2.1 != (S.staS nn co).2.2.1)
 then (some (.inr (false)))
 else (bif (decide
 (0 + List.length ((S.staS nn co).2.2.2) ≤
 List.length ((S.staS nn co).2.2.2) ∧
 List.length ((S.staS nn co).2.2.2) ≤ 1000000 ∧
 0 + List.length ((S.staS nn co).2.2.2) ≤
 List.length ((S.staS nn co).2.2.2) ∧
 List.length ((S.staS nn co).2.2.2) ≤ 1000000))
 then (bif (S.sameB ((S.staS nn co).1) ((S.staS nn co).2.1) ((S.staS nn co).1)
 ((S.staS nn co).2.1)
 (S.mkl (List.length ((S.staS nn co).2.2.2)) fun (j : Nat) =>
 ((S.at' ((S.staS nn co).2.2.2) j).1,
 (S.at' ((S.staS nn co).2.2.2) j).2.1,
 (S.at' ((S.staS nn co).2.2.2) j).2.2))
 (S.mkl (List.length ((S.staS nn co).2.2.2)) fun (j : Nat) =>
 ((S.at' ((S.staS nn co).2.2.2) j).1,
 (S.at' ((S.staS nn co).2.2.2) j).2.1,
 (S.at' ((S.staS nn co).2.2.2) j).2.2)))
 then (bif (Prod.snd
 (S.numS ph ev np (fun (q : Nat) => tp (q + ap)) (fun (q : Nat) => vp (q + ap)) fun (q : Nat) =>
 gp (q + ap)) ==
 (0 : Int))
 then (bif (decide
 (Prod.fst
 (S.numS ph ev np (fun (q : Nat) => tp (q + ap)) (fun (q : Nat) => vp (q + ap)) fun (q : Nat) =>
 gp (q + ap)) ≤
 (9223372036854775807 : Int)))
 then (bif (Prod.fst
 (Prod.snd
 (Prod.snd
 (S.staS (↑np : Int)
 (Prod.fst
 (S.numS ph ev np (fun (q : Nat) => tp (q + ap)) (fun (q : Nat) => vp (q + ap)) fun (q : Nat) =>
 gp (q + ap)))))) !=
 (0 : Int))
 then (some (.inr (false)))
 else (bif (decide
 (0 +
 List.length
 (Prod.snd
 (Prod.snd
 (Prod.snd
 (S.staS (↑np : Int)
 (Prod.fst
 (S.numS ph ev np (fun (q : Nat) => tp (q + ap)) (fun (q : Nat) => vp (q + ap))
 fun (q : Nat) => gp (q + ap))))))) ≤
 List.length
 (Prod.snd
 (Prod.snd
 (Prod.snd
 (S.staS (↑np : Int)
 (Prod.fst
 (S.numS ph ev np (fun (q : Nat) => tp (q + ap)) (fun (q : Nat) => vp (q + ap)) fun (q : Nat) =>
 gp (q + ap))))))) ∧
 List.length
 (Prod.snd
 (Prod.snd
 (Prod.snd
 (S.staS (↑np : Int)
 (Prod.fst
 (S.numS ph ev np (fun (q : Nat) => tp (q + ap)) (fun (q : Nat) => vp (q + ap))
 fun (q : Nat) => gp (q + ap))))))) ≤
 1000000 ∧
 ap + np ≤ mp ∧ np ≤ 1000000))
 then (bif (S.sameB
 (Prod.fst
 (S.staS (↑np : Int)
 (Prod.fst
 (S.numS ph ev np (fun (q : Nat) => tp (q + ap)) (fun (q : Nat) => vp (q + ap)) fun (q : Nat) =>
 gp (q + ap)))))
 (Prod.fst
 (Prod.snd
 (S.staS (↑np : Int)
 (Prod.fst
 (S.numS ph ev np (fun (q : Nat) => tp (q + ap)) (fun (q : Nat) => vp (q + ap)) fun (q : Nat) =>
 gp (q + ap))))))
 ph ev
 (S.mkl
 (List.length
 (Prod.snd
 (Prod.snd
 (Prod.snd
 (S.staS (↑np : Int)
 (Prod.fst
 (S.numS ph ev np (fun (q : Nat) => tp (q + ap)) (fun (q : Nat) => vp (q + ap)) fun (q : Nat) =>
 gp (q + ap))))))))
 fun (j : Nat) =>
 (Prod.fst
 (S.at'
 (Prod.snd
 (Prod.snd
 (Prod.snd
 (S.staS (↑np : Int)
 (Prod.fst
 (S.numS ph ev np (fun (q : Nat) => tp (q + ap)) (fun (q : Nat) => vp (q + ap))
 fun (q : Nat) => gp (q + ap)))))))
 j),
 Prod.fst
 (Prod.snd
 (S.at'
 (Prod.snd
 (Prod.snd
 (Prod.snd
 (S.staS (↑np : Int)
 (Prod.fst
 (S.numS ph ev np (fun (q : Nat) => tp (q + ap)) (fun (q : Nat) => vp (q + ap))
 fun (q : Nat) => gp (q + ap)))))))
 j)),
 Prod.snd
 (Prod.snd
 (S.at'
 (Prod.snd
 (Prod.snd
 (Prod.snd
 (S.staS (↑np : Int)
 (Prod.fst
 (S.numS ph ev np (fun (q : Nat) => tp (q + ap)) (fun (q : Nat) => vp (q + ap))
 fun (q : Nat) => gp (q + ap)))))))
 j))))
 (S.mkl np fun (j : Nat) => (tp (j + ap), vp (j + ap), gp (j + ap))))
 then (bif ((S.staS nn co).2.2.1 == (0 : Int))
 then (bif (decide
 (0 + List.length ((S.staS nn co).2.2.2) ≤
 List.length ((S.staS nn co).2.2.2) ∧
 List.length ((S.staS nn co).2.2.2) ≤ 1000000))
 then (bif (Prod.snd
 (S.numS ((S.staS nn co).1) ((S.staS nn co).2.1)
 (List.length ((S.staS nn co).2.2.2))
 (fun (q : Nat) => (S.at' ((S.staS nn co).2.2.2) q).1)
 (fun (q : Nat) => (S.at' ((S.staS nn co).2.2.2) q).2.1)
 fun (q : Nat) => (S.at' ((S.staS nn co).2.2.2) q).2.2) ==
 (0 : Int))
 then (bif (Prod.fst
 (S.numS ((S.staS nn co).1) ((S.staS nn co).2.1)
 (List.length ((S.staS nn co).2.2.2))
 (fun (q : Nat) => (S.at' ((S.staS nn co).2.2.2) q).1)
 (fun (q : Nat) => (S.at' ((S.staS nn co).2.2.2) q).2.1)
 fun (q : Nat) => (S.at' ((S.staS nn co).2.2.2) q).2.2) ==
 co)
 then (some (.inr (true)))
 else (some (.inr (false))))
 else (some (.inr (false))))
 else (none))
 else (some (.inr (true))))
 else (some (.inr (false))))
 else (none)))
 else (none))
 else (bif ((S.staS nn co).2.2.1 == (0 : Int))
 then (bif (decide
 (0 + List.length ((S.staS nn co).2.2.2) ≤
 List.length ((S.staS nn co).2.2.2) ∧
 List.length ((S.staS nn co).2.2.2) ≤ 1000000))
 then (bif (Prod.snd
 (S.numS ((S.staS nn co).1) ((S.staS nn co).2.1)
 (List.length ((S.staS nn co).2.2.2))
 (fun (q : Nat) => (S.at' ((S.staS nn co).2.2.2) q).1)
 (fun (q : Nat) => (S.at' ((S.staS nn co).2.2.2) q).2.1)
 fun (q : Nat) => (S.at' ((S.staS nn co).2.2.2) q).2.2) ==
 (0 : Int))
 then (bif (Prod.fst
 (S.numS ((S.staS nn co).1) ((S.staS nn co).2.1)
 (List.length ((S.staS nn co).2.2.2))
 (fun (q : Nat) => (S.at' ((S.staS nn co).2.2.2) q).1)
 (fun (q : Nat) => (S.at' ((S.staS nn co).2.2.2) q).2.1)
 fun (q : Nat) => (S.at' ((S.staS nn co).2.2.2) q).2.2) ==
 co)
 then (some (.inr (true)))
 else (some (.inr (false))))
 else (some (.inr (false))))
 else (none))
 else (some (.inr (true)))))
 else (some (.inr (false))))
 else (none)))))
 else (none))
 else (none))
 else (none))
noncomputable def Te6 (test : Bool → Prop → Prop → Prop) (Kst : KS) (Kret : KR) (ph : Int) (ev : Bool) (ap np mp : Nat) (tp : Nat → Int) (vp : Nat → Int) (gp : Nat → Int) (nn : Int) (co : Int) : Prop :=
  test (true)
 (test (true)
 (test (decide ((↑np : Int) > (12 : Int)))
 (test (true)
 (test (true)
 (Kret (PV.tf true) ([[(0, false,
 Blk.cols mp
 [Col.int IntKind.i64 tp, Col.int IntKind.i64 vp, Col.int IntKind.i64 gp])]]) (4))
 (Kret (PV.tf false) ([[(0, false,
 Blk.cols mp
 [Col.int IntKind.i64 tp, Col.int IntKind.i64 vp, Col.int IntKind.i64 gp])]]) (4)))
 (False))
 (test (decide (ap + np ≤ mp ∧ np ≤ 1000000))
 (test (decide (0 + np ≤ np ∧ np ≤ 1000000))
 (test (decide (ap + np ≤ mp ∧ np ≤ 1000000))
 (test (decide (co ≤ (9223372036854775807 : Int)))
 (test (decide (co ≤ (9223372036854775807 : Int)))
 (test (Prod.fst
 (S.numS ph ev np (fun (q : Nat) => tp (q + ap)) (fun (q : Nat) => vp (q + ap)) fun (q : Nat) =>
 gp (q + ap)) !=
 Prod.fst
 (S.numS ph ev np (fun (q : Nat) => tp (q + ap)) (fun (q : Nat) => vp (q + ap)) fun (q : Nat) => gp (q + ap)))
 (Kret (PV.tf false) ([[(0, false,
 Blk.cols mp
 [Col.int IntKind.i64 tp, Col.int IntKind.i64 vp, Col.int IntKind.i64 gp])]]) (15))
 (test (Prod.snd
 (S.numS ph ev np (fun (q : Nat) => tp (q + ap)) (fun (q : Nat) => vp (q + ap)) fun (q : Nat) =>
 gp (q + ap)) !=
 Prod.snd
 (S.numS ph ev np (fun (q : Nat) => tp (q + ap)) (fun (q : Nat) => vp (q + ap)) fun (q : Nat) => gp (q + ap)))
 (Kret (PV.tf false) ([[(0, false,
 Blk.cols mp
 [Col.int IntKind.i64 tp, Col.int IntKind.i64 vp, Col.int IntKind.i64 gp])]]) (15))
 (test ((S.staS nn co).2.2.1 != (S.staS nn co).2.2.1)
 (Kret (PV.tf false) ([[(0, false,
 Blk.cols mp
 [Col.int IntKind.i64 tp, Col.int IntKind.i64 vp, Col.int IntKind.i64 gp])]]) (15))
 (test (decide
 (0 + List.length ((S.staS nn co).2.2.2) ≤
 List.length ((S.staS nn co).2.2.2) ∧
 List.length ((S.staS nn co).2.2.2) ≤ 1000000 ∧
 0 + List.length ((S.staS nn co).2.2.2) ≤
 List.length ((S.staS nn co).2.2.2) ∧
 List.length ((S.staS nn co).2.2.2) ≤ 1000000))
 (test (S.sameB ((S.staS nn co).1) ((S.staS nn co).2.1) ((S.staS nn co).1)
 ((S.staS nn co).2.1)
 (S.mkl (List.length ((S.staS nn co).2.2.2)) fun (j : Nat) =>
 ((S.at' ((S.staS nn co).2.2.2) j).1,
 (S.at' ((S.staS nn co).2.2.2) j).2.1,
 (S.at' ((S.staS nn co).2.2.2) j).2.2))
 (S.mkl (List.length ((S.staS nn co).2.2.2)) fun (j : Nat) =>
 ((S.at' ((S.staS nn co).2.2.2) j).1,
 (S.at' ((S.staS nn co).2.2.2) j).2.1,
 (S.at' ((S.staS nn co).2.2.2) j).2.2)))
 (test (Prod.snd
 (S.numS ph ev np (fun (q : Nat) => tp (q + ap)) (fun (q : Nat) => vp (q + ap)) fun (q : Nat) =>
 gp (q + ap)) ==
 (0 : Int))
 (test (decide
 (Prod.fst
 (S.numS ph ev np (fun (q : Nat) => tp (q + ap)) (fun (q : Nat) => vp (q + ap)) fun (q : Nat) =>
 gp (q + ap)) ≤
 (9223372036854775807 : Int)))
 (test (Prod.fst
 (Prod.snd
 (Prod.snd
 (S.staS (↑np : Int)
 (Prod.fst
 (S.numS ph ev np (fun (q : Nat) => tp (q + ap)) (fun (q : Nat) => vp (q + ap)) fun (q : Nat) =>
 gp (q + ap)))))) !=
 (0 : Int))
 (Kret (PV.tf false) ([[(0, false,
 Blk.cols mp
 [Col.int IntKind.i64 tp, Col.int IntKind.i64 vp, Col.int IntKind.i64 gp])]]) (19))
 (test (decide
 (0 +
 List.length
 (Prod.snd
 (Prod.snd
 (Prod.snd
 (S.staS (↑np : Int)
 (Prod.fst
 (S.numS ph ev np (fun (q : Nat) => tp (q + ap)) (fun (q : Nat) => vp (q + ap))
 fun (q : Nat) => gp (q + ap))))))) ≤
 List.length
 (Prod.snd
 (Prod.snd
 (Prod.snd
 (S.staS (↑np : Int)
 (Prod.fst
 (S.numS ph ev np (fun (q : Nat) => tp (q + ap)) (fun (q : Nat) => vp (q + ap)) fun (q : Nat) =>
 gp (q + ap))))))) ∧
 List.length
 (Prod.snd
 (Prod.snd
 (Prod.snd
 (S.staS (↑np : Int)
 (Prod.fst
 (S.numS ph ev np (fun (q : Nat) => tp (q + ap)) (fun (q : Nat) => vp (q + ap))
 fun (q : Nat) => gp (q + ap))))))) ≤
 1000000 ∧
 ap + np ≤ mp ∧ np ≤ 1000000))
 (test (S.sameB
 (Prod.fst
 (S.staS (↑np : Int)
 (Prod.fst
 (S.numS ph ev np (fun (q : Nat) => tp (q + ap)) (fun (q : Nat) => vp (q + ap)) fun (q : Nat) =>
 gp (q + ap)))))
 (Prod.fst
 (Prod.snd
 (S.staS (↑np : Int)
 (Prod.fst
 (S.numS ph ev np (fun (q : Nat) => tp (q + ap)) (fun (q : Nat) => vp (q + ap)) fun (q : Nat) =>
 gp (q + ap))))))
 ph ev
 (S.mkl
 (List.length
 (Prod.snd
 (Prod.snd
 (Prod.snd
 (S.staS (↑np : Int)
 (Prod.fst
 (S.numS ph ev np (fun (q : Nat) => tp (q + ap)) (fun (q : Nat) => vp (q + ap)) fun (q : Nat) =>
 gp (q + ap))))))))
 fun (j : Nat) =>
 (Prod.fst
 (S.at'
 (Prod.snd
 (Prod.snd
 (Prod.snd
 (S.staS (↑np : Int)
 (Prod.fst
 (S.numS ph ev np (fun (q : Nat) => tp (q + ap)) (fun (q : Nat) => vp (q + ap))
 fun (q : Nat) => gp (q + ap)))))))
 j),
 Prod.fst
 (Prod.snd
 (S.at'
 (Prod.snd
 (Prod.snd
 (Prod.snd
 (S.staS (↑np : Int)
 (Prod.fst
 (S.numS ph ev np (fun (q : Nat) => tp (q + ap)) (fun (q : Nat) => vp (q + ap))
 fun (q : Nat) => gp (q + ap)))))))
 j)),
 Prod.snd
 (Prod.snd
 (S.at'
 (Prod.snd
 (Prod.snd
 (Prod.snd
 (S.staS (↑np : Int)
 (Prod.fst
 (S.numS ph ev np (fun (q : Nat) => tp (q + ap)) (fun (q : Nat) => vp (q + ap))
 fun (q : Nat) => gp (q + ap)))))))
 j))))
 (S.mkl np fun (j : Nat) => (tp (j + ap), vp (j + ap), gp (j + ap))))
 (test ((S.staS nn co).2.2.1 == (0 : Int))
 (test (decide
 (0 + List.length ((S.staS nn co).2.2.2) ≤
 List.length ((S.staS nn co).2.2.2) ∧
 List.length ((S.staS nn co).2.2.2) ≤ 1000000))
 (test (Prod.snd
 (S.numS ((S.staS nn co).1) ((S.staS nn co).2.1)
 (List.length ((S.staS nn co).2.2.2))
 (fun (q : Nat) => (S.at' ((S.staS nn co).2.2.2) q).1)
 (fun (q : Nat) => (S.at' ((S.staS nn co).2.2.2) q).2.1)
 fun (q : Nat) => (S.at' ((S.staS nn co).2.2.2) q).2.2) ==
 (0 : Int))
 (test (Prod.fst
 (S.numS ((S.staS nn co).1) ((S.staS nn co).2.1)
 (List.length ((S.staS nn co).2.2.2))
 (fun (q : Nat) => (S.at' ((S.staS nn co).2.2.2) q).1)
 (fun (q : Nat) => (S.at' ((S.staS nn co).2.2.2) q).2.1)
 fun (q : Nat) => (S.at' ((S.staS nn co).2.2.2) q).2.2) ==
 co)
 (Kret (PV.tf true) ([[(0, false,
 Blk.cols mp
 [Col.int IntKind.i64 tp, Col.int IntKind.i64 vp, Col.int IntKind.i64 gp])]]) (21))
 (Kret (PV.tf false) ([[(0, false,
 Blk.cols mp
 [Col.int IntKind.i64 tp, Col.int IntKind.i64 vp, Col.int IntKind.i64 gp])]]) (21)))
 (Kret (PV.tf false) ([[(0, false,
 Blk.cols mp
 [Col.int IntKind.i64 tp, Col.int IntKind.i64 vp, Col.int IntKind.i64 gp])]]) (21)))
 (False))
 (Kret (PV.tf true) ([[(0, false,
 Blk.cols mp
 [Col.int IntKind.i64 tp, Col.int IntKind.i64 vp, Col.int IntKind.i64 gp])]]) (20)))
 (Kret (PV.tf false) ([[(0, false,
 Blk.cols mp
 [Col.int IntKind.i64 tp, Col.int IntKind.i64 vp, Col.int IntKind.i64 gp])]]) (20)))
 (False)))
 (False))
 (test ((S.staS nn co).2.2.1 == (0 : Int))
 (test (decide
 (0 + List.length ((S.staS nn co).2.2.2) ≤
 List.length ((S.staS nn co).2.2.2) ∧
 List.length ((S.staS nn co).2.2.2) ≤ 1000000))
 (test (Prod.snd
 (S.numS ((S.staS nn co).1) ((S.staS nn co).2.1)
 (List.length ((S.staS nn co).2.2.2))
 (fun (q : Nat) => (S.at' ((S.staS nn co).2.2.2) q).1)
 (fun (q : Nat) => (S.at' ((S.staS nn co).2.2.2) q).2.1)
 fun (q : Nat) => (S.at' ((S.staS nn co).2.2.2) q).2.2) ==
 (0 : Int))
 (test (Prod.fst
 (S.numS ((S.staS nn co).1) ((S.staS nn co).2.1)
 (List.length ((S.staS nn co).2.2.2))
 (fun (q : Nat) => (S.at' ((S.staS nn co).2.2.2) q).1)
 (fun (q : Nat) => (S.at' ((S.staS nn co).2.2.2) q).2.1)
 fun (q : Nat) => (S.at' ((S.staS nn co).2.2.2) q).2.2) ==
 co)
 (Kret (PV.tf true) ([[(0, false,
 Blk.cols mp
 [Col.int IntKind.i64 tp, Col.int IntKind.i64 vp, Col.int IntKind.i64 gp])]]) (17))
 (Kret (PV.tf false) ([[(0, false,
 Blk.cols mp
 [Col.int IntKind.i64 tp, Col.int IntKind.i64 vp, Col.int IntKind.i64 gp])]]) (17)))
 (Kret (PV.tf false) ([[(0, false,
 Blk.cols mp
 [Col.int IntKind.i64 tp, Col.int IntKind.i64 vp, Col.int IntKind.i64 gp])]]) (17)))
 (False))
 (Kret (PV.tf true) ([[(0, false,
 Blk.cols mp
 [Col.int IntKind.i64 tp, Col.int IntKind.i64 vp, Col.int IntKind.i64 gp])]]) (16))))
 (Kret (PV.tf false) ([[(0, false,
 Blk.cols mp
 [Col.int IntKind.i64 tp, Col.int IntKind.i64 vp, Col.int IntKind.i64 gp])]]) (16)))
 (False)))))
 (False))
 (False))
 (False))
 (False))
 (False)))
 (test (true)
 (test (true)
 (Kret (PV.tf true) ([[(0, false,
 Blk.cols mp
 [Col.int IntKind.i64 tp, Col.int IntKind.i64 vp, Col.int IntKind.i64 gp])]]) (4))
 (Kret (PV.tf false) ([[(0, false,
 Blk.cols mp
 [Col.int IntKind.i64 tp, Col.int IntKind.i64 vp, Col.int IntKind.i64 gp])]]) (4)))
 (False)))
 (False)
set_option maxRecDepth 100000 in
theorem te6 (test : Bool → Prop → Prop → Prop) (Kst : KS) (Kret : KR) (ph : Int) (ev : Bool) (ap np mp : Nat) (tp : Nat → Int) (vp : Nat → Int) (gp : Nat → Int) (nn : Int) (co : Int) : run test Try.env true (xN test) true 400 ⟨6, [.cd (mkFn Try.f6).body], argT 0 [.agg [.int .i64 ph, .bool ev, .loose ⟨0, 3, ap, 0⟩ np], .int .i64 nn, .int .i64 co], [[], [(0, (false, .cols mp [.int .i64 tp, .int .i64 vp, .int .i64 gp]))]], 1⟩ (proj 1 [] Kst Kret) =
  Te6 test Kst Kret ph ev ap np mp tp vp gp nn co := by kernel_rfl
set_option maxRecDepth 100000 in
theorem be6 (ph : Int) (ev : Bool) (ap np mp : Nat) (tp : Nat → Int) (vp : Nat → Int) (gp : Nat → Int) (nn : Int) (co : Int) (Kst : KS) (Kret : KR) (x : St6 ⊕ Rt6) (hS : HS 1 400 ((I6 ph ev ap np mp tp vp gp nn co)) Kst x) (hR : HR 1 400 ((V6 ph ev ap np mp tp vp gp nn co)) (fun r => [newL (1 + 1) ((N6 ph ev ap np mp tp vp gp nn co) r) ++ [(0, (false, .cols mp [.int .i64 tp, .int .i64 vp, .int .i64 gp]))]]) Kret x) (h : (bif (decide ((↑np : Int) > (12 : Int)))
 then (some (.inr (true)))
 else (bif (decide (ap + np ≤ mp ∧ np ≤ 1000000))
 then (bif (decide (0 + np ≤ np ∧ np ≤ 1000000))
 then (bif (decide (co ≤ (9223372036854775807 : Int)))
 then (bif (Prod.fst
 (S.numS ph ev np (fun (q : Nat) => tp (q + ap)) (fun (q : Nat) => vp (q + ap)) fun (q : Nat) =>
 gp (q + ap)) !=
 Prod.fst
 (S.numS ph ev np (fun (q : Nat) => tp (q + ap)) (fun (q : Nat) => vp (q + ap)) fun (q : Nat) => gp (q + ap)))
 then (some (.inr (false)))
 else (bif (Prod.snd
 (S.numS ph ev np (fun (q : Nat) => tp (q + ap)) (fun (q : Nat) => vp (q + ap)) fun (q : Nat) =>
 gp (q + ap)) !=
 Prod.snd
 (S.numS ph ev np (fun (q : Nat) => tp (q + ap)) (fun (q : Nat) => vp (q + ap)) fun (q : Nat) => gp (q + ap)))
 then (some (.inr (false)))
 else (bif ((S.staS nn co).2.2.1 != (S.staS nn co).2.2.1)
 then (some (.inr (false)))
 else (bif (decide
 (0 + List.length ((S.staS nn co).2.2.2) ≤
 List.length ((S.staS nn co).2.2.2) ∧
 List.length ((S.staS nn co).2.2.2) ≤ 1000000 ∧
 0 + List.length ((S.staS nn co).2.2.2) ≤
 List.length ((S.staS nn co).2.2.2) ∧
 List.length ((S.staS nn co).2.2.2) ≤ 1000000))
 then (bif (S.sameB ((S.staS nn co).1) ((S.staS nn co).2.1) ((S.staS nn co).1)
 ((S.staS nn co).2.1)
 (S.mkl (List.length ((S.staS nn co).2.2.2)) fun (j : Nat) =>
 ((S.at' ((S.staS nn co).2.2.2) j).1,
 (S.at' ((S.staS nn co).2.2.2) j).2.1,
 (S.at' ((S.staS nn co).2.2.2) j).2.2))
 (S.mkl (List.length ((S.staS nn co).2.2.2)) fun (j : Nat) =>
 ((S.at' ((S.staS nn co).2.2.2) j).1,
 (S.at' ((S.staS nn co).2.2.2) j).2.1,
 (S.at' ((S.staS nn co).2.2.2) j).2.2)))
 then (bif (Prod.snd
 (S.numS ph ev np (fun (q : Nat) => tp (q + ap)) (fun (q : Nat) => vp (q + ap)) fun (q : Nat) =>
 gp (q + ap)) ==
 (0 : Int))
 then (bif (decide
 (Prod.fst
 (S.numS ph ev np (fun (q : Nat) => tp (q + ap)) (fun (q : Nat) => vp (q + ap)) fun (q : Nat) =>
 gp (q + ap)) ≤
 (9223372036854775807 : Int)))
 then (bif (Prod.fst
 (Prod.snd
 (Prod.snd
 (S.staS (↑np : Int)
 (Prod.fst
 (S.numS ph ev np (fun (q : Nat) => tp (q + ap)) (fun (q : Nat) => vp (q + ap)) fun (q : Nat) =>
 gp (q + ap)))))) !=
 (0 : Int))
 then (some (.inr (false)))
 else (bif (decide
 (0 +
 List.length
 (Prod.snd
 (Prod.snd
 (Prod.snd
 (S.staS (↑np : Int)
 (Prod.fst
 (S.numS ph ev np (fun (q : Nat) => tp (q + ap)) (fun (q : Nat) => vp (q + ap))
 fun (q : Nat) => gp (q + ap))))))) ≤
 List.length
 (Prod.snd
 (Prod.snd
 (Prod.snd
 (S.staS (↑np : Int)
 (Prod.fst
 (S.numS ph ev np (fun (q : Nat) => tp (q + ap)) (fun (q : Nat) => vp (q + ap)) fun (q : Nat) =>
 gp (q + ap))))))) ∧
 List.length
 (Prod.snd
 (Prod.snd
 (Prod.snd
 (S.staS (↑np : Int)
 (Prod.fst
 (S.numS ph ev np (fun (q : Nat) => tp (q + ap)) (fun (q : Nat) => vp (q + ap))
 fun (q : Nat) => gp (q + ap))))))) ≤
 1000000 ∧
 ap + np ≤ mp ∧ np ≤ 1000000))
 then (bif (S.sameB
 (Prod.fst
 (S.staS (↑np : Int)
 (Prod.fst
 (S.numS ph ev np (fun (q : Nat) => tp (q + ap)) (fun (q : Nat) => vp (q + ap)) fun (q : Nat) =>
 gp (q + ap)))))
 (Prod.fst
 (Prod.snd
 (S.staS (↑np : Int)
 (Prod.fst
 (S.numS ph ev np (fun (q : Nat) => tp (q + ap)) (fun (q : Nat) => vp (q + ap)) fun (q : Nat) =>
 gp (q + ap))))))
 ph ev
 (S.mkl
 (List.length
 (Prod.snd
 (Prod.snd
 (Prod.snd
 (S.staS (↑np : Int)
 (Prod.fst
 (S.numS ph ev np (fun (q : Nat) => tp (q + ap)) (fun (q : Nat) => vp (q + ap)) fun (q : Nat) =>
 gp (q + ap))))))))
 fun (j : Nat) =>
 (Prod.fst
 (S.at'
 (Prod.snd
 (Prod.snd
 (Prod.snd
 (S.staS (↑np : Int)
 (Prod.fst
 (S.numS ph ev np (fun (q : Nat) => tp (q + ap)) (fun (q : Nat) => vp (q + ap))
 fun (q : Nat) => gp (q + ap)))))))
 j),
 Prod.fst
 (Prod.snd
 (S.at'
 (Prod.snd
 (Prod.snd
 (Prod.snd
 (S.staS (↑np : Int)
 (Prod.fst
 (S.numS ph ev np (fun (q : Nat) => tp (q + ap)) (fun (q : Nat) => vp (q + ap))
 fun (q : Nat) => gp (q + ap)))))))
 j)),
 Prod.snd
 (Prod.snd
 (S.at'
 (Prod.snd
 (Prod.snd
 (Prod.snd
 (S.staS (↑np : Int)
 (Prod.fst
 (S.numS ph ev np (fun (q : Nat) => tp (q + ap)) (fun (q : Nat) => vp (q + ap))
 fun (q : Nat) => gp (q + ap)))))))
 j))))
 (S.mkl np fun (j : Nat) => (tp (j + ap), vp (j + ap), gp (j + ap))))
 then (bif ((S.staS nn co).2.2.1 == (0 : Int))
 then (bif (decide
 (0 + List.length ((S.staS nn co).2.2.2) ≤
 List.length ((S.staS nn co).2.2.2) ∧
 List.length ((S.staS nn co).2.2.2) ≤ 1000000))
 then (bif (Prod.snd
 (S.numS ((S.staS nn co).1) ((S.staS nn co).2.1)
 (List.length ((S.staS nn co).2.2.2))
 (fun (q : Nat) => (S.at' ((S.staS nn co).2.2.2) q).1)
 (fun (q : Nat) => (S.at' ((S.staS nn co).2.2.2) q).2.1)
 fun (q : Nat) => (S.at' ((S.staS nn co).2.2.2) q).2.2) ==
 (0 : Int))
 then (bif (Prod.fst
 (S.numS ((S.staS nn co).1) ((S.staS nn co).2.1)
 (List.length ((S.staS nn co).2.2.2))
 (fun (q : Nat) => (S.at' ((S.staS nn co).2.2.2) q).1)
 (fun (q : Nat) => (S.at' ((S.staS nn co).2.2.2) q).2.1)
 fun (q : Nat) => (S.at' ((S.staS nn co).2.2.2) q).2.2) ==
 co)
 then (some (.inr (true)))
 else (some (.inr (false))))
 else (some (.inr (false))))
 else (none))
 else (some (.inr (true))))
 else (some (.inr (false))))
 else (none)))
 else (none))
 else (bif ((S.staS nn co).2.2.1 == (0 : Int))
 then (bif (decide
 (0 + List.length ((S.staS nn co).2.2.2) ≤
 List.length ((S.staS nn co).2.2.2) ∧
 List.length ((S.staS nn co).2.2.2) ≤ 1000000))
 then (bif (Prod.snd
 (S.numS ((S.staS nn co).1) ((S.staS nn co).2.1)
 (List.length ((S.staS nn co).2.2.2))
 (fun (q : Nat) => (S.at' ((S.staS nn co).2.2.2) q).1)
 (fun (q : Nat) => (S.at' ((S.staS nn co).2.2.2) q).2.1)
 fun (q : Nat) => (S.at' ((S.staS nn co).2.2.2) q).2.2) ==
 (0 : Int))
 then (bif (Prod.fst
 (S.numS ((S.staS nn co).1) ((S.staS nn co).2.1)
 (List.length ((S.staS nn co).2.2.2))
 (fun (q : Nat) => (S.at' ((S.staS nn co).2.2.2) q).1)
 (fun (q : Nat) => (S.at' ((S.staS nn co).2.2.2) q).2.1)
 fun (q : Nat) => (S.at' ((S.staS nn co).2.2.2) q).2.2) ==
 co)
 then (some (.inr (true)))
 else (some (.inr (false))))
 else (some (.inr (false))))
 else (none))
 else (some (.inr (true)))))
 else (some (.inr (false))))
 else (none)))))
 else (none))
 else (none))
 else (none)) : Option (St6 ⊕ Rt6)) = some x) : Te6 cond Kst Kret ph ev ap np mp tp vp gp nn co := by
  unfold Te6
  exact cond_yes rfl (cond_yes rfl (bif_split h
   (fun c0 h => cond_yes rfl (cond_yes rfl (ret_at hR _ h (fun n => n) rfl rfl rfl (rn_bool_tf rfl) rfl (entl_bor (use_lo rfl) rfl rfl entl_nil))))
   (fun c0 h => bif_split h
   (fun c1 h => bif_split h
   (fun c2 h => cond_yes c1 (bif_split h
   (fun c3 h => cond_yes c3 (bif_split h
   (fun c4 h => ret_at hR _ h (fun n => n) rfl rfl rfl (rn_bool_tf rfl) rfl (entl_bor (use_lo rfl) rfl rfl entl_nil))
   (fun c4 h => bif_split h
   (fun c5 h => ret_at hR _ h (fun n => n) rfl rfl rfl (rn_bool_tf rfl) rfl (entl_bor (use_lo rfl) rfl rfl entl_nil))
   (fun c5 h => bif_split h
   (fun c6 h => ret_at hR _ h (fun n => n) rfl rfl rfl (rn_bool_tf rfl) rfl (entl_bor (use_lo rfl) rfl rfl entl_nil))
   (fun c6 h => bif_split h
   (fun c7 h => bif_split h
   (fun c8 h => bif_split h
   (fun c9 h => bif_split h
   (fun c10 h => bif_split h
   (fun c11 h => ret_at hR _ h (fun n => n) rfl rfl rfl (rn_bool_tf rfl) rfl (entl_bor (use_lo rfl) rfl rfl entl_nil))
   (fun c11 h => bif_split h
   (fun c12 h => bif_split h
   (fun c13 h => bif_split h
   (fun c14 h => bif_split h
   (fun c15 h => bif_split h
   (fun c16 h => bif_split h
   (fun c17 h => ret_at hR _ h (fun n => n) rfl rfl rfl (rn_bool_tf rfl) rfl (entl_bor (use_lo rfl) rfl rfl entl_nil))
   (fun c17 h => ret_at hR _ h (fun n => n) rfl rfl rfl (rn_bool_tf rfl) rfl (entl_bor (use_lo rfl) rfl rfl entl_nil)))
   (fun c16 h => ret_at hR _ h (fun n => n) rfl rfl rfl (rn_bool_tf rfl) rfl (entl_bor (use_lo rfl) rfl rfl entl_nil)))
   (fun c15 h => no_some h))
   (fun c14 h => ret_at hR _ h (fun n => n) rfl rfl rfl (rn_bool_tf rfl) rfl (entl_bor (use_lo rfl) rfl rfl entl_nil)))
   (fun c13 h => ret_at hR _ h (fun n => n) rfl rfl rfl (rn_bool_tf rfl) rfl (entl_bor (use_lo rfl) rfl rfl entl_nil)))
   (fun c12 h => no_some h)))
   (fun c10 h => no_some h))
   (fun c9 h => bif_split h
   (fun c10 h => bif_split h
   (fun c11 h => bif_split h
   (fun c12 h => bif_split h
   (fun c13 h => ret_at hR _ h (fun n => n) rfl rfl rfl (rn_bool_tf rfl) rfl (entl_bor (use_lo rfl) rfl rfl entl_nil))
   (fun c13 h => ret_at hR _ h (fun n => n) rfl rfl rfl (rn_bool_tf rfl) rfl (entl_bor (use_lo rfl) rfl rfl entl_nil)))
   (fun c12 h => ret_at hR _ h (fun n => n) rfl rfl rfl (rn_bool_tf rfl) rfl (entl_bor (use_lo rfl) rfl rfl entl_nil)))
   (fun c11 h => no_some h))
   (fun c10 h => ret_at hR _ h (fun n => n) rfl rfl rfl (rn_bool_tf rfl) rfl (entl_bor (use_lo rfl) rfl rfl entl_nil))))
   (fun c8 h => ret_at hR _ h (fun n => n) rfl rfl rfl (rn_bool_tf rfl) rfl (entl_bor (use_lo rfl) rfl rfl entl_nil)))
   (fun c7 h => no_some h))))))
   (fun c3 h => no_some h)))
   (fun c2 h => no_some h))
   (fun c1 h => no_some h))))
theorem a6 (ph : Int) (ev : Bool) (ap np mp : Nat) (tp : Nat → Int) (vp : Nat → Int) (gp : Nat → Int) (nn : Int) (co : Int) {r : Rt6} (h : Goes ((q6 ph ev ap np mp tp vp gp nn co)) ((p6 ph ev ap np mp tp vp gp nn co)) r) : CallR Try.prog 6 [.agg [.int .i64 ph, .bool ev, .loose ⟨0, 3, ap, 0⟩ np], .int .i64 nn, .int .i64 co] [[(0, (false, .cols mp [.int .i64 tp, .int .i64 vp, .int .i64 gp]))]] 1 ((V6 ph ev ap np mp tp vp gp nn co) r) ((fun r => [newL (1 + 1) ((N6 ph ev ap np mp tp vp gp nn co) r) ++ [(0, (false, .cols mp [.int .i64 tp, .int .i64 vp, .int .i64 gp]))]]) r) 400 ∧ ∃ F, Try.prog.funcs[6]? = some F ∧ F.body.isSome = true ∧ (F.name == "runtime.NumGoroutine") = false := by
  refine dec_calls (f := 6) (lo := 1) (hi := 400) (H := [[(0, (false, .cols mp [.int .i64 tp, .int .i64 vp, .int .i64 gp]))]]) (args := [.agg [.int .i64 ph, .bool ev, .loose ⟨0, 3, ap, 0⟩ np], .int .i64 nn, .int .i64 co]) Try.envOk Try.mixed xN_ok ((I6 ph ev ap np mp tp vp gp nn co)) ((V6 ph ev ap np mp tp vp gp nn co)) (fun r => [newL (1 + 1) ((N6 ph ev ap np mp tp vp gp nn co) r) ++ [(0, (false, .cols mp [.int .i64 tp, .int .i64 vp, .int .i64 gp]))]]) (fn := mkFn Try.f6) (ts := []) (n := 400) rfl (by decide) (by simp) (names_of rfl) ?_ ?_ ?_ h
  · intro s; exact s.elim
  · intro Kst Kret x hS hR h
    exact Holds.eq (te6 cond Kst Kret ph ev ap np mp tp vp gp nn co) (be6 ph ev ap np mp tp vp gp nn co Kst Kret x hS hR h)
  · intro Kst Kret x hS hR s h; exact s.elim
noncomputable def k6 : Con := ⟨6, [.agg [.plain (.int .i64), .plain (.bool), .list [.int .i64, .int .i64, .int .i64]], .one (.plain (.int .i64)), .one (.plain (.int .i64))], fun (x : (Int × Bool × (Nat × Nat × Nat × (Nat → Int) × (Nat → Int) × (Nat → Int) × Unit) × Unit) × Int × Int × Unit) => (fun (ph : Int) (ev : Bool) (ap np mp : Nat) (tp : Nat → Int) (vp : Nat → Int) (gp : Nat → Int) (nn : Int) (co : Int) => decide (ap + np ≤ mp ∧ co ≤ 9223372036854775807)) x.1.1 x.1.2.1 x.1.2.2.1.1 x.1.2.2.1.2.1 x.1.2.2.1.2.2.1 x.1.2.2.1.2.2.2.1 x.1.2.2.1.2.2.2.2.1 x.1.2.2.1.2.2.2.2.2.1 x.2.1 x.2.2.1, fun (x : (Int × Bool × (Nat × Nat × Nat × (Nat → Int) × (Nat → Int) × (Nat → Int) × Unit) × Unit) × Int × Int × Unit) => (fun (ph : Int) (ev : Bool) (ap np mp : Nat) (tp : Nat → Int) (vp : Nat → Int) (gp : Nat → Int) (nn : Int) (co : Int) => (V6 ph ev ap np mp tp vp gp nn co) (true)) x.1.1 x.1.2.1 x.1.2.2.1.1 x.1.2.2.1.2.1 x.1.2.2.1.2.2.1 x.1.2.2.1.2.2.2.1 x.1.2.2.1.2.2.2.2.1 x.1.2.2.1.2.2.2.2.2.1 x.2.1 x.2.2.1, fun (x : (Int × Bool × (Nat × Nat × Nat × (Nat → Int) × (Nat → Int) × (Nat → Int) × Unit) × Unit) × Int × Int × Unit) => (fun (ph : Int) (ev : Bool) (ap np mp : Nat) (tp : Nat → Int) (vp : Nat → Int) (gp : Nat → Int) (nn : Int) (co : Int) => (N6 ph ev ap np mp tp vp gp nn co) (true)) x.1.1 x.1.2.1 x.1.2.2.1.1 x.1.2.2.1.2.1 x.1.2.2.1.2.2.1 x.1.2.2.1.2.2.2.1 x.1.2.2.1.2.2.2.2.1 x.1.2.2.1.2.2.2.2.2.1 x.2.1 x.2.2.1, fun _ _ => .dead⟩
theorem s6 (ph : Int) (ev : Bool) (ap np mp : Nat) (tp : Nat → Int) (vp : Nat → Int) (gp : Nat → Int) (nn : Int) (co : Int) (hp : ap + np ≤ mp ∧ co ≤ 9223372036854775807) : Goes ((q6 ph ev ap np mp tp vp gp nn co)) ((p6 ph ev ap np mp tp vp gp nn co)) (true) := by
  obtain ⟨hp, hco⟩ := hp
  unfold p6
  by_cases hn : np ≤ 12
  · have hl := sta_len (n := nn) (co := co)
    have hns := num_sta (n := nn) (co := co)
    generalize S.staS nn co = X at *
    simp only [same_refl]
    by_cases h0 : S.traE ph ev np (fun q => tp (q + ap)) (fun q => vp (q + ap)) (fun q => gp (q + ap)) = 0
    · have eN : S.numS ph ev np (fun q => tp (q + ap)) (fun q => vp (q + ap)) (fun q => gp (q + ap)) = (S.numV ph np (fun q => tp (q + ap)) (fun q => vp (q + ap)) (fun q => gp (q + ap)), 0) := by unfold S.numS; rw [if_pos h0]
      have hb := num_b h0
      have hv := (tra_ok h0).2.1
      have hvb : 0 ≤ S.numV ph np (fun q => tp (q + ap)) (fun q => vp (q + ap)) (fun q => gp (q + ap)) ∧ S.numV ph np (fun q => tp (q + ap)) (fun q => vp (q + ap)) (fun q => gp (q + ap)) ≤ 9000000000000000000 := by unfold S.numV; omega
      have hst : S.staS np (S.numV ph np (fun q => tp (q + ap)) (fun q => vp (q + ap)) (fun q => gp (q + ap))) = (ph, ev, 0, (S.mkl np fun j => (tp (j + ap), vp (j + ap), gp (j + ap)))) := sta_num h0
      have hLL : (S.mkl np fun j => (tp (j + ap), vp (j + ap), gp (j + ap))).length = np := mkl_len
      have hmk : (S.mkl (S.mkl np fun j => (tp (j + ap), vp (j + ap), gp (j + ap))).length fun j => ((S.at' (S.mkl np fun j => (tp (j + ap), vp (j + ap), gp (j + ap))) j).1, (S.at' (S.mkl np fun j => (tp (j + ap), vp (j + ap), gp (j + ap))) j).2.1, (S.at' (S.mkl np fun j => (tp (j + ap), vp (j + ap), gp (j + ap))) j).2.2)) = (S.mkl np fun j => (tp (j + ap), vp (j + ap), gp (j + ap))) := mkl_at (S.mkl np fun j => (tp (j + ap), vp (j + ap), gp (j + ap)))
      have hs : S.sameB ph ev ph ev (S.mkl (S.mkl np fun j => (tp (j + ap), vp (j + ap), gp (j + ap))).length fun j => ((S.at' (S.mkl np fun j => (tp (j + ap), vp (j + ap), gp (j + ap))) j).1, (S.at' (S.mkl np fun j => (tp (j + ap), vp (j + ap), gp (j + ap))) j).2.1, (S.at' (S.mkl np fun j => (tp (j + ap), vp (j + ap), gp (j + ap))) j).2.2)) (S.mkl np fun j => (tp (j + ap), vp (j + ap), gp (j + ap))) = true := by rw [hmk]; exact same_refl
      simp only [eN, hst, hs]
      generalize (S.mkl np fun j => (tp (j + ap), vp (j + ap), gp (j + ap))) = LL at *
      clear hst eN hmk hs
      generalize S.numV ph np (fun q => tp (q + ap)) (fun q => vp (q + ap)) (fun q => gp (q + ap)) = V at *
      by_cases hg : X.2.2.1 = 0
      · simp only [hns hg]
        repeat' first
          | with_reducible exact goes_inr.mpr rfl
          | with_reducible refine goes_if (fun h => ?_) (fun h => ?_) <;> (try simp only [lim64, decide_eq_true_eq, decide_eq_false_iff_not, Int.toNat_natCast, toNat_pred, toNat_succ, Option.getD_some, Option.getD_none, Bool.not_eq_true', Bool.not_eq_false', Bool.and_eq_true, Bool.or_eq_true, Bool.and_eq_false_iff, Bool.or_eq_false_iff, bne_iff_ne, beq_iff_eq, bne_eq_false_iff_eq, beq_eq_false_iff_ne, ne_eq, not_and, Int.not_le, Int.not_lt, ge_iff_le, gt_iff_lt, Nat.not_lt, Nat.not_le, Bool.not_eq_true, Bool.not_eq_false, Bool.true_eq_false, Bool.false_eq_true, not_false_eq_true, not_true_eq_false] at h)
          | exact goes_none.mpr (by omega)
        all_goals first | (exfalso; omega) | rfl | (exfalso; simp_all; done) | (exfalso; simp at h; done)
      · clear hns
        repeat' first
          | with_reducible exact goes_inr.mpr rfl
          | with_reducible refine goes_if (fun h => ?_) (fun h => ?_) <;> (try simp only [lim64, decide_eq_true_eq, decide_eq_false_iff_not, Int.toNat_natCast, toNat_pred, toNat_succ, Option.getD_some, Option.getD_none, Bool.not_eq_true', Bool.not_eq_false', Bool.and_eq_true, Bool.or_eq_true, Bool.and_eq_false_iff, Bool.or_eq_false_iff, bne_iff_ne, beq_iff_eq, bne_eq_false_iff_eq, beq_eq_false_iff_ne, ne_eq, not_and, Int.not_le, Int.not_lt, ge_iff_le, gt_iff_lt, Nat.not_lt, Nat.not_le, Bool.not_eq_true, Bool.not_eq_false, Bool.true_eq_false, Bool.false_eq_true, not_false_eq_true, not_true_eq_false] at h)
          | exact goes_none.mpr (by omega)
        all_goals first | (exfalso; omega) | rfl | (exfalso; simp_all; done) | (exfalso; simp at h; done)
    · have e2 : (S.numS ph ev np (fun q => tp (q + ap)) (fun q => vp (q + ap)) (fun q => gp (q + ap))).2 ≠ 0 := by unfold S.numS; rw [if_neg h0]; exact h0
      generalize S.numS ph ev np (fun q => tp (q + ap)) (fun q => vp (q + ap)) (fun q => gp (q + ap)) = Y at *
      by_cases hg : X.2.2.1 = 0
      · simp only [hns hg]
        repeat' first
          | with_reducible exact goes_inr.mpr rfl
          | with_reducible refine goes_if (fun h => ?_) (fun h => ?_) <;> (try simp only [lim64, decide_eq_true_eq, decide_eq_false_iff_not, Int.toNat_natCast, toNat_pred, toNat_succ, Option.getD_some, Option.getD_none, Bool.not_eq_true', Bool.not_eq_false', Bool.and_eq_true, Bool.or_eq_true, Bool.and_eq_false_iff, Bool.or_eq_false_iff, bne_iff_ne, beq_iff_eq, bne_eq_false_iff_eq, beq_eq_false_iff_ne, ne_eq, not_and, Int.not_le, Int.not_lt, ge_iff_le, gt_iff_lt, Nat.not_lt, Nat.not_le, Bool.not_eq_true, Bool.not_eq_false, Bool.true_eq_false, Bool.false_eq_true, not_false_eq_true, not_true_eq_false] at h)
          | exact goes_none.mpr (by omega)
        all_goals first | (exfalso; omega) | rfl | (exfalso; simp_all; done) | (exfalso; simp at h; done)
      · clear hns
        repeat' first
          | with_reducible exact goes_inr.mpr rfl
          | with_reducible refine goes_if (fun h => ?_) (fun h => ?_) <;> (try simp only [lim64, decide_eq_true_eq, decide_eq_false_iff_not, Int.toNat_natCast, toNat_pred, toNat_succ, Option.getD_some, Option.getD_none, Bool.not_eq_true', Bool.not_eq_false', Bool.and_eq_true, Bool.or_eq_true, Bool.and_eq_false_iff, Bool.or_eq_false_iff, bne_iff_ne, beq_iff_eq, bne_eq_false_iff_eq, beq_eq_false_iff_ne, ne_eq, not_and, Int.not_le, Int.not_lt, ge_iff_le, gt_iff_lt, Nat.not_lt, Nat.not_le, Bool.not_eq_true, Bool.not_eq_false, Bool.true_eq_false, Bool.false_eq_true, not_false_eq_true, not_true_eq_false] at h)
          | exact goes_none.mpr (by omega)
        all_goals first | (exfalso; omega) | rfl | (exfalso; simp_all; done) | (exfalso; simp at h; done)
  · have hd : decide ((np : Int) > 12) = true := decide_eq_true (by omega)
    rw [hd]
    exact goes_inr.mpr rfl

theorem k6_ok : k6.ok Try.prog := by
  intro x hx
  obtain ⟨⟨ph, ev, ⟨ap, np, mp, tp, vp, gp, _⟩, _⟩, nn, co, _⟩ := x
  obtain ⟨h1, h2⟩ := a6 ph ev ap np mp tp vp gp nn co (s6 ph ev ap np mp tp vp gp nn co (of_dec hx rfl))
  exact ⟨⟨400, (by decide : 1 + 1 + 0 ≤ 400), h1⟩, h2⟩

theorem pre6 {x : SsI k6.ss} (hx : ssFits k6.ss x) : (0 + x.1.2.2.1.1 ≤ x.1.2.2.1.1) ∧ @LE.le Int Int.instLEInt x.2.2.1 (9223372036854775807 : Int) := by
  obtain ⟨⟨p0, e0, ⟨n, t, v, g, u'⟩, u1⟩, c0, c1, u''⟩ := x
  obtain ⟨hx1, h0, h1, -⟩ := hx
  exact ⟨Nat.le_of_eq (Nat.zero_add _), h1.2⟩

end Go.Ev
