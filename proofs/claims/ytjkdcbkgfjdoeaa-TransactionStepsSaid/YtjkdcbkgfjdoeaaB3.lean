/-
  The law of Steps.
-/
import Derived.Test.YtjkdcbkgfjdoeaaB3x
namespace Go.Ev
open Go.Proofs
set_option linter.unusedVariables false
set_option linter.unusedSimpArgs false
set_option maxRecDepth 100000
abbrev St3 := Empty
abbrev Rt3 := Bool
noncomputable def V3 (ph : Int) (ev : Bool) (ap np mp : Nat) (tp : Nat → Int) (vp : Nat → Int) (gp : Nat → Int) (r : Rt3) : PV := PV.bool r
noncomputable def N3 (ph : Int) (ev : Bool) (ap np mp : Nat) (tp : Nat → Int) (vp : Nat → Int) (gp : Nat → Int) (r : Rt3) : List Blk := []
noncomputable def I3 (ph : Int) (ev : Bool) (ap np mp : Nat) (tp : Nat → Int) (vp : Nat → Int) (gp : Nat → Int) : St3 → Hd := fun s => s.elim
noncomputable def q3 (ph : Int) (ev : Bool) (ap np mp : Nat) (tp : Nat → Int) (vp : Nat → Int) (gp : Nat → Int) : St3 → Option (St3 ⊕ Rt3) := fun s => s.elim
noncomputable def p3 (ph : Int) (ev : Bool) (ap np mp : Nat) (tp : Nat → Int) (vp : Nat → Int) (gp : Nat → Int) : Option (St3 ⊕ Rt3) := bif (decide ((↑np : Int) > (12 : Int)))
 then (some (.inr (true)))
 else (bif (decide (ap + np ≤ mp ∧ np ≤ 1000000))
 then (bif (decide (0 + np ≤ np ∧ np ≤ 1000000))
 then (bif ((S.traE ph ev np (fun (q : Nat) => tp (q + ap)) (fun (q : Nat) => vp (q + ap)) fun (q : Nat) => gp (q + ap)) ==
 S.traE ph ev np (fun (q : Nat) => tp (q + ap)) (fun (q : Nat) => vp (q + ap)) fun (q : Nat) => gp (q + ap))
 then (bif (decide
 (0 +
 List.length
 (S.stpS ph ev np (fun (q : Nat) => tp (q + ap)) (fun (q : Nat) => vp (q + ap)) fun (q : Nat) =>
 gp (q + ap)) ≤
 List.length
 (S.stpS ph ev np (fun (q : Nat) => tp (q + ap)) (fun (q : Nat) => vp (q + ap)) fun (q : Nat) =>
 gp (q + ap)) ∧
 List.length
 (S.stpS ph ev np (fun (q : Nat) => tp (q + ap)) (fun (q : Nat) => vp (q + ap)) fun (q : Nat) =>
 gp (q + ap)) ≤
 1000000 ∧
 0 +
 List.length
 (S.stpS ph ev np (fun (q : Nat) => tp (q + ap)) (fun (q : Nat) => vp (q + ap)) fun (q : Nat) =>
 gp (q + ap)) ≤
 List.length
 (S.stpS ph ev np (fun (q : Nat) => tp (q + ap)) (fun (q : Nat) => vp (q + ap)) fun (q : Nat) =>
 gp (q + ap)) ∧
 List.length
 (S.stpS ph ev np (fun (q : Nat) => tp (q + ap)) (fun (q : Nat) => vp (q + ap)) fun (q : Nat) =>
 gp (q + ap)) ≤
 1000000))
 then (bif (decide
 ((S.mkl
 (List.length
 (S.stpS ph ev np (fun (q : Nat) => tp (q + ap)) (fun (q : Nat) => vp (q + ap)) fun (q : Nat) =>
 gp (q + ap)))
 fun (j : Nat) =>
 S.at'
 (S.stpS ph ev np (fun (q : Nat) => tp (q + ap)) (fun (q : Nat) => vp (q + ap)) fun (q : Nat) =>
 gp (q + ap))
 j) =
 S.mkl
 (List.length
 (S.stpS ph ev np (fun (q : Nat) => tp (q + ap)) (fun (q : Nat) => vp (q + ap)) fun (q : Nat) =>
 gp (q + ap)))
 fun (j : Nat) =>
 S.at'
 (S.stpS ph ev np (fun (q : Nat) => tp (q + ap)) (fun (q : Nat) => vp (q + ap)) fun (q : Nat) =>
 gp (q + ap))
 j))
 then (bif (S.badB ph ev np (fun (q : Nat) => tp (q + ap)) (fun (q : Nat) => vp (q + ap)) fun (q : Nat) => gp (q + ap))
 then (some (.inr (true)))
 else (some (.inr (true))))
 else (some (.inr (false))))
 else (none))
 else (some (.inr (false))))
 else (none))
 else (none))
noncomputable def Te3 (test : Bool → Prop → Prop → Prop) (Kst : KS) (Kret : KR) (ph : Int) (ev : Bool) (ap np mp : Nat) (tp : Nat → Int) (vp : Nat → Int) (gp : Nat → Int) : Prop :=
  test (true)
 (test (true)
 (test (decide ((↑np : Int) > (12 : Int)))
 (test (true)
 (test (true)
 (Kret (PV.tf true) ([[(0, false,
 Blk.cols mp
 [Col.int IntKind.i64 tp, Col.int IntKind.i64 vp, Col.int IntKind.i64 gp])]]) (4))
 (Kret (PV.tf false) ([[(0, false,
 Blk.cols mp
 [Col.int IntKind.i64 tp, Col.int IntKind.i64 vp, Col.int IntKind.i64 gp])]]) (4)))
 (False))
 (test (decide (ap + np ≤ mp ∧ np ≤ 1000000))
 (test (decide (0 + np ≤ np ∧ np ≤ 1000000))
 (test (decide (ap + np ≤ mp ∧ np ≤ 1000000))
 (test ((S.traE ph ev np (fun (q : Nat) => tp (q + ap)) (fun (q : Nat) => vp (q + ap)) fun (q : Nat) => gp (q + ap)) ==
 S.traE ph ev np (fun (q : Nat) => tp (q + ap)) (fun (q : Nat) => vp (q + ap)) fun (q : Nat) => gp (q + ap))
 (test (decide (ap + np ≤ mp ∧ np ≤ 1000000))
 (test (decide (0 + np ≤ np ∧ np ≤ 1000000))
 (test (decide (ap + np ≤ mp ∧ np ≤ 1000000))
 (test (decide
 (0 +
 List.length
 (S.stpS ph ev np (fun (q : Nat) => tp (q + ap)) (fun (q : Nat) => vp (q + ap)) fun (q : Nat) =>
 gp (q + ap)) ≤
 List.length
 (S.stpS ph ev np (fun (q : Nat) => tp (q + ap)) (fun (q : Nat) => vp (q + ap)) fun (q : Nat) =>
 gp (q + ap)) ∧
 List.length
 (S.stpS ph ev np (fun (q : Nat) => tp (q + ap)) (fun (q : Nat) => vp (q + ap)) fun (q : Nat) =>
 gp (q + ap)) ≤
 1000000 ∧
 0 +
 List.length
 (S.stpS ph ev np (fun (q : Nat) => tp (q + ap)) (fun (q : Nat) => vp (q + ap)) fun (q : Nat) =>
 gp (q + ap)) ≤
 List.length
 (S.stpS ph ev np (fun (q : Nat) => tp (q + ap)) (fun (q : Nat) => vp (q + ap)) fun (q : Nat) =>
 gp (q + ap)) ∧
 List.length
 (S.stpS ph ev np (fun (q : Nat) => tp (q + ap)) (fun (q : Nat) => vp (q + ap)) fun (q : Nat) =>
 gp (q + ap)) ≤
 1000000))
 (test (decide
 ((S.mkl
 (List.length
 (S.stpS ph ev np (fun (q : Nat) => tp (q + ap)) (fun (q : Nat) => vp (q + ap)) fun (q : Nat) =>
 gp (q + ap)))
 fun (j : Nat) =>
 S.at'
 (S.stpS ph ev np (fun (q : Nat) => tp (q + ap)) (fun (q : Nat) => vp (q + ap)) fun (q : Nat) =>
 gp (q + ap))
 j) =
 S.mkl
 (List.length
 (S.stpS ph ev np (fun (q : Nat) => tp (q + ap)) (fun (q : Nat) => vp (q + ap)) fun (q : Nat) =>
 gp (q + ap)))
 fun (j : Nat) =>
 S.at'
 (S.stpS ph ev np (fun (q : Nat) => tp (q + ap)) (fun (q : Nat) => vp (q + ap)) fun (q : Nat) =>
 gp (q + ap))
 j))
 (test (decide (ap + np ≤ mp ∧ np ≤ 1000000))
 (test (decide (0 + np ≤ np ∧ np ≤ 1000000))
 (test (S.badB ph ev np (fun (q : Nat) => tp (q + ap)) (fun (q : Nat) => vp (q + ap)) fun (q : Nat) => gp (q + ap))
 (test (decide (ap + np ≤ mp ∧ np ≤ 1000000))
 (test (S.badB ph ev np (fun (q : Nat) => tp (q + ap)) (fun (q : Nat) => vp (q + ap)) fun (q : Nat) => gp (q + ap))
 (Kret (PV.tf true) ([[(0, false,
 Blk.cols mp
 [Col.int IntKind.i64 tp, Col.int IntKind.i64 vp, Col.int IntKind.i64 gp])]]) (24))
 (Kret (PV.tf false) ([[(0, false,
 Blk.cols mp
 [Col.int IntKind.i64 tp, Col.int IntKind.i64 vp, Col.int IntKind.i64 gp])]]) (24)))
 (False))
 (test (decide (ap + np ≤ mp ∧ np ≤ 1000000))
 (test (S.badB ph ev np (fun (q : Nat) => tp (q + ap)) (fun (q : Nat) => vp (q + ap)) fun (q : Nat) => gp (q + ap))
 (Kret (PV.tf false) ([[(0, false,
 Blk.cols mp
 [Col.int IntKind.i64 tp, Col.int IntKind.i64 vp, Col.int IntKind.i64 gp])]]) (24))
 (Kret (PV.tf true) ([[(0, false,
 Blk.cols mp
 [Col.int IntKind.i64 tp, Col.int IntKind.i64 vp, Col.int IntKind.i64 gp])]]) (24)))
 (False)))
 (False))
 (False))
 (Kret (PV.tf false) ([[(0, false,
 Blk.cols mp
 [Col.int IntKind.i64 tp, Col.int IntKind.i64 vp, Col.int IntKind.i64 gp])]]) (18)))
 (False))
 (False))
 (False))
 (False))
 (Kret (PV.tf false) ([[(0, false,
 Blk.cols mp
 [Col.int IntKind.i64 tp, Col.int IntKind.i64 vp, Col.int IntKind.i64 gp])]]) (9)))
 (False))
 (False))
 (False)))
 (test (true)
 (test (true)
 (Kret (PV.tf true) ([[(0, false,
 Blk.cols mp
 [Col.int IntKind.i64 tp, Col.int IntKind.i64 vp, Col.int IntKind.i64 gp])]]) (4))
 (Kret (PV.tf false) ([[(0, false,
 Blk.cols mp
 [Col.int IntKind.i64 tp, Col.int IntKind.i64 vp, Col.int IntKind.i64 gp])]]) (4)))
 (False)))
 (False)
set_option maxRecDepth 100000 in
theorem te3 (test : Bool → Prop → Prop → Prop) (Kst : KS) (Kret : KR) (ph : Int) (ev : Bool) (ap np mp : Nat) (tp : Nat → Int) (vp : Nat → Int) (gp : Nat → Int) : run test Try.env true (xD test) true 400 ⟨3, [.cd (mkFn Try.f3).body], argT 0 [.agg [.int .i64 ph, .bool ev, .loose ⟨0, 3, ap, 0⟩ np]], [[], [(0, (false, .cols mp [.int .i64 tp, .int .i64 vp, .int .i64 gp]))]], 1⟩ (proj 1 [] Kst Kret) =
  Te3 test Kst Kret ph ev ap np mp tp vp gp := by kernel_rfl
set_option maxRecDepth 100000 in
theorem be3 (ph : Int) (ev : Bool) (ap np mp : Nat) (tp : Nat → Int) (vp : Nat → Int) (gp : Nat → Int) (Kst : KS) (Kret : KR) (x : St3 ⊕ Rt3) (hS : HS 1 400 ((I3 ph ev ap np mp tp vp gp)) Kst x) (hR : HR 1 400 ((V3 ph ev ap np mp tp vp gp)) (fun r => [newL (1 + 1) ((N3 ph ev ap np mp tp vp gp) r) ++ [(0, (false, .cols mp [.int .i64 tp, .int .i64 vp, .int .i64 gp]))]]) Kret x) (h : (bif (decide ((↑np : Int) > (12 : Int)))
 then (some (.inr (true)))
 else (bif (decide (ap + np ≤ mp ∧ np ≤ 1000000))
 then (bif (decide (0 + np ≤ np ∧ np ≤ 1000000))
 then (bif ((S.traE ph ev np (fun (q : Nat) => tp (q + ap)) (fun (q : Nat) => vp (q + ap)) fun (q : Nat) => gp (q + ap)) ==
 S.traE ph ev np (fun (q : Nat) => tp (q + ap)) (fun (q : Nat) => vp (q + ap)) fun (q : Nat) => gp (q + ap))
 then (bif (decide
 (0 +
 List.length
 (S.stpS ph ev np (fun (q : Nat) => tp (q + ap)) (fun (q : Nat) => vp (q + ap)) fun (q : Nat) =>
 gp (q + ap)) ≤
 List.length
 (S.stpS ph ev np (fun (q : Nat) => tp (q + ap)) (fun (q : Nat) => vp (q + ap)) fun (q : Nat) =>
 gp (q + ap)) ∧
 List.length
 (S.stpS ph ev np (fun (q : Nat) => tp (q + ap)) (fun (q : Nat) => vp (q + ap)) fun (q : Nat) =>
 gp (q + ap)) ≤
 1000000 ∧
 0 +
 List.length
 (S.stpS ph ev np (fun (q : Nat) => tp (q + ap)) (fun (q : Nat) => vp (q + ap)) fun (q : Nat) =>
 gp (q + ap)) ≤
 List.length
 (S.stpS ph ev np (fun (q : Nat) => tp (q + ap)) (fun (q : Nat) => vp (q + ap)) fun (q : Nat) =>
 gp (q + ap)) ∧
 List.length
 (S.stpS ph ev np (fun (q : Nat) => tp (q + ap)) (fun (q : Nat) => vp (q + ap)) fun (q : Nat) =>
 gp (q + ap)) ≤
 1000000))
 then (bif (decide
 ((S.mkl
 (List.length
 (S.stpS ph ev np (fun (q : Nat) => tp (q + ap)) (fun (q : Nat) => vp (q + ap)) fun (q : Nat) =>
 gp (q + ap)))
 fun (j : Nat) =>
 S.at'
 (S.stpS ph ev np (fun (q : Nat) => tp (q + ap)) (fun (q : Nat) => vp (q + ap)) fun (q : Nat) =>
 gp (q + ap))
 j) =
 S.mkl
 (List.length
 (S.stpS ph ev np (fun (q : Nat) => tp (q + ap)) (fun (q : Nat) => vp (q + ap)) fun (q : Nat) =>
 gp (q + ap)))
 fun (j : Nat) =>
 S.at'
 (S.stpS ph ev np (fun (q : Nat) => tp (q + ap)) (fun (q : Nat) => vp (q + ap)) fun (q : Nat) =>
 gp (q + ap))
 j))
 then (bif (S.badB ph ev np (fun (q : Nat) => tp (q + ap)) (fun (q : Nat) => vp (q + ap)) fun (q : Nat) => gp (q + ap))
 then (some (.inr (true)))
 else (some (.inr (true))))
 else (some (.inr (false))))
 else (none))
 else (some (.inr (false))))
 else (none))
 else (none)) : Option (St3 ⊕ Rt3)) = some x) : Te3 cond Kst Kret ph ev ap np mp tp vp gp := by
  unfold Te3
  exact cond_yes rfl (cond_yes rfl (bif_split h
   (fun c0 h => cond_yes rfl (cond_yes rfl (ret_at hR _ h (fun n => n) rfl rfl rfl (rn_bool_tf rfl) rfl (entl_bor (use_lo rfl) rfl rfl entl_nil))))
   (fun c0 h => bif_split h
   (fun c1 h => bif_split h
   (fun c2 h => cond_yes c1 (bif_split h
   (fun c3 h => cond_yes c1 (cond_yes c2 (cond_yes c1 (bif_split h
   (fun c4 h => bif_split h
   (fun c5 h => cond_yes c1 (cond_yes c2 (bif_split h
   (fun c6 h => cond_yes c1 (cond_yes c6 (ret_at hR _ h (fun n => n) rfl rfl rfl (rn_bool_tf rfl) rfl (entl_bor (use_lo rfl) rfl rfl entl_nil))))
   (fun c6 h => cond_yes c1 (cond_no c6 (ret_at hR _ h (fun n => n) rfl rfl rfl (rn_bool_tf rfl) rfl (entl_bor (use_lo rfl) rfl rfl entl_nil)))))))
   (fun c5 h => ret_at hR _ h (fun n => n) rfl rfl rfl (rn_bool_tf rfl) rfl (entl_bor (use_lo rfl) rfl rfl entl_nil)))
   (fun c4 h => no_some h)))))
   (fun c3 h => ret_at hR _ h (fun n => n) rfl rfl rfl (rn_bool_tf rfl) rfl (entl_bor (use_lo rfl) rfl rfl entl_nil))))
   (fun c2 h => no_some h))
   (fun c1 h => no_some h))))
theorem a3 (ph : Int) (ev : Bool) (ap np mp : Nat) (tp : Nat → Int) (vp : Nat → Int) (gp : Nat → Int) {r : Rt3} (h : Goes ((q3 ph ev ap np mp tp vp gp)) ((p3 ph ev ap np mp tp vp gp)) r) : CallR Try.prog 3 [.agg [.int .i64 ph, .bool ev, .loose ⟨0, 3, ap, 0⟩ np]] [[(0, (false, .cols mp [.int .i64 tp, .int .i64 vp, .int .i64 gp]))]] 1 ((V3 ph ev ap np mp tp vp gp) r) ((fun r => [newL (1 + 1) ((N3 ph ev ap np mp tp vp gp) r) ++ [(0, (false, .cols mp [.int .i64 tp, .int .i64 vp, .int .i64 gp]))]]) r) 400 ∧ ∃ F, Try.prog.funcs[3]? = some F ∧ F.body.isSome = true ∧ (F.name == "runtime.NumGoroutine") = false := by
  refine dec_calls (f := 3) (lo := 1) (hi := 400) (H := [[(0, (false, .cols mp [.int .i64 tp, .int .i64 vp, .int .i64 gp]))]]) (args := [.agg [.int .i64 ph, .bool ev, .loose ⟨0, 3, ap, 0⟩ np]]) Try.envOk Try.mixed xD_ok ((I3 ph ev ap np mp tp vp gp)) ((V3 ph ev ap np mp tp vp gp)) (fun r => [newL (1 + 1) ((N3 ph ev ap np mp tp vp gp) r) ++ [(0, (false, .cols mp [.int .i64 tp, .int .i64 vp, .int .i64 gp]))]]) (fn := mkFn Try.f3) (ts := []) (n := 400) rfl (by decide) (by simp) (names_of rfl) ?_ ?_ ?_ h
  · intro s; exact s.elim
  · intro Kst Kret x hS hR h
    exact Holds.eq (te3 cond Kst Kret ph ev ap np mp tp vp gp) (be3 ph ev ap np mp tp vp gp Kst Kret x hS hR h)
  · intro Kst Kret x hS hR s h; exact s.elim
noncomputable def k3 : Con := ⟨3, [.agg [.plain (.int .i64), .plain (.bool), .list [.int .i64, .int .i64, .int .i64]]], fun (x : (Int × Bool × (Nat × Nat × Nat × (Nat → Int) × (Nat → Int) × (Nat → Int) × Unit) × Unit) × Unit) => (fun (ph : Int) (ev : Bool) (ap np mp : Nat) (tp : Nat → Int) (vp : Nat → Int) (gp : Nat → Int) => decide (ap + np ≤ mp)) x.1.1 x.1.2.1 x.1.2.2.1.1 x.1.2.2.1.2.1 x.1.2.2.1.2.2.1 x.1.2.2.1.2.2.2.1 x.1.2.2.1.2.2.2.2.1 x.1.2.2.1.2.2.2.2.2.1, fun (x : (Int × Bool × (Nat × Nat × Nat × (Nat → Int) × (Nat → Int) × (Nat → Int) × Unit) × Unit) × Unit) => (fun (ph : Int) (ev : Bool) (ap np mp : Nat) (tp : Nat → Int) (vp : Nat → Int) (gp : Nat → Int) => (V3 ph ev ap np mp tp vp gp) (true)) x.1.1 x.1.2.1 x.1.2.2.1.1 x.1.2.2.1.2.1 x.1.2.2.1.2.2.1 x.1.2.2.1.2.2.2.1 x.1.2.2.1.2.2.2.2.1 x.1.2.2.1.2.2.2.2.2.1, fun (x : (Int × Bool × (Nat × Nat × Nat × (Nat → Int) × (Nat → Int) × (Nat → Int) × Unit) × Unit) × Unit) => (fun (ph : Int) (ev : Bool) (ap np mp : Nat) (tp : Nat → Int) (vp : Nat → Int) (gp : Nat → Int) => (N3 ph ev ap np mp tp vp gp) (true)) x.1.1 x.1.2.1 x.1.2.2.1.1 x.1.2.2.1.2.1 x.1.2.2.1.2.2.1 x.1.2.2.1.2.2.2.1 x.1.2.2.1.2.2.2.2.1 x.1.2.2.1.2.2.2.2.2.1, fun _ _ => .dead⟩
theorem s3 (ph : Int) (ev : Bool) (ap np mp : Nat) (tp : Nat → Int) (vp : Nat → Int) (gp : Nat → Int) (hp : ap + np ≤ mp) : Goes ((q3 ph ev ap np mp tp vp gp)) ((p3 ph ev ap np mp tp vp gp)) (true) := by
  unfold p3
  by_cases hn : np ≤ 12
  · skip
    have l1 := stp_len (ph := ph) (ev := ev) (n := np) (a := (fun q => tp (q + ap))) (i := (fun q => vp (q + ap))) (o := (fun q => gp (q + ap)))
    generalize S.stpS ph ev np (fun q => tp (q + ap)) (fun q => vp (q + ap)) (fun q => gp (q + ap)) = P1 at *
    generalize S.badB ph ev np (fun q => tp (q + ap)) (fun q => vp (q + ap)) (fun q => gp (q + ap)) = P2 at *
    generalize S.traE ph ev np (fun q => tp (q + ap)) (fun q => vp (q + ap)) (fun q => gp (q + ap)) = P3 at *
    cases P2 <;> simp only [cond_true, cond_false]
    repeat' first
      | with_reducible exact goes_inr.mpr rfl
      | (refine goes_ok ?_ ?_; focus (first | with_reducible exact beq_self_eq_true _ | (simp only [Bool.and_eq_true, decide_eq_true_eq, and_self, eq_self]; done) | with_reducible exact decide_eq_true trivial | with_reducible exact decide_eq_true rfl | (simp only [eq_self, decide_true, Bool.and_self, Bool.and_true, Bool.true_and]; done) | (apply decide_eq_true; omega) | (rw [lim64]; apply decide_eq_true; omega) | (apply decide_eq_true; simp only [mkl_len, mkl_zero, List.length_nil, true_and, and_true, and_self, Nat.zero_add, Nat.add_zero, Nat.le_refl]; done) | (apply decide_eq_true; simp only [mkl_len, mkl_zero, List.length_nil, true_and, and_true, and_self, Nat.zero_add, Nat.add_zero, Nat.le_refl]; omega) | decide))
      | (refine goes_no ?_ ?_; focus (first | with_reducible exact bne_self_eq_false _ | (apply decide_eq_false; omega) | decide))
  · repeat' first
      | with_reducible exact goes_inr.mpr rfl
      | (refine goes_no ?_ ?_; focus (apply decide_eq_false; omega))
      | (refine goes_ok ?_ ?_; focus (apply decide_eq_true; omega))

theorem k3_ok : k3.ok Try.prog := by
  intro x hx
  obtain ⟨⟨ph, ev, ⟨ap, np, mp, tp, vp, gp, _⟩, _⟩, _⟩ := x
  obtain ⟨h1, h2⟩ := a3 ph ev ap np mp tp vp gp (s3 ph ev ap np mp tp vp gp (of_dec hx rfl))
  exact ⟨⟨400, (by decide : 1 + 1 + 0 ≤ 400), h1⟩, h2⟩

end Go.Ev
