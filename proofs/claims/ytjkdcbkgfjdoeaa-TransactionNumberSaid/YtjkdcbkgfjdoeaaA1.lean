/-
  The error of a transaction.
-/
import Derived.Test.YtjkdcbkgfjdoeaaA0
namespace Go.Ev
open Go.Proofs
set_option linter.unusedVariables false
set_option linter.unusedSimpArgs false
set_option maxRecDepth 100000
inductive St13 where
  | h0 (x0 : Int)
abbrev Rt13 := Int
noncomputable def V13 (ph : Int) (ev : Bool) (ap np mp : Nat) (tp : Nat → Int) (vp : Nat → Int) (gp : Nat → Int) (r : Rt13) : PV := PV.int IntKind.i64 r
noncomputable def N13 (ph : Int) (ev : Bool) (ap np mp : Nat) (tp : Nat → Int) (vp : Nat → Int) (gp : Nat → Int) (r : Rt13) : List Blk := []
noncomputable def I13 (ph : Int) (ev : Bool) (ap np mp : Nat) (tp : Nat → Int) (vp : Nat → Int) (gp : Nat → Int) : St13 → Hd
  | .h0 x0 => ⟨hd Try.f13 0, [PV.loose (PA.mk (0) (3) ap (0)) np, PV.int IntKind.i64 (↑np : Int),
 PV.int IntKind.i64 x0], [[], [(0, (false, .cols mp [.int .i64 tp, .int .i64 vp, .int .i64 gp]))]], 1⟩
noncomputable def q13 (ph : Int) (ev : Bool) (ap np mp : Nat) (tp : Nat → Int) (vp : Nat → Int) (gp : Nat → Int) : St13 → Option (St13 ⊕ Rt13)
  | .h0 x0 => bif (decide (x0 < (↑np : Int)))
 then (bif (decide ((0 : Int) ≤ x0 ∧ x0 < (↑np : Int)))
 then (bif (decide (Int.toNat x0 + ap < mp))
 then (bif (decide (tp (Int.toNat x0 + ap) < (0 : Int)))
 then (some (.inr ((1 : Int))))
 else (bif (decide (tp (Int.toNat x0 + ap) > (7 : Int)))
 then (some (.inr ((1 : Int))))
 else (bif (decide (vp (Int.toNat x0 + ap) < (0 : Int)))
 then (some (.inr ((1 : Int))))
 else (bif (decide (vp (Int.toNat x0 + ap) > (3 : Int)))
 then (some (.inr ((1 : Int))))
 else (bif (decide (gp (Int.toNat x0 + ap) < (0 : Int)))
 then (some (.inr ((1 : Int))))
 else (bif (decide (gp (Int.toNat x0 + ap) > (4 : Int)))
 then (some (.inr ((1 : Int))))
 else (bif (lim IntKind.i64 (x0 + (1 : Int)))
 then (some (.inl (.h0 (x0 + (1 : Int)))))
 else (none))))))))
 else (none))
 else (none))
 else (some (.inr ((0 : Int))))
noncomputable def p13 (ph : Int) (ev : Bool) (ap np mp : Nat) (tp : Nat → Int) (vp : Nat → Int) (gp : Nat → Int) : Option (St13 ⊕ Rt13) := bif (decide ((↑np : Int) < (1 : Int)))
 then (some (.inr ((6 : Int))))
 else (bif (decide ((↑np : Int) > (8 : Int)))
 then (some (.inr ((6 : Int))))
 else (bif (decide (ph < (0 : Int)))
 then (some (.inr ((1 : Int))))
 else (bif (decide (ph > (4 : Int)))
 then (some (.inr ((1 : Int))))
 else (bif (ev)
 then (bif (ph == (4 : Int))
 then (some (.inl (.h0 ((0 : Int)))))
 else (some (.inr ((1 : Int)))))
 else (bif (ph == (4 : Int))
 then (some (.inr ((1 : Int))))
 else (some (.inl (.h0 ((0 : Int))))))))))
noncomputable def Te13 (test : Bool → Prop → Prop → Prop) (Kst : KS) (Kret : KR) (ph : Int) (ev : Bool) (ap np mp : Nat) (tp : Nat → Int) (vp : Nat → Int) (gp : Nat → Int) : Prop :=
  test (decide ((↑np : Int) < (1 : Int)))
 (Kret (PV.int IntKind.i64 (6 : Int)) ([[(0, false,
 Blk.cols mp
 [Col.int IntKind.i64 tp, Col.int IntKind.i64 vp, Col.int IntKind.i64 gp])]]) (2))
 (test (decide ((↑np : Int) > (8 : Int)))
 (Kret (PV.int IntKind.i64 (6 : Int)) ([[(0, false,
 Blk.cols mp
 [Col.int IntKind.i64 tp, Col.int IntKind.i64 vp, Col.int IntKind.i64 gp])]]) (2))
 (test (decide (ph < (0 : Int)))
 (Kret (PV.int IntKind.i64 (1 : Int)) ([[(0, false,
 Blk.cols mp
 [Col.int IntKind.i64 tp, Col.int IntKind.i64 vp, Col.int IntKind.i64 gp])]]) (2))
 (test (decide (ph > (4 : Int)))
 (Kret (PV.int IntKind.i64 (1 : Int)) ([[(0, false,
 Blk.cols mp
 [Col.int IntKind.i64 tp, Col.int IntKind.i64 vp, Col.int IntKind.i64 gp])]]) (2))
 (test (ev)
 (test (ph == (4 : Int))
 (Kst (hd Try.f13 0) ([PV.loose (PA.mk (0) (3) ap (0)) np, PV.int IntKind.i64 (↑np : Int),
 PV.int IntKind.i64 (0 : Int)]) ([[(0, false,
 Blk.cols mp
 [Col.int IntKind.i64 tp, Col.int IntKind.i64 vp, Col.int IntKind.i64 gp])]]) (2))
 (Kret (PV.int IntKind.i64 (1 : Int)) ([[(0, false,
 Blk.cols mp
 [Col.int IntKind.i64 tp, Col.int IntKind.i64 vp, Col.int IntKind.i64 gp])]]) (2)))
 (test (ph == (4 : Int))
 (Kret (PV.int IntKind.i64 (1 : Int)) ([[(0, false,
 Blk.cols mp
 [Col.int IntKind.i64 tp, Col.int IntKind.i64 vp, Col.int IntKind.i64 gp])]]) (2))
 (Kst (hd Try.f13 0) ([PV.loose (PA.mk (0) (3) ap (0)) np, PV.int IntKind.i64 (↑np : Int),
 PV.int IntKind.i64 (0 : Int)]) ([[(0, false,
 Blk.cols mp
 [Col.int IntKind.i64 tp, Col.int IntKind.i64 vp, Col.int IntKind.i64 gp])]]) (2)))))))
set_option maxRecDepth 100000 in
theorem te13 (test : Bool → Prop → Prop → Prop) (Kst : KS) (Kret : KR) (ph : Int) (ev : Bool) (ap np mp : Nat) (tp : Nat → Int) (vp : Nat → Int) (gp : Nat → Int) : run test Try.env true noX true 400 ⟨13, [.cd (mkFn Try.f13).body], argT 0 [.agg [.int .i64 ph, .bool ev, .loose ⟨0, 3, ap, 0⟩ np]], [[], [(0, (false, .cols mp [.int .i64 tp, .int .i64 vp, .int .i64 gp]))]], 1⟩ (proj 1 [32, 33, 34] Kst Kret) =
  Te13 test Kst Kret ph ev ap np mp tp vp gp := by kernel_rfl
noncomputable def T13_0 (test : Bool → Prop → Prop → Prop) (Kst : KS) (Kret : KR) (ph : Int) (ev : Bool) (ap np mp : Nat) (tp : Nat → Int) (vp : Nat → Int) (gp : Nat → Int) (x0 : Int) : Prop :=
  test (decide (x0 < (↑np : Int)))
 (test (decide ((0 : Int) ≤ x0 ∧ x0 < (↑np : Int)))
 (test (decide (Int.toNat x0 + ap < mp))
 (test (decide (Int.toNat x0 + ap < mp))
 (test (decide (Int.toNat x0 + ap < mp))
 (test (decide (tp (Int.toNat x0 + ap) < (0 : Int)))
 (Kret (PV.int IntKind.i64 (1 : Int)) ([[(0, false,
 Blk.cols mp
 [Col.int IntKind.i64 tp, Col.int IntKind.i64 vp, Col.int IntKind.i64 gp])]]) (2))
 (test (decide (tp (Int.toNat x0 + ap) > (7 : Int)))
 (Kret (PV.int IntKind.i64 (1 : Int)) ([[(0, false,
 Blk.cols mp
 [Col.int IntKind.i64 tp, Col.int IntKind.i64 vp, Col.int IntKind.i64 gp])]]) (2))
 (test (decide (vp (Int.toNat x0 + ap) < (0 : Int)))
 (Kret (PV.int IntKind.i64 (1 : Int)) ([[(0, false,
 Blk.cols mp
 [Col.int IntKind.i64 tp, Col.int IntKind.i64 vp, Col.int IntKind.i64 gp])]]) (2))
 (test (decide (vp (Int.toNat x0 + ap) > (3 : Int)))
 (Kret (PV.int IntKind.i64 (1 : Int)) ([[(0, false,
 Blk.cols mp
 [Col.int IntKind.i64 tp, Col.int IntKind.i64 vp, Col.int IntKind.i64 gp])]]) (2))
 (test (decide (gp (Int.toNat x0 + ap) < (0 : Int)))
 (Kret (PV.int IntKind.i64 (1 : Int)) ([[(0, false,
 Blk.cols mp
 [Col.int IntKind.i64 tp, Col.int IntKind.i64 vp, Col.int IntKind.i64 gp])]]) (2))
 (test (decide (gp (Int.toNat x0 + ap) > (4 : Int)))
 (Kret (PV.int IntKind.i64 (1 : Int)) ([[(0, false,
 Blk.cols mp
 [Col.int IntKind.i64 tp, Col.int IntKind.i64 vp, Col.int IntKind.i64 gp])]]) (2))
 (test (lim IntKind.i64 (x0 + (1 : Int)))
 (Kst (hd Try.f13 0) ([PV.loose (PA.mk (0) (3) ap (0)) np, PV.int IntKind.i64 (↑np : Int),
 PV.int IntKind.i64 (x0 + (1 : Int))]) ([[(0, false,
 Blk.cols mp
 [Col.int IntKind.i64 tp, Col.int IntKind.i64 vp, Col.int IntKind.i64 gp])]]) (2))
 (False))))))))
 (False))
 (False))
 (False))
 (False))
 (Kret (PV.int IntKind.i64 (0 : Int)) ([[(0, false,
 Blk.cols mp
 [Col.int IntKind.i64 tp, Col.int IntKind.i64 vp, Col.int IntKind.i64 gp])]]) (1))
set_option maxRecDepth 100000 in
theorem t13_0 (test : Bool → Prop → Prop → Prop) (Kst : KS) (Kret : KR) (ph : Int) (ev : Bool) (ap np mp : Nat) (tp : Nat → Int) (vp : Nat → Int) (gp : Nat → Int) (x0 : Int) : run test Try.env true noX true 400 ⟨13, hd Try.f13 0, zipT [32, 33, 34] [PV.loose (PA.mk (0) (3) ap (0)) np, PV.int IntKind.i64 (↑np : Int),
 PV.int IntKind.i64 x0], [[], [(0, (false, .cols mp [.int .i64 tp, .int .i64 vp, .int .i64 gp]))]], 1⟩ (proj 1 [32, 33, 34] Kst Kret) =
  T13_0 test Kst Kret ph ev ap np mp tp vp gp x0 := by kernel_rfl
set_option maxRecDepth 100000 in
theorem be13 (ph : Int) (ev : Bool) (ap np mp : Nat) (tp : Nat → Int) (vp : Nat → Int) (gp : Nat → Int) (Kst : KS) (Kret : KR) (x : St13 ⊕ Rt13) (hS : HS 1 400 ((I13 ph ev ap np mp tp vp gp)) Kst x) (hR : HR 1 400 ((V13 ph ev ap np mp tp vp gp)) (fun r => [newL (1 + 1) ((N13 ph ev ap np mp tp vp gp) r) ++ [(0, (false, .cols mp [.int .i64 tp, .int .i64 vp, .int .i64 gp]))]]) Kret x) (h : (bif (decide ((↑np : Int) < (1 : Int)))
 then (some (.inr ((6 : Int))))
 else (bif (decide ((↑np : Int) > (8 : Int)))
 then (some (.inr ((6 : Int))))
 else (bif (decide (ph < (0 : Int)))
 then (some (.inr ((1 : Int))))
 else (bif (decide (ph > (4 : Int)))
 then (some (.inr ((1 : Int))))
 else (bif (ev)
 then (bif (ph == (4 : Int))
 then (some (.inl (.h0 ((0 : Int)))))
 else (some (.inr ((1 : Int)))))
 else (bif (ph == (4 : Int))
 then (some (.inr ((1 : Int))))
 else (some (.inl (.h0 ((0 : Int)))))))))) : Option (St13 ⊕ Rt13)) = some x) : Te13 cond Kst Kret ph ev ap np mp tp vp gp := by
  unfold Te13
  exact bif_split h
   (fun c0 h => ret_at hR _ h (fun n => n) rfl rfl rfl (rn_int rfl) rfl (entl_bor (use_lo rfl) rfl rfl entl_nil))
   (fun c0 h => bif_split h
   (fun c1 h => ret_at hR _ h (fun n => n) rfl rfl rfl (rn_int rfl) rfl (entl_bor (use_lo rfl) rfl rfl entl_nil))
   (fun c1 h => bif_split h
   (fun c2 h => ret_at hR _ h (fun n => n) rfl rfl rfl (rn_int rfl) rfl (entl_bor (use_lo rfl) rfl rfl entl_nil))
   (fun c2 h => bif_split h
   (fun c3 h => ret_at hR _ h (fun n => n) rfl rfl rfl (rn_int rfl) rfl (entl_bor (use_lo rfl) rfl rfl entl_nil))
   (fun c3 h => bif_split h
   (fun c4 h => bif_split h
   (fun c5 h => stop_at hS _ h (fun n => n) rfl rfl rfl ⟨(rn_loose (use_lo rfl) rfl rfl rfl), ⟨(rn_int rfl), ⟨(rn_int rfl), trivial⟩⟩⟩ rfl (entl_bor (use_lo rfl) rfl rfl entl_nil))
   (fun c5 h => ret_at hR _ h (fun n => n) rfl rfl rfl (rn_int rfl) rfl (entl_bor (use_lo rfl) rfl rfl entl_nil)))
   (fun c4 h => bif_split h
   (fun c5 h => ret_at hR _ h (fun n => n) rfl rfl rfl (rn_int rfl) rfl (entl_bor (use_lo rfl) rfl rfl entl_nil))
   (fun c5 h => stop_at hS _ h (fun n => n) rfl rfl rfl ⟨(rn_loose (use_lo rfl) rfl rfl rfl), ⟨(rn_int rfl), ⟨(rn_int rfl), trivial⟩⟩⟩ rfl (entl_bor (use_lo rfl) rfl rfl entl_nil)))))))
set_option maxRecDepth 100000 in
theorem b13_0 (ph : Int) (ev : Bool) (ap np mp : Nat) (tp : Nat → Int) (vp : Nat → Int) (gp : Nat → Int) (Kst : KS) (Kret : KR) (x : St13 ⊕ Rt13) (hS : HS 1 400 ((I13 ph ev ap np mp tp vp gp)) Kst x) (hR : HR 1 400 ((V13 ph ev ap np mp tp vp gp)) (fun r => [newL (1 + 1) ((N13 ph ev ap np mp tp vp gp) r) ++ [(0, (false, .cols mp [.int .i64 tp, .int .i64 vp, .int .i64 gp]))]]) Kret x) (x0 : Int) (h : (bif (decide (x0 < (↑np : Int)))
 then (bif (decide ((0 : Int) ≤ x0 ∧ x0 < (↑np : Int)))
 then (bif (decide (Int.toNat x0 + ap < mp))
 then (bif (decide (tp (Int.toNat x0 + ap) < (0 : Int)))
 then (some (.inr ((1 : Int))))
 else (bif (decide (tp (Int.toNat x0 + ap) > (7 : Int)))
 then (some (.inr ((1 : Int))))
 else (bif (decide (vp (Int.toNat x0 + ap) < (0 : Int)))
 then (some (.inr ((1 : Int))))
 else (bif (decide (vp (Int.toNat x0 + ap) > (3 : Int)))
 then (some (.inr ((1 : Int))))
 else (bif (decide (gp (Int.toNat x0 + ap) < (0 : Int)))
 then (some (.inr ((1 : Int))))
 else (bif (decide (gp (Int.toNat x0 + ap) > (4 : Int)))
 then (some (.inr ((1 : Int))))
 else (bif (lim IntKind.i64 (x0 + (1 : Int)))
 then (some (.inl (.h0 (x0 + (1 : Int)))))
 else (none))))))))
 else (none))
 else (none))
 else (some (.inr ((0 : Int)))) : Option (St13 ⊕ Rt13)) = some x) : T13_0 cond Kst Kret ph ev ap np mp tp vp gp x0 := by
  unfold T13_0
  exact bif_split h
   (fun c0 h => bif_split h
   (fun c1 h => bif_split h
   (fun c2 h => cond_yes c2 (cond_yes c2 (bif_split h
   (fun c3 h => ret_at hR _ h (fun n => n) rfl rfl rfl (rn_int rfl) rfl (entl_bor (use_lo rfl) rfl rfl entl_nil))
   (fun c3 h => bif_split h
   (fun c4 h => ret_at hR _ h (fun n => n) rfl rfl rfl (rn_int rfl) rfl (entl_bor (use_lo rfl) rfl rfl entl_nil))
   (fun c4 h => bif_split h
   (fun c5 h => ret_at hR _ h (fun n => n) rfl rfl rfl (rn_int rfl) rfl (entl_bor (use_lo rfl) rfl rfl entl_nil))
   (fun c5 h => bif_split h
   (fun c6 h => ret_at hR _ h (fun n => n) rfl rfl rfl (rn_int rfl) rfl (entl_bor (use_lo rfl) rfl rfl entl_nil))
   (fun c6 h => bif_split h
   (fun c7 h => ret_at hR _ h (fun n => n) rfl rfl rfl (rn_int rfl) rfl (entl_bor (use_lo rfl) rfl rfl entl_nil))
   (fun c7 h => bif_split h
   (fun c8 h => ret_at hR _ h (fun n => n) rfl rfl rfl (rn_int rfl) rfl (entl_bor (use_lo rfl) rfl rfl entl_nil))
   (fun c8 h => bif_split h
   (fun c9 h => stop_at hS _ h (fun n => n) rfl rfl rfl ⟨(rn_loose (use_lo rfl) rfl rfl rfl), ⟨(rn_int rfl), ⟨(rn_int rfl), trivial⟩⟩⟩ rfl (entl_bor (use_lo rfl) rfl rfl entl_nil))
   (fun c9 h => no_some h))))))))))
   (fun c2 h => no_some h))
   (fun c1 h => no_some h))
   (fun c0 h => ret_at hR _ h (fun n => n) rfl rfl rfl (rn_int rfl) rfl (entl_bor (use_lo rfl) rfl rfl entl_nil))
theorem a13 (ph : Int) (ev : Bool) (ap np mp : Nat) (tp : Nat → Int) (vp : Nat → Int) (gp : Nat → Int) {r : Rt13} (h : Goes ((q13 ph ev ap np mp tp vp gp)) ((p13 ph ev ap np mp tp vp gp)) r) : CallR Try.prog 13 [.agg [.int .i64 ph, .bool ev, .loose ⟨0, 3, ap, 0⟩ np]] [[(0, (false, .cols mp [.int .i64 tp, .int .i64 vp, .int .i64 gp]))]] 1 ((V13 ph ev ap np mp tp vp gp) r) ((fun r => [newL (1 + 1) ((N13 ph ev ap np mp tp vp gp) r) ++ [(0, (false, .cols mp [.int .i64 tp, .int .i64 vp, .int .i64 gp]))]]) r) 400 ∧ ∃ F, Try.prog.funcs[13]? = some F ∧ F.body.isSome = true ∧ (F.name == "runtime.NumGoroutine") = false := by
  refine dec_calls (f := 13) (lo := 1) (hi := 400) (H := [[(0, (false, .cols mp [.int .i64 tp, .int .i64 vp, .int .i64 gp]))]]) (args := [.agg [.int .i64 ph, .bool ev, .loose ⟨0, 3, ap, 0⟩ np]]) Try.envOk Try.mixed noX_ok ((I13 ph ev ap np mp tp vp gp)) ((V13 ph ev ap np mp tp vp gp)) (fun r => [newL (1 + 1) ((N13 ph ev ap np mp tp vp gp) r) ++ [(0, (false, .cols mp [.int .i64 tp, .int .i64 vp, .int .i64 gp]))]]) (fn := mkFn Try.f13) (ts := [32, 33, 34]) (n := 400) rfl (by decide) (by simp) (names_of rfl) ?_ ?_ ?_ h
  · intro s; cases s <;> exact ⟨hd_ok _ _, by simp [I13], names_of rfl, Nat.le_of_ble_eq_true rfl⟩
  · intro Kst Kret x hS hR h
    exact Holds.eq (te13 cond Kst Kret ph ev ap np mp tp vp gp) (be13 ph ev ap np mp tp vp gp Kst Kret x hS hR h)
  · intro Kst Kret x hS hR s h
    cases s with
    | h0 x0 => exact Holds.eq (t13_0 cond Kst Kret ph ev ap np mp tp vp gp x0) (b13_0 ph ev ap np mp tp vp gp Kst Kret x hS hR x0 h)
noncomputable def k13 : Con := ⟨13, [.agg [.plain (.int .i64), .plain (.bool), .list [.int .i64, .int .i64, .int .i64]]], fun (x : (Int × Bool × (Nat × Nat × Nat × (Nat → Int) × (Nat → Int) × (Nat → Int) × Unit) × Unit) × Unit) => (fun (ph : Int) (ev : Bool) (ap np mp : Nat) (tp : Nat → Int) (vp : Nat → Int) (gp : Nat → Int) => decide (ap + np ≤ mp ∧ np ≤ 1000000)) x.1.1 x.1.2.1 x.1.2.2.1.1 x.1.2.2.1.2.1 x.1.2.2.1.2.2.1 x.1.2.2.1.2.2.2.1 x.1.2.2.1.2.2.2.2.1 x.1.2.2.1.2.2.2.2.2.1, fun (x : (Int × Bool × (Nat × Nat × Nat × (Nat → Int) × (Nat → Int) × (Nat → Int) × Unit) × Unit) × Unit) => (fun (ph : Int) (ev : Bool) (ap np mp : Nat) (tp : Nat → Int) (vp : Nat → Int) (gp : Nat → Int) => (V13 ph ev ap np mp tp vp gp) (S.traE ph ev np (fun q => tp (q + ap)) (fun q => vp (q + ap)) (fun q => gp (q + ap)))) x.1.1 x.1.2.1 x.1.2.2.1.1 x.1.2.2.1.2.1 x.1.2.2.1.2.2.1 x.1.2.2.1.2.2.2.1 x.1.2.2.1.2.2.2.2.1 x.1.2.2.1.2.2.2.2.2.1, fun (x : (Int × Bool × (Nat × Nat × Nat × (Nat → Int) × (Nat → Int) × (Nat → Int) × Unit) × Unit) × Unit) => (fun (ph : Int) (ev : Bool) (ap np mp : Nat) (tp : Nat → Int) (vp : Nat → Int) (gp : Nat → Int) => (N13 ph ev ap np mp tp vp gp) (S.traE ph ev np (fun q => tp (q + ap)) (fun q => vp (q + ap)) (fun q => gp (q + ap)))) x.1.1 x.1.2.1 x.1.2.2.1.1 x.1.2.2.1.2.1 x.1.2.2.1.2.2.1 x.1.2.2.1.2.2.2.1 x.1.2.2.1.2.2.2.2.1 x.1.2.2.1.2.2.2.2.2.1, fun _ _ => .dead⟩
theorem s13' (ph : Int) (ev : Bool) (ap np mp : Nat) (tp : Nat → Int) (vp : Nat → Int) (gp : Nat → Int) (hp : ap + np ≤ mp ∧ np ≤ 1000000) (hn : np ≤ 8) : ∀ k i : Nat, i + k = np → Comes (q13 ph ev ap np mp tp vp gp) (.h0 (i : Int)) (S.ptyK (fun q => tp (q + ap)) (fun q => vp (q + ap)) (fun q => gp (q + ap)) i k) := by
  obtain ⟨hp1, hp2⟩ := hp
  intro k
  induction k with
  | zero =>
    intro i hi
    apply Comes.of
    show Goes _ _ _
    (first | rw [q13] | unfold q13)
    repeat' first
      | with_reducible refine goes_if (fun h => ?_) (fun h => ?_) <;> (try simp only [lim64, decide_eq_true_eq, decide_eq_false_iff_not, Int.toNat_natCast, toNat_pred, toNat_succ, Option.getD_some, Option.getD_none, Bool.not_eq_true', Bool.not_eq_false', Bool.and_eq_true, Bool.or_eq_true, Bool.and_eq_false_iff, Bool.or_eq_false_iff, bne_iff_ne, beq_iff_eq, bne_eq_false_iff_eq, beq_eq_false_iff_ne, ne_eq, not_and, Int.not_le, Int.not_lt, ge_iff_le, gt_iff_lt, Nat.not_lt, Nat.not_le, Bool.not_eq_true, Bool.not_eq_false, Bool.true_eq_false, Bool.false_eq_true, not_false_eq_true, not_true_eq_false] at h)
      | exact goes_none.mpr (by omega)
    all_goals first | (exfalso; omega) | exact goes_inr.mpr rfl
  | succ k ih =>
    intro i hi
    have ih := ih (i + 1) (by omega)
    have e : S.ptyK (fun q => tp (q + ap)) (fun q => vp (q + ap)) (fun q => gp (q + ap)) i (k + 1) = if S.ptyB (tp (i + ap)) (vp (i + ap)) (gp (i + ap)) = true then S.ptyK (fun q => tp (q + ap)) (fun q => vp (q + ap)) (fun q => gp (q + ap)) (i + 1) k else 1 := rfl
    rw [e]
    simp only [S.ptyB, decide_eq_true_eq]
    apply Comes.of
    show Goes _ _ _
    (first | rw [q13] | unfold q13)
    repeat' first
      | with_reducible refine goes_if (fun h => ?_) (fun h => ?_) <;> (try simp only [lim64, decide_eq_true_eq, decide_eq_false_iff_not, Int.toNat_natCast, toNat_pred, toNat_succ, Option.getD_some, Option.getD_none, Bool.not_eq_true', Bool.not_eq_false', Bool.and_eq_true, Bool.or_eq_true, Bool.and_eq_false_iff, Bool.or_eq_false_iff, bne_iff_ne, beq_iff_eq, bne_eq_false_iff_eq, beq_eq_false_iff_ne, ne_eq, not_and, Int.not_le, Int.not_lt, ge_iff_le, gt_iff_lt, Nat.not_lt, Nat.not_le, Bool.not_eq_true, Bool.not_eq_false, Bool.true_eq_false, Bool.false_eq_true, not_false_eq_true, not_true_eq_false] at h)
      | exact goes_none.mpr (by omega)
    all_goals first
      | (exfalso; omega)
      | (rw [if_pos (by omega)]; exact ih)
      | (rw [if_neg (by omega)]; exact goes_inr.mpr rfl)
theorem s13 (ph : Int) (ev : Bool) (ap np mp : Nat) (tp : Nat → Int) (vp : Nat → Int) (gp : Nat → Int) (hp : ap + np ≤ mp ∧ np ≤ 1000000) : Goes ((q13 ph ev ap np mp tp vp gp)) ((p13 ph ev ap np mp tp vp gp)) (S.traE ph ev np (fun q => tp (q + ap)) (fun q => vp (q + ap)) (fun q => gp (q + ap))) := by
  unfold S.traE
  by_cases h1 : 1 ≤ np ∧ np ≤ 8
  · rw [if_pos h1]
    have hm := s13' ph ev ap np mp tp vp gp hp h1.2 np 0 (by omega)
    by_cases h4 : ph = 4
    · cases ev
      · rw [if_neg (by simp [h4])]
        show Goes _ _ _
        unfold p13
        repeat' first
          | with_reducible refine goes_if (fun h => ?_) (fun h => ?_) <;> (try simp only [lim64, decide_eq_true_eq, decide_eq_false_iff_not, Int.toNat_natCast, toNat_pred, toNat_succ, Option.getD_some, Option.getD_none, Bool.not_eq_true', Bool.not_eq_false', Bool.and_eq_true, Bool.or_eq_true, Bool.and_eq_false_iff, Bool.or_eq_false_iff, bne_iff_ne, beq_iff_eq, bne_eq_false_iff_eq, beq_eq_false_iff_ne, ne_eq, not_and, Int.not_le, Int.not_lt, ge_iff_le, gt_iff_lt, Nat.not_lt, Nat.not_le, Bool.not_eq_true, Bool.not_eq_false, Bool.true_eq_false, Bool.false_eq_true, not_false_eq_true, not_true_eq_false] at h)
          | exact goes_none.mpr (by omega)
        all_goals first | (exfalso; omega) | exact goes_inr.mpr rfl | (exfalso; simp_all; done)
      · rw [if_pos (by simp [h4])]
        show Goes _ _ _
        unfold p13
        repeat' first
          | with_reducible refine goes_if (fun h => ?_) (fun h => ?_) <;> (try simp only [lim64, decide_eq_true_eq, decide_eq_false_iff_not, Int.toNat_natCast, toNat_pred, toNat_succ, Option.getD_some, Option.getD_none, Bool.not_eq_true', Bool.not_eq_false', Bool.and_eq_true, Bool.or_eq_true, Bool.and_eq_false_iff, Bool.or_eq_false_iff, bne_iff_ne, beq_iff_eq, bne_eq_false_iff_eq, beq_eq_false_iff_ne, ne_eq, not_and, Int.not_le, Int.not_lt, ge_iff_le, gt_iff_lt, Nat.not_lt, Nat.not_le, Bool.not_eq_true, Bool.not_eq_false, Bool.true_eq_false, Bool.false_eq_true, not_false_eq_true, not_true_eq_false] at h)
          | exact goes_none.mpr (by omega)
        all_goals first | (exfalso; omega) | exact hm | (exfalso; simp_all; done)
    · cases ev
      · by_cases h2 : 0 ≤ ph ∧ ph ≤ 4
        · rw [if_pos (by simp [h4, h2])]
          show Goes _ _ _
          unfold p13
          repeat' first
            | with_reducible refine goes_if (fun h => ?_) (fun h => ?_) <;> (try simp only [lim64, decide_eq_true_eq, decide_eq_false_iff_not, Int.toNat_natCast, toNat_pred, toNat_succ, Option.getD_some, Option.getD_none, Bool.not_eq_true', Bool.not_eq_false', Bool.and_eq_true, Bool.or_eq_true, Bool.and_eq_false_iff, Bool.or_eq_false_iff, bne_iff_ne, beq_iff_eq, bne_eq_false_iff_eq, beq_eq_false_iff_ne, ne_eq, not_and, Int.not_le, Int.not_lt, ge_iff_le, gt_iff_lt, Nat.not_lt, Nat.not_le, Bool.not_eq_true, Bool.not_eq_false, Bool.true_eq_false, Bool.false_eq_true, not_false_eq_true, not_true_eq_false] at h)
            | exact goes_none.mpr (by omega)
          all_goals first | (exfalso; omega) | exact hm | (exfalso; simp_all; done)
        · rw [if_neg (fun h => h2 h.1)]
          show Goes _ _ _
          unfold p13
          repeat' first
            | with_reducible refine goes_if (fun h => ?_) (fun h => ?_) <;> (try simp only [lim64, decide_eq_true_eq, decide_eq_false_iff_not, Int.toNat_natCast, toNat_pred, toNat_succ, Option.getD_some, Option.getD_none, Bool.not_eq_true', Bool.not_eq_false', Bool.and_eq_true, Bool.or_eq_true, Bool.and_eq_false_iff, Bool.or_eq_false_iff, bne_iff_ne, beq_iff_eq, bne_eq_false_iff_eq, beq_eq_false_iff_ne, ne_eq, not_and, Int.not_le, Int.not_lt, ge_iff_le, gt_iff_lt, Nat.not_lt, Nat.not_le, Bool.not_eq_true, Bool.not_eq_false, Bool.true_eq_false, Bool.false_eq_true, not_false_eq_true, not_true_eq_false] at h)
            | exact goes_none.mpr (by omega)
          all_goals first | (exfalso; omega) | exact goes_inr.mpr rfl | (exfalso; simp_all; done)
      · rw [if_neg (by simp [h4])]
        show Goes _ _ _
        unfold p13
        repeat' first
          | with_reducible refine goes_if (fun h => ?_) (fun h => ?_) <;> (try simp only [lim64, decide_eq_true_eq, decide_eq_false_iff_not, Int.toNat_natCast, toNat_pred, toNat_succ, Option.getD_some, Option.getD_none, Bool.not_eq_true', Bool.not_eq_false', Bool.and_eq_true, Bool.or_eq_true, Bool.and_eq_false_iff, Bool.or_eq_false_iff, bne_iff_ne, beq_iff_eq, bne_eq_false_iff_eq, beq_eq_false_iff_ne, ne_eq, not_and, Int.not_le, Int.not_lt, ge_iff_le, gt_iff_lt, Nat.not_lt, Nat.not_le, Bool.not_eq_true, Bool.not_eq_false, Bool.true_eq_false, Bool.false_eq_true, not_false_eq_true, not_true_eq_false] at h)
          | exact goes_none.mpr (by omega)
        all_goals first | (exfalso; omega) | exact goes_inr.mpr rfl | (exfalso; simp_all; done)
  · rw [if_neg h1]
    show Goes _ _ _
    unfold p13
    repeat' first
      | with_reducible refine goes_if (fun h => ?_) (fun h => ?_) <;> (try simp only [lim64, decide_eq_true_eq, decide_eq_false_iff_not, Int.toNat_natCast, toNat_pred, toNat_succ, Option.getD_some, Option.getD_none, Bool.not_eq_true', Bool.not_eq_false', Bool.and_eq_true, Bool.or_eq_true, Bool.and_eq_false_iff, Bool.or_eq_false_iff, bne_iff_ne, beq_iff_eq, bne_eq_false_iff_eq, beq_eq_false_iff_ne, ne_eq, not_and, Int.not_le, Int.not_lt, ge_iff_le, gt_iff_lt, Nat.not_lt, Nat.not_le, Bool.not_eq_true, Bool.not_eq_false, Bool.true_eq_false, Bool.false_eq_true, not_false_eq_true, not_true_eq_false] at h)
      | exact goes_none.mpr (by omega)
    all_goals first | (exfalso; omega) | exact goes_inr.mpr rfl

theorem k13_ok : k13.ok Try.prog := by
  intro x hx
  obtain ⟨⟨ph, ev, ⟨ap, np, mp, tp, vp, gp, _⟩, _⟩, _⟩ := x
  obtain ⟨h1, h2⟩ := a13 ph ev ap np mp tp vp gp (s13 ph ev ap np mp tp vp gp (of_dec hx rfl))
  exact ⟨⟨400, (by decide : 1 + 1 + 0 ≤ 400), h1⟩, h2⟩
inductive St15 where
  | h0 (x0 : Int)
abbrev Rt15 := Int
noncomputable def V15 (ph : Int) (ev : Bool) (ap np mp : Nat) (tp : Nat → Int) (vp : Nat → Int) (gp : Nat → Int) (r : Rt15) : PV := PV.int IntKind.i64 r
noncomputable def N15 (ph : Int) (ev : Bool) (ap np mp : Nat) (tp : Nat → Int) (vp : Nat → Int) (gp : Nat → Int) (r : Rt15) : List Blk := []
noncomputable def I15 (ph : Int) (ev : Bool) (ap np mp : Nat) (tp : Nat → Int) (vp : Nat → Int) (gp : Nat → Int) : St15 → Hd
  | .h0 x0 => ⟨hd Try.f15 0, [PV.ptr (PA.mk (1) (0) (0) (0)), PV.int IntKind.i64 x0], [[(1, (true, Blk.cells
 [PV.int IntKind.i64 ph, PV.bool ev,
 PV.loose (PA.mk (0) (3) ap (0)) np]))], [(0, (false, .cols mp [.int .i64 tp, .int .i64 vp, .int .i64 gp]))]], 2⟩
noncomputable def q15 (ph : Int) (ev : Bool) (ap np mp : Nat) (tp : Nat → Int) (vp : Nat → Int) (gp : Nat → Int) : St15 → Option (St15 ⊕ Rt15)
  | .h0 x0 => bif (decide (x0 < (↑np : Int)))
 then (bif (decide ((0 : Int) ≤ x0 ∧ x0 < (↑np : Int)))
 then (bif (decide (Int.toNat x0 + ap < mp))
 then (bif (decide (tp (Int.toNat x0 + ap) < (0 : Int)))
 then (some (.inr ((1 : Int))))
 else (bif (decide (tp (Int.toNat x0 + ap) > (7 : Int)))
 then (some (.inr ((1 : Int))))
 else (bif (decide (vp (Int.toNat x0 + ap) < (0 : Int)))
 then (some (.inr ((1 : Int))))
 else (bif (decide (vp (Int.toNat x0 + ap) > (3 : Int)))
 then (some (.inr ((1 : Int))))
 else (bif (decide (gp (Int.toNat x0 + ap) < (0 : Int)))
 then (some (.inr ((1 : Int))))
 else (bif (decide (gp (Int.toNat x0 + ap) > (4 : Int)))
 then (some (.inr ((1 : Int))))
 else (bif (lim IntKind.i64 (x0 + (1 : Int)))
 then (some (.inl (.h0 (x0 + (1 : Int)))))
 else (none))))))))
 else (none))
 else (none))
 else (some (.inr ((0 : Int))))
noncomputable def p15 (ph : Int) (ev : Bool) (ap np mp : Nat) (tp : Nat → Int) (vp : Nat → Int) (gp : Nat → Int) : Option (St15 ⊕ Rt15) := bif (decide ((↑np : Int) < (1 : Int)))
 then (some (.inr ((6 : Int))))
 else (bif (decide ((↑np : Int) > (8 : Int)))
 then (some (.inr ((6 : Int))))
 else (bif (decide (ph < (0 : Int)))
 then (some (.inr ((1 : Int))))
 else (bif (decide (ph ≥ (5 : Int)))
 then (some (.inr ((1 : Int))))
 else (bif (ev)
 then (bif (ph == (4 : Int))
 then (some (.inl (.h0 ((0 : Int)))))
 else (some (.inr ((1 : Int)))))
 else (bif (ph == (4 : Int))
 then (some (.inr ((1 : Int))))
 else (some (.inl (.h0 ((0 : Int))))))))))
noncomputable def Te15 (test : Bool → Prop → Prop → Prop) (Kst : KS) (Kret : KR) (ph : Int) (ev : Bool) (ap np mp : Nat) (tp : Nat → Int) (vp : Nat → Int) (gp : Nat → Int) : Prop :=
  test (decide ((↑np : Int) < (1 : Int)))
 (Kret (PV.int IntKind.i64 (6 : Int)) ([[(0, false,
 Blk.cols mp
 [Col.int IntKind.i64 tp, Col.int IntKind.i64 vp, Col.int IntKind.i64 gp])]]) (2))
 (test (decide ((↑np : Int) > (8 : Int)))
 (Kret (PV.int IntKind.i64 (6 : Int)) ([[(0, false,
 Blk.cols mp
 [Col.int IntKind.i64 tp, Col.int IntKind.i64 vp, Col.int IntKind.i64 gp])]]) (2))
 (test (decide (ph < (0 : Int)))
 (Kret (PV.int IntKind.i64 (1 : Int)) ([[(0, false,
 Blk.cols mp
 [Col.int IntKind.i64 tp, Col.int IntKind.i64 vp, Col.int IntKind.i64 gp])]]) (2))
 (test (decide (ph ≥ (5 : Int)))
 (Kret (PV.int IntKind.i64 (1 : Int)) ([[(0, false,
 Blk.cols mp
 [Col.int IntKind.i64 tp, Col.int IntKind.i64 vp, Col.int IntKind.i64 gp])]]) (2))
 (test (ev)
 (test (ph == (4 : Int))
 (Kst (hd Try.f15 0) ([PV.ptr (PA.mk (1) (0) (0) (0)), PV.int IntKind.i64 (0 : Int)]) ([[(0, false,
 Blk.cols mp
 [Col.int IntKind.i64 tp, Col.int IntKind.i64 vp, Col.int IntKind.i64 gp]),
 (1, true,
 Blk.cells
 [PV.int IntKind.i64 ph, PV.bool ev,
 PV.loose (PA.mk (0) (3) ap (0)) np])]]) (2))
 (Kret (PV.int IntKind.i64 (1 : Int)) ([[(0, false,
 Blk.cols mp
 [Col.int IntKind.i64 tp, Col.int IntKind.i64 vp, Col.int IntKind.i64 gp])]]) (2)))
 (test (ph == (4 : Int))
 (Kret (PV.int IntKind.i64 (1 : Int)) ([[(0, false,
 Blk.cols mp
 [Col.int IntKind.i64 tp, Col.int IntKind.i64 vp, Col.int IntKind.i64 gp])]]) (2))
 (Kst (hd Try.f15 0) ([PV.ptr (PA.mk (1) (0) (0) (0)), PV.int IntKind.i64 (0 : Int)]) ([[(0, false,
 Blk.cols mp
 [Col.int IntKind.i64 tp, Col.int IntKind.i64 vp, Col.int IntKind.i64 gp]),
 (1, true,
 Blk.cells
 [PV.int IntKind.i64 ph, PV.bool ev,
 PV.loose (PA.mk (0) (3) ap (0)) np])]]) (2)))))))
set_option maxRecDepth 100000 in
theorem te15 (test : Bool → Prop → Prop → Prop) (Kst : KS) (Kret : KR) (ph : Int) (ev : Bool) (ap np mp : Nat) (tp : Nat → Int) (vp : Nat → Int) (gp : Nat → Int) : run test Try.env true noX true 400 ⟨15, [.cd (mkFn Try.f15).body], argT 0 [.agg [.int .i64 ph, .bool ev, .loose ⟨0, 3, ap, 0⟩ np]], [[], [(0, (false, .cols mp [.int .i64 tp, .int .i64 vp, .int .i64 gp]))]], 1⟩ (proj 1 [1, 3] Kst Kret) =
  Te15 test Kst Kret ph ev ap np mp tp vp gp := by kernel_rfl
noncomputable def T15_0 (test : Bool → Prop → Prop → Prop) (Kst : KS) (Kret : KR) (ph : Int) (ev : Bool) (ap np mp : Nat) (tp : Nat → Int) (vp : Nat → Int) (gp : Nat → Int) (x0 : Int) : Prop :=
  test (decide (x0 < (↑np : Int)))
 (test (decide ((0 : Int) ≤ x0 ∧ x0 < (↑np : Int)))
 (test (decide (Int.toNat x0 + ap < mp))
 (test (decide (Int.toNat x0 + ap < mp))
 (test (decide (Int.toNat x0 + ap < mp))
 (test (decide (tp (Int.toNat x0 + ap) < (0 : Int)))
 (Kret (PV.int IntKind.i64 (1 : Int)) ([[(0, false,
 Blk.cols mp
 [Col.int IntKind.i64 tp, Col.int IntKind.i64 vp, Col.int IntKind.i64 gp])]]) (3))
 (test (decide (tp (Int.toNat x0 + ap) > (7 : Int)))
 (Kret (PV.int IntKind.i64 (1 : Int)) ([[(0, false,
 Blk.cols mp
 [Col.int IntKind.i64 tp, Col.int IntKind.i64 vp, Col.int IntKind.i64 gp])]]) (3))
 (test (decide (vp (Int.toNat x0 + ap) < (0 : Int)))
 (Kret (PV.int IntKind.i64 (1 : Int)) ([[(0, false,
 Blk.cols mp
 [Col.int IntKind.i64 tp, Col.int IntKind.i64 vp, Col.int IntKind.i64 gp])]]) (3))
 (test (decide (vp (Int.toNat x0 + ap) > (3 : Int)))
 (Kret (PV.int IntKind.i64 (1 : Int)) ([[(0, false,
 Blk.cols mp
 [Col.int IntKind.i64 tp, Col.int IntKind.i64 vp, Col.int IntKind.i64 gp])]]) (3))
 (test (decide (gp (Int.toNat x0 + ap) < (0 : Int)))
 (Kret (PV.int IntKind.i64 (1 : Int)) ([[(0, false,
 Blk.cols mp
 [Col.int IntKind.i64 tp, Col.int IntKind.i64 vp, Col.int IntKind.i64 gp])]]) (3))
 (test (decide (gp (Int.toNat x0 + ap) > (4 : Int)))
 (Kret (PV.int IntKind.i64 (1 : Int)) ([[(0, false,
 Blk.cols mp
 [Col.int IntKind.i64 tp, Col.int IntKind.i64 vp, Col.int IntKind.i64 gp])]]) (3))
 (test (lim IntKind.i64 (x0 + (1 : Int)))
 (Kst (hd Try.f15 0) ([PV.ptr (PA.mk (1) (0) (0) (0)),
 PV.int IntKind.i64 (x0 + (1 : Int))]) ([[(0, false,
 Blk.cols mp
 [Col.int IntKind.i64 tp, Col.int IntKind.i64 vp, Col.int IntKind.i64 gp]),
 (1, true,
 Blk.cells
 [PV.int IntKind.i64 ph, PV.bool ev,
 PV.loose (PA.mk (0) (3) ap (0)) np])]]) (3))
 (False))))))))
 (False))
 (False))
 (False))
 (False))
 (Kret (PV.int IntKind.i64 (0 : Int)) ([[(0, false,
 Blk.cols mp
 [Col.int IntKind.i64 tp, Col.int IntKind.i64 vp, Col.int IntKind.i64 gp])]]) (2))
set_option maxRecDepth 100000 in
theorem t15_0 (test : Bool → Prop → Prop → Prop) (Kst : KS) (Kret : KR) (ph : Int) (ev : Bool) (ap np mp : Nat) (tp : Nat → Int) (vp : Nat → Int) (gp : Nat → Int) (x0 : Int) : run test Try.env true noX true 400 ⟨15, hd Try.f15 0, zipT [1, 3] [PV.ptr (PA.mk (1) (0) (0) (0)), PV.int IntKind.i64 x0], [[(1, (true, Blk.cells
 [PV.int IntKind.i64 ph, PV.bool ev,
 PV.loose (PA.mk (0) (3) ap (0)) np]))], [(0, (false, .cols mp [.int .i64 tp, .int .i64 vp, .int .i64 gp]))]], 2⟩ (proj 1 [1, 3] Kst Kret) =
  T15_0 test Kst Kret ph ev ap np mp tp vp gp x0 := by kernel_rfl
set_option maxRecDepth 100000 in
theorem be15 (ph : Int) (ev : Bool) (ap np mp : Nat) (tp : Nat → Int) (vp : Nat → Int) (gp : Nat → Int) (Kst : KS) (Kret : KR) (x : St15 ⊕ Rt15) (hS : HS 1 400 ((I15 ph ev ap np mp tp vp gp)) Kst x) (hR : HR 1 400 ((V15 ph ev ap np mp tp vp gp)) (fun r => [newL (1 + 1) ((N15 ph ev ap np mp tp vp gp) r) ++ [(0, (false, .cols mp [.int .i64 tp, .int .i64 vp, .int .i64 gp]))]]) Kret x) (h : (bif (decide ((↑np : Int) < (1 : Int)))
 then (some (.inr ((6 : Int))))
 else (bif (decide ((↑np : Int) > (8 : Int)))
 then (some (.inr ((6 : Int))))
 else (bif (decide (ph < (0 : Int)))
 then (some (.inr ((1 : Int))))
 else (bif (decide (ph ≥ (5 : Int)))
 then (some (.inr ((1 : Int))))
 else (bif (ev)
 then (bif (ph == (4 : Int))
 then (some (.inl (.h0 ((0 : Int)))))
 else (some (.inr ((1 : Int)))))
 else (bif (ph == (4 : Int))
 then (some (.inr ((1 : Int))))
 else (some (.inl (.h0 ((0 : Int)))))))))) : Option (St15 ⊕ Rt15)) = some x) : Te15 cond Kst Kret ph ev ap np mp tp vp gp := by
  unfold Te15
  exact bif_split h
   (fun c0 h => ret_at hR _ h (fun n => n) rfl rfl rfl (rn_int rfl) rfl (entl_bor (use_lo rfl) rfl rfl entl_nil))
   (fun c0 h => bif_split h
   (fun c1 h => ret_at hR _ h (fun n => n) rfl rfl rfl (rn_int rfl) rfl (entl_bor (use_lo rfl) rfl rfl entl_nil))
   (fun c1 h => bif_split h
   (fun c2 h => ret_at hR _ h (fun n => n) rfl rfl rfl (rn_int rfl) rfl (entl_bor (use_lo rfl) rfl rfl entl_nil))
   (fun c2 h => bif_split h
   (fun c3 h => ret_at hR _ h (fun n => n) rfl rfl rfl (rn_int rfl) rfl (entl_bor (use_lo rfl) rfl rfl entl_nil))
   (fun c3 h => bif_split h
   (fun c4 h => bif_split h
   (fun c5 h => stop_at hS _ h (fun n => bif Nat.beq n 1 then 1 else n) rfl rfl rfl ⟨(rn_ptr (use_own rfl) rfl rfl), ⟨(rn_int rfl), trivial⟩⟩ rfl (entl_b (use_own rfl) rfl (by simp) (rb_cells ⟨(rn_int rfl), (rn_bool rfl), (rn_loose (use_lo rfl) rfl rfl rfl), trivial⟩) (entl_bor (use_lo rfl) rfl rfl entl_nil)))
   (fun c5 h => ret_at hR _ h (fun n => n) rfl rfl rfl (rn_int rfl) rfl (entl_bor (use_lo rfl) rfl rfl entl_nil)))
   (fun c4 h => bif_split h
   (fun c5 h => ret_at hR _ h (fun n => n) rfl rfl rfl (rn_int rfl) rfl (entl_bor (use_lo rfl) rfl rfl entl_nil))
   (fun c5 h => stop_at hS _ h (fun n => bif Nat.beq n 1 then 1 else n) rfl rfl rfl ⟨(rn_ptr (use_own rfl) rfl rfl), ⟨(rn_int rfl), trivial⟩⟩ rfl (entl_b (use_own rfl) rfl (by simp) (rb_cells ⟨(rn_int rfl), (rn_bool rfl), (rn_loose (use_lo rfl) rfl rfl rfl), trivial⟩) (entl_bor (use_lo rfl) rfl rfl entl_nil))))))))
set_option maxRecDepth 100000 in
theorem b15_0 (ph : Int) (ev : Bool) (ap np mp : Nat) (tp : Nat → Int) (vp : Nat → Int) (gp : Nat → Int) (Kst : KS) (Kret : KR) (x : St15 ⊕ Rt15) (hS : HS 1 400 ((I15 ph ev ap np mp tp vp gp)) Kst x) (hR : HR 1 400 ((V15 ph ev ap np mp tp vp gp)) (fun r => [newL (1 + 1) ((N15 ph ev ap np mp tp vp gp) r) ++ [(0, (false, .cols mp [.int .i64 tp, .int .i64 vp, .int .i64 gp]))]]) Kret x) (x0 : Int) (h : (bif (decide (x0 < (↑np : Int)))
 then (bif (decide ((0 : Int) ≤ x0 ∧ x0 < (↑np : Int)))
 then (bif (decide (Int.toNat x0 + ap < mp))
 then (bif (decide (tp (Int.toNat x0 + ap) < (0 : Int)))
 then (some (.inr ((1 : Int))))
 else (bif (decide (tp (Int.toNat x0 + ap) > (7 : Int)))
 then (some (.inr ((1 : Int))))
 else (bif (decide (vp (Int.toNat x0 + ap) < (0 : Int)))
 then (some (.inr ((1 : Int))))
 else (bif (decide (vp (Int.toNat x0 + ap) > (3 : Int)))
 then (some (.inr ((1 : Int))))
 else (bif (decide (gp (Int.toNat x0 + ap) < (0 : Int)))
 then (some (.inr ((1 : Int))))
 else (bif (decide (gp (Int.toNat x0 + ap) > (4 : Int)))
 then (some (.inr ((1 : Int))))
 else (bif (lim IntKind.i64 (x0 + (1 : Int)))
 then (some (.inl (.h0 (x0 + (1 : Int)))))
 else (none))))))))
 else (none))
 else (none))
 else (some (.inr ((0 : Int)))) : Option (St15 ⊕ Rt15)) = some x) : T15_0 cond Kst Kret ph ev ap np mp tp vp gp x0 := by
  unfold T15_0
  exact bif_split h
   (fun c0 h => bif_split h
   (fun c1 h => bif_split h
   (fun c2 h => cond_yes c2 (cond_yes c2 (bif_split h
   (fun c3 h => ret_at hR _ h (fun n => n) rfl rfl rfl (rn_int rfl) rfl (entl_bor (use_lo rfl) rfl rfl entl_nil))
   (fun c3 h => bif_split h
   (fun c4 h => ret_at hR _ h (fun n => n) rfl rfl rfl (rn_int rfl) rfl (entl_bor (use_lo rfl) rfl rfl entl_nil))
   (fun c4 h => bif_split h
   (fun c5 h => ret_at hR _ h (fun n => n) rfl rfl rfl (rn_int rfl) rfl (entl_bor (use_lo rfl) rfl rfl entl_nil))
   (fun c5 h => bif_split h
   (fun c6 h => ret_at hR _ h (fun n => n) rfl rfl rfl (rn_int rfl) rfl (entl_bor (use_lo rfl) rfl rfl entl_nil))
   (fun c6 h => bif_split h
   (fun c7 h => ret_at hR _ h (fun n => n) rfl rfl rfl (rn_int rfl) rfl (entl_bor (use_lo rfl) rfl rfl entl_nil))
   (fun c7 h => bif_split h
   (fun c8 h => ret_at hR _ h (fun n => n) rfl rfl rfl (rn_int rfl) rfl (entl_bor (use_lo rfl) rfl rfl entl_nil))
   (fun c8 h => bif_split h
   (fun c9 h => stop_at hS _ h (fun n => bif Nat.beq n 1 then 1 else n) rfl rfl rfl ⟨(rn_ptr (use_own rfl) rfl rfl), ⟨(rn_int rfl), trivial⟩⟩ rfl (entl_b (use_own rfl) rfl (by simp) (rb_cells ⟨(rn_int rfl), (rn_bool rfl), (rn_loose (use_lo rfl) rfl rfl rfl), trivial⟩) (entl_bor (use_lo rfl) rfl rfl entl_nil)))
   (fun c9 h => no_some h))))))))))
   (fun c2 h => no_some h))
   (fun c1 h => no_some h))
   (fun c0 h => ret_at hR _ h (fun n => n) rfl rfl rfl (rn_int rfl) rfl (entl_bor (use_lo rfl) rfl rfl entl_nil))
theorem a15 (ph : Int) (ev : Bool) (ap np mp : Nat) (tp : Nat → Int) (vp : Nat → Int) (gp : Nat → Int) {r : Rt15} (h : Goes ((q15 ph ev ap np mp tp vp gp)) ((p15 ph ev ap np mp tp vp gp)) r) : CallR Try.prog 15 [.agg [.int .i64 ph, .bool ev, .loose ⟨0, 3, ap, 0⟩ np]] [[(0, (false, .cols mp [.int .i64 tp, .int .i64 vp, .int .i64 gp]))]] 1 ((V15 ph ev ap np mp tp vp gp) r) ((fun r => [newL (1 + 1) ((N15 ph ev ap np mp tp vp gp) r) ++ [(0, (false, .cols mp [.int .i64 tp, .int .i64 vp, .int .i64 gp]))]]) r) 400 ∧ ∃ F, Try.prog.funcs[15]? = some F ∧ F.body.isSome = true ∧ (F.name == "runtime.NumGoroutine") = false := by
  refine dec_calls (f := 15) (lo := 1) (hi := 400) (H := [[(0, (false, .cols mp [.int .i64 tp, .int .i64 vp, .int .i64 gp]))]]) (args := [.agg [.int .i64 ph, .bool ev, .loose ⟨0, 3, ap, 0⟩ np]]) Try.envOk Try.mixed noX_ok ((I15 ph ev ap np mp tp vp gp)) ((V15 ph ev ap np mp tp vp gp)) (fun r => [newL (1 + 1) ((N15 ph ev ap np mp tp vp gp) r) ++ [(0, (false, .cols mp [.int .i64 tp, .int .i64 vp, .int .i64 gp]))]]) (fn := mkFn Try.f15) (ts := [1, 3]) (n := 400) rfl (by decide) (by simp) (names_of rfl) ?_ ?_ ?_ h
  · intro s; cases s <;> exact ⟨hd_ok _ _, by simp [I15], names_of rfl, Nat.le_of_ble_eq_true rfl⟩
  · intro Kst Kret x hS hR h
    exact Holds.eq (te15 cond Kst Kret ph ev ap np mp tp vp gp) (be15 ph ev ap np mp tp vp gp Kst Kret x hS hR h)
  · intro Kst Kret x hS hR s h
    cases s with
    | h0 x0 => exact Holds.eq (t15_0 cond Kst Kret ph ev ap np mp tp vp gp x0) (b15_0 ph ev ap np mp tp vp gp Kst Kret x hS hR x0 h)
noncomputable def k15 : Con := ⟨15, [.agg [.plain (.int .i64), .plain (.bool), .list [.int .i64, .int .i64, .int .i64]]], fun (x : (Int × Bool × (Nat × Nat × Nat × (Nat → Int) × (Nat → Int) × (Nat → Int) × Unit) × Unit) × Unit) => (fun (ph : Int) (ev : Bool) (ap np mp : Nat) (tp : Nat → Int) (vp : Nat → Int) (gp : Nat → Int) => decide (ap + np ≤ mp ∧ np ≤ 1000000)) x.1.1 x.1.2.1 x.1.2.2.1.1 x.1.2.2.1.2.1 x.1.2.2.1.2.2.1 x.1.2.2.1.2.2.2.1 x.1.2.2.1.2.2.2.2.1 x.1.2.2.1.2.2.2.2.2.1, fun (x : (Int × Bool × (Nat × Nat × Nat × (Nat → Int) × (Nat → Int) × (Nat → Int) × Unit) × Unit) × Unit) => (fun (ph : Int) (ev : Bool) (ap np mp : Nat) (tp : Nat → Int) (vp : Nat → Int) (gp : Nat → Int) => (V15 ph ev ap np mp tp vp gp) (S.traE ph ev np (fun q => tp (q + ap)) (fun q => vp (q + ap)) (fun q => gp (q + ap)))) x.1.1 x.1.2.1 x.1.2.2.1.1 x.1.2.2.1.2.1 x.1.2.2.1.2.2.1 x.1.2.2.1.2.2.2.1 x.1.2.2.1.2.2.2.2.1 x.1.2.2.1.2.2.2.2.2.1, fun (x : (Int × Bool × (Nat × Nat × Nat × (Nat → Int) × (Nat → Int) × (Nat → Int) × Unit) × Unit) × Unit) => (fun (ph : Int) (ev : Bool) (ap np mp : Nat) (tp : Nat → Int) (vp : Nat → Int) (gp : Nat → Int) => (N15 ph ev ap np mp tp vp gp) (S.traE ph ev np (fun q => tp (q + ap)) (fun q => vp (q + ap)) (fun q => gp (q + ap)))) x.1.1 x.1.2.1 x.1.2.2.1.1 x.1.2.2.1.2.1 x.1.2.2.1.2.2.1 x.1.2.2.1.2.2.2.1 x.1.2.2.1.2.2.2.2.1 x.1.2.2.1.2.2.2.2.2.1, fun _ _ => .dead⟩
theorem s15' (ph : Int) (ev : Bool) (ap np mp : Nat) (tp : Nat → Int) (vp : Nat → Int) (gp : Nat → Int) (hp : ap + np ≤ mp ∧ np ≤ 1000000) (hn : np ≤ 8) : ∀ k i : Nat, i + k = np → Comes (q15 ph ev ap np mp tp vp gp) (.h0 (i : Int)) (S.ptyK (fun q => tp (q + ap)) (fun q => vp (q + ap)) (fun q => gp (q + ap)) i k) := by
  obtain ⟨hp1, hp2⟩ := hp
  intro k
  induction k with
  | zero =>
    intro i hi
    apply Comes.of
    show Goes _ _ _
    (first | rw [q15] | unfold q15)
    repeat' first
      | with_reducible refine goes_if (fun h => ?_) (fun h => ?_) <;> (try simp only [lim64, decide_eq_true_eq, decide_eq_false_iff_not, Int.toNat_natCast, toNat_pred, toNat_succ, Option.getD_some, Option.getD_none, Bool.not_eq_true', Bool.not_eq_false', Bool.and_eq_true, Bool.or_eq_true, Bool.and_eq_false_iff, Bool.or_eq_false_iff, bne_iff_ne, beq_iff_eq, bne_eq_false_iff_eq, beq_eq_false_iff_ne, ne_eq, not_and, Int.not_le, Int.not_lt, ge_iff_le, gt_iff_lt, Nat.not_lt, Nat.not_le, Bool.not_eq_true, Bool.not_eq_false, Bool.true_eq_false, Bool.false_eq_true, not_false_eq_true, not_true_eq_false] at h)
      | exact goes_none.mpr (by omega)
    all_goals first | (exfalso; omega) | exact goes_inr.mpr rfl
  | succ k ih =>
    intro i hi
    have ih := ih (i + 1) (by omega)
    have e : S.ptyK (fun q => tp (q + ap)) (fun q => vp (q + ap)) (fun q => gp (q + ap)) i (k + 1) = if S.ptyB (tp (i + ap)) (vp (i + ap)) (gp (i + ap)) = true then S.ptyK (fun q => tp (q + ap)) (fun q => vp (q + ap)) (fun q => gp (q + ap)) (i + 1) k else 1 := rfl
    rw [e]
    simp only [S.ptyB, decide_eq_true_eq]
    apply Comes.of
    show Goes _ _ _
    (first | rw [q15] | unfold q15)
    repeat' first
      | with_reducible refine goes_if (fun h => ?_) (fun h => ?_) <;> (try simp only [lim64, decide_eq_true_eq, decide_eq_false_iff_not, Int.toNat_natCast, toNat_pred, toNat_succ, Option.getD_some, Option.getD_none, Bool.not_eq_true', Bool.not_eq_false', Bool.and_eq_true, Bool.or_eq_true, Bool.and_eq_false_iff, Bool.or_eq_false_iff, bne_iff_ne, beq_iff_eq, bne_eq_false_iff_eq, beq_eq_false_iff_ne, ne_eq, not_and, Int.not_le, Int.not_lt, ge_iff_le, gt_iff_lt, Nat.not_lt, Nat.not_le, Bool.not_eq_true, Bool.not_eq_false, Bool.true_eq_false, Bool.false_eq_true, not_false_eq_true, not_true_eq_false] at h)
      | exact goes_none.mpr (by omega)
    all_goals first
      | (exfalso; omega)
      | (rw [if_pos (by omega)]; exact ih)
      | (rw [if_neg (by omega)]; exact goes_inr.mpr rfl)
theorem s15 (ph : Int) (ev : Bool) (ap np mp : Nat) (tp : Nat → Int) (vp : Nat → Int) (gp : Nat → Int) (hp : ap + np ≤ mp ∧ np ≤ 1000000) : Goes ((q15 ph ev ap np mp tp vp gp)) ((p15 ph ev ap np mp tp vp gp)) (S.traE ph ev np (fun q => tp (q + ap)) (fun q => vp (q + ap)) (fun q => gp (q + ap))) := by
  unfold S.traE
  by_cases h1 : 1 ≤ np ∧ np ≤ 8
  · rw [if_pos h1]
    have hm := s15' ph ev ap np mp tp vp gp hp h1.2 np 0 (by omega)
    by_cases h4 : ph = 4
    · cases ev
      · rw [if_neg (by simp [h4])]
        show Goes _ _ _
        unfold p15
        repeat' first
          | with_reducible refine goes_if (fun h => ?_) (fun h => ?_) <;> (try simp only [lim64, decide_eq_true_eq, decide_eq_false_iff_not, Int.toNat_natCast, toNat_pred, toNat_succ, Option.getD_some, Option.getD_none, Bool.not_eq_true', Bool.not_eq_false', Bool.and_eq_true, Bool.or_eq_true, Bool.and_eq_false_iff, Bool.or_eq_false_iff, bne_iff_ne, beq_iff_eq, bne_eq_false_iff_eq, beq_eq_false_iff_ne, ne_eq, not_and, Int.not_le, Int.not_lt, ge_iff_le, gt_iff_lt, Nat.not_lt, Nat.not_le, Bool.not_eq_true, Bool.not_eq_false, Bool.true_eq_false, Bool.false_eq_true, not_false_eq_true, not_true_eq_false] at h)
          | exact goes_none.mpr (by omega)
        all_goals first | (exfalso; omega) | exact goes_inr.mpr rfl | (exfalso; simp_all; done)
      · rw [if_pos (by simp [h4])]
        show Goes _ _ _
        unfold p15
        repeat' first
          | with_reducible refine goes_if (fun h => ?_) (fun h => ?_) <;> (try simp only [lim64, decide_eq_true_eq, decide_eq_false_iff_not, Int.toNat_natCast, toNat_pred, toNat_succ, Option.getD_some, Option.getD_none, Bool.not_eq_true', Bool.not_eq_false', Bool.and_eq_true, Bool.or_eq_true, Bool.and_eq_false_iff, Bool.or_eq_false_iff, bne_iff_ne, beq_iff_eq, bne_eq_false_iff_eq, beq_eq_false_iff_ne, ne_eq, not_and, Int.not_le, Int.not_lt, ge_iff_le, gt_iff_lt, Nat.not_lt, Nat.not_le, Bool.not_eq_true, Bool.not_eq_false, Bool.true_eq_false, Bool.false_eq_true, not_false_eq_true, not_true_eq_false] at h)
          | exact goes_none.mpr (by omega)
        all_goals first | (exfalso; omega) | exact hm | (exfalso; simp_all; done)
    · cases ev
      · by_cases h2 : 0 ≤ ph ∧ ph ≤ 4
        · rw [if_pos (by simp [h4, h2])]
          show Goes _ _ _
          unfold p15
          repeat' first
            | with_reducible refine goes_if (fun h => ?_) (fun h => ?_) <;> (try simp only [lim64, decide_eq_true_eq, decide_eq_false_iff_not, Int.toNat_natCast, toNat_pred, toNat_succ, Option.getD_some, Option.getD_none, Bool.not_eq_true', Bool.not_eq_false', Bool.and_eq_true, Bool.or_eq_true, Bool.and_eq_false_iff, Bool.or_eq_false_iff, bne_iff_ne, beq_iff_eq, bne_eq_false_iff_eq, beq_eq_false_iff_ne, ne_eq, not_and, Int.not_le, Int.not_lt, ge_iff_le, gt_iff_lt, Nat.not_lt, Nat.not_le, Bool.not_eq_true, Bool.not_eq_false, Bool.true_eq_false, Bool.false_eq_true, not_false_eq_true, not_true_eq_false] at h)
            | exact goes_none.mpr (by omega)
          all_goals first | (exfalso; omega) | exact hm | (exfalso; simp_all; done)
        · rw [if_neg (fun h => h2 h.1)]
          show Goes _ _ _
          unfold p15
          repeat' first
            | with_reducible refine goes_if (fun h => ?_) (fun h => ?_) <;> (try simp only [lim64, decide_eq_true_eq, decide_eq_false_iff_not, Int.toNat_natCast, toNat_pred, toNat_succ, Option.getD_some, Option.getD_none, Bool.not_eq_true', Bool.not_eq_false', Bool.and_eq_true, Bool.or_eq_true, Bool.and_eq_false_iff, Bool.or_eq_false_iff, bne_iff_ne, beq_iff_eq, bne_eq_false_iff_eq, beq_eq_false_iff_ne, ne_eq, not_and, Int.not_le, Int.not_lt, ge_iff_le, gt_iff_lt, Nat.not_lt, Nat.not_le, Bool.not_eq_true, Bool.not_eq_false, Bool.true_eq_false, Bool.false_eq_true, not_false_eq_true, not_true_eq_false] at h)
            | exact goes_none.mpr (by omega)
          all_goals first | (exfalso; omega) | exact goes_inr.mpr rfl | (exfalso; simp_all; done)
      · rw [if_neg (by simp [h4])]
        show Goes _ _ _
        unfold p15
        repeat' first
          | with_reducible refine goes_if (fun h => ?_) (fun h => ?_) <;> (try simp only [lim64, decide_eq_true_eq, decide_eq_false_iff_not, Int.toNat_natCast, toNat_pred, toNat_succ, Option.getD_some, Option.getD_none, Bool.not_eq_true', Bool.not_eq_false', Bool.and_eq_true, Bool.or_eq_true, Bool.and_eq_false_iff, Bool.or_eq_false_iff, bne_iff_ne, beq_iff_eq, bne_eq_false_iff_eq, beq_eq_false_iff_ne, ne_eq, not_and, Int.not_le, Int.not_lt, ge_iff_le, gt_iff_lt, Nat.not_lt, Nat.not_le, Bool.not_eq_true, Bool.not_eq_false, Bool.true_eq_false, Bool.false_eq_true, not_false_eq_true, not_true_eq_false] at h)
          | exact goes_none.mpr (by omega)
        all_goals first | (exfalso; omega) | exact goes_inr.mpr rfl | (exfalso; simp_all; done)
  · rw [if_neg h1]
    show Goes _ _ _
    unfold p15
    repeat' first
      | with_reducible refine goes_if (fun h => ?_) (fun h => ?_) <;> (try simp only [lim64, decide_eq_true_eq, decide_eq_false_iff_not, Int.toNat_natCast, toNat_pred, toNat_succ, Option.getD_some, Option.getD_none, Bool.not_eq_true', Bool.not_eq_false', Bool.and_eq_true, Bool.or_eq_true, Bool.and_eq_false_iff, Bool.or_eq_false_iff, bne_iff_ne, beq_iff_eq, bne_eq_false_iff_eq, beq_eq_false_iff_ne, ne_eq, not_and, Int.not_le, Int.not_lt, ge_iff_le, gt_iff_lt, Nat.not_lt, Nat.not_le, Bool.not_eq_true, Bool.not_eq_false, Bool.true_eq_false, Bool.false_eq_true, not_false_eq_true, not_true_eq_false] at h)
      | exact goes_none.mpr (by omega)
    all_goals first | (exfalso; omega) | exact goes_inr.mpr rfl

theorem k15_ok : k15.ok Try.prog := by
  intro x hx
  obtain ⟨⟨ph, ev, ⟨ap, np, mp, tp, vp, gp, _⟩, _⟩, _⟩ := x
  obtain ⟨h1, h2⟩ := a15 ph ev ap np mp tp vp gp (s15 ph ev ap np mp tp vp gp (of_dec hx rfl))
  exact ⟨⟨400, (by decide : 1 + 1 + 0 ≤ 400), h1⟩, h2⟩

end Go.Ev
