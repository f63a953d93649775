/-
  Bad.
-/
import Derived.Test.YtjkdcbkgfjdoeaaB1
namespace Go.Ev
open Go.Proofs
set_option linter.unusedVariables false
set_option linter.unusedSimpArgs false
set_option maxRecDepth 100000
theorem any_succ {p : Nat → Bool} {n : Nat} : S.any p (n + 1) = (S.any p n || p n) := by simp [S.any, List.range_succ]
abbrev St19 := Empty
abbrev Rt19 := Bool
noncomputable def V19 (ph : Int) (ev : Bool) (ap np mp : Nat) (tp : Nat → Int) (vp : Nat → Int) (gp : Nat → Int) (r : Rt19) : PV := PV.bool r
noncomputable def N19 (ph : Int) (ev : Bool) (ap np mp : Nat) (tp : Nat → Int) (vp : Nat → Int) (gp : Nat → Int) (r : Rt19) : List Blk := []
noncomputable def I19 (ph : Int) (ev : Bool) (ap np mp : Nat) (tp : Nat → Int) (vp : Nat → Int) (gp : Nat → Int) : St19 → Hd := fun s => s.elim
noncomputable def q19 (ph : Int) (ev : Bool) (ap np mp : Nat) (tp : Nat → Int) (vp : Nat → Int) (gp : Nat → Int) : St19 → Option (St19 ⊕ Rt19) := fun s => s.elim
noncomputable def p19 (ph : Int) (ev : Bool) (ap np mp : Nat) (tp : Nat → Int) (vp : Nat → Int) (gp : Nat → Int) : Option (St19 ⊕ Rt19) := bif (decide (ap + np ≤ mp ∧ np ≤ 1000000))
 then (bif ((S.traE ph ev np (fun (q : Nat) => tp (q + ap)) (fun (q : Nat) => vp (q + ap)) fun (q : Nat) => gp (q + ap)) ==
 (0 : Int))
 then (bif (S.any (fun (j : Nat) => decide (tp (j + ap) = (4 : Int))) np)
 then (bif (S.any (fun (j : Nat) => decide (tp (j + ap) = (3 : Int))) np)
 then (some (.inr (true)))
 else (some (.inr (false))))
 else (some (.inr (false))))
 else (some (.inr (false))))
 else (none)
noncomputable def Te19 (test : Bool → Prop → Prop → Prop) (Kst : KS) (Kret : KR) (ph : Int) (ev : Bool) (ap np mp : Nat) (tp : Nat → Int) (vp : Nat → Int) (gp : Nat → Int) : Prop :=
  test (decide (ap + np ≤ mp ∧ np ≤ 1000000))
 (test ((S.traE ph ev np (fun (q : Nat) => tp (q + ap)) (fun (q : Nat) => vp (q + ap)) fun (q : Nat) => gp (q + ap)) ==
 (0 : Int))
 (test (decide (ap + np ≤ mp ∧ np ≤ 1000000))
 (test (S.any (fun (j : Nat) => decide (tp (j + ap) = (4 : Int))) np)
 (test (decide (ap + np ≤ mp ∧ np ≤ 1000000))
 (test (S.any (fun (j : Nat) => decide (tp (j + ap) = (3 : Int))) np)
 (Kret (PV.tf true) ([[(0, false,
 Blk.cols mp
 [Col.int IntKind.i64 tp, Col.int IntKind.i64 vp, Col.int IntKind.i64 gp])]]) (7))
 (Kret (PV.tf false) ([[(0, false,
 Blk.cols mp
 [Col.int IntKind.i64 tp, Col.int IntKind.i64 vp, Col.int IntKind.i64 gp])]]) (7)))
 (False))
 (Kret (PV.tf false) ([[(0, false,
 Blk.cols mp
 [Col.int IntKind.i64 tp, Col.int IntKind.i64 vp, Col.int IntKind.i64 gp])]]) (5)))
 (False))
 (Kret (PV.tf false) ([[(0, false,
 Blk.cols mp
 [Col.int IntKind.i64 tp, Col.int IntKind.i64 vp, Col.int IntKind.i64 gp])]]) (3)))
 (False)
set_option maxRecDepth 100000 in
theorem te19 (test : Bool → Prop → Prop → Prop) (Kst : KS) (Kret : KR) (ph : Int) (ev : Bool) (ap np mp : Nat) (tp : Nat → Int) (vp : Nat → Int) (gp : Nat → Int) : run test Try.env true (xC test) true 400 ⟨19, [.cd (mkFn Try.f19).body], argT 0 [.agg [.int .i64 ph, .bool ev, .loose ⟨0, 3, ap, 0⟩ np]], [[], [(0, (false, .cols mp [.int .i64 tp, .int .i64 vp, .int .i64 gp]))]], 1⟩ (proj 1 [] Kst Kret) =
  Te19 test Kst Kret ph ev ap np mp tp vp gp := by kernel_rfl
set_option maxRecDepth 100000 in
theorem be19 (ph : Int) (ev : Bool) (ap np mp : Nat) (tp : Nat → Int) (vp : Nat → Int) (gp : Nat → Int) (Kst : KS) (Kret : KR) (x : St19 ⊕ Rt19) (hS : HS 1 400 ((I19 ph ev ap np mp tp vp gp)) Kst x) (hR : HR 1 400 ((V19 ph ev ap np mp tp vp gp)) (fun r => [newL (1 + 1) ((N19 ph ev ap np mp tp vp gp) r) ++ [(0, (false, .cols mp [.int .i64 tp, .int .i64 vp, .int .i64 gp]))]]) Kret x) (h : (bif (decide (ap + np ≤ mp ∧ np ≤ 1000000))
 then (bif ((S.traE ph ev np (fun (q : Nat) => tp (q + ap)) (fun (q : Nat) => vp (q + ap)) fun (q : Nat) => gp (q + ap)) ==
 (0 : Int))
 then (bif (S.any (fun (j : Nat) => decide (tp (j + ap) = (4 : Int))) np)
 then (bif (S.any (fun (j : Nat) => decide (tp (j + ap) = (3 : Int))) np)
 then (some (.inr (true)))
 else (some (.inr (false))))
 else (some (.inr (false))))
 else (some (.inr (false))))
 else (none) : Option (St19 ⊕ Rt19)) = some x) : Te19 cond Kst Kret ph ev ap np mp tp vp gp := by
  unfold Te19
  exact bif_split h
   (fun c0 h => bif_split h
   (fun c1 h => cond_yes c0 (bif_split h
   (fun c2 h => cond_yes c0 (bif_split h
   (fun c3 h => ret_at hR _ h (fun n => n) rfl rfl rfl (rn_bool_tf rfl) rfl (entl_bor (use_lo rfl) rfl rfl entl_nil))
   (fun c3 h => ret_at hR _ h (fun n => n) rfl rfl rfl (rn_bool_tf rfl) rfl (entl_bor (use_lo rfl) rfl rfl entl_nil))))
   (fun c2 h => ret_at hR _ h (fun n => n) rfl rfl rfl (rn_bool_tf rfl) rfl (entl_bor (use_lo rfl) rfl rfl entl_nil))))
   (fun c1 h => ret_at hR _ h (fun n => n) rfl rfl rfl (rn_bool_tf rfl) rfl (entl_bor (use_lo rfl) rfl rfl entl_nil)))
   (fun c0 h => no_some h)
theorem a19 (ph : Int) (ev : Bool) (ap np mp : Nat) (tp : Nat → Int) (vp : Nat → Int) (gp : Nat → Int) {r : Rt19} (h : Goes ((q19 ph ev ap np mp tp vp gp)) ((p19 ph ev ap np mp tp vp gp)) r) : CallR Try.prog 19 [.agg [.int .i64 ph, .bool ev, .loose ⟨0, 3, ap, 0⟩ np]] [[(0, (false, .cols mp [.int .i64 tp, .int .i64 vp, .int .i64 gp]))]] 1 ((V19 ph ev ap np mp tp vp gp) r) ((fun r => [newL (1 + 1) ((N19 ph ev ap np mp tp vp gp) r) ++ [(0, (false, .cols mp [.int .i64 tp, .int .i64 vp, .int .i64 gp]))]]) r) 400 ∧ ∃ F, Try.prog.funcs[19]? = some F ∧ F.body.isSome = true ∧ (F.name == "runtime.NumGoroutine") = false := by
  refine dec_calls (f := 19) (lo := 1) (hi := 400) (H := [[(0, (false, .cols mp [.int .i64 tp, .int .i64 vp, .int .i64 gp]))]]) (args := [.agg [.int .i64 ph, .bool ev, .loose ⟨0, 3, ap, 0⟩ np]]) Try.envOk Try.mixed xC_ok ((I19 ph ev ap np mp tp vp gp)) ((V19 ph ev ap np mp tp vp gp)) (fun r => [newL (1 + 1) ((N19 ph ev ap np mp tp vp gp) r) ++ [(0, (false, .cols mp [.int .i64 tp, .int .i64 vp, .int .i64 gp]))]]) (fn := mkFn Try.f19) (ts := []) (n := 400) rfl (by decide) (by simp) (names_of rfl) ?_ ?_ ?_ h
  · intro s; exact s.elim
  · intro Kst Kret x hS hR h
    exact Holds.eq (te19 cond Kst Kret ph ev ap np mp tp vp gp) (be19 ph ev ap np mp tp vp gp Kst Kret x hS hR h)
  · intro Kst Kret x hS hR s h; exact s.elim
noncomputable def k19 : Con := ⟨19, [.agg [.plain (.int .i64), .plain (.bool), .list [.int .i64, .int .i64, .int .i64]]], fun (x : (Int × Bool × (Nat × Nat × Nat × (Nat → Int) × (Nat → Int) × (Nat → Int) × Unit) × Unit) × Unit) => (fun (ph : Int) (ev : Bool) (ap np mp : Nat) (tp : Nat → Int) (vp : Nat → Int) (gp : Nat → Int) => decide (ap + np ≤ mp ∧ np ≤ 1000000)) x.1.1 x.1.2.1 x.1.2.2.1.1 x.1.2.2.1.2.1 x.1.2.2.1.2.2.1 x.1.2.2.1.2.2.2.1 x.1.2.2.1.2.2.2.2.1 x.1.2.2.1.2.2.2.2.2.1, fun (x : (Int × Bool × (Nat × Nat × Nat × (Nat → Int) × (Nat → Int) × (Nat → Int) × Unit) × Unit) × Unit) => (fun (ph : Int) (ev : Bool) (ap np mp : Nat) (tp : Nat → Int) (vp : Nat → Int) (gp : Nat → Int) => (V19 ph ev ap np mp tp vp gp) (S.badB ph ev np (fun q => tp (q + ap)) (fun q => vp (q + ap)) (fun q => gp (q + ap)))) x.1.1 x.1.2.1 x.1.2.2.1.1 x.1.2.2.1.2.1 x.1.2.2.1.2.2.1 x.1.2.2.1.2.2.2.1 x.1.2.2.1.2.2.2.2.1 x.1.2.2.1.2.2.2.2.2.1, fun (x : (Int × Bool × (Nat × Nat × Nat × (Nat → Int) × (Nat → Int) × (Nat → Int) × Unit) × Unit) × Unit) => (fun (ph : Int) (ev : Bool) (ap np mp : Nat) (tp : Nat → Int) (vp : Nat → Int) (gp : Nat → Int) => (N19 ph ev ap np mp tp vp gp) (S.badB ph ev np (fun q => tp (q + ap)) (fun q => vp (q + ap)) (fun q => gp (q + ap)))) x.1.1 x.1.2.1 x.1.2.2.1.1 x.1.2.2.1.2.1 x.1.2.2.1.2.2.1 x.1.2.2.1.2.2.2.1 x.1.2.2.1.2.2.2.2.1 x.1.2.2.1.2.2.2.2.2.1, fun _ _ => .dead⟩
theorem s19 (ph : Int) (ev : Bool) (ap np mp : Nat) (tp : Nat → Int) (vp : Nat → Int) (gp : Nat → Int) (hp : ap + np ≤ mp ∧ np ≤ 1000000) : Goes ((q19 ph ev ap np mp tp vp gp)) ((p19 ph ev ap np mp tp vp gp)) (S.badB ph ev np (fun q => tp (q + ap)) (fun q => vp (q + ap)) (fun q => gp (q + ap))) := by
  unfold S.badB
  have e1 : S.any (fun q => decide ((fun q => tp (q + ap)) q = 4)) np = S.any (fun q => decide (tp (q + ap) = 4)) np := rfl
  have e2 : S.any (fun q => decide ((fun q => tp (q + ap)) q = 3)) np = S.any (fun q => decide (tp (q + ap) = 3)) np := rfl
  rw [e1, e2]
  unfold p19
  generalize S.any (fun q => decide (tp (q + ap) = 4)) np = B4
  generalize S.any (fun q => decide (tp (q + ap) = 3)) np = B3
  generalize S.traE ph ev np (fun q => tp (q + ap)) (fun q => vp (q + ap)) (fun q => gp (q + ap)) = E
  cases B4 <;> cases B3 <;> (by_cases h0 : E = 0) <;> (show Goes _ _ _) <;> (repeat' first
    | with_reducible refine goes_if (fun h => ?_) (fun h => ?_) <;> (try simp only [lim64, decide_eq_true_eq, decide_eq_false_iff_not, Int.toNat_natCast, toNat_pred, toNat_succ, Option.getD_some, Option.getD_none, Bool.not_eq_true', Bool.not_eq_false', Bool.and_eq_true, Bool.or_eq_true, Bool.and_eq_false_iff, Bool.or_eq_false_iff, bne_iff_ne, beq_iff_eq, bne_eq_false_iff_eq, beq_eq_false_iff_ne, ne_eq, not_and, Int.not_le, Int.not_lt, ge_iff_le, gt_iff_lt, Nat.not_lt, Nat.not_le, Bool.not_eq_true, Bool.not_eq_false, Bool.true_eq_false, Bool.false_eq_true, not_false_eq_true, not_true_eq_false] at h)
    | exact goes_none.mpr (by omega)) <;> first | (exfalso; omega) | (refine goes_inr.mpr ?_; simp [h0]) | (exfalso; simp_all; done)

theorem k19_ok : k19.ok Try.prog := by
  intro x hx
  obtain ⟨⟨ph, ev, ⟨ap, np, mp, tp, vp, gp, _⟩, _⟩, _⟩ := x
  obtain ⟨h1, h2⟩ := a19 ph ev ap np mp tp vp gp (s19 ph ev ap np mp tp vp gp (of_dec hx rfl))
  exact ⟨⟨400, (by decide : 1 + 1 + 0 ≤ 400), h1⟩, h2⟩
inductive St20 where
  | h0 (x0 : Bool) (x1 : Bool) (x2 : Int)
abbrev Rt20 := Bool
noncomputable def V20 (ph : Int) (ev : Bool) (ap np mp : Nat) (tp : Nat → Int) (vp : Nat → Int) (gp : Nat → Int) (r : Rt20) : PV := PV.bool r
noncomputable def N20 (ph : Int) (ev : Bool) (ap np mp : Nat) (tp : Nat → Int) (vp : Nat → Int) (gp : Nat → Int) (r : Rt20) : List Blk := []
noncomputable def I20 (ph : Int) (ev : Bool) (ap np mp : Nat) (tp : Nat → Int) (vp : Nat → Int) (gp : Nat → Int) : St20 → Hd
  | .h0 x0 x1 x2 => ⟨hd Try.f20 0, [PV.ptr (PA.mk (1) (0) (0) (0)), PV.bool x0, PV.bool x1,
 PV.int IntKind.i64 x2], [[(1, (true, Blk.cells
 [PV.int IntKind.i64 ph, PV.bool ev,
 PV.loose (PA.mk (0) (3) ap (0)) np]))], [(0, (false, .cols mp [.int .i64 tp, .int .i64 vp, .int .i64 gp]))]], 2⟩
noncomputable def q20 (ph : Int) (ev : Bool) (ap np mp : Nat) (tp : Nat → Int) (vp : Nat → Int) (gp : Nat → Int) : St20 → Option (St20 ⊕ Rt20)
  | .h0 x0 x1 x2 => bif (decide (x2 < (↑np : Int)))
 then (bif (x0)
 then (bif (x1)
 then (bif (lim IntKind.i64 (x2 + (1 : Int)))
 then (some (.inl (.h0 (true) (true) (x2 + (1 : Int)))))
 else (none))
 else (bif (decide ((0 : Int) ≤ x2 ∧ x2 < (↑np : Int)))
 then (bif (decide (Int.toNat x2 + ap < mp))
 then (bif (tp (Int.toNat x2 + ap) == (3 : Int))
 then (bif (lim IntKind.i64 (x2 + (1 : Int)))
 then (some (.inl (.h0 (true) (true) (x2 + (1 : Int)))))
 else (none))
 else (bif (lim IntKind.i64 (x2 + (1 : Int)))
 then (some (.inl (.h0 (true) (false) (x2 + (1 : Int)))))
 else (none)))
 else (none))
 else (none)))
 else (bif (decide ((0 : Int) ≤ x2 ∧ x2 < (↑np : Int)))
 then (bif (decide (Int.toNat x2 + ap < mp))
 then (bif (tp (Int.toNat x2 + ap) == (4 : Int))
 then (bif (x1)
 then (bif (lim IntKind.i64 (x2 + (1 : Int)))
 then (some (.inl (.h0 (true) (true) (x2 + (1 : Int)))))
 else (none))
 else (bif (tp (Int.toNat x2 + ap) == (3 : Int))
 then (bif (lim IntKind.i64 (x2 + (1 : Int)))
 then (some (.inl (.h0 (true) (true) (x2 + (1 : Int)))))
 else (none))
 else (bif (lim IntKind.i64 (x2 + (1 : Int)))
 then (some (.inl (.h0 (true) (false) (x2 + (1 : Int)))))
 else (none))))
 else (bif (x1)
 then (bif (lim IntKind.i64 (x2 + (1 : Int)))
 then (some (.inl (.h0 (false) (true) (x2 + (1 : Int)))))
 else (none))
 else (bif (tp (Int.toNat x2 + ap) == (3 : Int))
 then (bif (lim IntKind.i64 (x2 + (1 : Int)))
 then (some (.inl (.h0 (false) (true) (x2 + (1 : Int)))))
 else (none))
 else (bif (lim IntKind.i64 (x2 + (1 : Int)))
 then (some (.inl (.h0 (false) (false) (x2 + (1 : Int)))))
 else (none)))))
 else (none))
 else (none)))
 else (bif (decide (ap + np ≤ mp ∧ np ≤ 1000000))
 then (bif ((S.traE ph ev np (fun (q : Nat) => tp (q + ap)) (fun (q : Nat) => vp (q + ap)) fun (q : Nat) => gp (q + ap)) ==
 (0 : Int))
 then (bif (x0)
 then (bif (x1)
 then (some (.inr (true)))
 else (some (.inr (false))))
 else (some (.inr (false))))
 else (some (.inr (false))))
 else (none))
noncomputable def p20 (ph : Int) (ev : Bool) (ap np mp : Nat) (tp : Nat → Int) (vp : Nat → Int) (gp : Nat → Int) : Option (St20 ⊕ Rt20) := some (.inl (.h0 (false) (false) ((0 : Int))))
noncomputable def Te20 (test : Bool → Prop → Prop → Prop) (Kst : KS) (Kret : KR) (ph : Int) (ev : Bool) (ap np mp : Nat) (tp : Nat → Int) (vp : Nat → Int) (gp : Nat → Int) : Prop :=
  Kst (hd Try.f20 0) ([PV.ptr (PA.mk (1) (0) (0) (0)), PV.tf false,
 PV.tf false, PV.int IntKind.i64 (0 : Int)]) ([[(0, false,
 Blk.cols mp
 [Col.int IntKind.i64 tp, Col.int IntKind.i64 vp, Col.int IntKind.i64 gp]),
 (1, true,
 Blk.cells
 [PV.int IntKind.i64 ph, PV.bool ev,
 PV.loose (PA.mk (0) (3) ap (0)) np])]]) (2)
set_option maxRecDepth 100000 in
theorem te20 (test : Bool → Prop → Prop → Prop) (Kst : KS) (Kret : KR) (ph : Int) (ev : Bool) (ap np mp : Nat) (tp : Nat → Int) (vp : Nat → Int) (gp : Nat → Int) : run test Try.env true (xC test) true 400 ⟨20, [.cd (mkFn Try.f20).body], argT 0 [.agg [.int .i64 ph, .bool ev, .loose ⟨0, 3, ap, 0⟩ np]], [[], [(0, (false, .cols mp [.int .i64 tp, .int .i64 vp, .int .i64 gp]))]], 1⟩ (proj 1 [1, 3, 4, 5] Kst Kret) =
  Te20 test Kst Kret ph ev ap np mp tp vp gp := by kernel_rfl
noncomputable def T20_0 (test : Bool → Prop → Prop → Prop) (Kst : KS) (Kret : KR) (ph : Int) (ev : Bool) (ap np mp : Nat) (tp : Nat → Int) (vp : Nat → Int) (gp : Nat → Int) (x0 : Bool) (x1 : Bool) (x2 : Int) : Prop :=
  test (decide (x2 < (↑np : Int)))
 (test (x0)
 (test (x1)
 (test (lim IntKind.i64 (x2 + (1 : Int)))
 (Kst (hd Try.f20 0) ([PV.ptr (PA.mk (1) (0) (0) (0)), PV.tf true,
 PV.tf true, PV.int IntKind.i64 (x2 + (1 : Int))]) ([[(0, false,
 Blk.cols mp
 [Col.int IntKind.i64 tp, Col.int IntKind.i64 vp, Col.int IntKind.i64 gp]),
 (1, true,
 Blk.cells
 [PV.int IntKind.i64 ph, PV.bool ev,
 PV.loose (PA.mk (0) (3) ap (0)) np])]]) (2))
 (False))
 (test (decide ((0 : Int) ≤ x2 ∧ x2 < (↑np : Int)))
 (test (decide (Int.toNat x2 + ap < mp))
 (test (tp (Int.toNat x2 + ap) == (3 : Int))
 (test (lim IntKind.i64 (x2 + (1 : Int)))
 (Kst (hd Try.f20 0) ([PV.ptr (PA.mk (1) (0) (0) (0)), PV.tf true,
 PV.tf true, PV.int IntKind.i64 (x2 + (1 : Int))]) ([[(0, false,
 Blk.cols mp
 [Col.int IntKind.i64 tp, Col.int IntKind.i64 vp, Col.int IntKind.i64 gp]),
 (1, true,
 Blk.cells
 [PV.int IntKind.i64 ph, PV.bool ev,
 PV.loose (PA.mk (0) (3) ap (0)) np])]]) (2))
 (False))
 (test (lim IntKind.i64 (x2 + (1 : Int)))
 (Kst (hd Try.f20 0) ([PV.ptr (PA.mk (1) (0) (0) (0)), PV.tf true,
 PV.tf false, PV.int IntKind.i64 (x2 + (1 : Int))]) ([[(0, false,
 Blk.cols mp
 [Col.int IntKind.i64 tp, Col.int IntKind.i64 vp, Col.int IntKind.i64 gp]),
 (1, true,
 Blk.cells
 [PV.int IntKind.i64 ph, PV.bool ev,
 PV.loose (PA.mk (0) (3) ap (0)) np])]]) (2))
 (False)))
 (False))
 (False)))
 (test (decide ((0 : Int) ≤ x2 ∧ x2 < (↑np : Int)))
 (test (decide (Int.toNat x2 + ap < mp))
 (test (tp (Int.toNat x2 + ap) == (4 : Int))
 (test (x1)
 (test (lim IntKind.i64 (x2 + (1 : Int)))
 (Kst (hd Try.f20 0) ([PV.ptr (PA.mk (1) (0) (0) (0)), PV.tf true,
 PV.tf true, PV.int IntKind.i64 (x2 + (1 : Int))]) ([[(0, false,
 Blk.cols mp
 [Col.int IntKind.i64 tp, Col.int IntKind.i64 vp, Col.int IntKind.i64 gp]),
 (1, true,
 Blk.cells
 [PV.int IntKind.i64 ph, PV.bool ev,
 PV.loose (PA.mk (0) (3) ap (0)) np])]]) (2))
 (False))
 (test (decide ((0 : Int) ≤ x2 ∧ x2 < (↑np : Int)))
 (test (decide (Int.toNat x2 + ap < mp))
 (test (tp (Int.toNat x2 + ap) == (3 : Int))
 (test (lim IntKind.i64 (x2 + (1 : Int)))
 (Kst (hd Try.f20 0) ([PV.ptr (PA.mk (1) (0) (0) (0)), PV.tf true,
 PV.tf true, PV.int IntKind.i64 (x2 + (1 : Int))]) ([[(0, false,
 Blk.cols mp
 [Col.int IntKind.i64 tp, Col.int IntKind.i64 vp, Col.int IntKind.i64 gp]),
 (1, true,
 Blk.cells
 [PV.int IntKind.i64 ph, PV.bool ev,
 PV.loose (PA.mk (0) (3) ap (0)) np])]]) (2))
 (False))
 (test (lim IntKind.i64 (x2 + (1 : Int)))
 (Kst (hd Try.f20 0) ([PV.ptr (PA.mk (1) (0) (0) (0)), PV.tf true,
 PV.tf false, PV.int IntKind.i64 (x2 + (1 : Int))]) ([[(0, false,
 Blk.cols mp
 [Col.int IntKind.i64 tp, Col.int IntKind.i64 vp, Col.int IntKind.i64 gp]),
 (1, true,
 Blk.cells
 [PV.int IntKind.i64 ph, PV.bool ev,
 PV.loose (PA.mk (0) (3) ap (0)) np])]]) (2))
 (False)))
 (False))
 (False)))
 (test (x1)
 (test (lim IntKind.i64 (x2 + (1 : Int)))
 (Kst (hd Try.f20 0) ([PV.ptr (PA.mk (1) (0) (0) (0)), PV.tf false,
 PV.tf true, PV.int IntKind.i64 (x2 + (1 : Int))]) ([[(0, false,
 Blk.cols mp
 [Col.int IntKind.i64 tp, Col.int IntKind.i64 vp, Col.int IntKind.i64 gp]),
 (1, true,
 Blk.cells
 [PV.int IntKind.i64 ph, PV.bool ev,
 PV.loose (PA.mk (0) (3) ap (0)) np])]]) (2))
 (False))
 (test (decide ((0 : Int) ≤ x2 ∧ x2 < (↑np : Int)))
 (test (decide (Int.toNat x2 + ap < mp))
 (test (tp (Int.toNat x2 + ap) == (3 : Int))
 (test (lim IntKind.i64 (x2 + (1 : Int)))
 (Kst (hd Try.f20 0) ([PV.ptr (PA.mk (1) (0) (0) (0)), PV.tf false,
 PV.tf true, PV.int IntKind.i64 (x2 + (1 : Int))]) ([[(0, false,
 Blk.cols mp
 [Col.int IntKind.i64 tp, Col.int IntKind.i64 vp, Col.int IntKind.i64 gp]),
 (1, true,
 Blk.cells
 [PV.int IntKind.i64 ph, PV.bool ev,
 PV.loose (PA.mk (0) (3) ap (0)) np])]]) (2))
 (False))
 (test (lim IntKind.i64 (x2 + (1 : Int)))
 (Kst (hd Try.f20 0) ([PV.ptr (PA.mk (1) (0) (0) (0)), PV.tf false,
 PV.tf false, PV.int IntKind.i64 (x2 + (1 : Int))]) ([[(0, false,
 Blk.cols mp
 [Col.int IntKind.i64 tp, Col.int IntKind.i64 vp, Col.int IntKind.i64 gp]),
 (1, true,
 Blk.cells
 [PV.int IntKind.i64 ph, PV.bool ev,
 PV.loose (PA.mk (0) (3) ap (0)) np])]]) (2))
 (False)))
 (False))
 (False))))
 (False))
 (False)))
 (test (decide (ap + np ≤ mp ∧ np ≤ 1000000))
 (test ((S.traE ph ev np (fun (q : Nat) => tp (q + ap)) (fun (q : Nat) => vp (q + ap)) fun (q : Nat) => gp (q + ap)) ==
 (0 : Int))
 (test (x0)
 (test (x1)
 (Kret (PV.tf true) ([[(0, false,
 Blk.cols mp
 [Col.int IntKind.i64 tp, Col.int IntKind.i64 vp, Col.int IntKind.i64 gp])]]) (3))
 (Kret (PV.tf false) ([[(0, false,
 Blk.cols mp
 [Col.int IntKind.i64 tp, Col.int IntKind.i64 vp, Col.int IntKind.i64 gp])]]) (3)))
 (Kret (PV.tf false) ([[(0, false,
 Blk.cols mp
 [Col.int IntKind.i64 tp, Col.int IntKind.i64 vp, Col.int IntKind.i64 gp])]]) (3)))
 (Kret (PV.tf false) ([[(0, false,
 Blk.cols mp
 [Col.int IntKind.i64 tp, Col.int IntKind.i64 vp, Col.int IntKind.i64 gp])]]) (3)))
 (False))
set_option maxRecDepth 100000 in
theorem t20_0 (test : Bool → Prop → Prop → Prop) (Kst : KS) (Kret : KR) (ph : Int) (ev : Bool) (ap np mp : Nat) (tp : Nat → Int) (vp : Nat → Int) (gp : Nat → Int) (x0 : Bool) (x1 : Bool) (x2 : Int) : run test Try.env true (xC test) true 400 ⟨20, hd Try.f20 0, zipT [1, 3, 4, 5] [PV.ptr (PA.mk (1) (0) (0) (0)), PV.bool x0, PV.bool x1,
 PV.int IntKind.i64 x2], [[(1, (true, Blk.cells
 [PV.int IntKind.i64 ph, PV.bool ev,
 PV.loose (PA.mk (0) (3) ap (0)) np]))], [(0, (false, .cols mp [.int .i64 tp, .int .i64 vp, .int .i64 gp]))]], 2⟩ (proj 1 [1, 3, 4, 5] Kst Kret) =
  T20_0 test Kst Kret ph ev ap np mp tp vp gp x0 x1 x2 := by kernel_rfl
set_option maxRecDepth 100000 in
theorem be20 (ph : Int) (ev : Bool) (ap np mp : Nat) (tp : Nat → Int) (vp : Nat → Int) (gp : Nat → Int) (Kst : KS) (Kret : KR) (x : St20 ⊕ Rt20) (hS : HS 1 400 ((I20 ph ev ap np mp tp vp gp)) Kst x) (hR : HR 1 400 ((V20 ph ev ap np mp tp vp gp)) (fun r => [newL (1 + 1) ((N20 ph ev ap np mp tp vp gp) r) ++ [(0, (false, .cols mp [.int .i64 tp, .int .i64 vp, .int .i64 gp]))]]) Kret x) (h : (some (.inl (.h0 (false) (false) ((0 : Int)))) : Option (St20 ⊕ Rt20)) = some x) : Te20 cond Kst Kret ph ev ap np mp tp vp gp := by
  unfold Te20
  exact stop_at hS _ h (fun n => bif Nat.beq n 1 then 1 else n) rfl rfl rfl ⟨(rn_ptr (use_own rfl) rfl rfl), ⟨(rn_bool_tf rfl), ⟨(rn_bool_tf rfl), ⟨(rn_int rfl), trivial⟩⟩⟩⟩ rfl (entl_b (use_own rfl) rfl (by simp) (rb_cells ⟨(rn_int rfl), (rn_bool rfl), (rn_loose (use_lo rfl) rfl rfl rfl), trivial⟩) (entl_bor (use_lo rfl) rfl rfl entl_nil))
set_option maxRecDepth 100000 in
theorem b20_0 (ph : Int) (ev : Bool) (ap np mp : Nat) (tp : Nat → Int) (vp : Nat → Int) (gp : Nat → Int) (Kst : KS) (Kret : KR) (x : St20 ⊕ Rt20) (hS : HS 1 400 ((I20 ph ev ap np mp tp vp gp)) Kst x) (hR : HR 1 400 ((V20 ph ev ap np mp tp vp gp)) (fun r => [newL (1 + 1) ((N20 ph ev ap np mp tp vp gp) r) ++ [(0, (false, .cols mp [.int .i64 tp, .int .i64 vp, .int .i64 gp]))]]) Kret x) (x0 : Bool) (x1 : Bool) (x2 : Int) (h : (bif (decide (x2 < (↑np : Int)))
 then (bif (x0)
 then (bif (x1)
 then (bif (lim IntKind.i64 (x2 + (1 : Int)))
 then (some (.inl (.h0 (true) (true) (x2 + (1 : Int)))))
 else (none))
 else (bif (decide ((0 : Int) ≤ x2 ∧ x2 < (↑np : Int)))
 then (bif (decide (Int.toNat x2 + ap < mp))
 then (bif (tp (Int.toNat x2 + ap) == (3 : Int))
 then (bif (lim IntKind.i64 (x2 + (1 : Int)))
 then (some (.inl (.h0 (true) (true) (x2 + (1 : Int)))))
 else (none))
 else (bif (lim IntKind.i64 (x2 + (1 : Int)))
 then (some (.inl (.h0 (true) (false) (x2 + (1 : Int)))))
 else (none)))
 else (none))
 else (none)))
 else (bif (decide ((0 : Int) ≤ x2 ∧ x2 < (↑np : Int)))
 then (bif (decide (Int.toNat x2 + ap < mp))
 then (bif (tp (Int.toNat x2 + ap) == (4 : Int))
 then (bif (x1)
 then (bif (lim IntKind.i64 (x2 + (1 : Int)))
 then (some (.inl (.h0 (true) (true) (x2 + (1 : Int)))))
 else (none))
 else (bif (tp (Int.toNat x2 + ap) == (3 : Int))
 then (bif (lim IntKind.i64 (x2 + (1 : Int)))
 then (some (.inl (.h0 (true) (true) (x2 + (1 : Int)))))
 else (none))
 else (bif (lim IntKind.i64 (x2 + (1 : Int)))
 then (some (.inl (.h0 (true) (false) (x2 + (1 : Int)))))
 else (none))))
 else (bif (x1)
 then (bif (lim IntKind.i64 (x2 + (1 : Int)))
 then (some (.inl (.h0 (false) (true) (x2 + (1 : Int)))))
 else (none))
 else (bif (tp (Int.toNat x2 + ap) == (3 : Int))
 then (bif (lim IntKind.i64 (x2 + (1 : Int)))
 then (some (.inl (.h0 (false) (true) (x2 + (1 : Int)))))
 else (none))
 else (bif (lim IntKind.i64 (x2 + (1 : Int)))
 then (some (.inl (.h0 (false) (false) (x2 + (1 : Int)))))
 else (none)))))
 else (none))
 else (none)))
 else (bif (decide (ap + np ≤ mp ∧ np ≤ 1000000))
 then (bif ((S.traE ph ev np (fun (q : Nat) => tp (q + ap)) (fun (q : Nat) => vp (q + ap)) fun (q : Nat) => gp (q + ap)) ==
 (0 : Int))
 then (bif (x0)
 then (bif (x1)
 then (some (.inr (true)))
 else (some (.inr (false))))
 else (some (.inr (false))))
 else (some (.inr (false))))
 else (none)) : Option (St20 ⊕ Rt20)) = some x) : T20_0 cond Kst Kret ph ev ap np mp tp vp gp x0 x1 x2 := by
  unfold T20_0
  exact bif_split h
   (fun c0 h => bif_split h
   (fun c1 h => bif_split h
   (fun c2 h => bif_split h
   (fun c3 h => stop_at hS _ h (fun n => bif Nat.beq n 1 then 1 else n) rfl rfl rfl ⟨(rn_ptr (use_own rfl) rfl rfl), ⟨(rn_bool_tf rfl), ⟨(rn_bool_tf rfl), ⟨(rn_int rfl), trivial⟩⟩⟩⟩ rfl (entl_b (use_own rfl) rfl (by simp) (rb_cells ⟨(rn_int rfl), (rn_bool rfl), (rn_loose (use_lo rfl) rfl rfl rfl), trivial⟩) (entl_bor (use_lo rfl) rfl rfl entl_nil)))
   (fun c3 h => no_some h))
   (fun c2 h => bif_split h
   (fun c3 h => bif_split h
   (fun c4 h => bif_split h
   (fun c5 h => bif_split h
   (fun c6 h => stop_at hS _ h (fun n => bif Nat.beq n 1 then 1 else n) rfl rfl rfl ⟨(rn_ptr (use_own rfl) rfl rfl), ⟨(rn_bool_tf rfl), ⟨(rn_bool_tf rfl), ⟨(rn_int rfl), trivial⟩⟩⟩⟩ rfl (entl_b (use_own rfl) rfl (by simp) (rb_cells ⟨(rn_int rfl), (rn_bool rfl), (rn_loose (use_lo rfl) rfl rfl rfl), trivial⟩) (entl_bor (use_lo rfl) rfl rfl entl_nil)))
   (fun c6 h => no_some h))
   (fun c5 h => bif_split h
   (fun c6 h => stop_at hS _ h (fun n => bif Nat.beq n 1 then 1 else n) rfl rfl rfl ⟨(rn_ptr (use_own rfl) rfl rfl), ⟨(rn_bool_tf rfl), ⟨(rn_bool_tf rfl), ⟨(rn_int rfl), trivial⟩⟩⟩⟩ rfl (entl_b (use_own rfl) rfl (by simp) (rb_cells ⟨(rn_int rfl), (rn_bool rfl), (rn_loose (use_lo rfl) rfl rfl rfl), trivial⟩) (entl_bor (use_lo rfl) rfl rfl entl_nil)))
   (fun c6 h => no_some h)))
   (fun c4 h => no_some h))
   (fun c3 h => no_some h)))
   (fun c1 h => bif_split h
   (fun c2 h => bif_split h
   (fun c3 h => bif_split h
   (fun c4 h => bif_split h
   (fun c5 h => bif_split h
   (fun c6 h => stop_at hS _ h (fun n => bif Nat.beq n 1 then 1 else n) rfl rfl rfl ⟨(rn_ptr (use_own rfl) rfl rfl), ⟨(rn_bool_tf rfl), ⟨(rn_bool_tf rfl), ⟨(rn_int rfl), trivial⟩⟩⟩⟩ rfl (entl_b (use_own rfl) rfl (by simp) (rb_cells ⟨(rn_int rfl), (rn_bool rfl), (rn_loose (use_lo rfl) rfl rfl rfl), trivial⟩) (entl_bor (use_lo rfl) rfl rfl entl_nil)))
   (fun c6 h => no_some h))
   (fun c5 h => cond_yes c2 (cond_yes c3 (bif_split h
   (fun c6 h => bif_split h
   (fun c7 h => stop_at hS _ h (fun n => bif Nat.beq n 1 then 1 else n) rfl rfl rfl ⟨(rn_ptr (use_own rfl) rfl rfl), ⟨(rn_bool_tf rfl), ⟨(rn_bool_tf rfl), ⟨(rn_int rfl), trivial⟩⟩⟩⟩ rfl (entl_b (use_own rfl) rfl (by simp) (rb_cells ⟨(rn_int rfl), (rn_bool rfl), (rn_loose (use_lo rfl) rfl rfl rfl), trivial⟩) (entl_bor (use_lo rfl) rfl rfl entl_nil)))
   (fun c7 h => no_some h))
   (fun c6 h => bif_split h
   (fun c7 h => stop_at hS _ h (fun n => bif Nat.beq n 1 then 1 else n) rfl rfl rfl ⟨(rn_ptr (use_own rfl) rfl rfl), ⟨(rn_bool_tf rfl), ⟨(rn_bool_tf rfl), ⟨(rn_int rfl), trivial⟩⟩⟩⟩ rfl (entl_b (use_own rfl) rfl (by simp) (rb_cells ⟨(rn_int rfl), (rn_bool rfl), (rn_loose (use_lo rfl) rfl rfl rfl), trivial⟩) (entl_bor (use_lo rfl) rfl rfl entl_nil)))
   (fun c7 h => no_some h))))))
   (fun c4 h => bif_split h
   (fun c5 h => bif_split h
   (fun c6 h => stop_at hS _ h (fun n => bif Nat.beq n 1 then 1 else n) rfl rfl rfl ⟨(rn_ptr (use_own rfl) rfl rfl), ⟨(rn_bool_tf rfl), ⟨(rn_bool_tf rfl), ⟨(rn_int rfl), trivial⟩⟩⟩⟩ rfl (entl_b (use_own rfl) rfl (by simp) (rb_cells ⟨(rn_int rfl), (rn_bool rfl), (rn_loose (use_lo rfl) rfl rfl rfl), trivial⟩) (entl_bor (use_lo rfl) rfl rfl entl_nil)))
   (fun c6 h => no_some h))
   (fun c5 h => cond_yes c2 (cond_yes c3 (bif_split h
   (fun c6 h => bif_split h
   (fun c7 h => stop_at hS _ h (fun n => bif Nat.beq n 1 then 1 else n) rfl rfl rfl ⟨(rn_ptr (use_own rfl) rfl rfl), ⟨(rn_bool_tf rfl), ⟨(rn_bool_tf rfl), ⟨(rn_int rfl), trivial⟩⟩⟩⟩ rfl (entl_b (use_own rfl) rfl (by simp) (rb_cells ⟨(rn_int rfl), (rn_bool rfl), (rn_loose (use_lo rfl) rfl rfl rfl), trivial⟩) (entl_bor (use_lo rfl) rfl rfl entl_nil)))
   (fun c7 h => no_some h))
   (fun c6 h => bif_split h
   (fun c7 h => stop_at hS _ h (fun n => bif Nat.beq n 1 then 1 else n) rfl rfl rfl ⟨(rn_ptr (use_own rfl) rfl rfl), ⟨(rn_bool_tf rfl), ⟨(rn_bool_tf rfl), ⟨(rn_int rfl), trivial⟩⟩⟩⟩ rfl (entl_b (use_own rfl) rfl (by simp) (rb_cells ⟨(rn_int rfl), (rn_bool rfl), (rn_loose (use_lo rfl) rfl rfl rfl), trivial⟩) (entl_bor (use_lo rfl) rfl rfl entl_nil)))
   (fun c7 h => no_some h)))))))
   (fun c3 h => no_some h))
   (fun c2 h => no_some h)))
   (fun c0 h => bif_split h
   (fun c1 h => bif_split h
   (fun c2 h => bif_split h
   (fun c3 h => bif_split h
   (fun c4 h => ret_at hR _ h (fun n => n) rfl rfl rfl (rn_bool_tf rfl) rfl (entl_bor (use_lo rfl) rfl rfl entl_nil))
   (fun c4 h => ret_at hR _ h (fun n => n) rfl rfl rfl (rn_bool_tf rfl) rfl (entl_bor (use_lo rfl) rfl rfl entl_nil)))
   (fun c3 h => ret_at hR _ h (fun n => n) rfl rfl rfl (rn_bool_tf rfl) rfl (entl_bor (use_lo rfl) rfl rfl entl_nil)))
   (fun c2 h => ret_at hR _ h (fun n => n) rfl rfl rfl (rn_bool_tf rfl) rfl (entl_bor (use_lo rfl) rfl rfl entl_nil)))
   (fun c1 h => no_some h))
theorem a20 (ph : Int) (ev : Bool) (ap np mp : Nat) (tp : Nat → Int) (vp : Nat → Int) (gp : Nat → Int) {r : Rt20} (h : Goes ((q20 ph ev ap np mp tp vp gp)) ((p20 ph ev ap np mp tp vp gp)) r) : CallR Try.prog 20 [.agg [.int .i64 ph, .bool ev, .loose ⟨0, 3, ap, 0⟩ np]] [[(0, (false, .cols mp [.int .i64 tp, .int .i64 vp, .int .i64 gp]))]] 1 ((V20 ph ev ap np mp tp vp gp) r) ((fun r => [newL (1 + 1) ((N20 ph ev ap np mp tp vp gp) r) ++ [(0, (false, .cols mp [.int .i64 tp, .int .i64 vp, .int .i64 gp]))]]) r) 400 ∧ ∃ F, Try.prog.funcs[20]? = some F ∧ F.body.isSome = true ∧ (F.name == "runtime.NumGoroutine") = false := by
  refine dec_calls (f := 20) (lo := 1) (hi := 400) (H := [[(0, (false, .cols mp [.int .i64 tp, .int .i64 vp, .int .i64 gp]))]]) (args := [.agg [.int .i64 ph, .bool ev, .loose ⟨0, 3, ap, 0⟩ np]]) Try.envOk Try.mixed xC_ok ((I20 ph ev ap np mp tp vp gp)) ((V20 ph ev ap np mp tp vp gp)) (fun r => [newL (1 + 1) ((N20 ph ev ap np mp tp vp gp) r) ++ [(0, (false, .cols mp [.int .i64 tp, .int .i64 vp, .int .i64 gp]))]]) (fn := mkFn Try.f20) (ts := [1, 3, 4, 5]) (n := 400) rfl (by decide) (by simp) (names_of rfl) ?_ ?_ ?_ h
  · intro s; cases s <;> exact ⟨hd_ok _ _, by simp [I20], names_of rfl, Nat.le_of_ble_eq_true rfl⟩
  · intro Kst Kret x hS hR h
    exact Holds.eq (te20 cond Kst Kret ph ev ap np mp tp vp gp) (be20 ph ev ap np mp tp vp gp Kst Kret x hS hR h)
  · intro Kst Kret x hS hR s h
    cases s with
    | h0 x0 x1 x2 => exact Holds.eq (t20_0 cond Kst Kret ph ev ap np mp tp vp gp x0 x1 x2) (b20_0 ph ev ap np mp tp vp gp Kst Kret x hS hR x0 x1 x2 h)
noncomputable def k20 : Con := ⟨20, [.agg [.plain (.int .i64), .plain (.bool), .list [.int .i64, .int .i64, .int .i64]]], fun (x : (Int × Bool × (Nat × Nat × Nat × (Nat → Int) × (Nat → Int) × (Nat → Int) × Unit) × Unit) × Unit) => (fun (ph : Int) (ev : Bool) (ap np mp : Nat) (tp : Nat → Int) (vp : Nat → Int) (gp : Nat → Int) => decide (ap + np ≤ mp ∧ np ≤ 1000000)) x.1.1 x.1.2.1 x.1.2.2.1.1 x.1.2.2.1.2.1 x.1.2.2.1.2.2.1 x.1.2.2.1.2.2.2.1 x.1.2.2.1.2.2.2.2.1 x.1.2.2.1.2.2.2.2.2.1, fun (x : (Int × Bool × (Nat × Nat × Nat × (Nat → Int) × (Nat → Int) × (Nat → Int) × Unit) × Unit) × Unit) => (fun (ph : Int) (ev : Bool) (ap np mp : Nat) (tp : Nat → Int) (vp : Nat → Int) (gp : Nat → Int) => (V20 ph ev ap np mp tp vp gp) (S.badB ph ev np (fun q => tp (q + ap)) (fun q => vp (q + ap)) (fun q => gp (q + ap)))) x.1.1 x.1.2.1 x.1.2.2.1.1 x.1.2.2.1.2.1 x.1.2.2.1.2.2.1 x.1.2.2.1.2.2.2.1 x.1.2.2.1.2.2.2.2.1 x.1.2.2.1.2.2.2.2.2.1, fun (x : (Int × Bool × (Nat × Nat × Nat × (Nat → Int) × (Nat → Int) × (Nat → Int) × Unit) × Unit) × Unit) => (fun (ph : Int) (ev : Bool) (ap np mp : Nat) (tp : Nat → Int) (vp : Nat → Int) (gp : Nat → Int) => (N20 ph ev ap np mp tp vp gp) (S.badB ph ev np (fun q => tp (q + ap)) (fun q => vp (q + ap)) (fun q => gp (q + ap)))) x.1.1 x.1.2.1 x.1.2.2.1.1 x.1.2.2.1.2.1 x.1.2.2.1.2.2.1 x.1.2.2.1.2.2.2.1 x.1.2.2.1.2.2.2.2.1 x.1.2.2.1.2.2.2.2.2.1, fun _ _ => .dead⟩
theorem s20' (ph : Int) (ev : Bool) (ap np mp : Nat) (tp : Nat → Int) (vp : Nat → Int) (gp : Nat → Int) (hp : ap + np ≤ mp ∧ np ≤ 1000000) : ∀ (k i : Nat), i + k = np → Comes (q20 ph ev ap np mp tp vp gp) (.h0 (S.any (fun q => decide (tp (q + ap) = 4)) i) (S.any (fun q => decide (tp (q + ap) = 3)) i) (i : Int)) (S.badB ph ev np (fun q => tp (q + ap)) (fun q => vp (q + ap)) (fun q => gp (q + ap))) := by
  obtain ⟨hp1, hp2⟩ := hp
  intro k
  induction k with
  | zero =>
    intro i hi
    obtain rfl : np = i := by omega
    unfold S.badB
    have e1 : S.any (fun q => decide ((fun q => tp (q + ap)) q = 4)) np = S.any (fun q => decide (tp (q + ap) = 4)) np := rfl
    have e2 : S.any (fun q => decide ((fun q => tp (q + ap)) q = 3)) np = S.any (fun q => decide (tp (q + ap) = 3)) np := rfl
    rw [e1, e2]
    generalize S.any (fun q => decide (tp (q + ap) = 4)) np = B4
    generalize S.any (fun q => decide (tp (q + ap) = 3)) np = B3
    apply Comes.of
    rw [q20]
    generalize S.traE ph ev np (fun q => tp (q + ap)) (fun q => vp (q + ap)) (fun q => gp (q + ap)) = E
    cases B4 <;> cases B3 <;> (by_cases h0 : E = 0) <;> (show Goes _ _ _) <;> (repeat' first
      | with_reducible refine goes_if (fun h => ?_) (fun h => ?_) <;> (try simp only [lim64, decide_eq_true_eq, decide_eq_false_iff_not, Int.toNat_natCast, toNat_pred, toNat_succ, Option.getD_some, Option.getD_none, Bool.not_eq_true', Bool.not_eq_false', Bool.and_eq_true, Bool.or_eq_true, Bool.and_eq_false_iff, Bool.or_eq_false_iff, bne_iff_ne, beq_iff_eq, bne_eq_false_iff_eq, beq_eq_false_iff_ne, ne_eq, not_and, Int.not_le, Int.not_lt, ge_iff_le, gt_iff_lt, Nat.not_lt, Nat.not_le, Bool.not_eq_true, Bool.not_eq_false, Bool.true_eq_false, Bool.false_eq_true, not_false_eq_true, not_true_eq_false] at h)
      | exact goes_none.mpr (by omega)) <;> first | (exfalso; omega) | (refine goes_inr.mpr ?_; simp [h0]) | (exfalso; simp_all; done)
  | succ k ih =>
    intro i hi
    have ih := ih (i + 1) (by omega)
    rw [any_succ, any_succ] at ih
    generalize S.any (fun q => decide (tp (q + ap) = 4)) i = B4 at *
    generalize S.any (fun q => decide (tp (q + ap) = 3)) i = B3 at *
    by_cases h4 : tp (i + ap) = 4
    · rw [decide_eq_true h4, decide_eq_false (by omega), Bool.or_true, Bool.or_false] at ih
      cases B4 <;> cases B3 <;> (apply Comes.of; rw [q20]; show Goes _ _ _) <;> (repeat' first
        | with_reducible refine goes_if (fun h => ?_) (fun h => ?_) <;> (try simp only [lim64, decide_eq_true_eq, decide_eq_false_iff_not, Int.toNat_natCast, toNat_pred, toNat_succ, Option.getD_some, Option.getD_none, Bool.not_eq_true', Bool.not_eq_false', Bool.and_eq_true, Bool.or_eq_true, Bool.and_eq_false_iff, Bool.or_eq_false_iff, bne_iff_ne, beq_iff_eq, bne_eq_false_iff_eq, beq_eq_false_iff_ne, ne_eq, not_and, Int.not_le, Int.not_lt, ge_iff_le, gt_iff_lt, Nat.not_lt, Nat.not_le, Bool.not_eq_true, Bool.not_eq_false, Bool.true_eq_false, Bool.false_eq_true, not_false_eq_true, not_true_eq_false] at h)
        | exact goes_none.mpr (by omega)) <;> first | (exfalso; omega) | exact ih | (exfalso; simp_all; done)
    · by_cases h3 : tp (i + ap) = 3
      · rw [decide_eq_false h4, decide_eq_true h3, Bool.or_true, Bool.or_false] at ih
        cases B4 <;> cases B3 <;> (apply Comes.of; rw [q20]; show Goes _ _ _) <;> (repeat' first
          | with_reducible refine goes_if (fun h => ?_) (fun h => ?_) <;> (try simp only [lim64, decide_eq_true_eq, decide_eq_false_iff_not, Int.toNat_natCast, toNat_pred, toNat_succ, Option.getD_some, Option.getD_none, Bool.not_eq_true', Bool.not_eq_false', Bool.and_eq_true, Bool.or_eq_true, Bool.and_eq_false_iff, Bool.or_eq_false_iff, bne_iff_ne, beq_iff_eq, bne_eq_false_iff_eq, beq_eq_false_iff_ne, ne_eq, not_and, Int.not_le, Int.not_lt, ge_iff_le, gt_iff_lt, Nat.not_lt, Nat.not_le, Bool.not_eq_true, Bool.not_eq_false, Bool.true_eq_false, Bool.false_eq_true, not_false_eq_true, not_true_eq_false] at h)
          | exact goes_none.mpr (by omega)) <;> first | (exfalso; omega) | exact ih | (exfalso; simp_all; done)
      · rw [decide_eq_false h4, decide_eq_false h3, Bool.or_false, Bool.or_false] at ih
        cases B4 <;> cases B3 <;> (apply Comes.of; rw [q20]; show Goes _ _ _) <;> (repeat' first
          | with_reducible refine goes_if (fun h => ?_) (fun h => ?_) <;> (try simp only [lim64, decide_eq_true_eq, decide_eq_false_iff_not, Int.toNat_natCast, toNat_pred, toNat_succ, Option.getD_some, Option.getD_none, Bool.not_eq_true', Bool.not_eq_false', Bool.and_eq_true, Bool.or_eq_true, Bool.and_eq_false_iff, Bool.or_eq_false_iff, bne_iff_ne, beq_iff_eq, bne_eq_false_iff_eq, beq_eq_false_iff_ne, ne_eq, not_and, Int.not_le, Int.not_lt, ge_iff_le, gt_iff_lt, Nat.not_lt, Nat.not_le, Bool.not_eq_true, Bool.not_eq_false, Bool.true_eq_false, Bool.false_eq_true, not_false_eq_true, not_true_eq_false] at h)
          | exact goes_none.mpr (by omega)) <;> first | (exfalso; omega) | exact ih | (exfalso; simp_all; done)
theorem s20 (ph : Int) (ev : Bool) (ap np mp : Nat) (tp : Nat → Int) (vp : Nat → Int) (gp : Nat → Int) (hp : ap + np ≤ mp ∧ np ≤ 1000000) : Goes ((q20 ph ev ap np mp tp vp gp)) ((p20 ph ev ap np mp tp vp gp)) (S.badB ph ev np (fun q => tp (q + ap)) (fun q => vp (q + ap)) (fun q => gp (q + ap))) := by
  exact s20' ph ev ap np mp tp vp gp hp np 0 (Nat.zero_add _)

theorem k20_ok : k20.ok Try.prog := by
  intro x hx
  obtain ⟨⟨ph, ev, ⟨ap, np, mp, tp, vp, gp, _⟩, _⟩, _⟩ := x
  obtain ⟨h1, h2⟩ := a20 ph ev ap np mp tp vp gp (s20 ph ev ap np mp tp vp gp (of_dec hx rfl))
  exact ⟨⟨400, (by decide : 1 + 1 + 0 ≤ 400), h1⟩, h2⟩

end Go.Ev
