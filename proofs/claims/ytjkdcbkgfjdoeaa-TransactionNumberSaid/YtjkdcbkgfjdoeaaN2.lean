/-
  Number and State.
-/
import Derived.Test.YtjkdcbkgfjdoeaaN1
namespace Go.Ev
open Go.Proofs
set_option linter.unusedVariables false
set_option linter.unusedSimpArgs false
set_option maxRecDepth 100000
abbrev St24 := Empty
abbrev Rt24 := Int × Int
noncomputable def V24 (ph : Int) (ev : Bool) (ap np mp : Nat) (tp : Nat → Int) (vp : Nat → Int) (gp : Nat → Int) (r : Rt24) : PV := PV.tup [PV.int IntKind.i64 r.1, PV.int IntKind.i64 r.2]
noncomputable def N24 (ph : Int) (ev : Bool) (ap np mp : Nat) (tp : Nat → Int) (vp : Nat → Int) (gp : Nat → Int) (r : Rt24) : List Blk := []
noncomputable def I24 (ph : Int) (ev : Bool) (ap np mp : Nat) (tp : Nat → Int) (vp : Nat → Int) (gp : Nat → Int) : St24 → Hd := fun s => s.elim
noncomputable def q24 (ph : Int) (ev : Bool) (ap np mp : Nat) (tp : Nat → Int) (vp : Nat → Int) (gp : Nat → Int) : St24 → Option (St24 ⊕ Rt24) := fun s => s.elim
noncomputable def p24 (ph : Int) (ev : Bool) (ap np mp : Nat) (tp : Nat → Int) (vp : Nat → Int) (gp : Nat → Int) : Option (St24 ⊕ Rt24) := bif (decide (ap + np ≤ mp ∧ np ≤ 1000000))
 then (bif ((S.traE ph ev np (fun (q : Nat) => tp (q + ap)) (fun (q : Nat) => vp (q + ap)) fun (q : Nat) => gp (q + ap)) !=
 (0 : Int))
 then (some (.inr ((0 : Int), S.traE ph ev np (fun (q : Nat) => tp (q + ap)) (fun (q : Nat) => vp (q + ap)) fun (q : Nat) => gp (q + ap))))
 else (bif (decide
 (ap + np ≤ mp ∧
 np ≤ 1000000 ∧
 (S.traE ph ev np (fun (q : Nat) => tp (q + ap)) (fun (q : Nat) => vp (q + ap)) fun (q : Nat) =>
 gp (q + ap)) =
 (0 : Int)))
 then (some (.inr (S.numV ph np (fun (q : Nat) => tp (q + ap)) (fun (q : Nat) => vp (q + ap)) fun (q : Nat) => gp (q + ap), (0 : Int))))
 else (none)))
 else (none)
noncomputable def Te24 (test : Bool → Prop → Prop → Prop) (Kst : KS) (Kret : KR) (ph : Int) (ev : Bool) (ap np mp : Nat) (tp : Nat → Int) (vp : Nat → Int) (gp : Nat → Int) : Prop :=
  test (decide (ap + np ≤ mp ∧ np ≤ 1000000))
 (test ((S.traE ph ev np (fun (q : Nat) => tp (q + ap)) (fun (q : Nat) => vp (q + ap)) fun (q : Nat) => gp (q + ap)) !=
 (0 : Int))
 (Kret (PV.tup
 [PV.int IntKind.i64 (0 : Int),
 PV.int IntKind.i64
 (S.traE ph ev np (fun (q : Nat) => tp (q + ap)) (fun (q : Nat) => vp (q + ap)) fun (q : Nat) =>
 gp (q + ap))]) ([[(0, false,
 Blk.cols mp
 [Col.int IntKind.i64 tp, Col.int IntKind.i64 vp, Col.int IntKind.i64 gp])]]) (3))
 (test (decide
 (ap + np ≤ mp ∧
 np ≤ 1000000 ∧
 (S.traE ph ev np (fun (q : Nat) => tp (q + ap)) (fun (q : Nat) => vp (q + ap)) fun (q : Nat) =>
 gp (q + ap)) =
 (0 : Int)))
 (Kret (PV.tup
 [PV.int IntKind.i64
 (S.numV ph np (fun (q : Nat) => tp (q + ap)) (fun (q : Nat) => vp (q + ap)) fun (q : Nat) => gp (q + ap)),
 PV.int IntKind.i64 (0 : Int)]) ([[(0, false,
 Blk.cols mp
 [Col.int IntKind.i64 tp, Col.int IntKind.i64 vp, Col.int IntKind.i64 gp])]]) (4))
 (False)))
 (False)
set_option maxRecDepth 100000 in
theorem te24 (test : Bool → Prop → Prop → Prop) (Kst : KS) (Kret : KR) (ph : Int) (ev : Bool) (ap np mp : Nat) (tp : Nat → Int) (vp : Nat → Int) (gp : Nat → Int) : run test Try.env true (xM2 test) true 400 ⟨24, [.cd (mkFn Try.f24).body], argT 0 [.agg [.int .i64 ph, .bool ev, .loose ⟨0, 3, ap, 0⟩ np]], [[], [(0, (false, .cols mp [.int .i64 tp, .int .i64 vp, .int .i64 gp]))]], 1⟩ (proj 1 [] Kst Kret) =
  Te24 test Kst Kret ph ev ap np mp tp vp gp := by kernel_rfl
set_option maxRecDepth 100000 in
theorem be24 (ph : Int) (ev : Bool) (ap np mp : Nat) (tp : Nat → Int) (vp : Nat → Int) (gp : Nat → Int) (Kst : KS) (Kret : KR) (x : St24 ⊕ Rt24) (hS : HS 1 400 ((I24 ph ev ap np mp tp vp gp)) Kst x) (hR : HR 1 400 ((V24 ph ev ap np mp tp vp gp)) (fun r => [newL (1 + 1) ((N24 ph ev ap np mp tp vp gp) r) ++ [(0, (false, .cols mp [.int .i64 tp, .int .i64 vp, .int .i64 gp]))]]) Kret x) (h : (bif (decide (ap + np ≤ mp ∧ np ≤ 1000000))
 then (bif ((S.traE ph ev np (fun (q : Nat) => tp (q + ap)) (fun (q : Nat) => vp (q + ap)) fun (q : Nat) => gp (q + ap)) !=
 (0 : Int))
 then (some (.inr ((0 : Int), S.traE ph ev np (fun (q : Nat) => tp (q + ap)) (fun (q : Nat) => vp (q + ap)) fun (q : Nat) => gp (q + ap))))
 else (bif (decide
 (ap + np ≤ mp ∧
 np ≤ 1000000 ∧
 (S.traE ph ev np (fun (q : Nat) => tp (q + ap)) (fun (q : Nat) => vp (q + ap)) fun (q : Nat) =>
 gp (q + ap)) =
 (0 : Int)))
 then (some (.inr (S.numV ph np (fun (q : Nat) => tp (q + ap)) (fun (q : Nat) => vp (q + ap)) fun (q : Nat) => gp (q + ap), (0 : Int))))
 else (none)))
 else (none) : Option (St24 ⊕ Rt24)) = some x) : Te24 cond Kst Kret ph ev ap np mp tp vp gp := by
  unfold Te24
  exact bif_split h
   (fun c0 h => bif_split h
   (fun c1 h => ret_at hR _ h (fun n => n) rfl rfl rfl (rn_tup ⟨(rn_int rfl), (rn_int rfl), trivial⟩) rfl (entl_bor (use_lo rfl) rfl rfl entl_nil))
   (fun c1 h => bif_split h
   (fun c2 h => ret_at hR _ h (fun n => n) rfl rfl rfl (rn_tup ⟨(rn_int rfl), (rn_int rfl), trivial⟩) rfl (entl_bor (use_lo rfl) rfl rfl entl_nil))
   (fun c2 h => no_some h)))
   (fun c0 h => no_some h)
theorem a24 (ph : Int) (ev : Bool) (ap np mp : Nat) (tp : Nat → Int) (vp : Nat → Int) (gp : Nat → Int) {r : Rt24} (h : Goes ((q24 ph ev ap np mp tp vp gp)) ((p24 ph ev ap np mp tp vp gp)) r) : CallR Try.prog 24 [.agg [.int .i64 ph, .bool ev, .loose ⟨0, 3, ap, 0⟩ np]] [[(0, (false, .cols mp [.int .i64 tp, .int .i64 vp, .int .i64 gp]))]] 1 ((V24 ph ev ap np mp tp vp gp) r) ((fun r => [newL (1 + 1) ((N24 ph ev ap np mp tp vp gp) r) ++ [(0, (false, .cols mp [.int .i64 tp, .int .i64 vp, .int .i64 gp]))]]) r) 400 ∧ ∃ F, Try.prog.funcs[24]? = some F ∧ F.body.isSome = true ∧ (F.name == "runtime.NumGoroutine") = false := by
  refine dec_calls (f := 24) (lo := 1) (hi := 400) (H := [[(0, (false, .cols mp [.int .i64 tp, .int .i64 vp, .int .i64 gp]))]]) (args := [.agg [.int .i64 ph, .bool ev, .loose ⟨0, 3, ap, 0⟩ np]]) Try.envOk Try.mixed xM2_ok ((I24 ph ev ap np mp tp vp gp)) ((V24 ph ev ap np mp tp vp gp)) (fun r => [newL (1 + 1) ((N24 ph ev ap np mp tp vp gp) r) ++ [(0, (false, .cols mp [.int .i64 tp, .int .i64 vp, .int .i64 gp]))]]) (fn := mkFn Try.f24) (ts := []) (n := 400) rfl (by decide) (by simp) (names_of rfl) ?_ ?_ ?_ h
  · intro s; exact s.elim
  · intro Kst Kret x hS hR h
    exact Holds.eq (te24 cond Kst Kret ph ev ap np mp tp vp gp) (be24 ph ev ap np mp tp vp gp Kst Kret x hS hR h)
  · intro Kst Kret x hS hR s h; exact s.elim
noncomputable def k24 : Con := ⟨24, [.agg [.plain (.int .i64), .plain (.bool), .list [.int .i64, .int .i64, .int .i64]]], fun (x : (Int × Bool × (Nat × Nat × Nat × (Nat → Int) × (Nat → Int) × (Nat → Int) × Unit) × Unit) × Unit) => (fun (ph : Int) (ev : Bool) (ap np mp : Nat) (tp : Nat → Int) (vp : Nat → Int) (gp : Nat → Int) => decide (ap + np ≤ mp ∧ np ≤ 1000000)) x.1.1 x.1.2.1 x.1.2.2.1.1 x.1.2.2.1.2.1 x.1.2.2.1.2.2.1 x.1.2.2.1.2.2.2.1 x.1.2.2.1.2.2.2.2.1 x.1.2.2.1.2.2.2.2.2.1, fun (x : (Int × Bool × (Nat × Nat × Nat × (Nat → Int) × (Nat → Int) × (Nat → Int) × Unit) × Unit) × Unit) => (fun (ph : Int) (ev : Bool) (ap np mp : Nat) (tp : Nat → Int) (vp : Nat → Int) (gp : Nat → Int) => (V24 ph ev ap np mp tp vp gp) (S.numS ph ev np (fun q => tp (q + ap)) (fun q => vp (q + ap)) (fun q => gp (q + ap)))) x.1.1 x.1.2.1 x.1.2.2.1.1 x.1.2.2.1.2.1 x.1.2.2.1.2.2.1 x.1.2.2.1.2.2.2.1 x.1.2.2.1.2.2.2.2.1 x.1.2.2.1.2.2.2.2.2.1, fun (x : (Int × Bool × (Nat × Nat × Nat × (Nat → Int) × (Nat → Int) × (Nat → Int) × Unit) × Unit) × Unit) => (fun (ph : Int) (ev : Bool) (ap np mp : Nat) (tp : Nat → Int) (vp : Nat → Int) (gp : Nat → Int) => (N24 ph ev ap np mp tp vp gp) (S.numS ph ev np (fun q => tp (q + ap)) (fun q => vp (q + ap)) (fun q => gp (q + ap)))) x.1.1 x.1.2.1 x.1.2.2.1.1 x.1.2.2.1.2.1 x.1.2.2.1.2.2.1 x.1.2.2.1.2.2.2.1 x.1.2.2.1.2.2.2.2.1 x.1.2.2.1.2.2.2.2.2.1, fun _ _ => .dead⟩
theorem s24 (ph : Int) (ev : Bool) (ap np mp : Nat) (tp : Nat → Int) (vp : Nat → Int) (gp : Nat → Int) (hp : ap + np ≤ mp ∧ np ≤ 1000000) : Goes ((q24 ph ev ap np mp tp vp gp)) ((p24 ph ev ap np mp tp vp gp)) (S.numS ph ev np (fun q => tp (q + ap)) (fun q => vp (q + ap)) (fun q => gp (q + ap))) := by
  unfold S.numS
  by_cases h0 : S.traE ph ev np (fun q => tp (q + ap)) (fun q => vp (q + ap)) (fun q => gp (q + ap)) = 0
  · rw [if_pos h0]
    show Goes _ _ _
    unfold p24
    repeat' first
      | with_reducible refine goes_if (fun h => ?_) (fun h => ?_) <;> (try simp only [lim64, decide_eq_true_eq, decide_eq_false_iff_not, Int.toNat_natCast, toNat_pred, toNat_succ, Option.getD_some, Option.getD_none, Bool.not_eq_true', Bool.not_eq_false', Bool.and_eq_true, Bool.or_eq_true, Bool.and_eq_false_iff, Bool.or_eq_false_iff, bne_iff_ne, beq_iff_eq, bne_eq_false_iff_eq, beq_eq_false_iff_ne, ne_eq, not_and, Int.not_le, Int.not_lt, ge_iff_le, gt_iff_lt, Nat.not_lt, Nat.not_le, Bool.not_eq_true, Bool.not_eq_false, Bool.true_eq_false, Bool.false_eq_true, not_false_eq_true, not_true_eq_false] at h)
      | exact goes_none.mpr (by omega)
    all_goals first | (exfalso; omega) | rfl
  · rw [if_neg h0]
    show Goes _ _ _
    unfold p24
    repeat' first
      | with_reducible refine goes_if (fun h => ?_) (fun h => ?_) <;> (try simp only [lim64, decide_eq_true_eq, decide_eq_false_iff_not, Int.toNat_natCast, toNat_pred, toNat_succ, Option.getD_some, Option.getD_none, Bool.not_eq_true', Bool.not_eq_false', Bool.and_eq_true, Bool.or_eq_true, Bool.and_eq_false_iff, Bool.or_eq_false_iff, bne_iff_ne, beq_iff_eq, bne_eq_false_iff_eq, beq_eq_false_iff_ne, ne_eq, not_and, Int.not_le, Int.not_lt, ge_iff_le, gt_iff_lt, Nat.not_lt, Nat.not_le, Bool.not_eq_true, Bool.not_eq_false, Bool.true_eq_false, Bool.false_eq_true, not_false_eq_true, not_true_eq_false] at h)
      | exact goes_none.mpr (by omega)
    all_goals first | (exfalso; omega) | rfl

theorem k24_ok : k24.ok Try.prog := by
  intro x hx
  obtain ⟨⟨ph, ev, ⟨ap, np, mp, tp, vp, gp, _⟩, _⟩, _⟩ := x
  obtain ⟨h1, h2⟩ := a24 ph ev ap np mp tp vp gp (s24 ph ev ap np mp tp vp gp (of_dec hx rfl))
  exact ⟨⟨400, (by decide : 1 + 1 + 0 ≤ 400), h1⟩, h2⟩
abbrev St25 := Empty
abbrev Rt25 := Int × Int
noncomputable def V25 (ph : Int) (ev : Bool) (ap np mp : Nat) (tp : Nat → Int) (vp : Nat → Int) (gp : Nat → Int) (r : Rt25) : PV := PV.tup [PV.int IntKind.i64 r.1, PV.int IntKind.i64 r.2]
noncomputable def N25 (ph : Int) (ev : Bool) (ap np mp : Nat) (tp : Nat → Int) (vp : Nat → Int) (gp : Nat → Int) (r : Rt25) : List Blk := []
noncomputable def I25 (ph : Int) (ev : Bool) (ap np mp : Nat) (tp : Nat → Int) (vp : Nat → Int) (gp : Nat → Int) : St25 → Hd := fun s => s.elim
noncomputable def q25 (ph : Int) (ev : Bool) (ap np mp : Nat) (tp : Nat → Int) (vp : Nat → Int) (gp : Nat → Int) : St25 → Option (St25 ⊕ Rt25) := fun s => s.elim
noncomputable def p25 (ph : Int) (ev : Bool) (ap np mp : Nat) (tp : Nat → Int) (vp : Nat → Int) (gp : Nat → Int) : Option (St25 ⊕ Rt25) := bif (decide (ap + np ≤ mp ∧ np ≤ 1000000))
 then (bif ((S.traE ph ev np (fun (q : Nat) => tp (q + ap)) (fun (q : Nat) => vp (q + ap)) fun (q : Nat) => gp (q + ap)) !=
 (0 : Int))
 then (some (.inr ((0 : Int), S.traE ph ev np (fun (q : Nat) => tp (q + ap)) (fun (q : Nat) => vp (q + ap)) fun (q : Nat) => gp (q + ap))))
 else (bif (decide
 (ap + np ≤ mp ∧
 np ≤ 1000000 ∧
 (S.traE ph ev np (fun (q : Nat) => tp (q + ap)) (fun (q : Nat) => vp (q + ap)) fun (q : Nat) =>
 gp (q + ap)) =
 (0 : Int)))
 then (some (.inr (S.numV ph np (fun (q : Nat) => tp (q + ap)) (fun (q : Nat) => vp (q + ap)) fun (q : Nat) => gp (q + ap), (0 : Int))))
 else (none)))
 else (none)
noncomputable def Te25 (test : Bool → Prop → Prop → Prop) (Kst : KS) (Kret : KR) (ph : Int) (ev : Bool) (ap np mp : Nat) (tp : Nat → Int) (vp : Nat → Int) (gp : Nat → Int) : Prop :=
  test (decide (ap + np ≤ mp ∧ np ≤ 1000000))
 (test ((S.traE ph ev np (fun (q : Nat) => tp (q + ap)) (fun (q : Nat) => vp (q + ap)) fun (q : Nat) => gp (q + ap)) !=
 (0 : Int))
 (Kret (PV.tup
 [PV.int IntKind.i64 (0 : Int),
 PV.int IntKind.i64
 (S.traE ph ev np (fun (q : Nat) => tp (q + ap)) (fun (q : Nat) => vp (q + ap)) fun (q : Nat) =>
 gp (q + ap))]) ([[(0, false,
 Blk.cols mp
 [Col.int IntKind.i64 tp, Col.int IntKind.i64 vp, Col.int IntKind.i64 gp])]]) (3))
 (test (decide
 (ap + np ≤ mp ∧
 np ≤ 1000000 ∧
 (S.traE ph ev np (fun (q : Nat) => tp (q + ap)) (fun (q : Nat) => vp (q + ap)) fun (q : Nat) =>
 gp (q + ap)) =
 (0 : Int)))
 (Kret (PV.tup
 [PV.int IntKind.i64
 (S.numV ph np (fun (q : Nat) => tp (q + ap)) (fun (q : Nat) => vp (q + ap)) fun (q : Nat) => gp (q + ap)),
 PV.int IntKind.i64 (0 : Int)]) ([[(0, false,
 Blk.cols mp
 [Col.int IntKind.i64 tp, Col.int IntKind.i64 vp, Col.int IntKind.i64 gp])]]) (4))
 (False)))
 (False)
set_option maxRecDepth 100000 in
theorem te25 (test : Bool → Prop → Prop → Prop) (Kst : KS) (Kret : KR) (ph : Int) (ev : Bool) (ap np mp : Nat) (tp : Nat → Int) (vp : Nat → Int) (gp : Nat → Int) : run test Try.env true (xM2 test) true 400 ⟨25, [.cd (mkFn Try.f25).body], argT 0 [.agg [.int .i64 ph, .bool ev, .loose ⟨0, 3, ap, 0⟩ np]], [[], [(0, (false, .cols mp [.int .i64 tp, .int .i64 vp, .int .i64 gp]))]], 1⟩ (proj 1 [] Kst Kret) =
  Te25 test Kst Kret ph ev ap np mp tp vp gp := by kernel_rfl
set_option maxRecDepth 100000 in
theorem be25 (ph : Int) (ev : Bool) (ap np mp : Nat) (tp : Nat → Int) (vp : Nat → Int) (gp : Nat → Int) (Kst : KS) (Kret : KR) (x : St25 ⊕ Rt25) (hS : HS 1 400 ((I25 ph ev ap np mp tp vp gp)) Kst x) (hR : HR 1 400 ((V25 ph ev ap np mp tp vp gp)) (fun r => [newL (1 + 1) ((N25 ph ev ap np mp tp vp gp) r) ++ [(0, (false, .cols mp [.int .i64 tp, .int .i64 vp, .int .i64 gp]))]]) Kret x) (h : (bif (decide (ap + np ≤ mp ∧ np ≤ 1000000))
 then (bif ((S.traE ph ev np (fun (q : Nat) => tp (q + ap)) (fun (q : Nat) => vp (q + ap)) fun (q : Nat) => gp (q + ap)) !=
 (0 : Int))
 then (some (.inr ((0 : Int), S.traE ph ev np (fun (q : Nat) => tp (q + ap)) (fun (q : Nat) => vp (q + ap)) fun (q : Nat) => gp (q + ap))))
 else (bif (decide
 (ap + np ≤ mp ∧
 np ≤ 1000000 ∧
 (S.traE ph ev np (fun (q : Nat) => tp (q + ap)) (fun (q : Nat) => vp (q + ap)) fun (q : Nat) =>
 gp (q + ap)) =
 (0 : Int)))
 then (some (.inr (S.numV ph np (fun (q : Nat) => tp (q + ap)) (fun (q : Nat) => vp (q + ap)) fun (q : Nat) => gp (q + ap), (0 : Int))))
 else (none)))
 else (none) : Option (St25 ⊕ Rt25)) = some x) : Te25 cond Kst Kret ph ev ap np mp tp vp gp := by
  unfold Te25
  exact bif_split h
   (fun c0 h => bif_split h
   (fun c1 h => ret_at hR _ h (fun n => n) rfl rfl rfl (rn_tup ⟨(rn_int rfl), (rn_int rfl), trivial⟩) rfl (entl_bor (use_lo rfl) rfl rfl entl_nil))
   (fun c1 h => bif_split h
   (fun c2 h => ret_at hR _ h (fun n => n) rfl rfl rfl (rn_tup ⟨(rn_int rfl), (rn_int rfl), trivial⟩) rfl (entl_bor (use_lo rfl) rfl rfl entl_nil))
   (fun c2 h => no_some h)))
   (fun c0 h => no_some h)
theorem a25 (ph : Int) (ev : Bool) (ap np mp : Nat) (tp : Nat → Int) (vp : Nat → Int) (gp : Nat → Int) {r : Rt25} (h : Goes ((q25 ph ev ap np mp tp vp gp)) ((p25 ph ev ap np mp tp vp gp)) r) : CallR Try.prog 25 [.agg [.int .i64 ph, .bool ev, .loose ⟨0, 3, ap, 0⟩ np]] [[(0, (false, .cols mp [.int .i64 tp, .int .i64 vp, .int .i64 gp]))]] 1 ((V25 ph ev ap np mp tp vp gp) r) ((fun r => [newL (1 + 1) ((N25 ph ev ap np mp tp vp gp) r) ++ [(0, (false, .cols mp [.int .i64 tp, .int .i64 vp, .int .i64 gp]))]]) r) 400 ∧ ∃ F, Try.prog.funcs[25]? = some F ∧ F.body.isSome = true ∧ (F.name == "runtime.NumGoroutine") = false := by
  refine dec_calls (f := 25) (lo := 1) (hi := 400) (H := [[(0, (false, .cols mp [.int .i64 tp, .int .i64 vp, .int .i64 gp]))]]) (args := [.agg [.int .i64 ph, .bool ev, .loose ⟨0, 3, ap, 0⟩ np]]) Try.envOk Try.mixed xM2_ok ((I25 ph ev ap np mp tp vp gp)) ((V25 ph ev ap np mp tp vp gp)) (fun r => [newL (1 + 1) ((N25 ph ev ap np mp tp vp gp) r) ++ [(0, (false, .cols mp [.int .i64 tp, .int .i64 vp, .int .i64 gp]))]]) (fn := mkFn Try.f25) (ts := []) (n := 400) rfl (by decide) (by simp) (names_of rfl) ?_ ?_ ?_ h
  · intro s; exact s.elim
  · intro Kst Kret x hS hR h
    exact Holds.eq (te25 cond Kst Kret ph ev ap np mp tp vp gp) (be25 ph ev ap np mp tp vp gp Kst Kret x hS hR h)
  · intro Kst Kret x hS hR s h; exact s.elim
noncomputable def k25 : Con := ⟨25, [.agg [.plain (.int .i64), .plain (.bool), .list [.int .i64, .int .i64, .int .i64]]], fun (x : (Int × Bool × (Nat × Nat × Nat × (Nat → Int) × (Nat → Int) × (Nat → Int) × Unit) × Unit) × Unit) => (fun (ph : Int) (ev : Bool) (ap np mp : Nat) (tp : Nat → Int) (vp : Nat → Int) (gp : Nat → Int) => decide (ap + np ≤ mp ∧ np ≤ 1000000)) x.1.1 x.1.2.1 x.1.2.2.1.1 x.1.2.2.1.2.1 x.1.2.2.1.2.2.1 x.1.2.2.1.2.2.2.1 x.1.2.2.1.2.2.2.2.1 x.1.2.2.1.2.2.2.2.2.1, fun (x : (Int × Bool × (Nat × Nat × Nat × (Nat → Int) × (Nat → Int) × (Nat → Int) × Unit) × Unit) × Unit) => (fun (ph : Int) (ev : Bool) (ap np mp : Nat) (tp : Nat → Int) (vp : Nat → Int) (gp : Nat → Int) => (V25 ph ev ap np mp tp vp gp) (S.numS ph ev np (fun q => tp (q + ap)) (fun q => vp (q + ap)) (fun q => gp (q + ap)))) x.1.1 x.1.2.1 x.1.2.2.1.1 x.1.2.2.1.2.1 x.1.2.2.1.2.2.1 x.1.2.2.1.2.2.2.1 x.1.2.2.1.2.2.2.2.1 x.1.2.2.1.2.2.2.2.2.1, fun (x : (Int × Bool × (Nat × Nat × Nat × (Nat → Int) × (Nat → Int) × (Nat → Int) × Unit) × Unit) × Unit) => (fun (ph : Int) (ev : Bool) (ap np mp : Nat) (tp : Nat → Int) (vp : Nat → Int) (gp : Nat → Int) => (N25 ph ev ap np mp tp vp gp) (S.numS ph ev np (fun q => tp (q + ap)) (fun q => vp (q + ap)) (fun q => gp (q + ap)))) x.1.1 x.1.2.1 x.1.2.2.1.1 x.1.2.2.1.2.1 x.1.2.2.1.2.2.1 x.1.2.2.1.2.2.2.1 x.1.2.2.1.2.2.2.2.1 x.1.2.2.1.2.2.2.2.2.1, fun _ _ => .dead⟩
theorem s25 (ph : Int) (ev : Bool) (ap np mp : Nat) (tp : Nat → Int) (vp : Nat → Int) (gp : Nat → Int) (hp : ap + np ≤ mp ∧ np ≤ 1000000) : Goes ((q25 ph ev ap np mp tp vp gp)) ((p25 ph ev ap np mp tp vp gp)) (S.numS ph ev np (fun q => tp (q + ap)) (fun q => vp (q + ap)) (fun q => gp (q + ap))) := by
  unfold S.numS
  by_cases h0 : S.traE ph ev np (fun q => tp (q + ap)) (fun q => vp (q + ap)) (fun q => gp (q + ap)) = 0
  · rw [if_pos h0]
    show Goes _ _ _
    unfold p25
    repeat' first
      | with_reducible refine goes_if (fun h => ?_) (fun h => ?_) <;> (try simp only [lim64, decide_eq_true_eq, decide_eq_false_iff_not, Int.toNat_natCast, toNat_pred, toNat_succ, Option.getD_some, Option.getD_none, Bool.not_eq_true', Bool.not_eq_false', Bool.and_eq_true, Bool.or_eq_true, Bool.and_eq_false_iff, Bool.or_eq_false_iff, bne_iff_ne, beq_iff_eq, bne_eq_false_iff_eq, beq_eq_false_iff_ne, ne_eq, not_and, Int.not_le, Int.not_lt, ge_iff_le, gt_iff_lt, Nat.not_lt, Nat.not_le, Bool.not_eq_true, Bool.not_eq_false, Bool.true_eq_false, Bool.false_eq_true, not_false_eq_true, not_true_eq_false] at h)
      | exact goes_none.mpr (by omega)
    all_goals first | (exfalso; omega) | rfl
  · rw [if_neg h0]
    show Goes _ _ _
    unfold p25
    repeat' first
      | with_reducible refine goes_if (fun h => ?_) (fun h => ?_) <;> (try simp only [lim64, decide_eq_true_eq, decide_eq_false_iff_not, Int.toNat_natCast, toNat_pred, toNat_succ, Option.getD_some, Option.getD_none, Bool.not_eq_true', Bool.not_eq_false', Bool.and_eq_true, Bool.or_eq_true, Bool.and_eq_false_iff, Bool.or_eq_false_iff, bne_iff_ne, beq_iff_eq, bne_eq_false_iff_eq, beq_eq_false_iff_ne, ne_eq, not_and, Int.not_le, Int.not_lt, ge_iff_le, gt_iff_lt, Nat.not_lt, Nat.not_le, Bool.not_eq_true, Bool.not_eq_false, Bool.true_eq_false, Bool.false_eq_true, not_false_eq_true, not_true_eq_false] at h)
      | exact goes_none.mpr (by omega)
    all_goals first | (exfalso; omega) | rfl

theorem k25_ok : k25.ok Try.prog := by
  intro x hx
  obtain ⟨⟨ph, ev, ⟨ap, np, mp, tp, vp, gp, _⟩, _⟩, _⟩ := x
  obtain ⟨h1, h2⟩ := a25 ph ev ap np mp tp vp gp (s25 ph ev ap np mp tp vp gp (of_dec hx rfl))
  exact ⟨⟨400, (by decide : 1 + 1 + 0 ≤ 400), h1⟩, h2⟩
inductive St26 where
  | h0 (x0 : Int) (x1 : Int) (x2 : Bool) (x3 : List (Int × Int × Int))
abbrev Rt26 := Int × Bool × Int × List (Int × Int × Int)
noncomputable def V26 (na : Int) (co : Int) (r : Rt26) : PV := PV.tup
 [PV.agg
 [PV.int IntKind.i64 r.1, PV.bool r.2.1, PV.own (1) (3) (List.length r.2.2.2)],
 PV.int IntKind.i64 r.2.2.1]
noncomputable def N26 (na : Int) (co : Int) (r : Rt26) : List Blk := [Blk.cols (List.length r.2.2.2)
 [Col.int IntKind.i64 fun (j : Nat) => (S.at' r.2.2.2 j).1,
 Col.int IntKind.i64 fun (j : Nat) => (S.at' r.2.2.2 j).2.1,
 Col.int IntKind.i64 fun (j : Nat) => (S.at' r.2.2.2 j).2.2]]
noncomputable def I26 (na : Int) (co : Int) : St26 → Hd
  | .h0 x0 x1 x2 x3 => ⟨hd Try.f26 0, [PV.ptr (PA.mk (0) (0) (0) (0)),
 PV.ptr (PA.mk (1) (0) (0) (0)), PV.int IntKind.i64 x0,
 PV.int IntKind.i64 na, PV.int IntKind.i64 x1], [[(0, (true, Blk.cells [PV.int IntKind.i64 (0 : Int), PV.tf false, PV.nils])), (1, (true, Blk.cells
 [PV.int IntKind.i64 (Int.tmod co (5 : Int)), PV.bool x2,
 PV.own (2) (3) (List.length x3)])), (2, (true, Blk.cols (List.length x3)
 [Col.int IntKind.i64 fun (j : Nat) => (S.at' x3 j).1,
 Col.int IntKind.i64 fun (j : Nat) => (S.at' x3 j).2.1,
 Col.int IntKind.i64 fun (j : Nat) => (S.at' x3 j).2.2]))], []], 3⟩
noncomputable def q26 (na : Int) (co : Int) : St26 → Option (St26 ⊕ Rt26)
  | .h0 x0 x1 x2 x3 => bif (decide (x1 < na))
 then (bif (lim IntKind.i64 (Int.tdiv x0 (160 : Int)))
 then (bif (lim IntKind.i64 (Int.tdiv (Int.tmod x0 (160 : Int)) (8 : Int)))
 then (bif (lim IntKind.i64 (Int.tdiv (Int.tmod x0 (160 : Int)) (32 : Int)))
 then (bif (decide (List.length x3 + 1 ≤ 1000000))
 then (bif (decide (List.length x3 ≤ List.length x3))
 then (bif (lim IntKind.i64 (x1 + (1 : Int)))
 then (some (.inl (.h0 (Int.tdiv x0 (160 : Int)) (x1 + (1 : Int)) (x2) (S.snoc x3
 (Int.tmod (Int.tmod x0 (160 : Int)) (8 : Int), Int.tmod (Int.tdiv (Int.tmod x0 (160 : Int)) (8 : Int)) (4 : Int),
 Int.tdiv (Int.tmod x0 (160 : Int)) (32 : Int))))))
 else (none))
 else (none))
 else (none))
 else (none))
 else (none))
 else (none))
 else (bif (decide (x0 > (0 : Int)))
 then (some (.inr ((0 : Int), false, (6 : Int), [])))
 else (some (.inr (Int.tmod co (5 : Int), x2, (0 : Int), x3))))
noncomputable def p26 (na : Int) (co : Int) : Option (St26 ⊕ Rt26) := bif (decide (na < (1 : Int)))
 then (some (.inr ((0 : Int), false, (6 : Int), [])))
 else (bif (decide (na > (8 : Int)))
 then (some (.inr ((0 : Int), false, (6 : Int), [])))
 else (bif (decide (co < (0 : Int)))
 then (some (.inr ((0 : Int), false, (6 : Int), [])))
 else (bif (Int.tmod co (5 : Int) == (4 : Int))
 then (bif (lim IntKind.i64 (Int.tdiv co (5 : Int)))
 then (some (.inl (.h0 (Int.tdiv co (5 : Int)) ((0 : Int)) (true) ([]))))
 else (none))
 else (bif (lim IntKind.i64 (Int.tdiv co (5 : Int)))
 then (some (.inl (.h0 (Int.tdiv co (5 : Int)) ((0 : Int)) (false) ([]))))
 else (none)))))
noncomputable def Te26 (test : Bool → Prop → Prop → Prop) (Kst : KS) (Kret : KR) (na : Int) (co : Int) : Prop :=
  test (decide (na < (1 : Int)))
 (Kret (PV.tup
 [PV.agg [PV.int IntKind.i64 (0 : Int), PV.tf false, PV.nils],
 PV.int IntKind.i64 (6 : Int)]) ([[]]) (1))
 (test (decide (na > (8 : Int)))
 (Kret (PV.tup
 [PV.agg [PV.int IntKind.i64 (0 : Int), PV.tf false, PV.nils],
 PV.int IntKind.i64 (6 : Int)]) ([[]]) (1))
 (test (decide (co < (0 : Int)))
 (Kret (PV.tup
 [PV.agg [PV.int IntKind.i64 (0 : Int), PV.tf false, PV.nils],
 PV.int IntKind.i64 (6 : Int)]) ([[]]) (1))
 (test (false)
 (False)
 (test (Int.tmod co (5 : Int) == (4 : Int))
 (test (false)
 (False)
 (test (lim IntKind.i64 (Int.tdiv co (5 : Int)))
 (Kst (hd Try.f26 0) ([PV.ptr (PA.mk (0) (0) (0) (0)),
 PV.ptr (PA.mk (1) (0) (0) (0)),
 PV.int IntKind.i64 (Int.tdiv co (5 : Int)), PV.int IntKind.i64 na,
 PV.int IntKind.i64 (0 : Int)]) ([[(1, true,
 Blk.cells [PV.int IntKind.i64 (Int.tmod co (5 : Int)), PV.tf true, PV.nils]),
 (0, true,
 Blk.cells [PV.int IntKind.i64 (0 : Int), PV.tf false, PV.nils])]]) (2))
 (False)))
 (test (false)
 (False)
 (test (lim IntKind.i64 (Int.tdiv co (5 : Int)))
 (Kst (hd Try.f26 0) ([PV.ptr (PA.mk (0) (0) (0) (0)),
 PV.ptr (PA.mk (1) (0) (0) (0)),
 PV.int IntKind.i64 (Int.tdiv co (5 : Int)), PV.int IntKind.i64 na,
 PV.int IntKind.i64 (0 : Int)]) ([[(1, true,
 Blk.cells [PV.int IntKind.i64 (Int.tmod co (5 : Int)), PV.tf false, PV.nils]),
 (0, true,
 Blk.cells [PV.int IntKind.i64 (0 : Int), PV.tf false, PV.nils])]]) (2))
 (False)))))))
set_option maxRecDepth 100000 in
theorem te26 (test : Bool → Prop → Prop → Prop) (Kst : KS) (Kret : KR) (na : Int) (co : Int) : run test Try.env true noX true 400 ⟨26, [.cd (mkFn Try.f26).body], argT 0 [.int .i64 na, .int .i64 co], [[], []], 0⟩ (proj 0 [4, 7, 8, 29, 30] Kst Kret) =
  Te26 test Kst Kret na co := by kernel_rfl
noncomputable def T26_0 (test : Bool → Prop → Prop → Prop) (Kst : KS) (Kret : KR) (na : Int) (co : Int) (x0 : Int) (x1 : Int) (x2 : Bool) (x3 : List (Int × Int × Int)) : Prop :=
  test (decide (x1 < na))
 (test (false)
 (False)
 (test (false)
 (False)
 (test (lim IntKind.i64 (Int.tdiv x0 (160 : Int)))
 (test (false)
 (False)
 (test (false)
 (False)
 (test (lim IntKind.i64 (Int.tdiv (Int.tmod x0 (160 : Int)) (8 : Int)))
 (test (false)
 (False)
 (test (false)
 (False)
 (test (lim IntKind.i64 (Int.tdiv (Int.tmod x0 (160 : Int)) (32 : Int)))
 (test (decide (List.length x3 + 1 ≤ 1000000))
 (test (decide (List.length x3 ≤ List.length x3))
 (test (true)
 (test (lim IntKind.i64 (x1 + (1 : Int)))
 (Kst (hd Try.f26 0) ([PV.ptr (PA.mk (0) (0) (0) (0)),
 PV.ptr (PA.mk (1) (0) (0) (0)),
 PV.int IntKind.i64 (Int.tdiv x0 (160 : Int)), PV.int IntKind.i64 na,
 PV.int IntKind.i64 (x1 + (1 : Int))]) ([[(1, true,
 Blk.cells
 [PV.int IntKind.i64 (Int.tmod co (5 : Int)), PV.bool x2,
 PV.own (4) (3) (List.length x3 + 1)]),
 (0, true,
 Blk.cells [PV.int IntKind.i64 (0 : Int), PV.tf false, PV.nils]),
 (4, true,
 Blk.cols (List.length x3 + 1)
 [Col.int IntKind.i64 fun (j : Nat) =>
 bif Nat.blt j (List.length x3) then (S.at' x3 j).1
 else Int.tmod (Int.tmod x0 (160 : Int)) (8 : Int),
 Col.int IntKind.i64 fun (j : Nat) =>
 bif Nat.blt j (List.length x3) then (S.at' x3 j).2.1
 else Int.tmod (Int.tdiv (Int.tmod x0 (160 : Int)) (8 : Int)) (4 : Int),
 Col.int IntKind.i64 fun (j : Nat) =>
 bif Nat.blt j (List.length x3) then (S.at' x3 j).2.2
 else Int.tdiv (Int.tmod x0 (160 : Int)) (32 : Int)])]]) (5))
 (False))
 (False))
 (False))
 (False))
 (False))))
 (False))))
 (False))))
 (test (decide (x0 > (0 : Int)))
 (Kret (PV.tup
 [PV.agg [PV.int IntKind.i64 (0 : Int), PV.tf false, PV.nils],
 PV.int IntKind.i64 (6 : Int)]) ([[]]) (3))
 (Kret (PV.tup
 [PV.agg
 [PV.int IntKind.i64 (Int.tmod co (5 : Int)), PV.bool x2,
 PV.own (2) (3) (List.length x3)],
 PV.int IntKind.i64 (0 : Int)]) ([[(2, true,
 Blk.cols (List.length x3)
 [Col.int IntKind.i64 fun (j : Nat) => (S.at' x3 j).1,
 Col.int IntKind.i64 fun (j : Nat) => (S.at' x3 j).2.1,
 Col.int IntKind.i64 fun (j : Nat) => (S.at' x3 j).2.2])]]) (3)))
set_option maxRecDepth 100000 in
theorem t26_0 (test : Bool → Prop → Prop → Prop) (Kst : KS) (Kret : KR) (na : Int) (co : Int) (x0 : Int) (x1 : Int) (x2 : Bool) (x3 : List (Int × Int × Int)) : run test Try.env true noX true 400 ⟨26, hd Try.f26 0, zipT [4, 7, 8, 29, 30] [PV.ptr (PA.mk (0) (0) (0) (0)),
 PV.ptr (PA.mk (1) (0) (0) (0)), PV.int IntKind.i64 x0,
 PV.int IntKind.i64 na, PV.int IntKind.i64 x1], [[(0, (true, Blk.cells [PV.int IntKind.i64 (0 : Int), PV.tf false, PV.nils])), (1, (true, Blk.cells
 [PV.int IntKind.i64 (Int.tmod co (5 : Int)), PV.bool x2,
 PV.own (2) (3) (List.length x3)])), (2, (true, Blk.cols (List.length x3)
 [Col.int IntKind.i64 fun (j : Nat) => (S.at' x3 j).1,
 Col.int IntKind.i64 fun (j : Nat) => (S.at' x3 j).2.1,
 Col.int IntKind.i64 fun (j : Nat) => (S.at' x3 j).2.2]))], []], 3⟩ (proj 0 [4, 7, 8, 29, 30] Kst Kret) =
  T26_0 test Kst Kret na co x0 x1 x2 x3 := by kernel_rfl
set_option maxRecDepth 100000 in
theorem be26 (na : Int) (co : Int) (Kst : KS) (Kret : KR) (x : St26 ⊕ Rt26) (hS : HS 0 400 ((I26 na co)) Kst x) (hR : HR 0 400 ((V26 na co)) (fun r => [newL (0 + 1) ((N26 na co) r) ++ []]) Kret x) (h : (bif (decide (na < (1 : Int)))
 then (some (.inr ((0 : Int), false, (6 : Int), [])))
 else (bif (decide (na > (8 : Int)))
 then (some (.inr ((0 : Int), false, (6 : Int), [])))
 else (bif (decide (co < (0 : Int)))
 then (some (.inr ((0 : Int), false, (6 : Int), [])))
 else (bif (Int.tmod co (5 : Int) == (4 : Int))
 then (bif (lim IntKind.i64 (Int.tdiv co (5 : Int)))
 then (some (.inl (.h0 (Int.tdiv co (5 : Int)) ((0 : Int)) (true) ([]))))
 else (none))
 else (bif (lim IntKind.i64 (Int.tdiv co (5 : Int)))
 then (some (.inl (.h0 (Int.tdiv co (5 : Int)) ((0 : Int)) (false) ([]))))
 else (none))))) : Option (St26 ⊕ Rt26)) = some x) : Te26 cond Kst Kret na co := by
  unfold Te26
  exact bif_split h
   (fun c0 h => ret_at hR _ h (fun n => bif Nat.beq n 1 then 399 else n) rfl rfl rfl (rn_tup ⟨(rn_agg ⟨(rn_int rfl), (rn_bool_tf rfl), (rn_own_nils rfl), trivial⟩), (rn_int rfl), trivial⟩) rfl (entl_fresh (use_own rfl) (fresh_ok rfl) entl_nil))
   (fun c0 h => bif_split h
   (fun c1 h => ret_at hR _ h (fun n => bif Nat.beq n 1 then 399 else n) rfl rfl rfl (rn_tup ⟨(rn_agg ⟨(rn_int rfl), (rn_bool_tf rfl), (rn_own_nils rfl), trivial⟩), (rn_int rfl), trivial⟩) rfl (entl_fresh (use_own rfl) (fresh_ok rfl) entl_nil))
   (fun c1 h => bif_split h
   (fun c2 h => ret_at hR _ h (fun n => bif Nat.beq n 1 then 399 else n) rfl rfl rfl (rn_tup ⟨(rn_agg ⟨(rn_int rfl), (rn_bool_tf rfl), (rn_own_nils rfl), trivial⟩), (rn_int rfl), trivial⟩) rfl (entl_fresh (use_own rfl) (fresh_ok rfl) entl_nil))
   (fun c2 h => cond_no rfl (bif_split h
   (fun c3 h => cond_no rfl (bif_split h
   (fun c4 h => stop_at hS _ h (fun n => bif Nat.beq n 0 then 0 else bif Nat.beq n 1 then 1 else bif Nat.beq n 2 then 399 else n) rfl rfl rfl ⟨(rn_ptr (use_own rfl) rfl rfl), ⟨(rn_ptr (use_own rfl) rfl rfl), ⟨(rn_int rfl), ⟨(rn_int rfl), ⟨(rn_int rfl), trivial⟩⟩⟩⟩⟩ rfl (entl_b (use_own rfl) rfl (by simp) (rb_cells ⟨(rn_int rfl), (rn_tf rfl), rn_nils, trivial⟩) (entl_b (use_own rfl) rfl (by simp) (rb_cells ⟨(rn_int rfl), (rn_bool_tf rfl), (rn_own_nils rfl), trivial⟩) (entl_fresh (use_own rfl) (fresh_ok rfl) entl_nil))))
   (fun c4 h => no_some h)))
   (fun c3 h => cond_no rfl (bif_split h
   (fun c4 h => stop_at hS _ h (fun n => bif Nat.beq n 0 then 0 else bif Nat.beq n 1 then 1 else bif Nat.beq n 2 then 399 else n) rfl rfl rfl ⟨(rn_ptr (use_own rfl) rfl rfl), ⟨(rn_ptr (use_own rfl) rfl rfl), ⟨(rn_int rfl), ⟨(rn_int rfl), ⟨(rn_int rfl), trivial⟩⟩⟩⟩⟩ rfl (entl_b (use_own rfl) rfl (by simp) (rb_cells ⟨(rn_int rfl), (rn_tf rfl), rn_nils, trivial⟩) (entl_b (use_own rfl) rfl (by simp) (rb_cells ⟨(rn_int rfl), (rn_bool_tf rfl), (rn_own_nils rfl), trivial⟩) (entl_fresh (use_own rfl) (fresh_ok rfl) entl_nil))))
   (fun c4 h => no_some h)))))))
set_option maxRecDepth 100000 in
theorem b26_0 (na : Int) (co : Int) (Kst : KS) (Kret : KR) (x : St26 ⊕ Rt26) (hS : HS 0 400 ((I26 na co)) Kst x) (hR : HR 0 400 ((V26 na co)) (fun r => [newL (0 + 1) ((N26 na co) r) ++ []]) Kret x) (x0 : Int) (x1 : Int) (x2 : Bool) (x3 : List (Int × Int × Int)) (h : (bif (decide (x1 < na))
 then (bif (lim IntKind.i64 (Int.tdiv x0 (160 : Int)))
 then (bif (lim IntKind.i64 (Int.tdiv (Int.tmod x0 (160 : Int)) (8 : Int)))
 then (bif (lim IntKind.i64 (Int.tdiv (Int.tmod x0 (160 : Int)) (32 : Int)))
 then (bif (decide (List.length x3 + 1 ≤ 1000000))
 then (bif (decide (List.length x3 ≤ List.length x3))
 then (bif (lim IntKind.i64 (x1 + (1 : Int)))
 then (some (.inl (.h0 (Int.tdiv x0 (160 : Int)) (x1 + (1 : Int)) (x2) (S.snoc x3
 (Int.tmod (Int.tmod x0 (160 : Int)) (8 : Int), Int.tmod (Int.tdiv (Int.tmod x0 (160 : Int)) (8 : Int)) (4 : Int),
 Int.tdiv (Int.tmod x0 (160 : Int)) (32 : Int))))))
 else (none))
 else (none))
 else (none))
 else (none))
 else (none))
 else (none))
 else (bif (decide (x0 > (0 : Int)))
 then (some (.inr ((0 : Int), false, (6 : Int), [])))
 else (some (.inr (Int.tmod co (5 : Int), x2, (0 : Int), x3)))) : Option (St26 ⊕ Rt26)) = some x) : T26_0 cond Kst Kret na co x0 x1 x2 x3 := by
  unfold T26_0
  exact bif_split h
   (fun c0 h => cond_no rfl (cond_no rfl (bif_split h
   (fun c1 h => cond_no rfl (cond_no rfl (bif_split h
   (fun c2 h => cond_no rfl (cond_no rfl (bif_split h
   (fun c3 h => bif_split h
   (fun c4 h => bif_split h
   (fun c5 h => cond_yes rfl (bif_split h
   (fun c6 h => stop_at hS _ h (fun n => bif Nat.beq n 0 then 0 else bif Nat.beq n 1 then 1 else bif Nat.beq n 2 then 4 else n) rfl rfl rfl ⟨(rn_ptr (use_own rfl) rfl rfl), ⟨(rn_ptr (use_own rfl) rfl rfl), ⟨(rn_int rfl), ⟨(rn_int rfl), ⟨(rn_int rfl), trivial⟩⟩⟩⟩⟩ rfl (entl_b (use_own rfl) rfl (by simp) (rb_cells ⟨(rn_int rfl), (rn_tf rfl), rn_nils, trivial⟩) (entl_b (use_own rfl) rfl (by simp) (rb_cells ⟨(rn_int rfl), (rn_bool rfl), (rn_own (use_own rfl) rfl (snoc_len' rfl)), trivial⟩) (entl_new (use_own rfl) rfl (Nat.le_of_eq (snoc_len' rfl)) (rcs_int (col_snoc' (fun (t : Int × Int × Int) => t.1) rfl (fun _ _ => rfl)) (rcs_int (col_snoc' (fun (t : Int × Int × Int) => t.2.1) rfl (fun _ _ => rfl)) (rcs_int (col_snoc' (fun (t : Int × Int × Int) => t.2.2) rfl (fun _ _ => rfl)) rcs_nil))) entl_nil))))
   (fun c6 h => no_some h)))
   (fun c5 h => no_some h))
   (fun c4 h => no_some h))
   (fun c3 h => no_some h))))
   (fun c2 h => no_some h))))
   (fun c1 h => no_some h))))
   (fun c0 h => bif_split h
   (fun c1 h => ret_at hR _ h (fun n => bif Nat.beq n 1 then 399 else n) rfl rfl rfl (rn_tup ⟨(rn_agg ⟨(rn_int rfl), (rn_bool_tf rfl), (rn_own_nils rfl), trivial⟩), (rn_int rfl), trivial⟩) rfl (entl_fresh (use_own rfl) (fresh_ok rfl) entl_nil))
   (fun c1 h => ret_at hR _ h (fun n => bif Nat.beq n 1 then 2 else n) rfl rfl rfl (rn_tup ⟨(rn_agg ⟨(rn_int rfl), (rn_bool rfl), (rn_own (use_own rfl) rfl rfl), trivial⟩), (rn_int rfl), trivial⟩) rfl (entl_new (use_own rfl) rfl (Nat.le_of_eq rfl) (rcs_int (fun _ _ => rfl) (rcs_int (fun _ _ => rfl) (rcs_int (fun _ _ => rfl) rcs_nil))) entl_nil)))
theorem a26 (na : Int) (co : Int) {r : Rt26} (h : Goes ((q26 na co)) ((p26 na co)) r) : CallR Try.prog 26 [.int .i64 na, .int .i64 co] [[]] 0 ((V26 na co) r) ((fun r => [newL (0 + 1) ((N26 na co) r) ++ []]) r) 400 ∧ ∃ F, Try.prog.funcs[26]? = some F ∧ F.body.isSome = true ∧ (F.name == "runtime.NumGoroutine") = false := by
  refine dec_calls (f := 26) (lo := 0) (hi := 400) (H := [[]]) (args := [.int .i64 na, .int .i64 co]) Try.envOk Try.mixed noX_ok ((I26 na co)) ((V26 na co)) (fun r => [newL (0 + 1) ((N26 na co) r) ++ []]) (fn := mkFn Try.f26) (ts := [4, 7, 8, 29, 30]) (n := 400) rfl (by decide) (by simp) (names_of rfl) ?_ ?_ ?_ h
  · intro s; cases s <;> exact ⟨hd_ok _ _, by simp [I26], names_of rfl, Nat.le_of_ble_eq_true rfl⟩
  · intro Kst Kret x hS hR h
    exact Holds.eq (te26 cond Kst Kret na co) (be26 na co Kst Kret x hS hR h)
  · intro Kst Kret x hS hR s h
    cases s with
    | h0 x0 x1 x2 x3 => exact Holds.eq (t26_0 cond Kst Kret na co x0 x1 x2 x3) (b26_0 na co Kst Kret x hS hR x0 x1 x2 x3 h)
noncomputable def k26 : Con := ⟨26, [.one (.plain (.int .i64)), .one (.plain (.int .i64))], fun (x : Int × Int × Unit) => (fun (na : Int) (co : Int) => decide (co ≤ 9223372036854775807)) x.1 x.2.1, fun (x : Int × Int × Unit) => (fun (na : Int) (co : Int) => (V26 na co) (S.staS na co)) x.1 x.2.1, fun (x : Int × Int × Unit) => (fun (na : Int) (co : Int) => (N26 na co) (S.staS na co)) x.1 x.2.1, fun _ _ => .dead⟩
theorem s26' (na : Int) (co : Int) (hco : 0 ≤ co ∧ co ≤ 9223372036854775807) (hn : 1 ≤ na ∧ na ≤ 8) (ev : Bool) (hev : ev = decide (co % 5 = 4)) : ∀ (k i : Nat) (y : Int) (L : List (Int × Int × Int)), i + k = na.toNat → Holds (y = S.rst (co / 5) i) → Holds (L = S.mkl i (fun q => S.pty (S.rst (co / 5) q % 160))) → Comes (q26 na co) (.h0 y (i : Int) ev L) (if S.rst (co / 5) na.toNat = 0 then (co % 5, decide (co % 5 = 4), 0, S.mkl na.toNat (fun q => S.pty (S.rst (co / 5) q % 160))) else (0, false, 6, [])) := by
  have hm5 : Int.tmod co 5 = co % 5 := Int.tmod_eq_emod_of_nonneg hco.1
  intro k
  induction k with
  | zero =>
    intro i y L hi ey eL
    obtain rfl : na.toNat = i := by omega
    have hy := rst_nn (r := co / 5) (by omega) na.toNat
    rw [← ey.get] at hy ⊢
    rw [← hev, ← eL.get, ← hm5]
    by_cases hz : y = 0
    · rw [if_pos hz]
      apply Comes.of
      show Goes _ _ _
      (first | rw [q26] | unfold q26)
      repeat' first
        | with_reducible refine goes_if (fun h => ?_) (fun h => ?_) <;> (try simp only [lim64, decide_eq_true_eq, decide_eq_false_iff_not, Int.toNat_natCast, toNat_pred, toNat_succ, Option.getD_some, Option.getD_none, Bool.not_eq_true', Bool.not_eq_false', Bool.and_eq_true, Bool.or_eq_true, Bool.and_eq_false_iff, Bool.or_eq_false_iff, bne_iff_ne, beq_iff_eq, bne_eq_false_iff_eq, beq_eq_false_iff_ne, ne_eq, not_and, Int.not_le, Int.not_lt, ge_iff_le, gt_iff_lt, Nat.not_lt, Nat.not_le, Bool.not_eq_true, Bool.not_eq_false, Bool.true_eq_false, Bool.false_eq_true, not_false_eq_true, not_true_eq_false] at h)
        | exact goes_none.mpr (by omega)
      all_goals first | (exfalso; omega) | exact goes_inr.mpr rfl
    · rw [if_neg hz]
      apply Comes.of
      show Goes _ _ _
      (first | rw [q26] | unfold q26)
      repeat' first
        | with_reducible refine goes_if (fun h => ?_) (fun h => ?_) <;> (try simp only [lim64, decide_eq_true_eq, decide_eq_false_iff_not, Int.toNat_natCast, toNat_pred, toNat_succ, Option.getD_some, Option.getD_none, Bool.not_eq_true', Bool.not_eq_false', Bool.and_eq_true, Bool.or_eq_true, Bool.and_eq_false_iff, Bool.or_eq_false_iff, bne_iff_ne, beq_iff_eq, bne_eq_false_iff_eq, beq_eq_false_iff_ne, ne_eq, not_and, Int.not_le, Int.not_lt, ge_iff_le, gt_iff_lt, Nat.not_lt, Nat.not_le, Bool.not_eq_true, Bool.not_eq_false, Bool.true_eq_false, Bool.false_eq_true, not_false_eq_true, not_true_eq_false] at h)
        | exact goes_none.mpr (by omega)
      all_goals first | (exfalso; omega) | exact goes_inr.mpr rfl
  | succ k ih =>
    intro i y L hi ey eL
    have hL : L.length = i := by rw [eL.get]; exact mkl_len
    have hy := rst_nn (r := co / 5) (by omega) i
    rw [← ey.get] at hy
    have d1 : Int.tdiv y 160 = y / 160 := Int.tdiv_eq_ediv_of_nonneg hy.1
    have d2 : Int.tmod y 160 = y % 160 := Int.tmod_eq_emod_of_nonneg hy.1
    have d3 : Int.tdiv (y % 160) 8 = y % 160 / 8 := Int.tdiv_eq_ediv_of_nonneg (by omega)
    have d4 : Int.tdiv (y % 160) 32 = y % 160 / 32 := Int.tdiv_eq_ediv_of_nonneg (by omega)
    have d5 : Int.tmod (y % 160) 8 = y % 160 % 8 := Int.tmod_eq_emod_of_nonneg (by omega)
    have d6 : Int.tmod (y % 160 / 8) 4 = y % 160 / 8 % 4 := Int.tmod_eq_emod_of_nonneg (by omega)
    have ih := ih (i + 1) (y / 160) (S.snoc L (y % 160 % 8, y % 160 / 8 % 4, y % 160 / 32)) (by omega) ⟨by rw [ey.get]; rfl⟩ ⟨by rw [mkl_succ, ← eL.get, ← ey.get]; rfl⟩
    apply Comes.of
    rw [q26]
    simp only [d1, d2, d3, d4, d5, d6]
    repeat' first
      | with_reducible refine goes_if (fun h => ?_) (fun h => ?_) <;> (try simp only [lim64, decide_eq_true_eq, decide_eq_false_iff_not, Int.toNat_natCast, toNat_pred, toNat_succ, Option.getD_some, Option.getD_none, Bool.not_eq_true', Bool.not_eq_false', Bool.and_eq_true, Bool.or_eq_true, Bool.and_eq_false_iff, Bool.or_eq_false_iff, bne_iff_ne, beq_iff_eq, bne_eq_false_iff_eq, beq_eq_false_iff_ne, ne_eq, not_and, Int.not_le, Int.not_lt, ge_iff_le, gt_iff_lt, Nat.not_lt, Nat.not_le, Bool.not_eq_true, Bool.not_eq_false, Bool.true_eq_false, Bool.false_eq_true, not_false_eq_true, not_true_eq_false] at h)
      | exact goes_none.mpr (by omega)
    all_goals first | (exfalso; omega) | exact ih
theorem s26 (na : Int) (co : Int) (hp : co ≤ 9223372036854775807) : Goes ((q26 na co)) ((p26 na co)) (S.staS na co) := by
  unfold S.staS
  by_cases h1 : (1 ≤ na ∧ na ≤ 8) ∧ 0 ≤ co
  · rw [if_pos h1]
    have hm5 : Int.tmod co 5 = co % 5 := Int.tmod_eq_emod_of_nonneg h1.2
    have hd5 : Int.tdiv co 5 = co / 5 := Int.tdiv_eq_ediv_of_nonneg h1.2
    by_cases h4 : co % 5 = 4
    · have hm := s26' na co ⟨h1.2, hp⟩ h1.1 true (decide_eq_true h4).symm na.toNat 0 (co / 5) [] (Nat.zero_add _) ⟨rfl⟩ ⟨rfl⟩
      unfold p26
      simp only [hm5, hd5]
      show Goes _ _ _
      repeat' first
        | with_reducible refine goes_if (fun h => ?_) (fun h => ?_) <;> (try simp only [lim64, decide_eq_true_eq, decide_eq_false_iff_not, Int.toNat_natCast, toNat_pred, toNat_succ, Option.getD_some, Option.getD_none, Bool.not_eq_true', Bool.not_eq_false', Bool.and_eq_true, Bool.or_eq_true, Bool.and_eq_false_iff, Bool.or_eq_false_iff, bne_iff_ne, beq_iff_eq, bne_eq_false_iff_eq, beq_eq_false_iff_ne, ne_eq, not_and, Int.not_le, Int.not_lt, ge_iff_le, gt_iff_lt, Nat.not_lt, Nat.not_le, Bool.not_eq_true, Bool.not_eq_false, Bool.true_eq_false, Bool.false_eq_true, not_false_eq_true, not_true_eq_false] at h)
        | exact goes_none.mpr (by omega)
      all_goals first | (exfalso; omega) | exact hm
    · have hm := s26' na co ⟨h1.2, hp⟩ h1.1 false (decide_eq_false h4).symm na.toNat 0 (co / 5) [] (Nat.zero_add _) ⟨rfl⟩ ⟨rfl⟩
      unfold p26
      simp only [hm5, hd5]
      show Goes _ _ _
      repeat' first
        | with_reducible refine goes_if (fun h => ?_) (fun h => ?_) <;> (try simp only [lim64, decide_eq_true_eq, decide_eq_false_iff_not, Int.toNat_natCast, toNat_pred, toNat_succ, Option.getD_some, Option.getD_none, Bool.not_eq_true', Bool.not_eq_false', Bool.and_eq_true, Bool.or_eq_true, Bool.and_eq_false_iff, Bool.or_eq_false_iff, bne_iff_ne, beq_iff_eq, bne_eq_false_iff_eq, beq_eq_false_iff_ne, ne_eq, not_and, Int.not_le, Int.not_lt, ge_iff_le, gt_iff_lt, Nat.not_lt, Nat.not_le, Bool.not_eq_true, Bool.not_eq_false, Bool.true_eq_false, Bool.false_eq_true, not_false_eq_true, not_true_eq_false] at h)
        | exact goes_none.mpr (by omega)
      all_goals first | (exfalso; omega) | exact hm
  · rw [if_neg h1]
    show Goes _ _ _
    unfold p26
    repeat' first
      | with_reducible refine goes_if (fun h => ?_) (fun h => ?_) <;> (try simp only [lim64, decide_eq_true_eq, decide_eq_false_iff_not, Int.toNat_natCast, toNat_pred, toNat_succ, Option.getD_some, Option.getD_none, Bool.not_eq_true', Bool.not_eq_false', Bool.and_eq_true, Bool.or_eq_true, Bool.and_eq_false_iff, Bool.or_eq_false_iff, bne_iff_ne, beq_iff_eq, bne_eq_false_iff_eq, beq_eq_false_iff_ne, ne_eq, not_and, Int.not_le, Int.not_lt, ge_iff_le, gt_iff_lt, Nat.not_lt, Nat.not_le, Bool.not_eq_true, Bool.not_eq_false, Bool.true_eq_false, Bool.false_eq_true, not_false_eq_true, not_true_eq_false] at h)
      | exact goes_none.mpr (by omega)
    all_goals first | (exfalso; omega) | exact goes_inr.mpr rfl

theorem k26_ok : k26.ok Try.prog := by
  intro x hx
  obtain ⟨na, co, _⟩ := x
  obtain ⟨h1, h2⟩ := a26 na co (s26 na co (of_dec hx rfl))
  exact ⟨⟨400, (by decide : 0 + 1 + 1 ≤ 400), h1⟩, h2⟩
inductive St27 where
  | h0 (x0 : Int) (x1 : Int) (x2 : Bool) (x3 : List (Int × Int × Int))
abbrev Rt27 := Int × Bool × Int × List (Int × Int × Int)
noncomputable def V27 (na : Int) (co : Int) (r : Rt27) : PV := PV.tup
 [PV.agg
 [PV.int IntKind.i64 r.1, PV.bool r.2.1, PV.own (1) (3) (List.length r.2.2.2)],
 PV.int IntKind.i64 r.2.2.1]
noncomputable def N27 (na : Int) (co : Int) (r : Rt27) : List Blk := [Blk.cols (List.length r.2.2.2)
 [Col.int IntKind.i64 fun (j : Nat) => (S.at' r.2.2.2 j).1,
 Col.int IntKind.i64 fun (j : Nat) => (S.at' r.2.2.2 j).2.1,
 Col.int IntKind.i64 fun (j : Nat) => (S.at' r.2.2.2 j).2.2]]
noncomputable def I27 (na : Int) (co : Int) : St27 → Hd
  | .h0 x0 x1 x2 x3 => ⟨hd Try.f27 0, [PV.int IntKind.i64 na, PV.ptr (PA.mk (0) (0) (0) (0)),
 PV.ptr (PA.mk (1) (0) (0) (0)), PV.int IntKind.i64 x0,
 PV.int IntKind.i64 x1], [[(0, (true, Blk.cells [PV.int IntKind.i64 (0 : Int), PV.tf false, PV.nils])), (1, (true, Blk.cells
 [PV.int IntKind.i64 (Int.tmod co (5 : Int)), PV.bool x2,
 PV.own (2) (3) (List.length x3)])), (2, (true, Blk.cols (List.length x3)
 [Col.int IntKind.i64 fun (j : Nat) => (S.at' x3 j).1,
 Col.int IntKind.i64 fun (j : Nat) => (S.at' x3 j).2.1,
 Col.int IntKind.i64 fun (j : Nat) => (S.at' x3 j).2.2]))], []], 3⟩
noncomputable def q27 (na : Int) (co : Int) : St27 → Option (St27 ⊕ Rt27)
  | .h0 x0 x1 x2 x3 => bif (decide (x1 < na))
 then (bif (lim IntKind.i64 (Int.tdiv x0 (160 : Int)))
 then (bif (lim IntKind.i64 (Int.tdiv (Int.tmod x0 (160 : Int)) (8 : Int)))
 then (bif (lim IntKind.i64 (Int.tdiv (Int.tmod x0 (160 : Int)) (32 : Int)))
 then (bif (decide (List.length x3 + 1 ≤ 1000000))
 then (bif (decide (List.length x3 ≤ List.length x3))
 then (bif (lim IntKind.i64 (x1 + (1 : Int)))
 then (some (.inl (.h0 (Int.tdiv x0 (160 : Int)) (x1 + (1 : Int)) (x2) (S.snoc x3
 (Int.tmod (Int.tmod x0 (160 : Int)) (8 : Int), Int.tmod (Int.tdiv (Int.tmod x0 (160 : Int)) (8 : Int)) (4 : Int),
 Int.tdiv (Int.tmod x0 (160 : Int)) (32 : Int))))))
 else (none))
 else (none))
 else (none))
 else (none))
 else (none))
 else (none))
 else (bif (x0 != (0 : Int))
 then (some (.inr ((0 : Int), false, (6 : Int), [])))
 else (some (.inr (Int.tmod co (5 : Int), x2, (0 : Int), x3))))
noncomputable def p27 (na : Int) (co : Int) : Option (St27 ⊕ Rt27) := bif (decide (na < (1 : Int)))
 then (some (.inr ((0 : Int), false, (6 : Int), [])))
 else (bif (decide (na > (8 : Int)))
 then (some (.inr ((0 : Int), false, (6 : Int), [])))
 else (bif (decide (co < (0 : Int)))
 then (some (.inr ((0 : Int), false, (6 : Int), [])))
 else (bif (Int.tmod co (5 : Int) == (4 : Int))
 then (bif (lim IntKind.i64 (Int.tdiv co (5 : Int)))
 then (some (.inl (.h0 (Int.tdiv co (5 : Int)) ((0 : Int)) (true) ([]))))
 else (none))
 else (bif (lim IntKind.i64 (Int.tdiv co (5 : Int)))
 then (some (.inl (.h0 (Int.tdiv co (5 : Int)) ((0 : Int)) (false) ([]))))
 else (none)))))
noncomputable def Te27 (test : Bool → Prop → Prop → Prop) (Kst : KS) (Kret : KR) (na : Int) (co : Int) : Prop :=
  test (decide (na < (1 : Int)))
 (Kret (PV.tup
 [PV.agg [PV.int IntKind.i64 (0 : Int), PV.tf false, PV.nils],
 PV.int IntKind.i64 (6 : Int)]) ([[]]) (1))
 (test (decide (na > (8 : Int)))
 (Kret (PV.tup
 [PV.agg [PV.int IntKind.i64 (0 : Int), PV.tf false, PV.nils],
 PV.int IntKind.i64 (6 : Int)]) ([[]]) (1))
 (test (decide (co < (0 : Int)))
 (Kret (PV.tup
 [PV.agg [PV.int IntKind.i64 (0 : Int), PV.tf false, PV.nils],
 PV.int IntKind.i64 (6 : Int)]) ([[]]) (1))
 (test (false)
 (False)
 (test (false)
 (False)
 (test (Int.tmod co (5 : Int) == (4 : Int))
 (test (false)
 (False)
 (test (lim IntKind.i64 (Int.tdiv co (5 : Int)))
 (Kst (hd Try.f27 0) ([PV.int IntKind.i64 na, PV.ptr (PA.mk (0) (0) (0) (0)),
 PV.ptr (PA.mk (1) (0) (0) (0)),
 PV.int IntKind.i64 (Int.tdiv co (5 : Int)), PV.int IntKind.i64 (0 : Int)]) ([[(1, true,
 Blk.cells [PV.int IntKind.i64 (Int.tmod co (5 : Int)), PV.tf true, PV.nils]),
 (0, true,
 Blk.cells [PV.int IntKind.i64 (0 : Int), PV.tf false, PV.nils])]]) (2))
 (False)))
 (test (false)
 (False)
 (test (lim IntKind.i64 (Int.tdiv co (5 : Int)))
 (Kst (hd Try.f27 0) ([PV.int IntKind.i64 na, PV.ptr (PA.mk (0) (0) (0) (0)),
 PV.ptr (PA.mk (1) (0) (0) (0)),
 PV.int IntKind.i64 (Int.tdiv co (5 : Int)), PV.int IntKind.i64 (0 : Int)]) ([[(1, true,
 Blk.cells [PV.int IntKind.i64 (Int.tmod co (5 : Int)), PV.tf false, PV.nils]),
 (0, true,
 Blk.cells [PV.int IntKind.i64 (0 : Int), PV.tf false, PV.nils])]]) (2))
 (False))))))))
set_option maxRecDepth 100000 in
theorem te27 (test : Bool → Prop → Prop → Prop) (Kst : KS) (Kret : KR) (na : Int) (co : Int) : run test Try.env true noX true 400 ⟨27, [.cd (mkFn Try.f27).body], argT 0 [.int .i64 na, .int .i64 co], [[], []], 0⟩ (proj 0 [0, 4, 6, 7, 8] Kst Kret) =
  Te27 test Kst Kret na co := by kernel_rfl
noncomputable def T27_0 (test : Bool → Prop → Prop → Prop) (Kst : KS) (Kret : KR) (na : Int) (co : Int) (x0 : Int) (x1 : Int) (x2 : Bool) (x3 : List (Int × Int × Int)) : Prop :=
  test (decide (x1 < na))
 (test (false)
 (False)
 (test (false)
 (False)
 (test (lim IntKind.i64 (Int.tdiv x0 (160 : Int)))
 (test (false)
 (False)
 (test (false)
 (False)
 (test (lim IntKind.i64 (Int.tdiv (Int.tmod x0 (160 : Int)) (8 : Int)))
 (test (false)
 (False)
 (test (false)
 (False)
 (test (lim IntKind.i64 (Int.tdiv (Int.tmod x0 (160 : Int)) (32 : Int)))
 (test (decide (List.length x3 + 1 ≤ 1000000))
 (test (decide (List.length x3 ≤ List.length x3))
 (test (true)
 (test (lim IntKind.i64 (x1 + (1 : Int)))
 (Kst (hd Try.f27 0) ([PV.int IntKind.i64 na, PV.ptr (PA.mk (0) (0) (0) (0)),
 PV.ptr (PA.mk (1) (0) (0) (0)),
 PV.int IntKind.i64 (Int.tdiv x0 (160 : Int)), PV.int IntKind.i64 (x1 + (1 : Int))]) ([[(1, true,
 Blk.cells
 [PV.int IntKind.i64 (Int.tmod co (5 : Int)), PV.bool x2,
 PV.own (4) (3) (List.length x3 + 1)]),
 (0, true,
 Blk.cells [PV.int IntKind.i64 (0 : Int), PV.tf false, PV.nils]),
 (4, true,
 Blk.cols (List.length x3 + 1)
 [Col.int IntKind.i64 fun (j : Nat) =>
 bif Nat.blt j (List.length x3) then (S.at' x3 j).1
 else Int.tmod (Int.tmod x0 (160 : Int)) (8 : Int),
 Col.int IntKind.i64 fun (j : Nat) =>
 bif Nat.blt j (List.length x3) then (S.at' x3 j).2.1
 else Int.tmod (Int.tdiv (Int.tmod x0 (160 : Int)) (8 : Int)) (4 : Int),
 Col.int IntKind.i64 fun (j : Nat) =>
 bif Nat.blt j (List.length x3) then (S.at' x3 j).2.2
 else Int.tdiv (Int.tmod x0 (160 : Int)) (32 : Int)])]]) (5))
 (False))
 (False))
 (False))
 (False))
 (False))))
 (False))))
 (False))))
 (test (x0 != (0 : Int))
 (Kret (PV.tup
 [PV.agg [PV.int IntKind.i64 (0 : Int), PV.tf false, PV.nils],
 PV.int IntKind.i64 (6 : Int)]) ([[]]) (3))
 (Kret (PV.tup
 [PV.agg
 [PV.int IntKind.i64 (Int.tmod co (5 : Int)), PV.bool x2,
 PV.own (2) (3) (List.length x3)],
 PV.int IntKind.i64 (0 : Int)]) ([[(2, true,
 Blk.cols (List.length x3)
 [Col.int IntKind.i64 fun (j : Nat) => (S.at' x3 j).1,
 Col.int IntKind.i64 fun (j : Nat) => (S.at' x3 j).2.1,
 Col.int IntKind.i64 fun (j : Nat) => (S.at' x3 j).2.2])]]) (3)))
set_option maxRecDepth 100000 in
theorem t27_0 (test : Bool → Prop → Prop → Prop) (Kst : KS) (Kret : KR) (na : Int) (co : Int) (x0 : Int) (x1 : Int) (x2 : Bool) (x3 : List (Int × Int × Int)) : run test Try.env true noX true 400 ⟨27, hd Try.f27 0, zipT [0, 4, 6, 7, 8] [PV.int IntKind.i64 na, PV.ptr (PA.mk (0) (0) (0) (0)),
 PV.ptr (PA.mk (1) (0) (0) (0)), PV.int IntKind.i64 x0,
 PV.int IntKind.i64 x1], [[(0, (true, Blk.cells [PV.int IntKind.i64 (0 : Int), PV.tf false, PV.nils])), (1, (true, Blk.cells
 [PV.int IntKind.i64 (Int.tmod co (5 : Int)), PV.bool x2,
 PV.own (2) (3) (List.length x3)])), (2, (true, Blk.cols (List.length x3)
 [Col.int IntKind.i64 fun (j : Nat) => (S.at' x3 j).1,
 Col.int IntKind.i64 fun (j : Nat) => (S.at' x3 j).2.1,
 Col.int IntKind.i64 fun (j : Nat) => (S.at' x3 j).2.2]))], []], 3⟩ (proj 0 [0, 4, 6, 7, 8] Kst Kret) =
  T27_0 test Kst Kret na co x0 x1 x2 x3 := by kernel_rfl
set_option maxRecDepth 100000 in
theorem be27 (na : Int) (co : Int) (Kst : KS) (Kret : KR) (x : St27 ⊕ Rt27) (hS : HS 0 400 ((I27 na co)) Kst x) (hR : HR 0 400 ((V27 na co)) (fun r => [newL (0 + 1) ((N27 na co) r) ++ []]) Kret x) (h : (bif (decide (na < (1 : Int)))
 then (some (.inr ((0 : Int), false, (6 : Int), [])))
 else (bif (decide (na > (8 : Int)))
 then (some (.inr ((0 : Int), false, (6 : Int), [])))
 else (bif (decide (co < (0 : Int)))
 then (some (.inr ((0 : Int), false, (6 : Int), [])))
 else (bif (Int.tmod co (5 : Int) == (4 : Int))
 then (bif (lim IntKind.i64 (Int.tdiv co (5 : Int)))
 then (some (.inl (.h0 (Int.tdiv co (5 : Int)) ((0 : Int)) (true) ([]))))
 else (none))
 else (bif (lim IntKind.i64 (Int.tdiv co (5 : Int)))
 then (some (.inl (.h0 (Int.tdiv co (5 : Int)) ((0 : Int)) (false) ([]))))
 else (none))))) : Option (St27 ⊕ Rt27)) = some x) : Te27 cond Kst Kret na co := by
  unfold Te27
  exact bif_split h
   (fun c0 h => ret_at hR _ h (fun n => bif Nat.beq n 1 then 399 else n) rfl rfl rfl (rn_tup ⟨(rn_agg ⟨(rn_int rfl), (rn_bool_tf rfl), (rn_own_nils rfl), trivial⟩), (rn_int rfl), trivial⟩) rfl (entl_fresh (use_own rfl) (fresh_ok rfl) entl_nil))
   (fun c0 h => bif_split h
   (fun c1 h => ret_at hR _ h (fun n => bif Nat.beq n 1 then 399 else n) rfl rfl rfl (rn_tup ⟨(rn_agg ⟨(rn_int rfl), (rn_bool_tf rfl), (rn_own_nils rfl), trivial⟩), (rn_int rfl), trivial⟩) rfl (entl_fresh (use_own rfl) (fresh_ok rfl) entl_nil))
   (fun c1 h => bif_split h
   (fun c2 h => ret_at hR _ h (fun n => bif Nat.beq n 1 then 399 else n) rfl rfl rfl (rn_tup ⟨(rn_agg ⟨(rn_int rfl), (rn_bool_tf rfl), (rn_own_nils rfl), trivial⟩), (rn_int rfl), trivial⟩) rfl (entl_fresh (use_own rfl) (fresh_ok rfl) entl_nil))
   (fun c2 h => cond_no rfl (cond_no rfl (bif_split h
   (fun c3 h => cond_no rfl (bif_split h
   (fun c4 h => stop_at hS _ h (fun n => bif Nat.beq n 0 then 0 else bif Nat.beq n 1 then 1 else bif Nat.beq n 2 then 399 else n) rfl rfl rfl ⟨(rn_int rfl), ⟨(rn_ptr (use_own rfl) rfl rfl), ⟨(rn_ptr (use_own rfl) rfl rfl), ⟨(rn_int rfl), ⟨(rn_int rfl), trivial⟩⟩⟩⟩⟩ rfl (entl_b (use_own rfl) rfl (by simp) (rb_cells ⟨(rn_int rfl), (rn_tf rfl), rn_nils, trivial⟩) (entl_b (use_own rfl) rfl (by simp) (rb_cells ⟨(rn_int rfl), (rn_bool_tf rfl), (rn_own_nils rfl), trivial⟩) (entl_fresh (use_own rfl) (fresh_ok rfl) entl_nil))))
   (fun c4 h => no_some h)))
   (fun c3 h => cond_no rfl (bif_split h
   (fun c4 h => stop_at hS _ h (fun n => bif Nat.beq n 0 then 0 else bif Nat.beq n 1 then 1 else bif Nat.beq n 2 then 399 else n) rfl rfl rfl ⟨(rn_int rfl), ⟨(rn_ptr (use_own rfl) rfl rfl), ⟨(rn_ptr (use_own rfl) rfl rfl), ⟨(rn_int rfl), ⟨(rn_int rfl), trivial⟩⟩⟩⟩⟩ rfl (entl_b (use_own rfl) rfl (by simp) (rb_cells ⟨(rn_int rfl), (rn_tf rfl), rn_nils, trivial⟩) (entl_b (use_own rfl) rfl (by simp) (rb_cells ⟨(rn_int rfl), (rn_bool_tf rfl), (rn_own_nils rfl), trivial⟩) (entl_fresh (use_own rfl) (fresh_ok rfl) entl_nil))))
   (fun c4 h => no_some h))))))))
set_option maxRecDepth 100000 in
theorem b27_0 (na : Int) (co : Int) (Kst : KS) (Kret : KR) (x : St27 ⊕ Rt27) (hS : HS 0 400 ((I27 na co)) Kst x) (hR : HR 0 400 ((V27 na co)) (fun r => [newL (0 + 1) ((N27 na co) r) ++ []]) Kret x) (x0 : Int) (x1 : Int) (x2 : Bool) (x3 : List (Int × Int × Int)) (h : (bif (decide (x1 < na))
 then (bif (lim IntKind.i64 (Int.tdiv x0 (160 : Int)))
 then (bif (lim IntKind.i64 (Int.tdiv (Int.tmod x0 (160 : Int)) (8 : Int)))
 then (bif (lim IntKind.i64 (Int.tdiv (Int.tmod x0 (160 : Int)) (32 : Int)))
 then (bif (decide (List.length x3 + 1 ≤ 1000000))
 then (bif (decide (List.length x3 ≤ List.length x3))
 then (bif (lim IntKind.i64 (x1 + (1 : Int)))
 then (some (.inl (.h0 (Int.tdiv x0 (160 : Int)) (x1 + (1 : Int)) (x2) (S.snoc x3
 (Int.tmod (Int.tmod x0 (160 : Int)) (8 : Int), Int.tmod (Int.tdiv (Int.tmod x0 (160 : Int)) (8 : Int)) (4 : Int),
 Int.tdiv (Int.tmod x0 (160 : Int)) (32 : Int))))))
 else (none))
 else (none))
 else (none))
 else (none))
 else (none))
 else (none))
 else (bif (x0 != (0 : Int))
 then (some (.inr ((0 : Int), false, (6 : Int), [])))
 else (some (.inr (Int.tmod co (5 : Int), x2, (0 : Int), x3)))) : Option (St27 ⊕ Rt27)) = some x) : T27_0 cond Kst Kret na co x0 x1 x2 x3 := by
  unfold T27_0
  exact bif_split h
   (fun c0 h => cond_no rfl (cond_no rfl (bif_split h
   (fun c1 h => cond_no rfl (cond_no rfl (bif_split h
   (fun c2 h => cond_no rfl (cond_no rfl (bif_split h
   (fun c3 h => bif_split h
   (fun c4 h => bif_split h
   (fun c5 h => cond_yes rfl (bif_split h
   (fun c6 h => stop_at hS _ h (fun n => bif Nat.beq n 0 then 0 else bif Nat.beq n 1 then 1 else bif Nat.beq n 2 then 4 else n) rfl rfl rfl ⟨(rn_int rfl), ⟨(rn_ptr (use_own rfl) rfl rfl), ⟨(rn_ptr (use_own rfl) rfl rfl), ⟨(rn_int rfl), ⟨(rn_int rfl), trivial⟩⟩⟩⟩⟩ rfl (entl_b (use_own rfl) rfl (by simp) (rb_cells ⟨(rn_int rfl), (rn_tf rfl), rn_nils, trivial⟩) (entl_b (use_own rfl) rfl (by simp) (rb_cells ⟨(rn_int rfl), (rn_bool rfl), (rn_own (use_own rfl) rfl (snoc_len' rfl)), trivial⟩) (entl_new (use_own rfl) rfl (Nat.le_of_eq (snoc_len' rfl)) (rcs_int (col_snoc' (fun (t : Int × Int × Int) => t.1) rfl (fun _ _ => rfl)) (rcs_int (col_snoc' (fun (t : Int × Int × Int) => t.2.1) rfl (fun _ _ => rfl)) (rcs_int (col_snoc' (fun (t : Int × Int × Int) => t.2.2) rfl (fun _ _ => rfl)) rcs_nil))) entl_nil))))
   (fun c6 h => no_some h)))
   (fun c5 h => no_some h))
   (fun c4 h => no_some h))
   (fun c3 h => no_some h))))
   (fun c2 h => no_some h))))
   (fun c1 h => no_some h))))
   (fun c0 h => bif_split h
   (fun c1 h => ret_at hR _ h (fun n => bif Nat.beq n 1 then 399 else n) rfl rfl rfl (rn_tup ⟨(rn_agg ⟨(rn_int rfl), (rn_bool_tf rfl), (rn_own_nils rfl), trivial⟩), (rn_int rfl), trivial⟩) rfl (entl_fresh (use_own rfl) (fresh_ok rfl) entl_nil))
   (fun c1 h => ret_at hR _ h (fun n => bif Nat.beq n 1 then 2 else n) rfl rfl rfl (rn_tup ⟨(rn_agg ⟨(rn_int rfl), (rn_bool rfl), (rn_own (use_own rfl) rfl rfl), trivial⟩), (rn_int rfl), trivial⟩) rfl (entl_new (use_own rfl) rfl (Nat.le_of_eq rfl) (rcs_int (fun _ _ => rfl) (rcs_int (fun _ _ => rfl) (rcs_int (fun _ _ => rfl) rcs_nil))) entl_nil)))
theorem a27 (na : Int) (co : Int) {r : Rt27} (h : Goes ((q27 na co)) ((p27 na co)) r) : CallR Try.prog 27 [.int .i64 na, .int .i64 co] [[]] 0 ((V27 na co) r) ((fun r => [newL (0 + 1) ((N27 na co) r) ++ []]) r) 400 ∧ ∃ F, Try.prog.funcs[27]? = some F ∧ F.body.isSome = true ∧ (F.name == "runtime.NumGoroutine") = false := by
  refine dec_calls (f := 27) (lo := 0) (hi := 400) (H := [[]]) (args := [.int .i64 na, .int .i64 co]) Try.envOk Try.mixed noX_ok ((I27 na co)) ((V27 na co)) (fun r => [newL (0 + 1) ((N27 na co) r) ++ []]) (fn := mkFn Try.f27) (ts := [0, 4, 6, 7, 8]) (n := 400) rfl (by decide) (by simp) (names_of rfl) ?_ ?_ ?_ h
  · intro s; cases s <;> exact ⟨hd_ok _ _, by simp [I27], names_of rfl, Nat.le_of_ble_eq_true rfl⟩
  · intro Kst Kret x hS hR h
    exact Holds.eq (te27 cond Kst Kret na co) (be27 na co Kst Kret x hS hR h)
  · intro Kst Kret x hS hR s h
    cases s with
    | h0 x0 x1 x2 x3 => exact Holds.eq (t27_0 cond Kst Kret na co x0 x1 x2 x3) (b27_0 na co Kst Kret x hS hR x0 x1 x2 x3 h)
noncomputable def k27 : Con := ⟨27, [.one (.plain (.int .i64)), .one (.plain (.int .i64))], fun (x : Int × Int × Unit) => (fun (na : Int) (co : Int) => decide (co ≤ 9223372036854775807)) x.1 x.2.1, fun (x : Int × Int × Unit) => (fun (na : Int) (co : Int) => (V27 na co) (S.staS na co)) x.1 x.2.1, fun (x : Int × Int × Unit) => (fun (na : Int) (co : Int) => (N27 na co) (S.staS na co)) x.1 x.2.1, fun _ _ => .dead⟩
theorem s27' (na : Int) (co : Int) (hco : 0 ≤ co ∧ co ≤ 9223372036854775807) (hn : 1 ≤ na ∧ na ≤ 8) (ev : Bool) (hev : ev = decide (co % 5 = 4)) : ∀ (k i : Nat) (y : Int) (L : List (Int × Int × Int)), i + k = na.toNat → Holds (y = S.rst (co / 5) i) → Holds (L = S.mkl i (fun q => S.pty (S.rst (co / 5) q % 160))) → Comes (q27 na co) (.h0 y (i : Int) ev L) (if S.rst (co / 5) na.toNat = 0 then (co % 5, decide (co % 5 = 4), 0, S.mkl na.toNat (fun q => S.pty (S.rst (co / 5) q % 160))) else (0, false, 6, [])) := by
  have hm5 : Int.tmod co 5 = co % 5 := Int.tmod_eq_emod_of_nonneg hco.1
  intro k
  induction k with
  | zero =>
    intro i y L hi ey eL
    obtain rfl : na.toNat = i := by omega
    have hy := rst_nn (r := co / 5) (by omega) na.toNat
    rw [← ey.get] at hy ⊢
    rw [← hev, ← eL.get, ← hm5]
    by_cases hz : y = 0
    · rw [if_pos hz]
      apply Comes.of
      show Goes _ _ _
      (first | rw [q27] | unfold q27)
      repeat' first
        | with_reducible refine goes_if (fun h => ?_) (fun h => ?_) <;> (try simp only [lim64, decide_eq_true_eq, decide_eq_false_iff_not, Int.toNat_natCast, toNat_pred, toNat_succ, Option.getD_some, Option.getD_none, Bool.not_eq_true', Bool.not_eq_false', Bool.and_eq_true, Bool.or_eq_true, Bool.and_eq_false_iff, Bool.or_eq_false_iff, bne_iff_ne, beq_iff_eq, bne_eq_false_iff_eq, beq_eq_false_iff_ne, ne_eq, not_and, Int.not_le, Int.not_lt, ge_iff_le, gt_iff_lt, Nat.not_lt, Nat.not_le, Bool.not_eq_true, Bool.not_eq_false, Bool.true_eq_false, Bool.false_eq_true, not_false_eq_true, not_true_eq_false] at h)
        | exact goes_none.mpr (by omega)
      all_goals first | (exfalso; omega) | exact goes_inr.mpr rfl
    · rw [if_neg hz]
      apply Comes.of
      show Goes _ _ _
      (first | rw [q27] | unfold q27)
      repeat' first
        | with_reducible refine goes_if (fun h => ?_) (fun h => ?_) <;> (try simp only [lim64, decide_eq_true_eq, decide_eq_false_iff_not, Int.toNat_natCast, toNat_pred, toNat_succ, Option.getD_some, Option.getD_none, Bool.not_eq_true', Bool.not_eq_false', Bool.and_eq_true, Bool.or_eq_true, Bool.and_eq_false_iff, Bool.or_eq_false_iff, bne_iff_ne, beq_iff_eq, bne_eq_false_iff_eq, beq_eq_false_iff_ne, ne_eq, not_and, Int.not_le, Int.not_lt, ge_iff_le, gt_iff_lt, Nat.not_lt, Nat.not_le, Bool.not_eq_true, Bool.not_eq_false, Bool.true_eq_false, Bool.false_eq_true, not_false_eq_true, not_true_eq_false] at h)
        | exact goes_none.mpr (by omega)
      all_goals first | (exfalso; omega) | exact goes_inr.mpr rfl
  | succ k ih =>
    intro i y L hi ey eL
    have hL : L.length = i := by rw [eL.get]; exact mkl_len
    have hy := rst_nn (r := co / 5) (by omega) i
    rw [← ey.get] at hy
    have d1 : Int.tdiv y 160 = y / 160 := Int.tdiv_eq_ediv_of_nonneg hy.1
    have d2 : Int.tmod y 160 = y % 160 := Int.tmod_eq_emod_of_nonneg hy.1
    have d3 : Int.tdiv (y % 160) 8 = y % 160 / 8 := Int.tdiv_eq_ediv_of_nonneg (by omega)
    have d4 : Int.tdiv (y % 160) 32 = y % 160 / 32 := Int.tdiv_eq_ediv_of_nonneg (by omega)
    have d5 : Int.tmod (y % 160) 8 = y % 160 % 8 := Int.tmod_eq_emod_of_nonneg (by omega)
    have d6 : Int.tmod (y % 160 / 8) 4 = y % 160 / 8 % 4 := Int.tmod_eq_emod_of_nonneg (by omega)
    have ih := ih (i + 1) (y / 160) (S.snoc L (y % 160 % 8, y % 160 / 8 % 4, y % 160 / 32)) (by omega) ⟨by rw [ey.get]; rfl⟩ ⟨by rw [mkl_succ, ← eL.get, ← ey.get]; rfl⟩
    apply Comes.of
    rw [q27]
    simp only [d1, d2, d3, d4, d5, d6]
    repeat' first
      | with_reducible refine goes_if (fun h => ?_) (fun h => ?_) <;> (try simp only [lim64, decide_eq_true_eq, decide_eq_false_iff_not, Int.toNat_natCast, toNat_pred, toNat_succ, Option.getD_some, Option.getD_none, Bool.not_eq_true', Bool.not_eq_false', Bool.and_eq_true, Bool.or_eq_true, Bool.and_eq_false_iff, Bool.or_eq_false_iff, bne_iff_ne, beq_iff_eq, bne_eq_false_iff_eq, beq_eq_false_iff_ne, ne_eq, not_and, Int.not_le, Int.not_lt, ge_iff_le, gt_iff_lt, Nat.not_lt, Nat.not_le, Bool.not_eq_true, Bool.not_eq_false, Bool.true_eq_false, Bool.false_eq_true, not_false_eq_true, not_true_eq_false] at h)
      | exact goes_none.mpr (by omega)
    all_goals first | (exfalso; omega) | exact ih
theorem s27 (na : Int) (co : Int) (hp : co ≤ 9223372036854775807) : Goes ((q27 na co)) ((p27 na co)) (S.staS na co) := by
  unfold S.staS
  by_cases h1 : (1 ≤ na ∧ na ≤ 8) ∧ 0 ≤ co
  · rw [if_pos h1]
    have hm5 : Int.tmod co 5 = co % 5 := Int.tmod_eq_emod_of_nonneg h1.2
    have hd5 : Int.tdiv co 5 = co / 5 := Int.tdiv_eq_ediv_of_nonneg h1.2
    by_cases h4 : co % 5 = 4
    · have hm := s27' na co ⟨h1.2, hp⟩ h1.1 true (decide_eq_true h4).symm na.toNat 0 (co / 5) [] (Nat.zero_add _) ⟨rfl⟩ ⟨rfl⟩
      unfold p27
      simp only [hm5, hd5]
      show Goes _ _ _
      repeat' first
        | with_reducible refine goes_if (fun h => ?_) (fun h => ?_) <;> (try simp only [lim64, decide_eq_true_eq, decide_eq_false_iff_not, Int.toNat_natCast, toNat_pred, toNat_succ, Option.getD_some, Option.getD_none, Bool.not_eq_true', Bool.not_eq_false', Bool.and_eq_true, Bool.or_eq_true, Bool.and_eq_false_iff, Bool.or_eq_false_iff, bne_iff_ne, beq_iff_eq, bne_eq_false_iff_eq, beq_eq_false_iff_ne, ne_eq, not_and, Int.not_le, Int.not_lt, ge_iff_le, gt_iff_lt, Nat.not_lt, Nat.not_le, Bool.not_eq_true, Bool.not_eq_false, Bool.true_eq_false, Bool.false_eq_true, not_false_eq_true, not_true_eq_false] at h)
        | exact goes_none.mpr (by omega)
      all_goals first | (exfalso; omega) | exact hm
    · have hm := s27' na co ⟨h1.2, hp⟩ h1.1 false (decide_eq_false h4).symm na.toNat 0 (co / 5) [] (Nat.zero_add _) ⟨rfl⟩ ⟨rfl⟩
      unfold p27
      simp only [hm5, hd5]
      show Goes _ _ _
      repeat' first
        | with_reducible refine goes_if (fun h => ?_) (fun h => ?_) <;> (try simp only [lim64, decide_eq_true_eq, decide_eq_false_iff_not, Int.toNat_natCast, toNat_pred, toNat_succ, Option.getD_some, Option.getD_none, Bool.not_eq_true', Bool.not_eq_false', Bool.and_eq_true, Bool.or_eq_true, Bool.and_eq_false_iff, Bool.or_eq_false_iff, bne_iff_ne, beq_iff_eq, bne_eq_false_iff_eq, beq_eq_false_iff_ne, ne_eq, not_and, Int.not_le, Int.not_lt, ge_iff_le, gt_iff_lt, Nat.not_lt, Nat.not_le, Bool.not_eq_true, Bool.not_eq_false, Bool.true_eq_false, Bool.false_eq_true, not_false_eq_true, not_true_eq_false] at h)
        | exact goes_none.mpr (by omega)
      all_goals first | (exfalso; omega) | exact hm
  · rw [if_neg h1]
    show Goes _ _ _
    unfold p27
    repeat' first
      | with_reducible refine goes_if (fun h => ?_) (fun h => ?_) <;> (try simp only [lim64, decide_eq_true_eq, decide_eq_false_iff_not, Int.toNat_natCast, toNat_pred, toNat_succ, Option.getD_some, Option.getD_none, Bool.not_eq_true', Bool.not_eq_false', Bool.and_eq_true, Bool.or_eq_true, Bool.and_eq_false_iff, Bool.or_eq_false_iff, bne_iff_ne, beq_iff_eq, bne_eq_false_iff_eq, beq_eq_false_iff_ne, ne_eq, not_and, Int.not_le, Int.not_lt, ge_iff_le, gt_iff_lt, Nat.not_lt, Nat.not_le, Bool.not_eq_true, Bool.not_eq_false, Bool.true_eq_false, Bool.false_eq_true, not_false_eq_true, not_true_eq_false] at h)
      | exact goes_none.mpr (by omega)
    all_goals first | (exfalso; omega) | exact goes_inr.mpr rfl

theorem k27_ok : k27.ok Try.prog := by
  intro x hx
  obtain ⟨na, co, _⟩ := x
  obtain ⟨h1, h2⟩ := a27 na co (s27 na co (of_dec hx rfl))
  exact ⟨⟨400, (by decide : 0 + 1 + 1 ≤ 400), h1⟩, h2⟩

end Go.Ev
