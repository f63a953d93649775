/-
  Steps.
-/
import Derived.Test.YtjkdcbkgfjdoeaaA2
namespace Go.Ev
open Go.Proofs
set_option linter.unusedVariables false
set_option linter.unusedSimpArgs false
set_option maxRecDepth 100000
inductive St17 where
  | h0 (x0 : Int) (x1 : List Int)
abbrev Rt17 := List Int
noncomputable def V17 (ph : Int) (ev : Bool) (ap np mp : Nat) (tp : Nat → Int) (vp : Nat → Int) (gp : Nat → Int) (r : Rt17) : PV := PV.own (2) (1) (List.length r)
noncomputable def N17 (ph : Int) (ev : Bool) (ap np mp : Nat) (tp : Nat → Int) (vp : Nat → Int) (gp : Nat → Int) (r : Rt17) : List Blk := [Blk.cols (List.length r) [Col.int IntKind.i64 fun (j : Nat) => S.at' r j]]
noncomputable def I17 (ph : Int) (ev : Bool) (ap np mp : Nat) (tp : Nat → Int) (vp : Nat → Int) (gp : Nat → Int) : St17 → Hd
  | .h0 x0 x1 => ⟨hd Try.f17 0, [PV.ptr (PA.mk (1) (0) (0) (0)),
 PV.own (2) (1) (List.length x1), PV.int IntKind.i64 x0], [[(1, (true, Blk.cells
 [PV.int IntKind.i64 ph, PV.bool ev,
 PV.loose (PA.mk (0) (3) ap (0)) np])), (2, (true, Blk.cols (List.length x1) [Col.int IntKind.i64 fun (j : Nat) => S.at' x1 j]))], [(0, (false, .cols mp [.int .i64 tp, .int .i64 vp, .int .i64 gp]))]], 3⟩
noncomputable def q17 (ph : Int) (ev : Bool) (ap np mp : Nat) (tp : Nat → Int) (vp : Nat → Int) (gp : Nat → Int) : St17 → Option (St17 ⊕ Rt17)
  | .h0 x0 x1 => bif (decide (x0 ≤ (89 : Int)))
 then (bif (decide (ap + np ≤ mp ∧ np ≤ 1000000 ∧ np ≤ 8 ∧ x0 ≤ (9223372036854775807 : Int)))
 then (bif (decide ((0 : Int) ≤ x0) &&
 S.posB ph ev np (fun (q : Nat) => tp (q + ap)) (fun (q : Nat) => vp (q + ap)) (fun (q : Nat) => gp (q + ap))
 (Int.toNat x0))
 then (bif (decide (List.length x1 + 1 ≤ 1000000))
 then (bif (decide (List.length x1 ≤ List.length x1))
 then (bif (lim IntKind.i64 (x0 + (1 : Int)))
 then (some (.inl (.h0 (x0 + (1 : Int)) (S.snoc x1 x0))))
 else (none))
 else (none))
 else (none))
 else (bif (lim IntKind.i64 (x0 + (1 : Int)))
 then (some (.inl (.h0 (x0 + (1 : Int)) (x1))))
 else (none)))
 else (none))
 else (some (.inr (x1)))
noncomputable def p17 (ph : Int) (ev : Bool) (ap np mp : Nat) (tp : Nat → Int) (vp : Nat → Int) (gp : Nat → Int) : Option (St17 ⊕ Rt17) := bif (decide (ap + np ≤ mp ∧ np ≤ 1000000))
 then (bif ((S.traE ph ev np (fun (q : Nat) => tp (q + ap)) (fun (q : Nat) => vp (q + ap)) fun (q : Nat) => gp (q + ap)) !=
 (0 : Int))
 then (some (.inr ([])))
 else (some (.inl (.h0 ((0 : Int)) ([])))))
 else (none)
noncomputable def Te17 (test : Bool → Prop → Prop → Prop) (Kst : KS) (Kret : KR) (ph : Int) (ev : Bool) (ap np mp : Nat) (tp : Nat → Int) (vp : Nat → Int) (gp : Nat → Int) : Prop :=
  test (decide (ap + np ≤ mp ∧ np ≤ 1000000))
 (test ((S.traE ph ev np (fun (q : Nat) => tp (q + ap)) (fun (q : Nat) => vp (q + ap)) fun (q : Nat) => gp (q + ap)) !=
 (0 : Int))
 (Kret (PV.nils) ([[(0, false,
 Blk.cols mp
 [Col.int IntKind.i64 tp, Col.int IntKind.i64 vp, Col.int IntKind.i64 gp])]]) (3))
 (Kst (hd Try.f17 0) ([PV.ptr (PA.mk (1) (0) (0) (0)), PV.nils,
 PV.int IntKind.i64 (0 : Int)]) ([[(0, false,
 Blk.cols mp
 [Col.int IntKind.i64 tp, Col.int IntKind.i64 vp, Col.int IntKind.i64 gp]),
 (1, true,
 Blk.cells
 [PV.int IntKind.i64 ph, PV.bool ev,
 PV.loose (PA.mk (0) (3) ap (0)) np])]]) (3)))
 (False)
set_option maxRecDepth 100000 in
theorem te17 (test : Bool → Prop → Prop → Prop) (Kst : KS) (Kret : KR) (ph : Int) (ev : Bool) (ap np mp : Nat) (tp : Nat → Int) (vp : Nat → Int) (gp : Nat → Int) : run test Try.env true (xB test) true 400 ⟨17, [.cd (mkFn Try.f17).body], argT 0 [.agg [.int .i64 ph, .bool ev, .loose ⟨0, 3, ap, 0⟩ np]], [[], [(0, (false, .cols mp [.int .i64 tp, .int .i64 vp, .int .i64 gp]))]], 1⟩ (proj 1 [1, 3, 4] Kst Kret) =
  Te17 test Kst Kret ph ev ap np mp tp vp gp := by kernel_rfl
noncomputable def T17_0 (test : Bool → Prop → Prop → Prop) (Kst : KS) (Kret : KR) (ph : Int) (ev : Bool) (ap np mp : Nat) (tp : Nat → Int) (vp : Nat → Int) (gp : Nat → Int) (x0 : Int) (x1 : List Int) : Prop :=
  test (decide (x0 ≤ (89 : Int)))
 (test (decide (ap + np ≤ mp ∧ np ≤ 1000000 ∧ np ≤ 8 ∧ x0 ≤ (9223372036854775807 : Int)))
 (test (decide ((0 : Int) ≤ x0) &&
 S.posB ph ev np (fun (q : Nat) => tp (q + ap)) (fun (q : Nat) => vp (q + ap)) (fun (q : Nat) => gp (q + ap))
 (Int.toNat x0))
 (test (decide (List.length x1 + 1 ≤ 1000000))
 (test (decide (List.length x1 ≤ List.length x1))
 (test (true)
 (test (lim IntKind.i64 (x0 + (1 : Int)))
 (Kst (hd Try.f17 0) ([PV.ptr (PA.mk (1) (0) (0) (0)),
 PV.own (5) (1) (List.length x1 + 1), PV.int IntKind.i64 (x0 + (1 : Int))]) ([[(0, false,
 Blk.cols mp
 [Col.int IntKind.i64 tp, Col.int IntKind.i64 vp, Col.int IntKind.i64 gp]),
 (5, true,
 Blk.cols (List.length x1 + 1)
 [Col.int IntKind.i64 fun (j : Nat) => bif Nat.blt j (List.length x1) then S.at' x1 j else x0]),
 (1, true,
 Blk.cells
 [PV.int IntKind.i64 ph, PV.bool ev,
 PV.loose (PA.mk (0) (3) ap (0)) np])]]) (6))
 (False))
 (False))
 (False))
 (False))
 (test (lim IntKind.i64 (x0 + (1 : Int)))
 (Kst (hd Try.f17 0) ([PV.ptr (PA.mk (1) (0) (0) (0)),
 PV.own (2) (1) (List.length x1), PV.int IntKind.i64 (x0 + (1 : Int))]) ([[(0, false,
 Blk.cols mp
 [Col.int IntKind.i64 tp, Col.int IntKind.i64 vp, Col.int IntKind.i64 gp]),
 (2, true,
 Blk.cols (List.length x1) [Col.int IntKind.i64 fun (j : Nat) => S.at' x1 j]),
 (1, true,
 Blk.cells
 [PV.int IntKind.i64 ph, PV.bool ev,
 PV.loose (PA.mk (0) (3) ap (0)) np])]]) (4))
 (False)))
 (False))
 (Kret (PV.own (2) (1) (List.length x1)) ([[(0, false,
 Blk.cols mp
 [Col.int IntKind.i64 tp, Col.int IntKind.i64 vp, Col.int IntKind.i64 gp]),
 (2, true,
 Blk.cols (List.length x1) [Col.int IntKind.i64 fun (j : Nat) => S.at' x1 j])]]) (3))
set_option maxRecDepth 100000 in
theorem t17_0 (test : Bool → Prop → Prop → Prop) (Kst : KS) (Kret : KR) (ph : Int) (ev : Bool) (ap np mp : Nat) (tp : Nat → Int) (vp : Nat → Int) (gp : Nat → Int) (x0 : Int) (x1 : List Int) : run test Try.env true (xB test) true 400 ⟨17, hd Try.f17 0, zipT [1, 3, 4] [PV.ptr (PA.mk (1) (0) (0) (0)),
 PV.own (2) (1) (List.length x1), PV.int IntKind.i64 x0], [[(1, (true, Blk.cells
 [PV.int IntKind.i64 ph, PV.bool ev,
 PV.loose (PA.mk (0) (3) ap (0)) np])), (2, (true, Blk.cols (List.length x1) [Col.int IntKind.i64 fun (j : Nat) => S.at' x1 j]))], [(0, (false, .cols mp [.int .i64 tp, .int .i64 vp, .int .i64 gp]))]], 3⟩ (proj 1 [1, 3, 4] Kst Kret) =
  T17_0 test Kst Kret ph ev ap np mp tp vp gp x0 x1 := by kernel_rfl
set_option maxRecDepth 100000 in
theorem be17 (ph : Int) (ev : Bool) (ap np mp : Nat) (tp : Nat → Int) (vp : Nat → Int) (gp : Nat → Int) (Kst : KS) (Kret : KR) (x : St17 ⊕ Rt17) (hS : HS 1 400 ((I17 ph ev ap np mp tp vp gp)) Kst x) (hR : HR 1 400 ((V17 ph ev ap np mp tp vp gp)) (fun r => [newL (1 + 1) ((N17 ph ev ap np mp tp vp gp) r) ++ [(0, (false, .cols mp [.int .i64 tp, .int .i64 vp, .int .i64 gp]))]]) Kret x) (h : (bif (decide (ap + np ≤ mp ∧ np ≤ 1000000))
 then (bif ((S.traE ph ev np (fun (q : Nat) => tp (q + ap)) (fun (q : Nat) => vp (q + ap)) fun (q : Nat) => gp (q + ap)) !=
 (0 : Int))
 then (some (.inr ([])))
 else (some (.inl (.h0 ((0 : Int)) ([])))))
 else (none) : Option (St17 ⊕ Rt17)) = some x) : Te17 cond Kst Kret ph ev ap np mp tp vp gp := by
  unfold Te17
  exact bif_split h
   (fun c0 h => bif_split h
   (fun c1 h => ret_at hR _ h (fun n => bif Nat.beq n 2 then 399 else n) rfl rfl rfl (rn_own_nils rfl) rfl (entl_fresh (use_own rfl) (fresh_ok rfl) (entl_bor (use_lo rfl) rfl rfl entl_nil)))
   (fun c1 h => stop_at hS _ h (fun n => bif Nat.beq n 1 then 1 else bif Nat.beq n 2 then 399 else n) rfl rfl rfl ⟨(rn_ptr (use_own rfl) rfl rfl), ⟨(rn_own_nils rfl), ⟨(rn_int rfl), trivial⟩⟩⟩ rfl (entl_b (use_own rfl) rfl (by simp) (rb_cells ⟨(rn_int rfl), (rn_bool rfl), (rn_loose (use_lo rfl) rfl rfl rfl), trivial⟩) (entl_fresh (use_own rfl) (fresh_ok rfl) (entl_bor (use_lo rfl) rfl rfl entl_nil)))))
   (fun c0 h => no_some h)
set_option maxRecDepth 100000 in
theorem b17_0 (ph : Int) (ev : Bool) (ap np mp : Nat) (tp : Nat → Int) (vp : Nat → Int) (gp : Nat → Int) (Kst : KS) (Kret : KR) (x : St17 ⊕ Rt17) (hS : HS 1 400 ((I17 ph ev ap np mp tp vp gp)) Kst x) (hR : HR 1 400 ((V17 ph ev ap np mp tp vp gp)) (fun r => [newL (1 + 1) ((N17 ph ev ap np mp tp vp gp) r) ++ [(0, (false, .cols mp [.int .i64 tp, .int .i64 vp, .int .i64 gp]))]]) Kret x) (x0 : Int) (x1 : List Int) (h : (bif (decide (x0 ≤ (89 : Int)))
 then (bif (decide (ap + np ≤ mp ∧ np ≤ 1000000 ∧ np ≤ 8 ∧ x0 ≤ (9223372036854775807 : Int)))
 then (bif (decide ((0 : Int) ≤ x0) &&
 S.posB ph ev np (fun (q : Nat) => tp (q + ap)) (fun (q : Nat) => vp (q + ap)) (fun (q : Nat) => gp (q + ap))
 (Int.toNat x0))
 then (bif (decide (List.length x1 + 1 ≤ 1000000))
 then (bif (decide (List.length x1 ≤ List.length x1))
 then (bif (lim IntKind.i64 (x0 + (1 : Int)))
 then (some (.inl (.h0 (x0 + (1 : Int)) (S.snoc x1 x0))))
 else (none))
 else (none))
 else (none))
 else (bif (lim IntKind.i64 (x0 + (1 : Int)))
 then (some (.inl (.h0 (x0 + (1 : Int)) (x1))))
 else (none)))
 else (none))
 else (some (.inr (x1))) : Option (St17 ⊕ Rt17)) = some x) : T17_0 cond Kst Kret ph ev ap np mp tp vp gp x0 x1 := by
  unfold T17_0
  exact bif_split h
   (fun c0 h => bif_split h
   (fun c1 h => bif_split h
   (fun c2 h => bif_split h
   (fun c3 h => bif_split h
   (fun c4 h => cond_yes rfl (bif_split h
   (fun c5 h => stop_at hS _ h (fun n => bif Nat.beq n 1 then 1 else bif Nat.beq n 2 then 5 else n) rfl rfl rfl ⟨(rn_ptr (use_own rfl) rfl rfl), ⟨(rn_own (use_own rfl) rfl (snoc_len' rfl)), ⟨(rn_int rfl), trivial⟩⟩⟩ rfl (entl_b (use_own rfl) rfl (by simp) (rb_cells ⟨(rn_int rfl), (rn_bool rfl), (rn_loose (use_lo rfl) rfl rfl rfl), trivial⟩) (entl_new (use_own rfl) rfl (Nat.le_of_eq (snoc_len' rfl)) (rcs_int (col_snoc' (fun (t : Int) => t) rfl (fun _ _ => rfl)) rcs_nil) (entl_bor (use_lo rfl) rfl rfl entl_nil))))
   (fun c5 h => no_some h)))
   (fun c4 h => no_some h))
   (fun c3 h => no_some h))
   (fun c2 h => bif_split h
   (fun c3 h => stop_at hS _ h (fun n => bif Nat.beq n 1 then 1 else bif Nat.beq n 2 then 2 else n) rfl rfl rfl ⟨(rn_ptr (use_own rfl) rfl rfl), ⟨(rn_own (use_own rfl) rfl rfl), ⟨(rn_int rfl), trivial⟩⟩⟩ rfl (entl_b (use_own rfl) rfl (by simp) (rb_cells ⟨(rn_int rfl), (rn_bool rfl), (rn_loose (use_lo rfl) rfl rfl rfl), trivial⟩) (entl_new (use_own rfl) rfl (Nat.le_of_eq rfl) (rcs_int (fun _ _ => rfl) rcs_nil) (entl_bor (use_lo rfl) rfl rfl entl_nil))))
   (fun c3 h => no_some h)))
   (fun c1 h => no_some h))
   (fun c0 h => ret_at hR _ h (fun n => bif Nat.beq n 2 then 2 else n) rfl rfl rfl (rn_own (use_own rfl) rfl rfl) rfl (entl_new (use_own rfl) rfl (Nat.le_of_eq rfl) (rcs_int (fun _ _ => rfl) rcs_nil) (entl_bor (use_lo rfl) rfl rfl entl_nil)))
theorem a17 (ph : Int) (ev : Bool) (ap np mp : Nat) (tp : Nat → Int) (vp : Nat → Int) (gp : Nat → Int) {r : Rt17} (h : Goes ((q17 ph ev ap np mp tp vp gp)) ((p17 ph ev ap np mp tp vp gp)) r) : CallR Try.prog 17 [.agg [.int .i64 ph, .bool ev, .loose ⟨0, 3, ap, 0⟩ np]] [[(0, (false, .cols mp [.int .i64 tp, .int .i64 vp, .int .i64 gp]))]] 1 ((V17 ph ev ap np mp tp vp gp) r) ((fun r => [newL (1 + 1) ((N17 ph ev ap np mp tp vp gp) r) ++ [(0, (false, .cols mp [.int .i64 tp, .int .i64 vp, .int .i64 gp]))]]) r) 400 ∧ ∃ F, Try.prog.funcs[17]? = some F ∧ F.body.isSome = true ∧ (F.name == "runtime.NumGoroutine") = false := by
  refine dec_calls (f := 17) (lo := 1) (hi := 400) (H := [[(0, (false, .cols mp [.int .i64 tp, .int .i64 vp, .int .i64 gp]))]]) (args := [.agg [.int .i64 ph, .bool ev, .loose ⟨0, 3, ap, 0⟩ np]]) Try.envOk Try.mixed xB_ok ((I17 ph ev ap np mp tp vp gp)) ((V17 ph ev ap np mp tp vp gp)) (fun r => [newL (1 + 1) ((N17 ph ev ap np mp tp vp gp) r) ++ [(0, (false, .cols mp [.int .i64 tp, .int .i64 vp, .int .i64 gp]))]]) (fn := mkFn Try.f17) (ts := [1, 3, 4]) (n := 400) rfl (by decide) (by simp) (names_of rfl) ?_ ?_ ?_ h
  · intro s; cases s <;> exact ⟨hd_ok _ _, by simp [I17], names_of rfl, Nat.le_of_ble_eq_true rfl⟩
  · intro Kst Kret x hS hR h
    exact Holds.eq (te17 cond Kst Kret ph ev ap np mp tp vp gp) (be17 ph ev ap np mp tp vp gp Kst Kret x hS hR h)
  · intro Kst Kret x hS hR s h
    cases s with
    | h0 x0 x1 => exact Holds.eq (t17_0 cond Kst Kret ph ev ap np mp tp vp gp x0 x1) (b17_0 ph ev ap np mp tp vp gp Kst Kret x hS hR x0 x1 h)
noncomputable def k17 : Con := ⟨17, [.agg [.plain (.int .i64), .plain (.bool), .list [.int .i64, .int .i64, .int .i64]]], fun (x : (Int × Bool × (Nat × Nat × Nat × (Nat → Int) × (Nat → Int) × (Nat → Int) × Unit) × Unit) × Unit) => (fun (ph : Int) (ev : Bool) (ap np mp : Nat) (tp : Nat → Int) (vp : Nat → Int) (gp : Nat → Int) => decide (ap + np ≤ mp ∧ np ≤ 1000000)) x.1.1 x.1.2.1 x.1.2.2.1.1 x.1.2.2.1.2.1 x.1.2.2.1.2.2.1 x.1.2.2.1.2.2.2.1 x.1.2.2.1.2.2.2.2.1 x.1.2.2.1.2.2.2.2.2.1, fun (x : (Int × Bool × (Nat × Nat × Nat × (Nat → Int) × (Nat → Int) × (Nat → Int) × Unit) × Unit) × Unit) => (fun (ph : Int) (ev : Bool) (ap np mp : Nat) (tp : Nat → Int) (vp : Nat → Int) (gp : Nat → Int) => (V17 ph ev ap np mp tp vp gp) (S.stpS ph ev np (fun q => tp (q + ap)) (fun q => vp (q + ap)) (fun q => gp (q + ap)))) x.1.1 x.1.2.1 x.1.2.2.1.1 x.1.2.2.1.2.1 x.1.2.2.1.2.2.1 x.1.2.2.1.2.2.2.1 x.1.2.2.1.2.2.2.2.1 x.1.2.2.1.2.2.2.2.2.1, fun (x : (Int × Bool × (Nat × Nat × Nat × (Nat → Int) × (Nat → Int) × (Nat → Int) × Unit) × Unit) × Unit) => (fun (ph : Int) (ev : Bool) (ap np mp : Nat) (tp : Nat → Int) (vp : Nat → Int) (gp : Nat → Int) => (N17 ph ev ap np mp tp vp gp) (S.stpS ph ev np (fun q => tp (q + ap)) (fun q => vp (q + ap)) (fun q => gp (q + ap)))) x.1.1 x.1.2.1 x.1.2.2.1.1 x.1.2.2.1.2.1 x.1.2.2.1.2.2.1 x.1.2.2.1.2.2.2.1 x.1.2.2.1.2.2.2.2.1 x.1.2.2.1.2.2.2.2.2.1, fun _ _ => .dead⟩
theorem s17' (ph : Int) (ev : Bool) (ap np mp : Nat) (tp : Nat → Int) (vp : Nat → Int) (gp : Nat → Int) (hp1 : ap + np ≤ mp) (hn : np ≤ 8) : ∀ (k i : Nat) (L : List Int), i + k = 90 → Holds (L = (S.cho (S.posB ph ev np (fun q => tp (q + ap)) (fun q => vp (q + ap)) (fun q => gp (q + ap))) (i))) → Comes (q17 ph ev ap np mp tp vp gp) (.h0 (i : Int) L) (S.cho (S.posB ph ev np (fun q => tp (q + ap)) (fun q => vp (q + ap)) (fun q => gp (q + ap))) (90)) := by
  intro k
  induction k with
  | zero =>
    intro i L hi eL
    obtain rfl : i = 90 := by omega
    apply Comes.of
    show Goes _ _ _
    (first | rw [q17] | unfold q17)
    repeat' first
      | with_reducible refine goes_if (fun h => ?_) (fun h => ?_) <;> (try simp only [lim64, decide_eq_true_eq, decide_eq_false_iff_not, Int.toNat_natCast, toNat_pred, toNat_succ, Option.getD_some, Option.getD_none, Bool.not_eq_true', Bool.not_eq_false', Bool.and_eq_true, Bool.or_eq_true, Bool.and_eq_false_iff, Bool.or_eq_false_iff, bne_iff_ne, beq_iff_eq, bne_eq_false_iff_eq, beq_eq_false_iff_ne, ne_eq, not_and, Int.not_le, Int.not_lt, ge_iff_le, gt_iff_lt, Nat.not_lt, Nat.not_le, Bool.not_eq_true, Bool.not_eq_false, Bool.true_eq_false, Bool.false_eq_true, not_false_eq_true, not_true_eq_false] at h)
      | exact goes_none.mpr (by omega)
    all_goals first | (exfalso; omega) | exact goes_inr.mpr eL.get
  | succ k ih =>
    intro i L hi eL
    have hL : L.length ≤ i := by rw [eL.get]; exact cho_len
    have h00 : decide (0 ≤ (i : Int)) = true := decide_eq_true (by omega)
    by_cases hb : (S.posB ph ev np (fun q => tp (q + ap)) (fun q => vp (q + ap)) (fun q => gp (q + ap))) i = true
    · have ih := ih (i + 1) (S.snoc L (i : Int)) (by omega) ⟨by rw [cho_yes hb, eL.get]⟩
      apply Comes.of
      show Goes _ _ _
      (first | rw [q17] | unfold q17)
      repeat' first
        | with_reducible refine goes_if (fun h => ?_) (fun h => ?_) <;> (try simp only [lim64, decide_eq_true_eq, decide_eq_false_iff_not, Int.toNat_natCast, toNat_pred, toNat_succ, Option.getD_some, Option.getD_none, Bool.not_eq_true', Bool.not_eq_false', Bool.and_eq_true, Bool.or_eq_true, Bool.and_eq_false_iff, Bool.or_eq_false_iff, bne_iff_ne, beq_iff_eq, bne_eq_false_iff_eq, beq_eq_false_iff_ne, ne_eq, not_and, Int.not_le, Int.not_lt, ge_iff_le, gt_iff_lt, Nat.not_lt, Nat.not_le, Bool.not_eq_true, Bool.not_eq_false, Bool.true_eq_false, Bool.false_eq_true, not_false_eq_true, not_true_eq_false, h00, hb, Bool.true_and] at h)
        | exact goes_none.mpr (by omega)
      all_goals first | (exfalso; omega) | exact ih | (exfalso; simp_all; done)
    · rw [Bool.not_eq_true] at hb
      have ih := ih (i + 1) L (by omega) ⟨by rw [cho_no hb, eL.get]⟩
      apply Comes.of
      show Goes _ _ _
      (first | rw [q17] | unfold q17)
      repeat' first
        | with_reducible refine goes_if (fun h => ?_) (fun h => ?_) <;> (try simp only [lim64, decide_eq_true_eq, decide_eq_false_iff_not, Int.toNat_natCast, toNat_pred, toNat_succ, Option.getD_some, Option.getD_none, Bool.not_eq_true', Bool.not_eq_false', Bool.and_eq_true, Bool.or_eq_true, Bool.and_eq_false_iff, Bool.or_eq_false_iff, bne_iff_ne, beq_iff_eq, bne_eq_false_iff_eq, beq_eq_false_iff_ne, ne_eq, not_and, Int.not_le, Int.not_lt, ge_iff_le, gt_iff_lt, Nat.not_lt, Nat.not_le, Bool.not_eq_true, Bool.not_eq_false, Bool.true_eq_false, Bool.false_eq_true, not_false_eq_true, not_true_eq_false, h00, hb, Bool.true_and] at h)
        | exact goes_none.mpr (by omega)
      all_goals first | (exfalso; omega) | exact ih | (exfalso; simp_all; done)
theorem s17 (ph : Int) (ev : Bool) (ap np mp : Nat) (tp : Nat → Int) (vp : Nat → Int) (gp : Nat → Int) (hp : ap + np ≤ mp ∧ np ≤ 1000000) : Goes ((q17 ph ev ap np mp tp vp gp)) ((p17 ph ev ap np mp tp vp gp)) (S.stpS ph ev np (fun q => tp (q + ap)) (fun q => vp (q + ap)) (fun q => gp (q + ap))) := by
  unfold S.stpS
  by_cases h0 : S.traE ph ev np (fun q => tp (q + ap)) (fun q => vp (q + ap)) (fun q => gp (q + ap)) = 0
  · rw [if_pos h0]
    obtain ⟨⟨v1, v2⟩, v3, v4, v5⟩ := tra_ok h0
    have hm := s17' ph ev ap np mp tp vp gp hp.1 v2 90 0 [] (by omega) ⟨rfl⟩
    show Goes _ _ _
    unfold p17
    repeat' first
      | with_reducible refine goes_if (fun h => ?_) (fun h => ?_) <;> (try simp only [lim64, decide_eq_true_eq, decide_eq_false_iff_not, Int.toNat_natCast, toNat_pred, toNat_succ, Option.getD_some, Option.getD_none, Bool.not_eq_true', Bool.not_eq_false', Bool.and_eq_true, Bool.or_eq_true, Bool.and_eq_false_iff, Bool.or_eq_false_iff, bne_iff_ne, beq_iff_eq, bne_eq_false_iff_eq, beq_eq_false_iff_ne, ne_eq, not_and, Int.not_le, Int.not_lt, ge_iff_le, gt_iff_lt, Nat.not_lt, Nat.not_le, Bool.not_eq_true, Bool.not_eq_false, Bool.true_eq_false, Bool.false_eq_true, not_false_eq_true, not_true_eq_false] at h)
      | exact goes_none.mpr (by omega)
    all_goals first | (exfalso; omega) | exact hm
  · rw [if_neg h0]
    show Goes _ _ _
    unfold p17
    repeat' first
      | with_reducible refine goes_if (fun h => ?_) (fun h => ?_) <;> (try simp only [lim64, decide_eq_true_eq, decide_eq_false_iff_not, Int.toNat_natCast, toNat_pred, toNat_succ, Option.getD_some, Option.getD_none, Bool.not_eq_true', Bool.not_eq_false', Bool.and_eq_true, Bool.or_eq_true, Bool.and_eq_false_iff, Bool.or_eq_false_iff, bne_iff_ne, beq_iff_eq, bne_eq_false_iff_eq, beq_eq_false_iff_ne, ne_eq, not_and, Int.not_le, Int.not_lt, ge_iff_le, gt_iff_lt, Nat.not_lt, Nat.not_le, Bool.not_eq_true, Bool.not_eq_false, Bool.true_eq_false, Bool.false_eq_true, not_false_eq_true, not_true_eq_false] at h)
      | exact goes_none.mpr (by omega)
    all_goals first | (exfalso; omega) | rfl

theorem k17_ok : k17.ok Try.prog := by
  intro x hx
  obtain ⟨⟨ph, ev, ⟨ap, np, mp, tp, vp, gp, _⟩, _⟩, _⟩ := x
  obtain ⟨h1, h2⟩ := a17 ph ev ap np mp tp vp gp (s17 ph ev ap np mp tp vp gp (of_dec hx rfl))
  exact ⟨⟨400, (by decide : 1 + 1 + 1 ≤ 400), h1⟩, h2⟩
inductive St18 where
  | h0 (x0 : Int) (x1 : List Int)
  | h1 (x0 : Int) (x1 : Int) (x2 : List Int)
  | h2 (x0 : Int) (x1 : List Int)
abbrev Rt18 := List Int
noncomputable def V18 (ph : Int) (ev : Bool) (ap np mp : Nat) (tp : Nat → Int) (vp : Nat → Int) (gp : Nat → Int) (r : Rt18) : PV := PV.own (2) (1) (List.length r)
noncomputable def N18 (ph : Int) (ev : Bool) (ap np mp : Nat) (tp : Nat → Int) (vp : Nat → Int) (gp : Nat → Int) (r : Rt18) : List Blk := [Blk.cols (List.length r) [Col.int IntKind.i64 fun (j : Nat) => S.at' r j]]
noncomputable def I18 (ph : Int) (ev : Bool) (ap np mp : Nat) (tp : Nat → Int) (vp : Nat → Int) (gp : Nat → Int) : St18 → Hd
  | .h0 x0 x1 => ⟨hd Try.f18 0, [PV.ptr (PA.mk (1) (0) (0) (0)),
 PV.own (2) (1) (List.length x1), PV.int IntKind.i64 x0, PV.unk, PV.unk], [[(1, (true, Blk.cells
 [PV.int IntKind.i64 ph, PV.bool ev,
 PV.loose (PA.mk (0) (3) ap (0)) np])), (2, (true, Blk.cols (List.length x1) [Col.int IntKind.i64 fun (j : Nat) => S.at' x1 j]))], [(0, (false, .cols mp [.int .i64 tp, .int .i64 vp, .int .i64 gp]))]], 3⟩
  | .h1 x0 x1 x2 => ⟨hd Try.f18 1, [PV.ptr (PA.mk (1) (0) (0) (0)),
 PV.own (2) (1) (List.length x2), PV.int IntKind.i64 x0, PV.int IntKind.i64 x1,
 PV.unk], [[(1, (true, Blk.cells
 [PV.int IntKind.i64 ph, PV.bool ev,
 PV.loose (PA.mk (0) (3) ap (0)) np])), (2, (true, Blk.cols (List.length x2) [Col.int IntKind.i64 fun (j : Nat) => S.at' x2 j]))], [(0, (false, .cols mp [.int .i64 tp, .int .i64 vp, .int .i64 gp]))]], 3⟩
  | .h2 x0 x1 => ⟨hd Try.f18 2, [PV.ptr (PA.mk (1) (0) (0) (0)),
 PV.own (2) (1) (List.length x1), PV.unk, PV.unk, PV.int IntKind.i64 x0], [[(1, (true, Blk.cells
 [PV.int IntKind.i64 ph, PV.bool ev,
 PV.loose (PA.mk (0) (3) ap (0)) np])), (2, (true, Blk.cols (List.length x1) [Col.int IntKind.i64 fun (j : Nat) => S.at' x1 j]))], [(0, (false, .cols mp [.int .i64 tp, .int .i64 vp, .int .i64 gp]))]], 3⟩
noncomputable def q18 (ph : Int) (ev : Bool) (ap np mp : Nat) (tp : Nat → Int) (vp : Nat → Int) (gp : Nat → Int) : St18 → Option (St18 ⊕ Rt18)
  | .h0 x0 x1 => bif (decide (x0 < (↑np : Int)))
 then (some (.inl (.h1 (x0) ((0 : Int)) (x1))))
 else (bif (ph == (0 : Int))
 then (bif (decide (List.length x1 + 1 ≤ 1000000))
 then (bif (decide (List.length x1 ≤ List.length x1))
 then (bif (ph == (3 : Int))
 then (bif (decide (List.length x1 + 1 + 1 ≤ 1000000))
 then (bif (decide (List.length x1 + 1 ≤ List.length x1 + 1))
 then (some (.inl (.h2 ((0 : Int)) (S.snoc (S.snoc x1 (80 : Int)) (81 : Int)))))
 else (none))
 else (none))
 else (some (.inl (.h2 ((0 : Int)) (S.snoc x1 (80 : Int))))))
 else (none))
 else (none))
 else (bif (ph == (3 : Int))
 then (bif (decide (List.length x1 + 1 ≤ 1000000))
 then (bif (decide (List.length x1 ≤ List.length x1))
 then (some (.inl (.h2 ((0 : Int)) (S.snoc x1 (81 : Int)))))
 else (none))
 else (none))
 else (some (.inl (.h2 ((0 : Int)) (x1))))))
  | .h1 x0 x1 x2 => bif (decide (x1 ≤ (8 : Int)))
 then (bif (decide
 (ap + np ≤ mp ∧ np ≤ 1000000 ∧ ((0 : Int) ≤ x0 ∧ x0 < (↑np : Int)) ∧ (0 : Int) ≤ x1 ∧ x1 ≤ (8 : Int)))
 then (bif (S.stpB ev (tp (Int.toNat x0 + ap)) (vp (Int.toNat x0 + ap)) (gp (Int.toNat x0 + ap)) (Int.toNat x1))
 then (bif (lim IntKind.i64 ((10 : Int) * x0))
 then (bif (lim IntKind.i64 ((10 : Int) * x0 + x1))
 then (bif (decide (List.length x2 + 1 ≤ 1000000))
 then (bif (decide (List.length x2 ≤ List.length x2))
 then (bif (lim IntKind.i64 (x1 + (1 : Int)))
 then (some (.inl (.h1 (x0) (x1 + (1 : Int)) (S.snoc x2 ((10 : Int) * x0 + x1)))))
 else (none))
 else (none))
 else (none))
 else (none))
 else (none))
 else (bif (lim IntKind.i64 (x1 + (1 : Int)))
 then (some (.inl (.h1 (x0) (x1 + (1 : Int)) (x2))))
 else (none)))
 else (none))
 else (bif (lim IntKind.i64 (x0 + (1 : Int)))
 then (some (.inl (.h0 (x0 + (1 : Int)) (x2))))
 else (none))
  | .h2 x0 x1 => bif (decide (x0 < (↑np : Int)))
 then (bif (decide ((0 : Int) ≤ x0 ∧ x0 < (↑np : Int)))
 then (bif (decide (Int.toNat x0 + ap < mp))
 then (bif (vp (Int.toNat x0 + ap) != (0 : Int))
 then (bif (lim IntKind.i64 (x0 + (1 : Int)))
 then (some (.inl (.h2 (x0 + (1 : Int)) (x1))))
 else (none))
 else (bif (ph == (0 : Int))
 then (bif (decide (gp (Int.toNat x0 + ap) ≤ (1 : Int)))
 then (bif (lim IntKind.i64 ((82 : Int) + x0))
 then (bif (decide (List.length x1 + 1 ≤ 1000000))
 then (bif (decide (List.length x1 ≤ List.length x1))
 then (bif (lim IntKind.i64 (x0 + (1 : Int)))
 then (some (.inl (.h2 (x0 + (1 : Int)) (S.snoc x1 ((82 : Int) + x0)))))
 else (none))
 else (none))
 else (none))
 else (none))
 else (bif (ph == (1 : Int))
 then (bif (gp (Int.toNat x0 + ap) != (4 : Int))
 then (bif (lim IntKind.i64 ((82 : Int) + x0))
 then (bif (decide (List.length x1 + 1 ≤ 1000000))
 then (bif (decide (List.length x1 ≤ List.length x1))
 then (bif (lim IntKind.i64 (x0 + (1 : Int)))
 then (some (.inl (.h2 (x0 + (1 : Int)) (S.snoc x1 ((82 : Int) + x0)))))
 else (none))
 else (none))
 else (none))
 else (none))
 else (bif (ph == (2 : Int))
 then (bif (lim IntKind.i64 ((82 : Int) + x0))
 then (bif (decide (List.length x1 + 1 ≤ 1000000))
 then (bif (decide (List.length x1 ≤ List.length x1))
 then (bif (lim IntKind.i64 (x0 + (1 : Int)))
 then (some (.inl (.h2 (x0 + (1 : Int)) (S.snoc x1 ((82 : Int) + x0)))))
 else (none))
 else (none))
 else (none))
 else (none))
 else (bif (lim IntKind.i64 (x0 + (1 : Int)))
 then (some (.inl (.h2 (x0 + (1 : Int)) (x1))))
 else (none))))
 else (bif (ph == (2 : Int))
 then (bif (lim IntKind.i64 ((82 : Int) + x0))
 then (bif (decide (List.length x1 + 1 ≤ 1000000))
 then (bif (decide (List.length x1 ≤ List.length x1))
 then (bif (lim IntKind.i64 (x0 + (1 : Int)))
 then (some (.inl (.h2 (x0 + (1 : Int)) (S.snoc x1 ((82 : Int) + x0)))))
 else (none))
 else (none))
 else (none))
 else (none))
 else (bif (lim IntKind.i64 (x0 + (1 : Int)))
 then (some (.inl (.h2 (x0 + (1 : Int)) (x1))))
 else (none)))))
 else (bif (ph == (1 : Int))
 then (bif (gp (Int.toNat x0 + ap) != (4 : Int))
 then (bif (lim IntKind.i64 ((82 : Int) + x0))
 then (bif (decide (List.length x1 + 1 ≤ 1000000))
 then (bif (decide (List.length x1 ≤ List.length x1))
 then (bif (lim IntKind.i64 (x0 + (1 : Int)))
 then (some (.inl (.h2 (x0 + (1 : Int)) (S.snoc x1 ((82 : Int) + x0)))))
 else (none))
 else (none))
 else (none))
 else (none))
 else (bif (ph == (2 : Int))
 then (bif (lim IntKind.i64 ((82 : Int) + x0))
 then (bif (decide (List.length x1 + 1 ≤ 1000000))
 then (bif (decide (List.length x1 ≤ List.length x1))
 then (bif (lim IntKind.i64 (x0 + (1 : Int)))
 then (some (.inl (.h2 (x0 + (1 : Int)) (S.snoc x1 ((82 : Int) + x0)))))
 else (none))
 else (none))
 else (none))
 else (none))
 else (bif (lim IntKind.i64 (x0 + (1 : Int)))
 then (some (.inl (.h2 (x0 + (1 : Int)) (x1))))
 else (none))))
 else (bif (ph == (2 : Int))
 then (bif (lim IntKind.i64 ((82 : Int) + x0))
 then (bif (decide (List.length x1 + 1 ≤ 1000000))
 then (bif (decide (List.length x1 ≤ List.length x1))
 then (bif (lim IntKind.i64 (x0 + (1 : Int)))
 then (some (.inl (.h2 (x0 + (1 : Int)) (S.snoc x1 ((82 : Int) + x0)))))
 else (none))
 else (none))
 else (none))
 else (none))
 else (bif (lim IntKind.i64 (x0 + (1 : Int)))
 then (some (.inl (.h2 (x0 + (1 : Int)) (x1))))
 else (none))))))
 else (none))
 else (none))
 else (some (.inr (x1)))
noncomputable def p18 (ph : Int) (ev : Bool) (ap np mp : Nat) (tp : Nat → Int) (vp : Nat → Int) (gp : Nat → Int) : Option (St18 ⊕ Rt18) := bif (decide (ap + np ≤ mp ∧ np ≤ 1000000))
 then (bif ((S.traE ph ev np (fun (q : Nat) => tp (q + ap)) (fun (q : Nat) => vp (q + ap)) fun (q : Nat) => gp (q + ap)) !=
 (0 : Int))
 then (some (.inr ([])))
 else (some (.inl (.h0 ((0 : Int)) ([])))))
 else (none)
noncomputable def Te18 (test : Bool → Prop → Prop → Prop) (Kst : KS) (Kret : KR) (ph : Int) (ev : Bool) (ap np mp : Nat) (tp : Nat → Int) (vp : Nat → Int) (gp : Nat → Int) : Prop :=
  test (decide (ap + np ≤ mp ∧ np ≤ 1000000))
 (test ((S.traE ph ev np (fun (q : Nat) => tp (q + ap)) (fun (q : Nat) => vp (q + ap)) fun (q : Nat) => gp (q + ap)) !=
 (0 : Int))
 (Kret (PV.nils) ([[(0, false,
 Blk.cols mp
 [Col.int IntKind.i64 tp, Col.int IntKind.i64 vp, Col.int IntKind.i64 gp])]]) (3))
 (Kst (hd Try.f18 0) ([PV.ptr (PA.mk (1) (0) (0) (0)), PV.nils,
 PV.int IntKind.i64 (0 : Int), PV.unk, PV.unk]) ([[(0, false,
 Blk.cols mp
 [Col.int IntKind.i64 tp, Col.int IntKind.i64 vp, Col.int IntKind.i64 gp]),
 (1, true,
 Blk.cells
 [PV.int IntKind.i64 ph, PV.bool ev,
 PV.loose (PA.mk (0) (3) ap (0)) np])]]) (3)))
 (False)
set_option maxRecDepth 100000 in
theorem te18 (test : Bool → Prop → Prop → Prop) (Kst : KS) (Kret : KR) (ph : Int) (ev : Bool) (ap np mp : Nat) (tp : Nat → Int) (vp : Nat → Int) (gp : Nat → Int) : run test Try.env true (xB test) true 400 ⟨18, [.cd (mkFn Try.f18).body], argT 0 [.agg [.int .i64 ph, .bool ev, .loose ⟨0, 3, ap, 0⟩ np]], [[], [(0, (false, .cols mp [.int .i64 tp, .int .i64 vp, .int .i64 gp]))]], 1⟩ (proj 1 [1, 3, 4, 5, 6] Kst Kret) =
  Te18 test Kst Kret ph ev ap np mp tp vp gp := by kernel_rfl
noncomputable def T18_0 (test : Bool → Prop → Prop → Prop) (Kst : KS) (Kret : KR) (ph : Int) (ev : Bool) (ap np mp : Nat) (tp : Nat → Int) (vp : Nat → Int) (gp : Nat → Int) (x0 : Int) (x1 : List Int) : Prop :=
  test (decide (x0 < (↑np : Int)))
 (Kst (hd Try.f18 1) ([PV.ptr (PA.mk (1) (0) (0) (0)),
 PV.own (2) (1) (List.length x1), PV.int IntKind.i64 x0,
 PV.int IntKind.i64 (0 : Int), PV.unk]) ([[(0, false,
 Blk.cols mp
 [Col.int IntKind.i64 tp, Col.int IntKind.i64 vp, Col.int IntKind.i64 gp]),
 (2, true,
 Blk.cols (List.length x1) [Col.int IntKind.i64 fun (j : Nat) => S.at' x1 j]),
 (1, true,
 Blk.cells
 [PV.int IntKind.i64 ph, PV.bool ev,
 PV.loose (PA.mk (0) (3) ap (0)) np])]]) (3))
 (test (ph == (0 : Int))
 (test (decide (List.length x1 + 1 ≤ 1000000))
 (test (decide (List.length x1 ≤ List.length x1))
 (test (true)
 (test (ph == (3 : Int))
 (test (decide (List.length x1 + 1 + 1 ≤ 1000000))
 (test (decide (List.length x1 + 1 ≤ List.length x1 + 1))
 (test (true)
 (Kst (hd Try.f18 2) ([PV.ptr (PA.mk (1) (0) (0) (0)),
 PV.own (6) (1) (List.length x1 + 1 + 1), PV.int IntKind.i64 x0,
 PV.unk, PV.int IntKind.i64 (0 : Int)]) ([[(0, false,
 Blk.cols mp
 [Col.int IntKind.i64 tp, Col.int IntKind.i64 vp, Col.int IntKind.i64 gp]),
 (6, true,
 Blk.cols (List.length x1 + 1 + 1)
 [Col.int IntKind.i64 fun (j : Nat) =>
 bif Nat.blt j (List.length x1 + 1) then
 bif Nat.blt j (List.length x1) then S.at' x1 j else (80 : Int)
 else (81 : Int)]),
 (1, true,
 Blk.cells
 [PV.int IntKind.i64 ph, PV.bool ev,
 PV.loose (PA.mk (0) (3) ap (0)) np])]]) (7))
 (False))
 (False))
 (False))
 (Kst (hd Try.f18 2) ([PV.ptr (PA.mk (1) (0) (0) (0)),
 PV.own (4) (1) (List.length x1 + 1), PV.int IntKind.i64 x0, PV.unk,
 PV.int IntKind.i64 (0 : Int)]) ([[(0, false,
 Blk.cols mp
 [Col.int IntKind.i64 tp, Col.int IntKind.i64 vp, Col.int IntKind.i64 gp]),
 (4, true,
 Blk.cols (List.length x1 + 1)
 [Col.int IntKind.i64 fun (j : Nat) =>
 bif Nat.blt j (List.length x1) then S.at' x1 j else (80 : Int)]),
 (1, true,
 Blk.cells
 [PV.int IntKind.i64 ph, PV.bool ev,
 PV.loose (PA.mk (0) (3) ap (0)) np])]]) (5)))
 (False))
 (False))
 (False))
 (test (ph == (3 : Int))
 (test (decide (List.length x1 + 1 ≤ 1000000))
 (test (decide (List.length x1 ≤ List.length x1))
 (test (true)
 (Kst (hd Try.f18 2) ([PV.ptr (PA.mk (1) (0) (0) (0)),
 PV.own (4) (1) (List.length x1 + 1), PV.int IntKind.i64 x0, PV.unk,
 PV.int IntKind.i64 (0 : Int)]) ([[(0, false,
 Blk.cols mp
 [Col.int IntKind.i64 tp, Col.int IntKind.i64 vp, Col.int IntKind.i64 gp]),
 (4, true,
 Blk.cols (List.length x1 + 1)
 [Col.int IntKind.i64 fun (j : Nat) =>
 bif Nat.blt j (List.length x1) then S.at' x1 j else (81 : Int)]),
 (1, true,
 Blk.cells
 [PV.int IntKind.i64 ph, PV.bool ev,
 PV.loose (PA.mk (0) (3) ap (0)) np])]]) (5))
 (False))
 (False))
 (False))
 (Kst (hd Try.f18 2) ([PV.ptr (PA.mk (1) (0) (0) (0)),
 PV.own (2) (1) (List.length x1), PV.int IntKind.i64 x0, PV.unk,
 PV.int IntKind.i64 (0 : Int)]) ([[(0, false,
 Blk.cols mp
 [Col.int IntKind.i64 tp, Col.int IntKind.i64 vp, Col.int IntKind.i64 gp]),
 (2, true,
 Blk.cols (List.length x1) [Col.int IntKind.i64 fun (j : Nat) => S.at' x1 j]),
 (1, true,
 Blk.cells
 [PV.int IntKind.i64 ph, PV.bool ev,
 PV.loose (PA.mk (0) (3) ap (0)) np])]]) (3))))
set_option maxRecDepth 100000 in
theorem t18_0 (test : Bool → Prop → Prop → Prop) (Kst : KS) (Kret : KR) (ph : Int) (ev : Bool) (ap np mp : Nat) (tp : Nat → Int) (vp : Nat → Int) (gp : Nat → Int) (x0 : Int) (x1 : List Int) : run test Try.env true (xB test) true 400 ⟨18, hd Try.f18 0, zipT [1, 3, 4, 5, 6] [PV.ptr (PA.mk (1) (0) (0) (0)),
 PV.own (2) (1) (List.length x1), PV.int IntKind.i64 x0, PV.unk, PV.unk], [[(1, (true, Blk.cells
 [PV.int IntKind.i64 ph, PV.bool ev,
 PV.loose (PA.mk (0) (3) ap (0)) np])), (2, (true, Blk.cols (List.length x1) [Col.int IntKind.i64 fun (j : Nat) => S.at' x1 j]))], [(0, (false, .cols mp [.int .i64 tp, .int .i64 vp, .int .i64 gp]))]], 3⟩ (proj 1 [1, 3, 4, 5, 6] Kst Kret) =
  T18_0 test Kst Kret ph ev ap np mp tp vp gp x0 x1 := by kernel_rfl
noncomputable def T18_1 (test : Bool → Prop → Prop → Prop) (Kst : KS) (Kret : KR) (ph : Int) (ev : Bool) (ap np mp : Nat) (tp : Nat → Int) (vp : Nat → Int) (gp : Nat → Int) (x0 : Int) (x1 : Int) (x2 : List Int) : Prop :=
  test (decide (x1 ≤ (8 : Int)))
 (test (decide
 (ap + np ≤ mp ∧ np ≤ 1000000 ∧ ((0 : Int) ≤ x0 ∧ x0 < (↑np : Int)) ∧ (0 : Int) ≤ x1 ∧ x1 ≤ (8 : Int)))
 (test (S.stpB ev (tp (Int.toNat x0 + ap)) (vp (Int.toNat x0 + ap)) (gp (Int.toNat x0 + ap)) (Int.toNat x1))
 (test (lim IntKind.i64 ((10 : Int) * x0))
 (test (lim IntKind.i64 ((10 : Int) * x0 + x1))
 (test (decide (List.length x2 + 1 ≤ 1000000))
 (test (decide (List.length x2 ≤ List.length x2))
 (test (true)
 (test (lim IntKind.i64 (x1 + (1 : Int)))
 (Kst (hd Try.f18 1) ([PV.ptr (PA.mk (1) (0) (0) (0)),
 PV.own (5) (1) (List.length x2 + 1), PV.int IntKind.i64 x0,
 PV.int IntKind.i64 (x1 + (1 : Int)), PV.unk]) ([[(0, false,
 Blk.cols mp
 [Col.int IntKind.i64 tp, Col.int IntKind.i64 vp, Col.int IntKind.i64 gp]),
 (5, true,
 Blk.cols (List.length x2 + 1)
 [Col.int IntKind.i64 fun (j : Nat) =>
 bif Nat.blt j (List.length x2) then S.at' x2 j else (10 : Int) * x0 + x1]),
 (1, true,
 Blk.cells
 [PV.int IntKind.i64 ph, PV.bool ev,
 PV.loose (PA.mk (0) (3) ap (0)) np])]]) (6))
 (False))
 (False))
 (False))
 (False))
 (False))
 (False))
 (test (lim IntKind.i64 (x1 + (1 : Int)))
 (Kst (hd Try.f18 1) ([PV.ptr (PA.mk (1) (0) (0) (0)),
 PV.own (2) (1) (List.length x2), PV.int IntKind.i64 x0,
 PV.int IntKind.i64 (x1 + (1 : Int)), PV.unk]) ([[(0, false,
 Blk.cols mp
 [Col.int IntKind.i64 tp, Col.int IntKind.i64 vp, Col.int IntKind.i64 gp]),
 (2, true,
 Blk.cols (List.length x2) [Col.int IntKind.i64 fun (j : Nat) => S.at' x2 j]),
 (1, true,
 Blk.cells
 [PV.int IntKind.i64 ph, PV.bool ev,
 PV.loose (PA.mk (0) (3) ap (0)) np])]]) (4))
 (False)))
 (False))
 (test (lim IntKind.i64 (x0 + (1 : Int)))
 (Kst (hd Try.f18 0) ([PV.ptr (PA.mk (1) (0) (0) (0)),
 PV.own (2) (1) (List.length x2), PV.int IntKind.i64 (x0 + (1 : Int)),
 PV.int IntKind.i64 x1, PV.unk]) ([[(0, false,
 Blk.cols mp
 [Col.int IntKind.i64 tp, Col.int IntKind.i64 vp, Col.int IntKind.i64 gp]),
 (2, true,
 Blk.cols (List.length x2) [Col.int IntKind.i64 fun (j : Nat) => S.at' x2 j]),
 (1, true,
 Blk.cells
 [PV.int IntKind.i64 ph, PV.bool ev,
 PV.loose (PA.mk (0) (3) ap (0)) np])]]) (3))
 (False))
set_option maxRecDepth 100000 in
theorem t18_1 (test : Bool → Prop → Prop → Prop) (Kst : KS) (Kret : KR) (ph : Int) (ev : Bool) (ap np mp : Nat) (tp : Nat → Int) (vp : Nat → Int) (gp : Nat → Int) (x0 : Int) (x1 : Int) (x2 : List Int) : run test Try.env true (xB test) true 400 ⟨18, hd Try.f18 1, zipT [1, 3, 4, 5, 6] [PV.ptr (PA.mk (1) (0) (0) (0)),
 PV.own (2) (1) (List.length x2), PV.int IntKind.i64 x0, PV.int IntKind.i64 x1,
 PV.unk], [[(1, (true, Blk.cells
 [PV.int IntKind.i64 ph, PV.bool ev,
 PV.loose (PA.mk (0) (3) ap (0)) np])), (2, (true, Blk.cols (List.length x2) [Col.int IntKind.i64 fun (j : Nat) => S.at' x2 j]))], [(0, (false, .cols mp [.int .i64 tp, .int .i64 vp, .int .i64 gp]))]], 3⟩ (proj 1 [1, 3, 4, 5, 6] Kst Kret) =
  T18_1 test Kst Kret ph ev ap np mp tp vp gp x0 x1 x2 := by kernel_rfl
noncomputable def T18_2 (test : Bool → Prop → Prop → Prop) (Kst : KS) (Kret : KR) (ph : Int) (ev : Bool) (ap np mp : Nat) (tp : Nat → Int) (vp : Nat → Int) (gp : Nat → Int) (x0 : Int) (x1 : List Int) : Prop :=
  test (decide (x0 < (↑np : Int)))
 (test (decide ((0 : Int) ≤ x0 ∧ x0 < (↑np : Int)))
 (test (decide (Int.toNat x0 + ap < mp))
 (test (decide (Int.toNat x0 + ap < mp))
 (test (decide (Int.toNat x0 + ap < mp))
 (test (vp (Int.toNat x0 + ap) != (0 : Int))
 (test (false)
 (test (lim IntKind.i64 ((82 : Int) + x0))
 (test (decide (List.length x1 + 1 ≤ 1000000))
 (test (decide (List.length x1 ≤ List.length x1))
 (test (true)
 (test (lim IntKind.i64 (x0 + (1 : Int)))
 (Kst (hd Try.f18 2) ([PV.ptr (PA.mk (1) (0) (0) (0)),
 PV.own (5) (1) (List.length x1 + 1), PV.unk, PV.unk,
 PV.int IntKind.i64 (x0 + (1 : Int))]) ([[(0, false,
 Blk.cols mp
 [Col.int IntKind.i64 tp, Col.int IntKind.i64 vp, Col.int IntKind.i64 gp]),
 (5, true,
 Blk.cols (List.length x1 + 1)
 [Col.int IntKind.i64 fun (j : Nat) =>
 bif Nat.blt j (List.length x1) then S.at' x1 j else (82 : Int) + x0]),
 (1, true,
 Blk.cells
 [PV.int IntKind.i64 ph, PV.bool ev,
 PV.loose (PA.mk (0) (3) ap (0)) np])]]) (6))
 (False))
 (False))
 (False))
 (False))
 (False))
 (test (lim IntKind.i64 (x0 + (1 : Int)))
 (Kst (hd Try.f18 2) ([PV.ptr (PA.mk (1) (0) (0) (0)),
 PV.own (2) (1) (List.length x1), PV.unk, PV.unk,
 PV.int IntKind.i64 (x0 + (1 : Int))]) ([[(0, false,
 Blk.cols mp
 [Col.int IntKind.i64 tp, Col.int IntKind.i64 vp, Col.int IntKind.i64 gp]),
 (2, true,
 Blk.cols (List.length x1) [Col.int IntKind.i64 fun (j : Nat) => S.at' x1 j]),
 (1, true,
 Blk.cells
 [PV.int IntKind.i64 ph, PV.bool ev,
 PV.loose (PA.mk (0) (3) ap (0)) np])]]) (4))
 (False)))
 (test (ph == (0 : Int))
 (test (decide (gp (Int.toNat x0 + ap) ≤ (1 : Int)))
 (test (true)
 (test (lim IntKind.i64 ((82 : Int) + x0))
 (test (decide (List.length x1 + 1 ≤ 1000000))
 (test (decide (List.length x1 ≤ List.length x1))
 (test (true)
 (test (lim IntKind.i64 (x0 + (1 : Int)))
 (Kst (hd Try.f18 2) ([PV.ptr (PA.mk (1) (0) (0) (0)),
 PV.own (5) (1) (List.length x1 + 1), PV.unk, PV.unk,
 PV.int IntKind.i64 (x0 + (1 : Int))]) ([[(0, false,
 Blk.cols mp
 [Col.int IntKind.i64 tp, Col.int IntKind.i64 vp, Col.int IntKind.i64 gp]),
 (5, true,
 Blk.cols (List.length x1 + 1)
 [Col.int IntKind.i64 fun (j : Nat) =>
 bif Nat.blt j (List.length x1) then S.at' x1 j else (82 : Int) + x0]),
 (1, true,
 Blk.cells
 [PV.int IntKind.i64 ph, PV.bool ev,
 PV.loose (PA.mk (0) (3) ap (0)) np])]]) (6))
 (False))
 (False))
 (False))
 (False))
 (False))
 (test (lim IntKind.i64 (x0 + (1 : Int)))
 (Kst (hd Try.f18 2) ([PV.ptr (PA.mk (1) (0) (0) (0)),
 PV.own (2) (1) (List.length x1), PV.unk, PV.unk,
 PV.int IntKind.i64 (x0 + (1 : Int))]) ([[(0, false,
 Blk.cols mp
 [Col.int IntKind.i64 tp, Col.int IntKind.i64 vp, Col.int IntKind.i64 gp]),
 (2, true,
 Blk.cols (List.length x1) [Col.int IntKind.i64 fun (j : Nat) => S.at' x1 j]),
 (1, true,
 Blk.cells
 [PV.int IntKind.i64 ph, PV.bool ev,
 PV.loose (PA.mk (0) (3) ap (0)) np])]]) (4))
 (False)))
 (test (ph == (1 : Int))
 (test (gp (Int.toNat x0 + ap) != (4 : Int))
 (test (true)
 (test (lim IntKind.i64 ((82 : Int) + x0))
 (test (decide (List.length x1 + 1 ≤ 1000000))
 (test (decide (List.length x1 ≤ List.length x1))
 (test (true)
 (test (lim IntKind.i64 (x0 + (1 : Int)))
 (Kst (hd Try.f18 2) ([PV.ptr (PA.mk (1) (0) (0) (0)),
 PV.own (5) (1) (List.length x1 + 1), PV.unk, PV.unk,
 PV.int IntKind.i64 (x0 + (1 : Int))]) ([[(0, false,
 Blk.cols mp
 [Col.int IntKind.i64 tp, Col.int IntKind.i64 vp, Col.int IntKind.i64 gp]),
 (5, true,
 Blk.cols (List.length x1 + 1)
 [Col.int IntKind.i64 fun (j : Nat) =>
 bif Nat.blt j (List.length x1) then S.at' x1 j else (82 : Int) + x0]),
 (1, true,
 Blk.cells
 [PV.int IntKind.i64 ph, PV.bool ev,
 PV.loose (PA.mk (0) (3) ap (0)) np])]]) (6))
 (False))
 (False))
 (False))
 (False))
 (False))
 (test (lim IntKind.i64 (x0 + (1 : Int)))
 (Kst (hd Try.f18 2) ([PV.ptr (PA.mk (1) (0) (0) (0)),
 PV.own (2) (1) (List.length x1), PV.unk, PV.unk,
 PV.int IntKind.i64 (x0 + (1 : Int))]) ([[(0, false,
 Blk.cols mp
 [Col.int IntKind.i64 tp, Col.int IntKind.i64 vp, Col.int IntKind.i64 gp]),
 (2, true,
 Blk.cols (List.length x1) [Col.int IntKind.i64 fun (j : Nat) => S.at' x1 j]),
 (1, true,
 Blk.cells
 [PV.int IntKind.i64 ph, PV.bool ev,
 PV.loose (PA.mk (0) (3) ap (0)) np])]]) (4))
 (False)))
 (test (ph == (2 : Int))
 (test (true)
 (test (lim IntKind.i64 ((82 : Int) + x0))
 (test (decide (List.length x1 + 1 ≤ 1000000))
 (test (decide (List.length x1 ≤ List.length x1))
 (test (true)
 (test (lim IntKind.i64 (x0 + (1 : Int)))
 (Kst (hd Try.f18 2) ([PV.ptr (PA.mk (1) (0) (0) (0)),
 PV.own (5) (1) (List.length x1 + 1), PV.unk, PV.unk,
 PV.int IntKind.i64 (x0 + (1 : Int))]) ([[(0, false,
 Blk.cols mp
 [Col.int IntKind.i64 tp, Col.int IntKind.i64 vp, Col.int IntKind.i64 gp]),
 (5, true,
 Blk.cols (List.length x1 + 1)
 [Col.int IntKind.i64 fun (j : Nat) =>
 bif Nat.blt j (List.length x1) then S.at' x1 j else (82 : Int) + x0]),
 (1, true,
 Blk.cells
 [PV.int IntKind.i64 ph, PV.bool ev,
 PV.loose (PA.mk (0) (3) ap (0)) np])]]) (6))
 (False))
 (False))
 (False))
 (False))
 (False))
 (test (lim IntKind.i64 (x0 + (1 : Int)))
 (Kst (hd Try.f18 2) ([PV.ptr (PA.mk (1) (0) (0) (0)),
 PV.own (2) (1) (List.length x1), PV.unk, PV.unk,
 PV.int IntKind.i64 (x0 + (1 : Int))]) ([[(0, false,
 Blk.cols mp
 [Col.int IntKind.i64 tp, Col.int IntKind.i64 vp, Col.int IntKind.i64 gp]),
 (2, true,
 Blk.cols (List.length x1) [Col.int IntKind.i64 fun (j : Nat) => S.at' x1 j]),
 (1, true,
 Blk.cells
 [PV.int IntKind.i64 ph, PV.bool ev,
 PV.loose (PA.mk (0) (3) ap (0)) np])]]) (4))
 (False)))
 (test (false)
 (test (lim IntKind.i64 ((82 : Int) + x0))
 (test (decide (List.length x1 + 1 ≤ 1000000))
 (test (decide (List.length x1 ≤ List.length x1))
 (test (true)
 (test (lim IntKind.i64 (x0 + (1 : Int)))
 (Kst (hd Try.f18 2) ([PV.ptr (PA.mk (1) (0) (0) (0)),
 PV.own (5) (1) (List.length x1 + 1), PV.unk, PV.unk,
 PV.int IntKind.i64 (x0 + (1 : Int))]) ([[(0, false,
 Blk.cols mp
 [Col.int IntKind.i64 tp, Col.int IntKind.i64 vp, Col.int IntKind.i64 gp]),
 (5, true,
 Blk.cols (List.length x1 + 1)
 [Col.int IntKind.i64 fun (j : Nat) =>
 bif Nat.blt j (List.length x1) then S.at' x1 j else (82 : Int) + x0]),
 (1, true,
 Blk.cells
 [PV.int IntKind.i64 ph, PV.bool ev,
 PV.loose (PA.mk (0) (3) ap (0)) np])]]) (6))
 (False))
 (False))
 (False))
 (False))
 (False))
 (test (lim IntKind.i64 (x0 + (1 : Int)))
 (Kst (hd Try.f18 2) ([PV.ptr (PA.mk (1) (0) (0) (0)),
 PV.own (2) (1) (List.length x1), PV.unk, PV.unk,
 PV.int IntKind.i64 (x0 + (1 : Int))]) ([[(0, false,
 Blk.cols mp
 [Col.int IntKind.i64 tp, Col.int IntKind.i64 vp, Col.int IntKind.i64 gp]),
 (2, true,
 Blk.cols (List.length x1) [Col.int IntKind.i64 fun (j : Nat) => S.at' x1 j]),
 (1, true,
 Blk.cells
 [PV.int IntKind.i64 ph, PV.bool ev,
 PV.loose (PA.mk (0) (3) ap (0)) np])]]) (4))
 (False)))))
 (test (ph == (2 : Int))
 (test (true)
 (test (lim IntKind.i64 ((82 : Int) + x0))
 (test (decide (List.length x1 + 1 ≤ 1000000))
 (test (decide (List.length x1 ≤ List.length x1))
 (test (true)
 (test (lim IntKind.i64 (x0 + (1 : Int)))
 (Kst (hd Try.f18 2) ([PV.ptr (PA.mk (1) (0) (0) (0)),
 PV.own (5) (1) (List.length x1 + 1), PV.unk, PV.unk,
 PV.int IntKind.i64 (x0 + (1 : Int))]) ([[(0, false,
 Blk.cols mp
 [Col.int IntKind.i64 tp, Col.int IntKind.i64 vp, Col.int IntKind.i64 gp]),
 (5, true,
 Blk.cols (List.length x1 + 1)
 [Col.int IntKind.i64 fun (j : Nat) =>
 bif Nat.blt j (List.length x1) then S.at' x1 j else (82 : Int) + x0]),
 (1, true,
 Blk.cells
 [PV.int IntKind.i64 ph, PV.bool ev,
 PV.loose (PA.mk (0) (3) ap (0)) np])]]) (6))
 (False))
 (False))
 (False))
 (False))
 (False))
 (test (lim IntKind.i64 (x0 + (1 : Int)))
 (Kst (hd Try.f18 2) ([PV.ptr (PA.mk (1) (0) (0) (0)),
 PV.own (2) (1) (List.length x1), PV.unk, PV.unk,
 PV.int IntKind.i64 (x0 + (1 : Int))]) ([[(0, false,
 Blk.cols mp
 [Col.int IntKind.i64 tp, Col.int IntKind.i64 vp, Col.int IntKind.i64 gp]),
 (2, true,
 Blk.cols (List.length x1) [Col.int IntKind.i64 fun (j : Nat) => S.at' x1 j]),
 (1, true,
 Blk.cells
 [PV.int IntKind.i64 ph, PV.bool ev,
 PV.loose (PA.mk (0) (3) ap (0)) np])]]) (4))
 (False)))
 (test (false)
 (test (lim IntKind.i64 ((82 : Int) + x0))
 (test (decide (List.length x1 + 1 ≤ 1000000))
 (test (decide (List.length x1 ≤ List.length x1))
 (test (true)
 (test (lim IntKind.i64 (x0 + (1 : Int)))
 (Kst (hd Try.f18 2) ([PV.ptr (PA.mk (1) (0) (0) (0)),
 PV.own (5) (1) (List.length x1 + 1), PV.unk, PV.unk,
 PV.int IntKind.i64 (x0 + (1 : Int))]) ([[(0, false,
 Blk.cols mp
 [Col.int IntKind.i64 tp, Col.int IntKind.i64 vp, Col.int IntKind.i64 gp]),
 (5, true,
 Blk.cols (List.length x1 + 1)
 [Col.int IntKind.i64 fun (j : Nat) =>
 bif Nat.blt j (List.length x1) then S.at' x1 j else (82 : Int) + x0]),
 (1, true,
 Blk.cells
 [PV.int IntKind.i64 ph, PV.bool ev,
 PV.loose (PA.mk (0) (3) ap (0)) np])]]) (6))
 (False))
 (False))
 (False))
 (False))
 (False))
 (test (lim IntKind.i64 (x0 + (1 : Int)))
 (Kst (hd Try.f18 2) ([PV.ptr (PA.mk (1) (0) (0) (0)),
 PV.own (2) (1) (List.length x1), PV.unk, PV.unk,
 PV.int IntKind.i64 (x0 + (1 : Int))]) ([[(0, false,
 Blk.cols mp
 [Col.int IntKind.i64 tp, Col.int IntKind.i64 vp, Col.int IntKind.i64 gp]),
 (2, true,
 Blk.cols (List.length x1) [Col.int IntKind.i64 fun (j : Nat) => S.at' x1 j]),
 (1, true,
 Blk.cells
 [PV.int IntKind.i64 ph, PV.bool ev,
 PV.loose (PA.mk (0) (3) ap (0)) np])]]) (4))
 (False))))))
 (test (ph == (1 : Int))
 (test (gp (Int.toNat x0 + ap) != (4 : Int))
 (test (true)
 (test (lim IntKind.i64 ((82 : Int) + x0))
 (test (decide (List.length x1 + 1 ≤ 1000000))
 (test (decide (List.length x1 ≤ List.length x1))
 (test (true)
 (test (lim IntKind.i64 (x0 + (1 : Int)))
 (Kst (hd Try.f18 2) ([PV.ptr (PA.mk (1) (0) (0) (0)),
 PV.own (5) (1) (List.length x1 + 1), PV.unk, PV.unk,
 PV.int IntKind.i64 (x0 + (1 : Int))]) ([[(0, false,
 Blk.cols mp
 [Col.int IntKind.i64 tp, Col.int IntKind.i64 vp, Col.int IntKind.i64 gp]),
 (5, true,
 Blk.cols (List.length x1 + 1)
 [Col.int IntKind.i64 fun (j : Nat) =>
 bif Nat.blt j (List.length x1) then S.at' x1 j else (82 : Int) + x0]),
 (1, true,
 Blk.cells
 [PV.int IntKind.i64 ph, PV.bool ev,
 PV.loose (PA.mk (0) (3) ap (0)) np])]]) (6))
 (False))
 (False))
 (False))
 (False))
 (False))
 (test (lim IntKind.i64 (x0 + (1 : Int)))
 (Kst (hd Try.f18 2) ([PV.ptr (PA.mk (1) (0) (0) (0)),
 PV.own (2) (1) (List.length x1), PV.unk, PV.unk,
 PV.int IntKind.i64 (x0 + (1 : Int))]) ([[(0, false,
 Blk.cols mp
 [Col.int IntKind.i64 tp, Col.int IntKind.i64 vp, Col.int IntKind.i64 gp]),
 (2, true,
 Blk.cols (List.length x1) [Col.int IntKind.i64 fun (j : Nat) => S.at' x1 j]),
 (1, true,
 Blk.cells
 [PV.int IntKind.i64 ph, PV.bool ev,
 PV.loose (PA.mk (0) (3) ap (0)) np])]]) (4))
 (False)))
 (test (ph == (2 : Int))
 (test (true)
 (test (lim IntKind.i64 ((82 : Int) + x0))
 (test (decide (List.length x1 + 1 ≤ 1000000))
 (test (decide (List.length x1 ≤ List.length x1))
 (test (true)
 (test (lim IntKind.i64 (x0 + (1 : Int)))
 (Kst (hd Try.f18 2) ([PV.ptr (PA.mk (1) (0) (0) (0)),
 PV.own (5) (1) (List.length x1 + 1), PV.unk, PV.unk,
 PV.int IntKind.i64 (x0 + (1 : Int))]) ([[(0, false,
 Blk.cols mp
 [Col.int IntKind.i64 tp, Col.int IntKind.i64 vp, Col.int IntKind.i64 gp]),
 (5, true,
 Blk.cols (List.length x1 + 1)
 [Col.int IntKind.i64 fun (j : Nat) =>
 bif Nat.blt j (List.length x1) then S.at' x1 j else (82 : Int) + x0]),
 (1, true,
 Blk.cells
 [PV.int IntKind.i64 ph, PV.bool ev,
 PV.loose (PA.mk (0) (3) ap (0)) np])]]) (6))
 (False))
 (False))
 (False))
 (False))
 (False))
 (test (lim IntKind.i64 (x0 + (1 : Int)))
 (Kst (hd Try.f18 2) ([PV.ptr (PA.mk (1) (0) (0) (0)),
 PV.own (2) (1) (List.length x1), PV.unk, PV.unk,
 PV.int IntKind.i64 (x0 + (1 : Int))]) ([[(0, false,
 Blk.cols mp
 [Col.int IntKind.i64 tp, Col.int IntKind.i64 vp, Col.int IntKind.i64 gp]),
 (2, true,
 Blk.cols (List.length x1) [Col.int IntKind.i64 fun (j : Nat) => S.at' x1 j]),
 (1, true,
 Blk.cells
 [PV.int IntKind.i64 ph, PV.bool ev,
 PV.loose (PA.mk (0) (3) ap (0)) np])]]) (4))
 (False)))
 (test (false)
 (test (lim IntKind.i64 ((82 : Int) + x0))
 (test (decide (List.length x1 + 1 ≤ 1000000))
 (test (decide (List.length x1 ≤ List.length x1))
 (test (true)
 (test (lim IntKind.i64 (x0 + (1 : Int)))
 (Kst (hd Try.f18 2) ([PV.ptr (PA.mk (1) (0) (0) (0)),
 PV.own (5) (1) (List.length x1 + 1), PV.unk, PV.unk,
 PV.int IntKind.i64 (x0 + (1 : Int))]) ([[(0, false,
 Blk.cols mp
 [Col.int IntKind.i64 tp, Col.int IntKind.i64 vp, Col.int IntKind.i64 gp]),
 (5, true,
 Blk.cols (List.length x1 + 1)
 [Col.int IntKind.i64 fun (j : Nat) =>
 bif Nat.blt j (List.length x1) then S.at' x1 j else (82 : Int) + x0]),
 (1, true,
 Blk.cells
 [PV.int IntKind.i64 ph, PV.bool ev,
 PV.loose (PA.mk (0) (3) ap (0)) np])]]) (6))
 (False))
 (False))
 (False))
 (False))
 (False))
 (test (lim IntKind.i64 (x0 + (1 : Int)))
 (Kst (hd Try.f18 2) ([PV.ptr (PA.mk (1) (0) (0) (0)),
 PV.own (2) (1) (List.length x1), PV.unk, PV.unk,
 PV.int IntKind.i64 (x0 + (1 : Int))]) ([[(0, false,
 Blk.cols mp
 [Col.int IntKind.i64 tp, Col.int IntKind.i64 vp, Col.int IntKind.i64 gp]),
 (2, true,
 Blk.cols (List.length x1) [Col.int IntKind.i64 fun (j : Nat) => S.at' x1 j]),
 (1, true,
 Blk.cells
 [PV.int IntKind.i64 ph, PV.bool ev,
 PV.loose (PA.mk (0) (3) ap (0)) np])]]) (4))
 (False)))))
 (test (ph == (2 : Int))
 (test (true)
 (test (lim IntKind.i64 ((82 : Int) + x0))
 (test (decide (List.length x1 + 1 ≤ 1000000))
 (test (decide (List.length x1 ≤ List.length x1))
 (test (true)
 (test (lim IntKind.i64 (x0 + (1 : Int)))
 (Kst (hd Try.f18 2) ([PV.ptr (PA.mk (1) (0) (0) (0)),
 PV.own (5) (1) (List.length x1 + 1), PV.unk, PV.unk,
 PV.int IntKind.i64 (x0 + (1 : Int))]) ([[(0, false,
 Blk.cols mp
 [Col.int IntKind.i64 tp, Col.int IntKind.i64 vp, Col.int IntKind.i64 gp]),
 (5, true,
 Blk.cols (List.length x1 + 1)
 [Col.int IntKind.i64 fun (j : Nat) =>
 bif Nat.blt j (List.length x1) then S.at' x1 j else (82 : Int) + x0]),
 (1, true,
 Blk.cells
 [PV.int IntKind.i64 ph, PV.bool ev,
 PV.loose (PA.mk (0) (3) ap (0)) np])]]) (6))
 (False))
 (False))
 (False))
 (False))
 (False))
 (test (lim IntKind.i64 (x0 + (1 : Int)))
 (Kst (hd Try.f18 2) ([PV.ptr (PA.mk (1) (0) (0) (0)),
 PV.own (2) (1) (List.length x1), PV.unk, PV.unk,
 PV.int IntKind.i64 (x0 + (1 : Int))]) ([[(0, false,
 Blk.cols mp
 [Col.int IntKind.i64 tp, Col.int IntKind.i64 vp, Col.int IntKind.i64 gp]),
 (2, true,
 Blk.cols (List.length x1) [Col.int IntKind.i64 fun (j : Nat) => S.at' x1 j]),
 (1, true,
 Blk.cells
 [PV.int IntKind.i64 ph, PV.bool ev,
 PV.loose (PA.mk (0) (3) ap (0)) np])]]) (4))
 (False)))
 (test (false)
 (test (lim IntKind.i64 ((82 : Int) + x0))
 (test (decide (List.length x1 + 1 ≤ 1000000))
 (test (decide (List.length x1 ≤ List.length x1))
 (test (true)
 (test (lim IntKind.i64 (x0 + (1 : Int)))
 (Kst (hd Try.f18 2) ([PV.ptr (PA.mk (1) (0) (0) (0)),
 PV.own (5) (1) (List.length x1 + 1), PV.unk, PV.unk,
 PV.int IntKind.i64 (x0 + (1 : Int))]) ([[(0, false,
 Blk.cols mp
 [Col.int IntKind.i64 tp, Col.int IntKind.i64 vp, Col.int IntKind.i64 gp]),
 (5, true,
 Blk.cols (List.length x1 + 1)
 [Col.int IntKind.i64 fun (j : Nat) =>
 bif Nat.blt j (List.length x1) then S.at' x1 j else (82 : Int) + x0]),
 (1, true,
 Blk.cells
 [PV.int IntKind.i64 ph, PV.bool ev,
 PV.loose (PA.mk (0) (3) ap (0)) np])]]) (6))
 (False))
 (False))
 (False))
 (False))
 (False))
 (test (lim IntKind.i64 (x0 + (1 : Int)))
 (Kst (hd Try.f18 2) ([PV.ptr (PA.mk (1) (0) (0) (0)),
 PV.own (2) (1) (List.length x1), PV.unk, PV.unk,
 PV.int IntKind.i64 (x0 + (1 : Int))]) ([[(0, false,
 Blk.cols mp
 [Col.int IntKind.i64 tp, Col.int IntKind.i64 vp, Col.int IntKind.i64 gp]),
 (2, true,
 Blk.cols (List.length x1) [Col.int IntKind.i64 fun (j : Nat) => S.at' x1 j]),
 (1, true,
 Blk.cells
 [PV.int IntKind.i64 ph, PV.bool ev,
 PV.loose (PA.mk (0) (3) ap (0)) np])]]) (4))
 (False)))))))
 (False))
 (False))
 (False))
 (False))
 (Kret (PV.own (2) (1) (List.length x1)) ([[(0, false,
 Blk.cols mp
 [Col.int IntKind.i64 tp, Col.int IntKind.i64 vp, Col.int IntKind.i64 gp]),
 (2, true,
 Blk.cols (List.length x1) [Col.int IntKind.i64 fun (j : Nat) => S.at' x1 j])]]) (3))
set_option maxRecDepth 100000 in
theorem t18_2 (test : Bool → Prop → Prop → Prop) (Kst : KS) (Kret : KR) (ph : Int) (ev : Bool) (ap np mp : Nat) (tp : Nat → Int) (vp : Nat → Int) (gp : Nat → Int) (x0 : Int) (x1 : List Int) : run test Try.env true (xB test) true 400 ⟨18, hd Try.f18 2, zipT [1, 3, 4, 5, 6] [PV.ptr (PA.mk (1) (0) (0) (0)),
 PV.own (2) (1) (List.length x1), PV.unk, PV.unk, PV.int IntKind.i64 x0], [[(1, (true, Blk.cells
 [PV.int IntKind.i64 ph, PV.bool ev,
 PV.loose (PA.mk (0) (3) ap (0)) np])), (2, (true, Blk.cols (List.length x1) [Col.int IntKind.i64 fun (j : Nat) => S.at' x1 j]))], [(0, (false, .cols mp [.int .i64 tp, .int .i64 vp, .int .i64 gp]))]], 3⟩ (proj 1 [1, 3, 4, 5, 6] Kst Kret) =
  T18_2 test Kst Kret ph ev ap np mp tp vp gp x0 x1 := by kernel_rfl
set_option maxRecDepth 100000 in
theorem be18 (ph : Int) (ev : Bool) (ap np mp : Nat) (tp : Nat → Int) (vp : Nat → Int) (gp : Nat → Int) (Kst : KS) (Kret : KR) (x : St18 ⊕ Rt18) (hS : HS 1 400 ((I18 ph ev ap np mp tp vp gp)) Kst x) (hR : HR 1 400 ((V18 ph ev ap np mp tp vp gp)) (fun r => [newL (1 + 1) ((N18 ph ev ap np mp tp vp gp) r) ++ [(0, (false, .cols mp [.int .i64 tp, .int .i64 vp, .int .i64 gp]))]]) Kret x) (h : (bif (decide (ap + np ≤ mp ∧ np ≤ 1000000))
 then (bif ((S.traE ph ev np (fun (q : Nat) => tp (q + ap)) (fun (q : Nat) => vp (q + ap)) fun (q : Nat) => gp (q + ap)) !=
 (0 : Int))
 then (some (.inr ([])))
 else (some (.inl (.h0 ((0 : Int)) ([])))))
 else (none) : Option (St18 ⊕ Rt18)) = some x) : Te18 cond Kst Kret ph ev ap np mp tp vp gp := by
  unfold Te18
  exact bif_split h
   (fun c0 h => bif_split h
   (fun c1 h => ret_at hR _ h (fun n => bif Nat.beq n 2 then 399 else n) rfl rfl rfl (rn_own_nils rfl) rfl (entl_fresh (use_own rfl) (fresh_ok rfl) (entl_bor (use_lo rfl) rfl rfl entl_nil)))
   (fun c1 h => stop_at hS _ h (fun n => bif Nat.beq n 1 then 1 else bif Nat.beq n 2 then 399 else n) rfl rfl rfl ⟨(rn_ptr (use_own rfl) rfl rfl), ⟨(rn_own_nils rfl), ⟨(rn_int rfl), ⟨(rn_unk _), ⟨(rn_unk _), trivial⟩⟩⟩⟩⟩ rfl (entl_b (use_own rfl) rfl (by simp) (rb_cells ⟨(rn_int rfl), (rn_bool rfl), (rn_loose (use_lo rfl) rfl rfl rfl), trivial⟩) (entl_fresh (use_own rfl) (fresh_ok rfl) (entl_bor (use_lo rfl) rfl rfl entl_nil)))))
   (fun c0 h => no_some h)
set_option maxRecDepth 100000 in
theorem b18_0 (ph : Int) (ev : Bool) (ap np mp : Nat) (tp : Nat → Int) (vp : Nat → Int) (gp : Nat → Int) (Kst : KS) (Kret : KR) (x : St18 ⊕ Rt18) (hS : HS 1 400 ((I18 ph ev ap np mp tp vp gp)) Kst x) (hR : HR 1 400 ((V18 ph ev ap np mp tp vp gp)) (fun r => [newL (1 + 1) ((N18 ph ev ap np mp tp vp gp) r) ++ [(0, (false, .cols mp [.int .i64 tp, .int .i64 vp, .int .i64 gp]))]]) Kret x) (x0 : Int) (x1 : List Int) (h : (bif (decide (x0 < (↑np : Int)))
 then (some (.inl (.h1 (x0) ((0 : Int)) (x1))))
 else (bif (ph == (0 : Int))
 then (bif (decide (List.length x1 + 1 ≤ 1000000))
 then (bif (decide (List.length x1 ≤ List.length x1))
 then (bif (ph == (3 : Int))
 then (bif (decide (List.length x1 + 1 + 1 ≤ 1000000))
 then (bif (decide (List.length x1 + 1 ≤ List.length x1 + 1))
 then (some (.inl (.h2 ((0 : Int)) (S.snoc (S.snoc x1 (80 : Int)) (81 : Int)))))
 else (none))
 else (none))
 else (some (.inl (.h2 ((0 : Int)) (S.snoc x1 (80 : Int))))))
 else (none))
 else (none))
 else (bif (ph == (3 : Int))
 then (bif (decide (List.length x1 + 1 ≤ 1000000))
 then (bif (decide (List.length x1 ≤ List.length x1))
 then (some (.inl (.h2 ((0 : Int)) (S.snoc x1 (81 : Int)))))
 else (none))
 else (none))
 else (some (.inl (.h2 ((0 : Int)) (x1)))))) : Option (St18 ⊕ Rt18)) = some x) : T18_0 cond Kst Kret ph ev ap np mp tp vp gp x0 x1 := by
  unfold T18_0
  exact bif_split h
   (fun c0 h => stop_at hS _ h (fun n => bif Nat.beq n 1 then 1 else bif Nat.beq n 2 then 2 else n) rfl rfl rfl ⟨(rn_ptr (use_own rfl) rfl rfl), ⟨(rn_own (use_own rfl) rfl rfl), ⟨(rn_int rfl), ⟨(rn_int rfl), ⟨(rn_unk _), trivial⟩⟩⟩⟩⟩ rfl (entl_b (use_own rfl) rfl (by simp) (rb_cells ⟨(rn_int rfl), (rn_bool rfl), (rn_loose (use_lo rfl) rfl rfl rfl), trivial⟩) (entl_new (use_own rfl) rfl (Nat.le_of_eq rfl) (rcs_int (fun _ _ => rfl) rcs_nil) (entl_bor (use_lo rfl) rfl rfl entl_nil))))
   (fun c0 h => bif_split h
   (fun c1 h => bif_split h
   (fun c2 h => bif_split h
   (fun c3 h => cond_yes rfl (bif_split h
   (fun c4 h => bif_split h
   (fun c5 h => bif_split h
   (fun c6 h => cond_yes rfl (stop_at hS _ h (fun n => bif Nat.beq n 1 then 1 else bif Nat.beq n 2 then 6 else n) rfl rfl rfl ⟨(rn_ptr (use_own rfl) rfl rfl), ⟨(rn_own (use_own rfl) rfl (snoc_len' (snoc_len' rfl))), ⟨(rn_unk _), ⟨(rn_unk _), ⟨(rn_int rfl), trivial⟩⟩⟩⟩⟩ rfl (entl_b (use_own rfl) rfl (by simp) (rb_cells ⟨(rn_int rfl), (rn_bool rfl), (rn_loose (use_lo rfl) rfl rfl rfl), trivial⟩) (entl_new (use_own rfl) rfl (Nat.le_of_eq (snoc_len' (snoc_len' rfl))) (rcs_int (col_snoc' (fun (t : Int) => t) (snoc_len' rfl) (col_snoc' (fun (t : Int) => t) rfl (fun _ _ => rfl))) rcs_nil) (entl_bor (use_lo rfl) rfl rfl entl_nil)))))
   (fun c6 h => no_some h))
   (fun c5 h => no_some h))
   (fun c4 h => stop_at hS _ h (fun n => bif Nat.beq n 1 then 1 else bif Nat.beq n 2 then 4 else n) rfl rfl rfl ⟨(rn_ptr (use_own rfl) rfl rfl), ⟨(rn_own (use_own rfl) rfl (snoc_len' rfl)), ⟨(rn_unk _), ⟨(rn_unk _), ⟨(rn_int rfl), trivial⟩⟩⟩⟩⟩ rfl (entl_b (use_own rfl) rfl (by simp) (rb_cells ⟨(rn_int rfl), (rn_bool rfl), (rn_loose (use_lo rfl) rfl rfl rfl), trivial⟩) (entl_new (use_own rfl) rfl (Nat.le_of_eq (snoc_len' rfl)) (rcs_int (col_snoc' (fun (t : Int) => t) rfl (fun _ _ => rfl)) rcs_nil) (entl_bor (use_lo rfl) rfl rfl entl_nil))))))
   (fun c3 h => no_some h))
   (fun c2 h => no_some h))
   (fun c1 h => bif_split h
   (fun c2 h => bif_split h
   (fun c3 h => bif_split h
   (fun c4 h => cond_yes rfl (stop_at hS _ h (fun n => bif Nat.beq n 1 then 1 else bif Nat.beq n 2 then 4 else n) rfl rfl rfl ⟨(rn_ptr (use_own rfl) rfl rfl), ⟨(rn_own (use_own rfl) rfl (snoc_len' rfl)), ⟨(rn_unk _), ⟨(rn_unk _), ⟨(rn_int rfl), trivial⟩⟩⟩⟩⟩ rfl (entl_b (use_own rfl) rfl (by simp) (rb_cells ⟨(rn_int rfl), (rn_bool rfl), (rn_loose (use_lo rfl) rfl rfl rfl), trivial⟩) (entl_new (use_own rfl) rfl (Nat.le_of_eq (snoc_len' rfl)) (rcs_int (col_snoc' (fun (t : Int) => t) rfl (fun _ _ => rfl)) rcs_nil) (entl_bor (use_lo rfl) rfl rfl entl_nil)))))
   (fun c4 h => no_some h))
   (fun c3 h => no_some h))
   (fun c2 h => stop_at hS _ h (fun n => bif Nat.beq n 1 then 1 else bif Nat.beq n 2 then 2 else n) rfl rfl rfl ⟨(rn_ptr (use_own rfl) rfl rfl), ⟨(rn_own (use_own rfl) rfl rfl), ⟨(rn_unk _), ⟨(rn_unk _), ⟨(rn_int rfl), trivial⟩⟩⟩⟩⟩ rfl (entl_b (use_own rfl) rfl (by simp) (rb_cells ⟨(rn_int rfl), (rn_bool rfl), (rn_loose (use_lo rfl) rfl rfl rfl), trivial⟩) (entl_new (use_own rfl) rfl (Nat.le_of_eq rfl) (rcs_int (fun _ _ => rfl) rcs_nil) (entl_bor (use_lo rfl) rfl rfl entl_nil))))))
set_option maxRecDepth 100000 in
theorem b18_1 (ph : Int) (ev : Bool) (ap np mp : Nat) (tp : Nat → Int) (vp : Nat → Int) (gp : Nat → Int) (Kst : KS) (Kret : KR) (x : St18 ⊕ Rt18) (hS : HS 1 400 ((I18 ph ev ap np mp tp vp gp)) Kst x) (hR : HR 1 400 ((V18 ph ev ap np mp tp vp gp)) (fun r => [newL (1 + 1) ((N18 ph ev ap np mp tp vp gp) r) ++ [(0, (false, .cols mp [.int .i64 tp, .int .i64 vp, .int .i64 gp]))]]) Kret x) (x0 : Int) (x1 : Int) (x2 : List Int) (h : (bif (decide (x1 ≤ (8 : Int)))
 then (bif (decide
 (ap + np ≤ mp ∧ np ≤ 1000000 ∧ ((0 : Int) ≤ x0 ∧ x0 < (↑np : Int)) ∧ (0 : Int) ≤ x1 ∧ x1 ≤ (8 : Int)))
 then (bif (S.stpB ev (tp (Int.toNat x0 + ap)) (vp (Int.toNat x0 + ap)) (gp (Int.toNat x0 + ap)) (Int.toNat x1))
 then (bif (lim IntKind.i64 ((10 : Int) * x0))
 then (bif (lim IntKind.i64 ((10 : Int) * x0 + x1))
 then (bif (decide (List.length x2 + 1 ≤ 1000000))
 then (bif (decide (List.length x2 ≤ List.length x2))
 then (bif (lim IntKind.i64 (x1 + (1 : Int)))
 then (some (.inl (.h1 (x0) (x1 + (1 : Int)) (S.snoc x2 ((10 : Int) * x0 + x1)))))
 else (none))
 else (none))
 else (none))
 else (none))
 else (none))
 else (bif (lim IntKind.i64 (x1 + (1 : Int)))
 then (some (.inl (.h1 (x0) (x1 + (1 : Int)) (x2))))
 else (none)))
 else (none))
 else (bif (lim IntKind.i64 (x0 + (1 : Int)))
 then (some (.inl (.h0 (x0 + (1 : Int)) (x2))))
 else (none)) : Option (St18 ⊕ Rt18)) = some x) : T18_1 cond Kst Kret ph ev ap np mp tp vp gp x0 x1 x2 := by
  unfold T18_1
  exact bif_split h
   (fun c0 h => bif_split h
   (fun c1 h => bif_split h
   (fun c2 h => bif_split h
   (fun c3 h => bif_split h
   (fun c4 h => bif_split h
   (fun c5 h => bif_split h
   (fun c6 h => cond_yes rfl (bif_split h
   (fun c7 h => stop_at hS _ h (fun n => bif Nat.beq n 1 then 1 else bif Nat.beq n 2 then 5 else n) rfl rfl rfl ⟨(rn_ptr (use_own rfl) rfl rfl), ⟨(rn_own (use_own rfl) rfl (snoc_len' rfl)), ⟨(rn_int rfl), ⟨(rn_int rfl), ⟨(rn_unk _), trivial⟩⟩⟩⟩⟩ rfl (entl_b (use_own rfl) rfl (by simp) (rb_cells ⟨(rn_int rfl), (rn_bool rfl), (rn_loose (use_lo rfl) rfl rfl rfl), trivial⟩) (entl_new (use_own rfl) rfl (Nat.le_of_eq (snoc_len' rfl)) (rcs_int (col_snoc' (fun (t : Int) => t) rfl (fun _ _ => rfl)) rcs_nil) (entl_bor (use_lo rfl) rfl rfl entl_nil))))
   (fun c7 h => no_some h)))
   (fun c6 h => no_some h))
   (fun c5 h => no_some h))
   (fun c4 h => no_some h))
   (fun c3 h => no_some h))
   (fun c2 h => bif_split h
   (fun c3 h => stop_at hS _ h (fun n => bif Nat.beq n 1 then 1 else bif Nat.beq n 2 then 2 else n) rfl rfl rfl ⟨(rn_ptr (use_own rfl) rfl rfl), ⟨(rn_own (use_own rfl) rfl rfl), ⟨(rn_int rfl), ⟨(rn_int rfl), ⟨(rn_unk _), trivial⟩⟩⟩⟩⟩ rfl (entl_b (use_own rfl) rfl (by simp) (rb_cells ⟨(rn_int rfl), (rn_bool rfl), (rn_loose (use_lo rfl) rfl rfl rfl), trivial⟩) (entl_new (use_own rfl) rfl (Nat.le_of_eq rfl) (rcs_int (fun _ _ => rfl) rcs_nil) (entl_bor (use_lo rfl) rfl rfl entl_nil))))
   (fun c3 h => no_some h)))
   (fun c1 h => no_some h))
   (fun c0 h => bif_split h
   (fun c1 h => stop_at hS _ h (fun n => bif Nat.beq n 1 then 1 else bif Nat.beq n 2 then 2 else n) rfl rfl rfl ⟨(rn_ptr (use_own rfl) rfl rfl), ⟨(rn_own (use_own rfl) rfl rfl), ⟨(rn_int rfl), ⟨(rn_unk _), ⟨(rn_unk _), trivial⟩⟩⟩⟩⟩ rfl (entl_b (use_own rfl) rfl (by simp) (rb_cells ⟨(rn_int rfl), (rn_bool rfl), (rn_loose (use_lo rfl) rfl rfl rfl), trivial⟩) (entl_new (use_own rfl) rfl (Nat.le_of_eq rfl) (rcs_int (fun _ _ => rfl) rcs_nil) (entl_bor (use_lo rfl) rfl rfl entl_nil))))
   (fun c1 h => no_some h))
set_option maxRecDepth 100000 in
theorem b18_2 (ph : Int) (ev : Bool) (ap np mp : Nat) (tp : Nat → Int) (vp : Nat → Int) (gp : Nat → Int) (Kst : KS) (Kret : KR) (x : St18 ⊕ Rt18) (hS : HS 1 400 ((I18 ph ev ap np mp tp vp gp)) Kst x) (hR : HR 1 400 ((V18 ph ev ap np mp tp vp gp)) (fun r => [newL (1 + 1) ((N18 ph ev ap np mp tp vp gp) r) ++ [(0, (false, .cols mp [.int .i64 tp, .int .i64 vp, .int .i64 gp]))]]) Kret x) (x0 : Int) (x1 : List Int) (h : (bif (decide (x0 < (↑np : Int)))
 then (bif (decide ((0 : Int) ≤ x0 ∧ x0 < (↑np : Int)))
 then (bif (decide (Int.toNat x0 + ap < mp))
 then (bif (vp (Int.toNat x0 + ap) != (0 : Int))
 then (bif (lim IntKind.i64 (x0 + (1 : Int)))
 then (some (.inl (.h2 (x0 + (1 : Int)) (x1))))
 else (none))
 else (bif (ph == (0 : Int))
 then (bif (decide (gp (Int.toNat x0 + ap) ≤ (1 : Int)))
 then (bif (lim IntKind.i64 ((82 : Int) + x0))
 then (bif (decide (List.length x1 + 1 ≤ 1000000))
 then (bif (decide (List.length x1 ≤ List.length x1))
 then (bif (lim IntKind.i64 (x0 + (1 : Int)))
 then (some (.inl (.h2 (x0 + (1 : Int)) (S.snoc x1 ((82 : Int) + x0)))))
 else (none))
 else (none))
 else (none))
 else (none))
 else (bif (ph == (1 : Int))
 then (bif (gp (Int.toNat x0 + ap) != (4 : Int))
 then (bif (lim IntKind.i64 ((82 : Int) + x0))
 then (bif (decide (List.length x1 + 1 ≤ 1000000))
 then (bif (decide (List.length x1 ≤ List.length x1))
 then (bif (lim IntKind.i64 (x0 + (1 : Int)))
 then (some (.inl (.h2 (x0 + (1 : Int)) (S.snoc x1 ((82 : Int) + x0)))))
 else (none))
 else (none))
 else (none))
 else (none))
 else (bif (ph == (2 : Int))
 then (bif (lim IntKind.i64 ((82 : Int) + x0))
 then (bif (decide (List.length x1 + 1 ≤ 1000000))
 then (bif (decide (List.length x1 ≤ List.length x1))
 then (bif (lim IntKind.i64 (x0 + (1 : Int)))
 then (some (.inl (.h2 (x0 + (1 : Int)) (S.snoc x1 ((82 : Int) + x0)))))
 else (none))
 else (none))
 else (none))
 else (none))
 else (bif (lim IntKind.i64 (x0 + (1 : Int)))
 then (some (.inl (.h2 (x0 + (1 : Int)) (x1))))
 else (none))))
 else (bif (ph == (2 : Int))
 then (bif (lim IntKind.i64 ((82 : Int) + x0))
 then (bif (decide (List.length x1 + 1 ≤ 1000000))
 then (bif (decide (List.length x1 ≤ List.length x1))
 then (bif (lim IntKind.i64 (x0 + (1 : Int)))
 then (some (.inl (.h2 (x0 + (1 : Int)) (S.snoc x1 ((82 : Int) + x0)))))
 else (none))
 else (none))
 else (none))
 else (none))
 else (bif (lim IntKind.i64 (x0 + (1 : Int)))
 then (some (.inl (.h2 (x0 + (1 : Int)) (x1))))
 else (none)))))
 else (bif (ph == (1 : Int))
 then (bif (gp (Int.toNat x0 + ap) != (4 : Int))
 then (bif (lim IntKind.i64 ((82 : Int) + x0))
 then (bif (decide (List.length x1 + 1 ≤ 1000000))
 then (bif (decide (List.length x1 ≤ List.length x1))
 then (bif (lim IntKind.i64 (x0 + (1 : Int)))
 then (some (.inl (.h2 (x0 + (1 : Int)) (S.snoc x1 ((82 : Int) + x0)))))
 else (none))
 else (none))
 else (none))
 else (none))
 else (bif (ph == (2 : Int))
 then (bif (lim IntKind.i64 ((82 : Int) + x0))
 then (bif (decide (List.length x1 + 1 ≤ 1000000))
 then (bif (decide (List.length x1 ≤ List.length x1))
 then (bif (lim IntKind.i64 (x0 + (1 : Int)))
 then (some (.inl (.h2 (x0 + (1 : Int)) (S.snoc x1 ((82 : Int) + x0)))))
 else (none))
 else (none))
 else (none))
 else (none))
 else (bif (lim IntKind.i64 (x0 + (1 : Int)))
 then (some (.inl (.h2 (x0 + (1 : Int)) (x1))))
 else (none))))
 else (bif (ph == (2 : Int))
 then (bif (lim IntKind.i64 ((82 : Int) + x0))
 then (bif (decide (List.length x1 + 1 ≤ 1000000))
 then (bif (decide (List.length x1 ≤ List.length x1))
 then (bif (lim IntKind.i64 (x0 + (1 : Int)))
 then (some (.inl (.h2 (x0 + (1 : Int)) (S.snoc x1 ((82 : Int) + x0)))))
 else (none))
 else (none))
 else (none))
 else (none))
 else (bif (lim IntKind.i64 (x0 + (1 : Int)))
 then (some (.inl (.h2 (x0 + (1 : Int)) (x1))))
 else (none))))))
 else (none))
 else (none))
 else (some (.inr (x1))) : Option (St18 ⊕ Rt18)) = some x) : T18_2 cond Kst Kret ph ev ap np mp tp vp gp x0 x1 := by
  unfold T18_2
  exact bif_split h
   (fun c0 h => bif_split h
   (fun c1 h => bif_split h
   (fun c2 h => cond_yes c2 (cond_yes c2 (bif_split h
   (fun c3 h => cond_no rfl (bif_split h
   (fun c4 h => stop_at hS _ h (fun n => bif Nat.beq n 1 then 1 else bif Nat.beq n 2 then 2 else n) rfl rfl rfl ⟨(rn_ptr (use_own rfl) rfl rfl), ⟨(rn_own (use_own rfl) rfl rfl), ⟨(rn_unk _), ⟨(rn_unk _), ⟨(rn_int rfl), trivial⟩⟩⟩⟩⟩ rfl (entl_b (use_own rfl) rfl (by simp) (rb_cells ⟨(rn_int rfl), (rn_bool rfl), (rn_loose (use_lo rfl) rfl rfl rfl), trivial⟩) (entl_new (use_own rfl) rfl (Nat.le_of_eq rfl) (rcs_int (fun _ _ => rfl) rcs_nil) (entl_bor (use_lo rfl) rfl rfl entl_nil))))
   (fun c4 h => no_some h)))
   (fun c3 h => bif_split h
   (fun c4 h => bif_split h
   (fun c5 h => cond_yes rfl (bif_split h
   (fun c6 h => bif_split h
   (fun c7 h => bif_split h
   (fun c8 h => cond_yes rfl (bif_split h
   (fun c9 h => stop_at hS _ h (fun n => bif Nat.beq n 1 then 1 else bif Nat.beq n 2 then 5 else n) rfl rfl rfl ⟨(rn_ptr (use_own rfl) rfl rfl), ⟨(rn_own (use_own rfl) rfl (snoc_len' rfl)), ⟨(rn_unk _), ⟨(rn_unk _), ⟨(rn_int rfl), trivial⟩⟩⟩⟩⟩ rfl (entl_b (use_own rfl) rfl (by simp) (rb_cells ⟨(rn_int rfl), (rn_bool rfl), (rn_loose (use_lo rfl) rfl rfl rfl), trivial⟩) (entl_new (use_own rfl) rfl (Nat.le_of_eq (snoc_len' rfl)) (rcs_int (col_snoc' (fun (t : Int) => t) rfl (fun _ _ => rfl)) rcs_nil) (entl_bor (use_lo rfl) rfl rfl entl_nil))))
   (fun c9 h => no_some h)))
   (fun c8 h => no_some h))
   (fun c7 h => no_some h))
   (fun c6 h => no_some h)))
   (fun c5 h => bif_split h
   (fun c6 h => bif_split h
   (fun c7 h => cond_yes rfl (bif_split h
   (fun c8 h => bif_split h
   (fun c9 h => bif_split h
   (fun c10 h => cond_yes rfl (bif_split h
   (fun c11 h => stop_at hS _ h (fun n => bif Nat.beq n 1 then 1 else bif Nat.beq n 2 then 5 else n) rfl rfl rfl ⟨(rn_ptr (use_own rfl) rfl rfl), ⟨(rn_own (use_own rfl) rfl (snoc_len' rfl)), ⟨(rn_unk _), ⟨(rn_unk _), ⟨(rn_int rfl), trivial⟩⟩⟩⟩⟩ rfl (entl_b (use_own rfl) rfl (by simp) (rb_cells ⟨(rn_int rfl), (rn_bool rfl), (rn_loose (use_lo rfl) rfl rfl rfl), trivial⟩) (entl_new (use_own rfl) rfl (Nat.le_of_eq (snoc_len' rfl)) (rcs_int (col_snoc' (fun (t : Int) => t) rfl (fun _ _ => rfl)) rcs_nil) (entl_bor (use_lo rfl) rfl rfl entl_nil))))
   (fun c11 h => no_some h)))
   (fun c10 h => no_some h))
   (fun c9 h => no_some h))
   (fun c8 h => no_some h)))
   (fun c7 h => bif_split h
   (fun c8 h => cond_yes rfl (bif_split h
   (fun c9 h => bif_split h
   (fun c10 h => bif_split h
   (fun c11 h => cond_yes rfl (bif_split h
   (fun c12 h => stop_at hS _ h (fun n => bif Nat.beq n 1 then 1 else bif Nat.beq n 2 then 5 else n) rfl rfl rfl ⟨(rn_ptr (use_own rfl) rfl rfl), ⟨(rn_own (use_own rfl) rfl (snoc_len' rfl)), ⟨(rn_unk _), ⟨(rn_unk _), ⟨(rn_int rfl), trivial⟩⟩⟩⟩⟩ rfl (entl_b (use_own rfl) rfl (by simp) (rb_cells ⟨(rn_int rfl), (rn_bool rfl), (rn_loose (use_lo rfl) rfl rfl rfl), trivial⟩) (entl_new (use_own rfl) rfl (Nat.le_of_eq (snoc_len' rfl)) (rcs_int (col_snoc' (fun (t : Int) => t) rfl (fun _ _ => rfl)) rcs_nil) (entl_bor (use_lo rfl) rfl rfl entl_nil))))
   (fun c12 h => no_some h)))
   (fun c11 h => no_some h))
   (fun c10 h => no_some h))
   (fun c9 h => no_some h)))
   (fun c8 h => cond_no rfl (bif_split h
   (fun c9 h => stop_at hS _ h (fun n => bif Nat.beq n 1 then 1 else bif Nat.beq n 2 then 2 else n) rfl rfl rfl ⟨(rn_ptr (use_own rfl) rfl rfl), ⟨(rn_own (use_own rfl) rfl rfl), ⟨(rn_unk _), ⟨(rn_unk _), ⟨(rn_int rfl), trivial⟩⟩⟩⟩⟩ rfl (entl_b (use_own rfl) rfl (by simp) (rb_cells ⟨(rn_int rfl), (rn_bool rfl), (rn_loose (use_lo rfl) rfl rfl rfl), trivial⟩) (entl_new (use_own rfl) rfl (Nat.le_of_eq rfl) (rcs_int (fun _ _ => rfl) rcs_nil) (entl_bor (use_lo rfl) rfl rfl entl_nil))))
   (fun c9 h => no_some h)))))
   (fun c6 h => bif_split h
   (fun c7 h => cond_yes rfl (bif_split h
   (fun c8 h => bif_split h
   (fun c9 h => bif_split h
   (fun c10 h => cond_yes rfl (bif_split h
   (fun c11 h => stop_at hS _ h (fun n => bif Nat.beq n 1 then 1 else bif Nat.beq n 2 then 5 else n) rfl rfl rfl ⟨(rn_ptr (use_own rfl) rfl rfl), ⟨(rn_own (use_own rfl) rfl (snoc_len' rfl)), ⟨(rn_unk _), ⟨(rn_unk _), ⟨(rn_int rfl), trivial⟩⟩⟩⟩⟩ rfl (entl_b (use_own rfl) rfl (by simp) (rb_cells ⟨(rn_int rfl), (rn_bool rfl), (rn_loose (use_lo rfl) rfl rfl rfl), trivial⟩) (entl_new (use_own rfl) rfl (Nat.le_of_eq (snoc_len' rfl)) (rcs_int (col_snoc' (fun (t : Int) => t) rfl (fun _ _ => rfl)) rcs_nil) (entl_bor (use_lo rfl) rfl rfl entl_nil))))
   (fun c11 h => no_some h)))
   (fun c10 h => no_some h))
   (fun c9 h => no_some h))
   (fun c8 h => no_some h)))
   (fun c7 h => cond_no rfl (bif_split h
   (fun c8 h => stop_at hS _ h (fun n => bif Nat.beq n 1 then 1 else bif Nat.beq n 2 then 2 else n) rfl rfl rfl ⟨(rn_ptr (use_own rfl) rfl rfl), ⟨(rn_own (use_own rfl) rfl rfl), ⟨(rn_unk _), ⟨(rn_unk _), ⟨(rn_int rfl), trivial⟩⟩⟩⟩⟩ rfl (entl_b (use_own rfl) rfl (by simp) (rb_cells ⟨(rn_int rfl), (rn_bool rfl), (rn_loose (use_lo rfl) rfl rfl rfl), trivial⟩) (entl_new (use_own rfl) rfl (Nat.le_of_eq rfl) (rcs_int (fun _ _ => rfl) rcs_nil) (entl_bor (use_lo rfl) rfl rfl entl_nil))))
   (fun c8 h => no_some h))))))
   (fun c4 h => bif_split h
   (fun c5 h => bif_split h
   (fun c6 h => cond_yes rfl (bif_split h
   (fun c7 h => bif_split h
   (fun c8 h => bif_split h
   (fun c9 h => cond_yes rfl (bif_split h
   (fun c10 h => stop_at hS _ h (fun n => bif Nat.beq n 1 then 1 else bif Nat.beq n 2 then 5 else n) rfl rfl rfl ⟨(rn_ptr (use_own rfl) rfl rfl), ⟨(rn_own (use_own rfl) rfl (snoc_len' rfl)), ⟨(rn_unk _), ⟨(rn_unk _), ⟨(rn_int rfl), trivial⟩⟩⟩⟩⟩ rfl (entl_b (use_own rfl) rfl (by simp) (rb_cells ⟨(rn_int rfl), (rn_bool rfl), (rn_loose (use_lo rfl) rfl rfl rfl), trivial⟩) (entl_new (use_own rfl) rfl (Nat.le_of_eq (snoc_len' rfl)) (rcs_int (col_snoc' (fun (t : Int) => t) rfl (fun _ _ => rfl)) rcs_nil) (entl_bor (use_lo rfl) rfl rfl entl_nil))))
   (fun c10 h => no_some h)))
   (fun c9 h => no_some h))
   (fun c8 h => no_some h))
   (fun c7 h => no_some h)))
   (fun c6 h => bif_split h
   (fun c7 h => cond_yes rfl (bif_split h
   (fun c8 h => bif_split h
   (fun c9 h => bif_split h
   (fun c10 h => cond_yes rfl (bif_split h
   (fun c11 h => stop_at hS _ h (fun n => bif Nat.beq n 1 then 1 else bif Nat.beq n 2 then 5 else n) rfl rfl rfl ⟨(rn_ptr (use_own rfl) rfl rfl), ⟨(rn_own (use_own rfl) rfl (snoc_len' rfl)), ⟨(rn_unk _), ⟨(rn_unk _), ⟨(rn_int rfl), trivial⟩⟩⟩⟩⟩ rfl (entl_b (use_own rfl) rfl (by simp) (rb_cells ⟨(rn_int rfl), (rn_bool rfl), (rn_loose (use_lo rfl) rfl rfl rfl), trivial⟩) (entl_new (use_own rfl) rfl (Nat.le_of_eq (snoc_len' rfl)) (rcs_int (col_snoc' (fun (t : Int) => t) rfl (fun _ _ => rfl)) rcs_nil) (entl_bor (use_lo rfl) rfl rfl entl_nil))))
   (fun c11 h => no_some h)))
   (fun c10 h => no_some h))
   (fun c9 h => no_some h))
   (fun c8 h => no_some h)))
   (fun c7 h => cond_no rfl (bif_split h
   (fun c8 h => stop_at hS _ h (fun n => bif Nat.beq n 1 then 1 else bif Nat.beq n 2 then 2 else n) rfl rfl rfl ⟨(rn_ptr (use_own rfl) rfl rfl), ⟨(rn_own (use_own rfl) rfl rfl), ⟨(rn_unk _), ⟨(rn_unk _), ⟨(rn_int rfl), trivial⟩⟩⟩⟩⟩ rfl (entl_b (use_own rfl) rfl (by simp) (rb_cells ⟨(rn_int rfl), (rn_bool rfl), (rn_loose (use_lo rfl) rfl rfl rfl), trivial⟩) (entl_new (use_own rfl) rfl (Nat.le_of_eq rfl) (rcs_int (fun _ _ => rfl) rcs_nil) (entl_bor (use_lo rfl) rfl rfl entl_nil))))
   (fun c8 h => no_some h)))))
   (fun c5 h => bif_split h
   (fun c6 h => cond_yes rfl (bif_split h
   (fun c7 h => bif_split h
   (fun c8 h => bif_split h
   (fun c9 h => cond_yes rfl (bif_split h
   (fun c10 h => stop_at hS _ h (fun n => bif Nat.beq n 1 then 1 else bif Nat.beq n 2 then 5 else n) rfl rfl rfl ⟨(rn_ptr (use_own rfl) rfl rfl), ⟨(rn_own (use_own rfl) rfl (snoc_len' rfl)), ⟨(rn_unk _), ⟨(rn_unk _), ⟨(rn_int rfl), trivial⟩⟩⟩⟩⟩ rfl (entl_b (use_own rfl) rfl (by simp) (rb_cells ⟨(rn_int rfl), (rn_bool rfl), (rn_loose (use_lo rfl) rfl rfl rfl), trivial⟩) (entl_new (use_own rfl) rfl (Nat.le_of_eq (snoc_len' rfl)) (rcs_int (col_snoc' (fun (t : Int) => t) rfl (fun _ _ => rfl)) rcs_nil) (entl_bor (use_lo rfl) rfl rfl entl_nil))))
   (fun c10 h => no_some h)))
   (fun c9 h => no_some h))
   (fun c8 h => no_some h))
   (fun c7 h => no_some h)))
   (fun c6 h => cond_no rfl (bif_split h
   (fun c7 h => stop_at hS _ h (fun n => bif Nat.beq n 1 then 1 else bif Nat.beq n 2 then 2 else n) rfl rfl rfl ⟨(rn_ptr (use_own rfl) rfl rfl), ⟨(rn_own (use_own rfl) rfl rfl), ⟨(rn_unk _), ⟨(rn_unk _), ⟨(rn_int rfl), trivial⟩⟩⟩⟩⟩ rfl (entl_b (use_own rfl) rfl (by simp) (rb_cells ⟨(rn_int rfl), (rn_bool rfl), (rn_loose (use_lo rfl) rfl rfl rfl), trivial⟩) (entl_new (use_own rfl) rfl (Nat.le_of_eq rfl) (rcs_int (fun _ _ => rfl) rcs_nil) (entl_bor (use_lo rfl) rfl rfl entl_nil))))
   (fun c7 h => no_some h)))))))))
   (fun c2 h => no_some h))
   (fun c1 h => no_some h))
   (fun c0 h => ret_at hR _ h (fun n => bif Nat.beq n 2 then 2 else n) rfl rfl rfl (rn_own (use_own rfl) rfl rfl) rfl (entl_new (use_own rfl) rfl (Nat.le_of_eq rfl) (rcs_int (fun _ _ => rfl) rcs_nil) (entl_bor (use_lo rfl) rfl rfl entl_nil)))
theorem a18 (ph : Int) (ev : Bool) (ap np mp : Nat) (tp : Nat → Int) (vp : Nat → Int) (gp : Nat → Int) {r : Rt18} (h : Goes ((q18 ph ev ap np mp tp vp gp)) ((p18 ph ev ap np mp tp vp gp)) r) : CallR Try.prog 18 [.agg [.int .i64 ph, .bool ev, .loose ⟨0, 3, ap, 0⟩ np]] [[(0, (false, .cols mp [.int .i64 tp, .int .i64 vp, .int .i64 gp]))]] 1 ((V18 ph ev ap np mp tp vp gp) r) ((fun r => [newL (1 + 1) ((N18 ph ev ap np mp tp vp gp) r) ++ [(0, (false, .cols mp [.int .i64 tp, .int .i64 vp, .int .i64 gp]))]]) r) 400 ∧ ∃ F, Try.prog.funcs[18]? = some F ∧ F.body.isSome = true ∧ (F.name == "runtime.NumGoroutine") = false := by
  refine dec_calls (f := 18) (lo := 1) (hi := 400) (H := [[(0, (false, .cols mp [.int .i64 tp, .int .i64 vp, .int .i64 gp]))]]) (args := [.agg [.int .i64 ph, .bool ev, .loose ⟨0, 3, ap, 0⟩ np]]) Try.envOk Try.mixed xB_ok ((I18 ph ev ap np mp tp vp gp)) ((V18 ph ev ap np mp tp vp gp)) (fun r => [newL (1 + 1) ((N18 ph ev ap np mp tp vp gp) r) ++ [(0, (false, .cols mp [.int .i64 tp, .int .i64 vp, .int .i64 gp]))]]) (fn := mkFn Try.f18) (ts := [1, 3, 4, 5, 6]) (n := 400) rfl (by decide) (by simp) (names_of rfl) ?_ ?_ ?_ h
  · intro s; cases s <;> exact ⟨hd_ok _ _, by simp [I18], names_of rfl, Nat.le_of_ble_eq_true rfl⟩
  · intro Kst Kret x hS hR h
    exact Holds.eq (te18 cond Kst Kret ph ev ap np mp tp vp gp) (be18 ph ev ap np mp tp vp gp Kst Kret x hS hR h)
  · intro Kst Kret x hS hR s h
    cases s with
    | h0 x0 x1 => exact Holds.eq (t18_0 cond Kst Kret ph ev ap np mp tp vp gp x0 x1) (b18_0 ph ev ap np mp tp vp gp Kst Kret x hS hR x0 x1 h)
    | h1 x0 x1 x2 => exact Holds.eq (t18_1 cond Kst Kret ph ev ap np mp tp vp gp x0 x1 x2) (b18_1 ph ev ap np mp tp vp gp Kst Kret x hS hR x0 x1 x2 h)
    | h2 x0 x1 => exact Holds.eq (t18_2 cond Kst Kret ph ev ap np mp tp vp gp x0 x1) (b18_2 ph ev ap np mp tp vp gp Kst Kret x hS hR x0 x1 h)
noncomputable def k18 : Con := ⟨18, [.agg [.plain (.int .i64), .plain (.bool), .list [.int .i64, .int .i64, .int .i64]]], fun (x : (Int × Bool × (Nat × Nat × Nat × (Nat → Int) × (Nat → Int) × (Nat → Int) × Unit) × Unit) × Unit) => (fun (ph : Int) (ev : Bool) (ap np mp : Nat) (tp : Nat → Int) (vp : Nat → Int) (gp : Nat → Int) => decide (ap + np ≤ mp ∧ np ≤ 1000000)) x.1.1 x.1.2.1 x.1.2.2.1.1 x.1.2.2.1.2.1 x.1.2.2.1.2.2.1 x.1.2.2.1.2.2.2.1 x.1.2.2.1.2.2.2.2.1 x.1.2.2.1.2.2.2.2.2.1, fun (x : (Int × Bool × (Nat × Nat × Nat × (Nat → Int) × (Nat → Int) × (Nat → Int) × Unit) × Unit) × Unit) => (fun (ph : Int) (ev : Bool) (ap np mp : Nat) (tp : Nat → Int) (vp : Nat → Int) (gp : Nat → Int) => (V18 ph ev ap np mp tp vp gp) (S.stpS ph ev np (fun q => tp (q + ap)) (fun q => vp (q + ap)) (fun q => gp (q + ap)))) x.1.1 x.1.2.1 x.1.2.2.1.1 x.1.2.2.1.2.1 x.1.2.2.1.2.2.1 x.1.2.2.1.2.2.2.1 x.1.2.2.1.2.2.2.2.1 x.1.2.2.1.2.2.2.2.2.1, fun (x : (Int × Bool × (Nat × Nat × Nat × (Nat → Int) × (Nat → Int) × (Nat → Int) × Unit) × Unit) × Unit) => (fun (ph : Int) (ev : Bool) (ap np mp : Nat) (tp : Nat → Int) (vp : Nat → Int) (gp : Nat → Int) => (N18 ph ev ap np mp tp vp gp) (S.stpS ph ev np (fun q => tp (q + ap)) (fun q => vp (q + ap)) (fun q => gp (q + ap)))) x.1.1 x.1.2.1 x.1.2.2.1.1 x.1.2.2.1.2.1 x.1.2.2.1.2.2.1 x.1.2.2.1.2.2.2.1 x.1.2.2.1.2.2.2.2.1 x.1.2.2.1.2.2.2.2.2.1, fun _ _ => .dead⟩
theorem s18a (ph : Int) (ev : Bool) (ap np mp : Nat) (tp : Nat → Int) (vp : Nat → Int) (gp : Nat → Int) (hp1 : ap + np ≤ mp) (hn : np ≤ 8) (i : Nat) (hi : i < np) (R0 : Rt18) (hR : Comes (q18 ph ev ap np mp tp vp gp) (.h0 ((i : Int) + 1) (S.cho (S.posB ph ev np (fun q => tp (q + ap)) (fun q => vp (q + ap)) (fun q => gp (q + ap))) (10 * (i + 1)))) R0) : ∀ (m k : Nat) (L : List Int), k + m = 9 → Holds (L = (S.cho (S.posB ph ev np (fun q => tp (q + ap)) (fun q => vp (q + ap)) (fun q => gp (q + ap))) (10 * i + k))) → Comes (q18 ph ev ap np mp tp vp gp) (.h1 (i : Int) (k : Int) L) R0 := by
  have hpos : ∀ k, k ≤ 9 → (S.posB ph ev np (fun q => tp (q + ap)) (fun q => vp (q + ap)) (fun q => gp (q + ap))) (10 * i + k) = S.stpB ev (tp (i + ap)) (vp (i + ap)) (gp (i + ap)) k := fun k hk => by
    rw [pos_lt (by omega), show (10 * i + k) / 10 = i by omega, show (10 * i + k) % 10 = k by omega, decide_eq_true hi, Bool.true_and]
  intro m
  induction m with
  | zero =>
    intro k L hk eL
    obtain rfl : k = 9 := by omega
    have h9 : (S.posB ph ev np (fun q => tp (q + ap)) (fun q => vp (q + ap)) (fun q => gp (q + ap))) (10 * i + 9) = false := (hpos 9 (Nat.le_refl 9)).trans (stp_k).2.2.2.2.2.2.2.2.2
    have e : (S.cho (S.posB ph ev np (fun q => tp (q + ap)) (fun q => vp (q + ap)) (fun q => gp (q + ap))) (10 * (i + 1))) = (S.cho (S.posB ph ev np (fun q => tp (q + ap)) (fun q => vp (q + ap)) (fun q => gp (q + ap))) (10 * i + 9)) := by rw [show 10 * (i + 1) = 10 * i + 9 + 1 by omega, cho_no h9]
    rw [e, ← eL.get] at hR
    apply Comes.of
    show Goes _ _ _
    (first | rw [q18] | unfold q18)
    repeat' first
      | with_reducible refine goes_if (fun h => ?_) (fun h => ?_) <;> (try simp only [lim64, decide_eq_true_eq, decide_eq_false_iff_not, Int.toNat_natCast, toNat_pred, toNat_succ, Option.getD_some, Option.getD_none, Bool.not_eq_true', Bool.not_eq_false', Bool.and_eq_true, Bool.or_eq_true, Bool.and_eq_false_iff, Bool.or_eq_false_iff, bne_iff_ne, beq_iff_eq, bne_eq_false_iff_eq, beq_eq_false_iff_ne, ne_eq, not_and, Int.not_le, Int.not_lt, ge_iff_le, gt_iff_lt, Nat.not_lt, Nat.not_le, Bool.not_eq_true, Bool.not_eq_false, Bool.true_eq_false, Bool.false_eq_true, not_false_eq_true, not_true_eq_false] at h)
      | exact goes_none.mpr (by omega)
    all_goals first | (exfalso; omega) | exact hR
  | succ m ih =>
    intro k L hk eL
    have hL : L.length ≤ 10 * i + k := by rw [eL.get]; exact cho_len
    have hpk := hpos k (by omega)
    have e1 : ((10 * i + k : Nat) : Int) = 10 * (i : Int) + (k : Int) := by omega
    by_cases hb : S.stpB ev (tp (i + ap)) (vp (i + ap)) (gp (i + ap)) k = true
    · have ih := ih (k + 1) (S.snoc L (10 * (i : Int) + (k : Int))) (by omega) ⟨by rw [← Nat.add_assoc, cho_yes (hpk.trans hb), eL.get, e1]⟩
      apply Comes.of
      show Goes _ _ _
      (first | rw [q18] | unfold q18)
      repeat' first
        | with_reducible refine goes_if (fun h => ?_) (fun h => ?_) <;> (try simp only [lim64, decide_eq_true_eq, decide_eq_false_iff_not, Int.toNat_natCast, toNat_pred, toNat_succ, Option.getD_some, Option.getD_none, Bool.not_eq_true', Bool.not_eq_false', Bool.and_eq_true, Bool.or_eq_true, Bool.and_eq_false_iff, Bool.or_eq_false_iff, bne_iff_ne, beq_iff_eq, bne_eq_false_iff_eq, beq_eq_false_iff_ne, ne_eq, not_and, Int.not_le, Int.not_lt, ge_iff_le, gt_iff_lt, Nat.not_lt, Nat.not_le, Bool.not_eq_true, Bool.not_eq_false, Bool.true_eq_false, Bool.false_eq_true, not_false_eq_true, not_true_eq_false, hb] at h)
        | exact goes_none.mpr (by omega)
      all_goals first | (exfalso; omega) | exact ih | (exfalso; simp_all; done)
    · rw [Bool.not_eq_true] at hb
      have ih := ih (k + 1) L (by omega) ⟨by rw [← Nat.add_assoc, cho_no (hpk.trans hb), eL.get]⟩
      apply Comes.of
      show Goes _ _ _
      (first | rw [q18] | unfold q18)
      repeat' first
        | with_reducible refine goes_if (fun h => ?_) (fun h => ?_) <;> (try simp only [lim64, decide_eq_true_eq, decide_eq_false_iff_not, Int.toNat_natCast, toNat_pred, toNat_succ, Option.getD_some, Option.getD_none, Bool.not_eq_true', Bool.not_eq_false', Bool.and_eq_true, Bool.or_eq_true, Bool.and_eq_false_iff, Bool.or_eq_false_iff, bne_iff_ne, beq_iff_eq, bne_eq_false_iff_eq, beq_eq_false_iff_ne, ne_eq, not_and, Int.not_le, Int.not_lt, ge_iff_le, gt_iff_lt, Nat.not_lt, Nat.not_le, Bool.not_eq_true, Bool.not_eq_false, Bool.true_eq_false, Bool.false_eq_true, not_false_eq_true, not_true_eq_false, hb] at h)
        | exact goes_none.mpr (by omega)
      all_goals first | (exfalso; omega) | exact ih | (exfalso; simp_all; done)
theorem s18c (ph : Int) (ev : Bool) (ap np mp : Nat) (tp : Nat → Int) (vp : Nat → Int) (gp : Nat → Int) (hp1 : ap + np ≤ mp) (hn : np ≤ 8) : ∀ (k i : Nat) (L : List Int), i + k = np → Holds (L = (S.cho (S.posB ph ev np (fun q => tp (q + ap)) (fun q => vp (q + ap)) (fun q => gp (q + ap))) (82 + i))) → Comes (q18 ph ev ap np mp tp vp gp) (.h2 (i : Int) L) (S.cho (S.posB ph ev np (fun q => tp (q + ap)) (fun q => vp (q + ap)) (fun q => gp (q + ap))) (90)) := by
  intro k
  induction k with
  | zero =>
    intro i L hi eL
    obtain rfl : np = i := by omega
    have e : (S.cho (S.posB ph ev np (fun q => tp (q + ap)) (fun q => vp (q + ap)) (fun q => gp (q + ap))) (90)) = (S.cho (S.posB ph ev np (fun q => tp (q + ap)) (fun q => vp (q + ap)) (fun q => gp (q + ap))) (82 + np)) := by
      have := cho_nos (l := (S.posB ph ev np (fun q => tp (q + ap)) (fun q => vp (q + ap)) (fun q => gp (q + ap)))) (i := 82 + np) (k := 8 - np) (fun j a c => by rw [pos_ge (by omega)]; apply decide_eq_false; omega)
      rw [show 82 + np + (8 - np) = 90 by omega] at this
      exact this
    rw [e]
    apply Comes.of
    show Goes _ _ _
    (first | rw [q18] | unfold q18)
    repeat' first
      | with_reducible refine goes_if (fun h => ?_) (fun h => ?_) <;> (try simp only [lim64, decide_eq_true_eq, decide_eq_false_iff_not, Int.toNat_natCast, toNat_pred, toNat_succ, Option.getD_some, Option.getD_none, Bool.not_eq_true', Bool.not_eq_false', Bool.and_eq_true, Bool.or_eq_true, Bool.and_eq_false_iff, Bool.or_eq_false_iff, bne_iff_ne, beq_iff_eq, bne_eq_false_iff_eq, beq_eq_false_iff_ne, ne_eq, not_and, Int.not_le, Int.not_lt, ge_iff_le, gt_iff_lt, Nat.not_lt, Nat.not_le, Bool.not_eq_true, Bool.not_eq_false, Bool.true_eq_false, Bool.false_eq_true, not_false_eq_true, not_true_eq_false] at h)
      | exact goes_none.mpr (by omega)
    all_goals first | (exfalso; omega) | exact goes_inr.mpr eL.get
  | succ k ih =>
    intro i L hi eL
    have hL : L.length ≤ 82 + i := by rw [eL.get]; exact cho_len
    have hpk : (S.posB ph ev np (fun q => tp (q + ap)) (fun q => vp (q + ap)) (fun q => gp (q + ap))) (82 + i) = decide (i < np ∧ vp (i + ap) = 0 ∧ ((ph = 0 ∧ gp (i + ap) ≤ 1) ∨ (ph = 1 ∧ gp (i + ap) ≠ 4) ∨ ph = 2)) := by
      rw [pos_ge (by omega), show 82 + i - 82 = i by omega]
    have e1 : ((82 + i : Nat) : Int) = 82 + (i : Int) := by omega
    by_cases hb : i < np ∧ vp (i + ap) = 0 ∧ ((ph = 0 ∧ gp (i + ap) ≤ 1) ∨ (ph = 1 ∧ gp (i + ap) ≠ 4) ∨ ph = 2)
    · have ih := ih (i + 1) (S.snoc L (82 + (i : Int))) (by omega) ⟨by rw [← Nat.add_assoc, cho_yes (hpk.trans (decide_eq_true hb)), eL.get, e1]⟩
      apply Comes.of
      show Goes _ _ _
      (first | rw [q18] | unfold q18)
      repeat' first
        | with_reducible refine goes_if (fun h => ?_) (fun h => ?_) <;> (try simp only [lim64, decide_eq_true_eq, decide_eq_false_iff_not, Int.toNat_natCast, toNat_pred, toNat_succ, Option.getD_some, Option.getD_none, Bool.not_eq_true', Bool.not_eq_false', Bool.and_eq_true, Bool.or_eq_true, Bool.and_eq_false_iff, Bool.or_eq_false_iff, bne_iff_ne, beq_iff_eq, bne_eq_false_iff_eq, beq_eq_false_iff_ne, ne_eq, not_and, Int.not_le, Int.not_lt, ge_iff_le, gt_iff_lt, Nat.not_lt, Nat.not_le, Bool.not_eq_true, Bool.not_eq_false, Bool.true_eq_false, Bool.false_eq_true, not_false_eq_true, not_true_eq_false] at h)
        | exact goes_none.mpr (by omega)
      all_goals first | (exfalso; omega) | exact ih
    · have ih := ih (i + 1) L (by omega) ⟨by rw [← Nat.add_assoc, cho_no (hpk.trans (decide_eq_false hb)), eL.get]⟩
      apply Comes.of
      show Goes _ _ _
      (first | rw [q18] | unfold q18)
      repeat' first
        | with_reducible refine goes_if (fun h => ?_) (fun h => ?_) <;> (try simp only [lim64, decide_eq_true_eq, decide_eq_false_iff_not, Int.toNat_natCast, toNat_pred, toNat_succ, Option.getD_some, Option.getD_none, Bool.not_eq_true', Bool.not_eq_false', Bool.and_eq_true, Bool.or_eq_true, Bool.and_eq_false_iff, Bool.or_eq_false_iff, bne_iff_ne, beq_iff_eq, bne_eq_false_iff_eq, beq_eq_false_iff_ne, ne_eq, not_and, Int.not_le, Int.not_lt, ge_iff_le, gt_iff_lt, Nat.not_lt, Nat.not_le, Bool.not_eq_true, Bool.not_eq_false, Bool.true_eq_false, Bool.false_eq_true, not_false_eq_true, not_true_eq_false] at h)
        | exact goes_none.mpr (by omega)
      all_goals first | (exfalso; omega) | exact ih
theorem s18b (ph : Int) (ev : Bool) (ap np mp : Nat) (tp : Nat → Int) (vp : Nat → Int) (gp : Nat → Int) (hp1 : ap + np ≤ mp) (hp2 : np ≤ 1000000) (hn : np ≤ 8) : ∀ (k i : Nat) (L : List Int), i + k = np → Holds (L = (S.cho (S.posB ph ev np (fun q => tp (q + ap)) (fun q => vp (q + ap)) (fun q => gp (q + ap))) (10 * i))) → Comes (q18 ph ev ap np mp tp vp gp) (.h0 (i : Int) L) (S.cho (S.posB ph ev np (fun q => tp (q + ap)) (fun q => vp (q + ap)) (fun q => gp (q + ap))) (90)) := by
  intro k
  induction k with
  | zero =>
    intro i L hi eL
    obtain rfl : np = i := by omega
    have hL : L.length ≤ 10 * np := by rw [eL.get]; exact cho_len
    have e : (S.cho (S.posB ph ev np (fun q => tp (q + ap)) (fun q => vp (q + ap)) (fun q => gp (q + ap))) (80)) = L := by
      have := cho_nos (l := (S.posB ph ev np (fun q => tp (q + ap)) (fun q => vp (q + ap)) (fun q => gp (q + ap)))) (i := 10 * np) (k := 80 - 10 * np) (fun j a c => by rw [pos_lt (by omega), decide_eq_false (by omega), Bool.false_and])
      rw [show 10 * np + (80 - 10 * np) = 80 by omega] at this
      rw [this, eL.get]
    have p80 : (S.posB ph ev np (fun q => tp (q + ap)) (fun q => vp (q + ap)) (fun q => gp (q + ap))) 80 = decide (ph = 0) := pos_80
    have p81 : (S.posB ph ev np (fun q => tp (q + ap)) (fun q => vp (q + ap)) (fun q => gp (q + ap))) 81 = decide (ph = 3) := pos_81
    have hc := s18c ph ev ap np mp tp vp gp hp1 hn np 0 (S.cho (S.posB ph ev np (fun q => tp (q + ap)) (fun q => vp (q + ap)) (fun q => gp (q + ap))) (82)) (Nat.zero_add _) ⟨rfl⟩
    by_cases h0 : ph = 0
    · have e82 : (S.cho (S.posB ph ev np (fun q => tp (q + ap)) (fun q => vp (q + ap)) (fun q => gp (q + ap))) (82)) = S.snoc L 80 := by
        rw [show (82 : Nat) = 81 + 1 from rfl, cho_no (p81.trans (decide_eq_false (by omega))), show (81 : Nat) = 80 + 1 from rfl, cho_yes (p80.trans (decide_eq_true h0)), e]; rfl
      rw [e82] at hc
      apply Comes.of
      show Goes _ _ _
      (first | rw [q18] | unfold q18)
      repeat' first
        | with_reducible refine goes_if (fun h => ?_) (fun h => ?_) <;> (try simp only [lim64, decide_eq_true_eq, decide_eq_false_iff_not, Int.toNat_natCast, toNat_pred, toNat_succ, Option.getD_some, Option.getD_none, Bool.not_eq_true', Bool.not_eq_false', Bool.and_eq_true, Bool.or_eq_true, Bool.and_eq_false_iff, Bool.or_eq_false_iff, bne_iff_ne, beq_iff_eq, bne_eq_false_iff_eq, beq_eq_false_iff_ne, ne_eq, not_and, Int.not_le, Int.not_lt, ge_iff_le, gt_iff_lt, Nat.not_lt, Nat.not_le, Bool.not_eq_true, Bool.not_eq_false, Bool.true_eq_false, Bool.false_eq_true, not_false_eq_true, not_true_eq_false] at h)
        | exact goes_none.mpr (by omega)
      all_goals first | (exfalso; omega) | exact hc
    · by_cases h3 : ph = 3
      · have e82 : (S.cho (S.posB ph ev np (fun q => tp (q + ap)) (fun q => vp (q + ap)) (fun q => gp (q + ap))) (82)) = S.snoc L 81 := by
          rw [show (82 : Nat) = 81 + 1 from rfl, cho_yes (p81.trans (decide_eq_true h3)), show (81 : Nat) = 80 + 1 from rfl, cho_no (p80.trans (decide_eq_false h0)), e]; rfl
        rw [e82] at hc
        apply Comes.of
        show Goes _ _ _
        (first | rw [q18] | unfold q18)
        repeat' first
          | with_reducible refine goes_if (fun h => ?_) (fun h => ?_) <;> (try simp only [lim64, decide_eq_true_eq, decide_eq_false_iff_not, Int.toNat_natCast, toNat_pred, toNat_succ, Option.getD_some, Option.getD_none, Bool.not_eq_true', Bool.not_eq_false', Bool.and_eq_true, Bool.or_eq_true, Bool.and_eq_false_iff, Bool.or_eq_false_iff, bne_iff_ne, beq_iff_eq, bne_eq_false_iff_eq, beq_eq_false_iff_ne, ne_eq, not_and, Int.not_le, Int.not_lt, ge_iff_le, gt_iff_lt, Nat.not_lt, Nat.not_le, Bool.not_eq_true, Bool.not_eq_false, Bool.true_eq_false, Bool.false_eq_true, not_false_eq_true, not_true_eq_false] at h)
          | exact goes_none.mpr (by omega)
        all_goals first | (exfalso; omega) | exact hc
      · have e82 : (S.cho (S.posB ph ev np (fun q => tp (q + ap)) (fun q => vp (q + ap)) (fun q => gp (q + ap))) (82)) = L := by
          rw [show (82 : Nat) = 81 + 1 from rfl, cho_no (p81.trans (decide_eq_false h3)), show (81 : Nat) = 80 + 1 from rfl, cho_no (p80.trans (decide_eq_false h0)), e]
        rw [e82] at hc
        apply Comes.of
        show Goes _ _ _
        (first | rw [q18] | unfold q18)
        repeat' first
          | with_reducible refine goes_if (fun h => ?_) (fun h => ?_) <;> (try simp only [lim64, decide_eq_true_eq, decide_eq_false_iff_not, Int.toNat_natCast, toNat_pred, toNat_succ, Option.getD_some, Option.getD_none, Bool.not_eq_true', Bool.not_eq_false', Bool.and_eq_true, Bool.or_eq_true, Bool.and_eq_false_iff, Bool.or_eq_false_iff, bne_iff_ne, beq_iff_eq, bne_eq_false_iff_eq, beq_eq_false_iff_ne, ne_eq, not_and, Int.not_le, Int.not_lt, ge_iff_le, gt_iff_lt, Nat.not_lt, Nat.not_le, Bool.not_eq_true, Bool.not_eq_false, Bool.true_eq_false, Bool.false_eq_true, not_false_eq_true, not_true_eq_false] at h)
          | exact goes_none.mpr (by omega)
        all_goals first | (exfalso; omega) | exact hc
  | succ k ih =>
    intro i L hi eL
    have ih := ih (i + 1) (S.cho (S.posB ph ev np (fun q => tp (q + ap)) (fun q => vp (q + ap)) (fun q => gp (q + ap))) (10 * (i + 1))) (by omega) ⟨rfl⟩
    have hc := s18a ph ev ap np mp tp vp gp hp1 hn i (by omega) _ ih 9 0 L (by omega) eL
    apply Comes.of
    show Goes _ _ _
    (first | rw [q18] | unfold q18)
    repeat' first
      | with_reducible refine goes_if (fun h => ?_) (fun h => ?_) <;> (try simp only [lim64, decide_eq_true_eq, decide_eq_false_iff_not, Int.toNat_natCast, toNat_pred, toNat_succ, Option.getD_some, Option.getD_none, Bool.not_eq_true', Bool.not_eq_false', Bool.and_eq_true, Bool.or_eq_true, Bool.and_eq_false_iff, Bool.or_eq_false_iff, bne_iff_ne, beq_iff_eq, bne_eq_false_iff_eq, beq_eq_false_iff_ne, ne_eq, not_and, Int.not_le, Int.not_lt, ge_iff_le, gt_iff_lt, Nat.not_lt, Nat.not_le, Bool.not_eq_true, Bool.not_eq_false, Bool.true_eq_false, Bool.false_eq_true, not_false_eq_true, not_true_eq_false] at h)
      | exact goes_none.mpr (by omega)
    all_goals first | (exfalso; omega) | exact hc
theorem s18 (ph : Int) (ev : Bool) (ap np mp : Nat) (tp : Nat → Int) (vp : Nat → Int) (gp : Nat → Int) (hp : ap + np ≤ mp ∧ np ≤ 1000000) : Goes ((q18 ph ev ap np mp tp vp gp)) ((p18 ph ev ap np mp tp vp gp)) (S.stpS ph ev np (fun q => tp (q + ap)) (fun q => vp (q + ap)) (fun q => gp (q + ap))) := by
  unfold S.stpS
  by_cases h0 : S.traE ph ev np (fun q => tp (q + ap)) (fun q => vp (q + ap)) (fun q => gp (q + ap)) = 0
  · rw [if_pos h0]
    obtain ⟨⟨v1, v2⟩, v3, v4, v5⟩ := tra_ok h0
    have hm := s18b ph ev ap np mp tp vp gp hp.1 hp.2 v2 np 0 [] (Nat.zero_add _) ⟨rfl⟩
    show Goes _ _ _
    unfold p18
    repeat' first
      | with_reducible refine goes_if (fun h => ?_) (fun h => ?_) <;> (try simp only [lim64, decide_eq_true_eq, decide_eq_false_iff_not, Int.toNat_natCast, toNat_pred, toNat_succ, Option.getD_some, Option.getD_none, Bool.not_eq_true', Bool.not_eq_false', Bool.and_eq_true, Bool.or_eq_true, Bool.and_eq_false_iff, Bool.or_eq_false_iff, bne_iff_ne, beq_iff_eq, bne_eq_false_iff_eq, beq_eq_false_iff_ne, ne_eq, not_and, Int.not_le, Int.not_lt, ge_iff_le, gt_iff_lt, Nat.not_lt, Nat.not_le, Bool.not_eq_true, Bool.not_eq_false, Bool.true_eq_false, Bool.false_eq_true, not_false_eq_true, not_true_eq_false] at h)
      | exact goes_none.mpr (by omega)
    all_goals first | (exfalso; omega) | exact hm
  · rw [if_neg h0]
    show Goes _ _ _
    unfold p18
    repeat' first
      | with_reducible refine goes_if (fun h => ?_) (fun h => ?_) <;> (try simp only [lim64, decide_eq_true_eq, decide_eq_false_iff_not, Int.toNat_natCast, toNat_pred, toNat_succ, Option.getD_some, Option.getD_none, Bool.not_eq_true', Bool.not_eq_false', Bool.and_eq_true, Bool.or_eq_true, Bool.and_eq_false_iff, Bool.or_eq_false_iff, bne_iff_ne, beq_iff_eq, bne_eq_false_iff_eq, beq_eq_false_iff_ne, ne_eq, not_and, Int.not_le, Int.not_lt, ge_iff_le, gt_iff_lt, Nat.not_lt, Nat.not_le, Bool.not_eq_true, Bool.not_eq_false, Bool.true_eq_false, Bool.false_eq_true, not_false_eq_true, not_true_eq_false] at h)
      | exact goes_none.mpr (by omega)
    all_goals first | (exfalso; omega) | rfl

theorem k18_ok : k18.ok Try.prog := by
  intro x hx
  obtain ⟨⟨ph, ev, ⟨ap, np, mp, tp, vp, gp, _⟩, _⟩, _⟩ := x
  obtain ⟨h1, h2⟩ := a18 ph ev ap np mp tp vp gp (s18 ph ev ap np mp tp vp gp (of_dec hx rfl))
  exact ⟨⟨400, (by decide : 1 + 1 + 1 ≤ 400), h1⟩, h2⟩

end Go.Ev
