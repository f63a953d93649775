/-
  Numbers.
-/
import Derived.Test.YtjkdcbkgfjdoeaaN0
namespace Go.Ev
open Go.Proofs
set_option linter.unusedVariables false
set_option linter.unusedSimpArgs false
set_option maxRecDepth 100000
noncomputable def xM (test : Bool → Prop → Prop → Prop) : Ext := consX test [k13, k15]
theorem xM_ok : ExtOk Try.prog (xM cond) := consX_ok ⟨k13_ok, k15_ok, trivial⟩
inductive St54 where
  | h0 (x0 : Int) (x1 : Int)
abbrev Rt54 := Int
noncomputable def V54 (ph : Int) (ev : Bool) (ap np mp : Nat) (tp : Nat → Int) (vp : Nat → Int) (gp : Nat → Int) (r : Rt54) : PV := PV.int IntKind.i64 r
noncomputable def N54 (ph : Int) (ev : Bool) (ap np mp : Nat) (tp : Nat → Int) (vp : Nat → Int) (gp : Nat → Int) (r : Rt54) : List Blk := []
noncomputable def I54 (ph : Int) (ev : Bool) (ap np mp : Nat) (tp : Nat → Int) (vp : Nat → Int) (gp : Nat → Int) : St54 → Hd
  | .h0 x0 x1 => ⟨hd Try.f54 0, [PV.ptr (PA.mk (1) (0) (0) (0)), PV.int IntKind.i64 x0,
 PV.int IntKind.i64 x1], [[(1, (true, Blk.cells
 [PV.int IntKind.i64 ph, PV.bool ev,
 PV.loose (PA.mk (0) (3) ap (0)) np]))], [(0, (false, .cols mp [.int .i64 tp, .int .i64 vp, .int .i64 gp]))]], 2⟩
noncomputable def q54 (ph : Int) (ev : Bool) (ap np mp : Nat) (tp : Nat → Int) (vp : Nat → Int) (gp : Nat → Int) : St54 → Option (St54 ⊕ Rt54)
  | .h0 x0 x1 => bif (decide (x1 ≥ (0 : Int)))
 then (bif (decide ((0 : Int) ≤ x1 ∧ x1 < (↑np : Int)))
 then (bif (decide (Int.toNat x1 + ap < mp))
 then (bif (lim IntKind.i64 (x0 * (160 : Int)))
 then (bif (lim IntKind.i64 (x0 * (160 : Int) + tp (Int.toNat x1 + ap)))
 then (bif (lim IntKind.i64 ((8 : Int) * vp (Int.toNat x1 + ap)))
 then (bif (lim IntKind.i64 (x0 * (160 : Int) + tp (Int.toNat x1 + ap) + (8 : Int) * vp (Int.toNat x1 + ap)))
 then (bif (lim IntKind.i64 ((32 : Int) * gp (Int.toNat x1 + ap)))
 then (bif (lim IntKind.i64
 (x0 * (160 : Int) + tp (Int.toNat x1 + ap) + (8 : Int) * vp (Int.toNat x1 + ap) + (32 : Int) * gp (Int.toNat x1 + ap)))
 then (bif (lim IntKind.i64 (x1 - (1 : Int)))
 then (some (.inl (.h0 (x0 * (160 : Int) + tp (Int.toNat x1 + ap) + (8 : Int) * vp (Int.toNat x1 + ap) + (32 : Int) * gp (Int.toNat x1 + ap)) (x1 - (1 : Int)))))
 else (none))
 else (none))
 else (none))
 else (none))
 else (none))
 else (none))
 else (none))
 else (none))
 else (none))
 else (bif (lim IntKind.i64 (x0 * (5 : Int)))
 then (bif (lim IntKind.i64 (x0 * (5 : Int) + ph))
 then (some (.inr (x0 * (5 : Int) + ph)))
 else (none))
 else (none))
noncomputable def p54 (ph : Int) (ev : Bool) (ap np mp : Nat) (tp : Nat → Int) (vp : Nat → Int) (gp : Nat → Int) : Option (St54 ⊕ Rt54) := bif (lim IntKind.i64 ((↑np : Int) - (1 : Int)))
 then (some (.inl (.h0 ((0 : Int)) ((↑np : Int) - (1 : Int)))))
 else (none)
noncomputable def Te54 (test : Bool → Prop → Prop → Prop) (Kst : KS) (Kret : KR) (ph : Int) (ev : Bool) (ap np mp : Nat) (tp : Nat → Int) (vp : Nat → Int) (gp : Nat → Int) : Prop :=
  test (lim IntKind.i64 ((↑np : Int) - (1 : Int)))
 (Kst (hd Try.f54 0) ([PV.ptr (PA.mk (1) (0) (0) (0)), PV.int IntKind.i64 (0 : Int),
 PV.int IntKind.i64 ((↑np : Int) - (1 : Int))]) ([[(0, false,
 Blk.cols mp
 [Col.int IntKind.i64 tp, Col.int IntKind.i64 vp, Col.int IntKind.i64 gp]),
 (1, true,
 Blk.cells
 [PV.int IntKind.i64 ph, PV.bool ev,
 PV.loose (PA.mk (0) (3) ap (0)) np])]]) (2))
 (False)
set_option maxRecDepth 100000 in
theorem te54 (test : Bool → Prop → Prop → Prop) (Kst : KS) (Kret : KR) (ph : Int) (ev : Bool) (ap np mp : Nat) (tp : Nat → Int) (vp : Nat → Int) (gp : Nat → Int) : run test Try.env true noX true 400 ⟨54, [.cd (mkFn Try.f54).body], argT 0 [.agg [.int .i64 ph, .bool ev, .loose ⟨0, 3, ap, 0⟩ np]], [[], [(0, (false, .cols mp [.int .i64 tp, .int .i64 vp, .int .i64 gp]))]], 1⟩ (proj 1 [1, 3, 4] Kst Kret) =
  Te54 test Kst Kret ph ev ap np mp tp vp gp := by kernel_rfl
noncomputable def T54_0 (test : Bool → Prop → Prop → Prop) (Kst : KS) (Kret : KR) (ph : Int) (ev : Bool) (ap np mp : Nat) (tp : Nat → Int) (vp : Nat → Int) (gp : Nat → Int) (x0 : Int) (x1 : Int) : Prop :=
  test (decide (x1 ≥ (0 : Int)))
 (test (decide ((0 : Int) ≤ x1 ∧ x1 < (↑np : Int)))
 (test (decide (Int.toNat x1 + ap < mp))
 (test (decide (Int.toNat x1 + ap < mp))
 (test (decide (Int.toNat x1 + ap < mp))
 (test (lim IntKind.i64 (x0 * (160 : Int)))
 (test (lim IntKind.i64 (x0 * (160 : Int) + tp (Int.toNat x1 + ap)))
 (test (lim IntKind.i64 ((8 : Int) * vp (Int.toNat x1 + ap)))
 (test (lim IntKind.i64 (x0 * (160 : Int) + tp (Int.toNat x1 + ap) + (8 : Int) * vp (Int.toNat x1 + ap)))
 (test (lim IntKind.i64 ((32 : Int) * gp (Int.toNat x1 + ap)))
 (test (lim IntKind.i64
 (x0 * (160 : Int) + tp (Int.toNat x1 + ap) + (8 : Int) * vp (Int.toNat x1 + ap) + (32 : Int) * gp (Int.toNat x1 + ap)))
 (test (lim IntKind.i64 (x1 - (1 : Int)))
 (Kst (hd Try.f54 0) ([PV.ptr (PA.mk (1) (0) (0) (0)),
 PV.int IntKind.i64
 (x0 * (160 : Int) + tp (Int.toNat x1 + ap) + (8 : Int) * vp (Int.toNat x1 + ap) +
 (32 : Int) * gp (Int.toNat x1 + ap)),
 PV.int IntKind.i64 (x1 - (1 : Int))]) ([[(0, false,
 Blk.cols mp
 [Col.int IntKind.i64 tp, Col.int IntKind.i64 vp, Col.int IntKind.i64 gp]),
 (1, true,
 Blk.cells
 [PV.int IntKind.i64 ph, PV.bool ev,
 PV.loose (PA.mk (0) (3) ap (0)) np])]]) (3))
 (False))
 (False))
 (False))
 (False))
 (False))
 (False))
 (False))
 (False))
 (False))
 (False))
 (False))
 (test (lim IntKind.i64 (x0 * (5 : Int)))
 (test (lim IntKind.i64 (x0 * (5 : Int) + ph))
 (Kret (PV.int IntKind.i64 (x0 * (5 : Int) + ph)) ([[(0, false,
 Blk.cols mp
 [Col.int IntKind.i64 tp, Col.int IntKind.i64 vp, Col.int IntKind.i64 gp])]]) (2))
 (False))
 (False))
set_option maxRecDepth 100000 in
theorem t54_0 (test : Bool → Prop → Prop → Prop) (Kst : KS) (Kret : KR) (ph : Int) (ev : Bool) (ap np mp : Nat) (tp : Nat → Int) (vp : Nat → Int) (gp : Nat → Int) (x0 : Int) (x1 : Int) : run test Try.env true noX true 400 ⟨54, hd Try.f54 0, zipT [1, 3, 4] [PV.ptr (PA.mk (1) (0) (0) (0)), PV.int IntKind.i64 x0,
 PV.int IntKind.i64 x1], [[(1, (true, Blk.cells
 [PV.int IntKind.i64 ph, PV.bool ev,
 PV.loose (PA.mk (0) (3) ap (0)) np]))], [(0, (false, .cols mp [.int .i64 tp, .int .i64 vp, .int .i64 gp]))]], 2⟩ (proj 1 [1, 3, 4] Kst Kret) =
  T54_0 test Kst Kret ph ev ap np mp tp vp gp x0 x1 := by kernel_rfl
set_option maxRecDepth 100000 in
theorem be54 (ph : Int) (ev : Bool) (ap np mp : Nat) (tp : Nat → Int) (vp : Nat → Int) (gp : Nat → Int) (Kst : KS) (Kret : KR) (x : St54 ⊕ Rt54) (hS : HS 1 400 ((I54 ph ev ap np mp tp vp gp)) Kst x) (hR : HR 1 400 ((V54 ph ev ap np mp tp vp gp)) (fun r => [newL (1 + 1) ((N54 ph ev ap np mp tp vp gp) r) ++ [(0, (false, .cols mp [.int .i64 tp, .int .i64 vp, .int .i64 gp]))]]) Kret x) (h : (bif (lim IntKind.i64 ((↑np : Int) - (1 : Int)))
 then (some (.inl (.h0 ((0 : Int)) ((↑np : Int) - (1 : Int)))))
 else (none) : Option (St54 ⊕ Rt54)) = some x) : Te54 cond Kst Kret ph ev ap np mp tp vp gp := by
  unfold Te54
  exact bif_split h
   (fun c0 h => stop_at hS _ h (fun n => bif Nat.beq n 1 then 1 else n) rfl rfl rfl ⟨(rn_ptr (use_own rfl) rfl rfl), ⟨(rn_int rfl), ⟨(rn_int rfl), trivial⟩⟩⟩ rfl (entl_b (use_own rfl) rfl (by simp) (rb_cells ⟨(rn_int rfl), (rn_bool rfl), (rn_loose (use_lo rfl) rfl rfl rfl), trivial⟩) (entl_bor (use_lo rfl) rfl rfl entl_nil)))
   (fun c0 h => no_some h)
set_option maxRecDepth 100000 in
theorem b54_0 (ph : Int) (ev : Bool) (ap np mp : Nat) (tp : Nat → Int) (vp : Nat → Int) (gp : Nat → Int) (Kst : KS) (Kret : KR) (x : St54 ⊕ Rt54) (hS : HS 1 400 ((I54 ph ev ap np mp tp vp gp)) Kst x) (hR : HR 1 400 ((V54 ph ev ap np mp tp vp gp)) (fun r => [newL (1 + 1) ((N54 ph ev ap np mp tp vp gp) r) ++ [(0, (false, .cols mp [.int .i64 tp, .int .i64 vp, .int .i64 gp]))]]) Kret x) (x0 : Int) (x1 : Int) (h : (bif (decide (x1 ≥ (0 : Int)))
 then (bif (decide ((0 : Int) ≤ x1 ∧ x1 < (↑np : Int)))
 then (bif (decide (Int.toNat x1 + ap < mp))
 then (bif (lim IntKind.i64 (x0 * (160 : Int)))
 then (bif (lim IntKind.i64 (x0 * (160 : Int) + tp (Int.toNat x1 + ap)))
 then (bif (lim IntKind.i64 ((8 : Int) * vp (Int.toNat x1 + ap)))
 then (bif (lim IntKind.i64 (x0 * (160 : Int) + tp (Int.toNat x1 + ap) + (8 : Int) * vp (Int.toNat x1 + ap)))
 then (bif (lim IntKind.i64 ((32 : Int) * gp (Int.toNat x1 + ap)))
 then (bif (lim IntKind.i64
 (x0 * (160 : Int) + tp (Int.toNat x1 + ap) + (8 : Int) * vp (Int.toNat x1 + ap) + (32 : Int) * gp (Int.toNat x1 + ap)))
 then (bif (lim IntKind.i64 (x1 - (1 : Int)))
 then (some (.inl (.h0 (x0 * (160 : Int) + tp (Int.toNat x1 + ap) + (8 : Int) * vp (Int.toNat x1 + ap) + (32 : Int) * gp (Int.toNat x1 + ap)) (x1 - (1 : Int)))))
 else (none))
 else (none))
 else (none))
 else (none))
 else (none))
 else (none))
 else (none))
 else (none))
 else (none))
 else (bif (lim IntKind.i64 (x0 * (5 : Int)))
 then (bif (lim IntKind.i64 (x0 * (5 : Int) + ph))
 then (some (.inr (x0 * (5 : Int) + ph)))
 else (none))
 else (none)) : Option (St54 ⊕ Rt54)) = some x) : T54_0 cond Kst Kret ph ev ap np mp tp vp gp x0 x1 := by
  unfold T54_0
  exact bif_split h
   (fun c0 h => bif_split h
   (fun c1 h => bif_split h
   (fun c2 h => cond_yes c2 (cond_yes c2 (bif_split h
   (fun c3 h => bif_split h
   (fun c4 h => bif_split h
   (fun c5 h => bif_split h
   (fun c6 h => bif_split h
   (fun c7 h => bif_split h
   (fun c8 h => bif_split h
   (fun c9 h => stop_at hS _ h (fun n => bif Nat.beq n 1 then 1 else n) rfl rfl rfl ⟨(rn_ptr (use_own rfl) rfl rfl), ⟨(rn_int rfl), ⟨(rn_int rfl), trivial⟩⟩⟩ rfl (entl_b (use_own rfl) rfl (by simp) (rb_cells ⟨(rn_int rfl), (rn_bool rfl), (rn_loose (use_lo rfl) rfl rfl rfl), trivial⟩) (entl_bor (use_lo rfl) rfl rfl entl_nil)))
   (fun c9 h => no_some h))
   (fun c8 h => no_some h))
   (fun c7 h => no_some h))
   (fun c6 h => no_some h))
   (fun c5 h => no_some h))
   (fun c4 h => no_some h))
   (fun c3 h => no_some h))))
   (fun c2 h => no_some h))
   (fun c1 h => no_some h))
   (fun c0 h => bif_split h
   (fun c1 h => bif_split h
   (fun c2 h => ret_at hR _ h (fun n => n) rfl rfl rfl (rn_int rfl) rfl (entl_bor (use_lo rfl) rfl rfl entl_nil))
   (fun c2 h => no_some h))
   (fun c1 h => no_some h))
theorem a54 (ph : Int) (ev : Bool) (ap np mp : Nat) (tp : Nat → Int) (vp : Nat → Int) (gp : Nat → Int) {r : Rt54} (h : Goes ((q54 ph ev ap np mp tp vp gp)) ((p54 ph ev ap np mp tp vp gp)) r) : CallR Try.prog 54 [.agg [.int .i64 ph, .bool ev, .loose ⟨0, 3, ap, 0⟩ np]] [[(0, (false, .cols mp [.int .i64 tp, .int .i64 vp, .int .i64 gp]))]] 1 ((V54 ph ev ap np mp tp vp gp) r) ((fun r => [newL (1 + 1) ((N54 ph ev ap np mp tp vp gp) r) ++ [(0, (false, .cols mp [.int .i64 tp, .int .i64 vp, .int .i64 gp]))]]) r) 400 ∧ ∃ F, Try.prog.funcs[54]? = some F ∧ F.body.isSome = true ∧ (F.name == "runtime.NumGoroutine") = false := by
  refine dec_calls (f := 54) (lo := 1) (hi := 400) (H := [[(0, (false, .cols mp [.int .i64 tp, .int .i64 vp, .int .i64 gp]))]]) (args := [.agg [.int .i64 ph, .bool ev, .loose ⟨0, 3, ap, 0⟩ np]]) Try.envOk Try.mixed noX_ok ((I54 ph ev ap np mp tp vp gp)) ((V54 ph ev ap np mp tp vp gp)) (fun r => [newL (1 + 1) ((N54 ph ev ap np mp tp vp gp) r) ++ [(0, (false, .cols mp [.int .i64 tp, .int .i64 vp, .int .i64 gp]))]]) (fn := mkFn Try.f54) (ts := [1, 3, 4]) (n := 400) rfl (by decide) (by simp) (names_of rfl) ?_ ?_ ?_ h
  · intro s; cases s <;> exact ⟨hd_ok _ _, by simp [I54], names_of rfl, Nat.le_of_ble_eq_true rfl⟩
  · intro Kst Kret x hS hR h
    exact Holds.eq (te54 cond Kst Kret ph ev ap np mp tp vp gp) (be54 ph ev ap np mp tp vp gp Kst Kret x hS hR h)
  · intro Kst Kret x hS hR s h
    cases s with
    | h0 x0 x1 => exact Holds.eq (t54_0 cond Kst Kret ph ev ap np mp tp vp gp x0 x1) (b54_0 ph ev ap np mp tp vp gp Kst Kret x hS hR x0 x1 h)
noncomputable def k54 : Con := ⟨54, [.agg [.plain (.int .i64), .plain (.bool), .list [.int .i64, .int .i64, .int .i64]]], fun (x : (Int × Bool × (Nat × Nat × Nat × (Nat → Int) × (Nat → Int) × (Nat → Int) × Unit) × Unit) × Unit) => (fun (ph : Int) (ev : Bool) (ap np mp : Nat) (tp : Nat → Int) (vp : Nat → Int) (gp : Nat → Int) => decide (ap + np ≤ mp ∧ np ≤ 1000000 ∧ S.traE ph ev np (fun q => tp (q + ap)) (fun q => vp (q + ap)) (fun q => gp (q + ap)) = 0)) x.1.1 x.1.2.1 x.1.2.2.1.1 x.1.2.2.1.2.1 x.1.2.2.1.2.2.1 x.1.2.2.1.2.2.2.1 x.1.2.2.1.2.2.2.2.1 x.1.2.2.1.2.2.2.2.2.1, fun (x : (Int × Bool × (Nat × Nat × Nat × (Nat → Int) × (Nat → Int) × (Nat → Int) × Unit) × Unit) × Unit) => (fun (ph : Int) (ev : Bool) (ap np mp : Nat) (tp : Nat → Int) (vp : Nat → Int) (gp : Nat → Int) => (V54 ph ev ap np mp tp vp gp) (S.numV ph np (fun q => tp (q + ap)) (fun q => vp (q + ap)) (fun q => gp (q + ap)))) x.1.1 x.1.2.1 x.1.2.2.1.1 x.1.2.2.1.2.1 x.1.2.2.1.2.2.1 x.1.2.2.1.2.2.2.1 x.1.2.2.1.2.2.2.2.1 x.1.2.2.1.2.2.2.2.2.1, fun (x : (Int × Bool × (Nat × Nat × Nat × (Nat → Int) × (Nat → Int) × (Nat → Int) × Unit) × Unit) × Unit) => (fun (ph : Int) (ev : Bool) (ap np mp : Nat) (tp : Nat → Int) (vp : Nat → Int) (gp : Nat → Int) => (N54 ph ev ap np mp tp vp gp) (S.numV ph np (fun q => tp (q + ap)) (fun q => vp (q + ap)) (fun q => gp (q + ap)))) x.1.1 x.1.2.1 x.1.2.2.1.1 x.1.2.2.1.2.1 x.1.2.2.1.2.2.1 x.1.2.2.1.2.2.2.1 x.1.2.2.1.2.2.2.2.1 x.1.2.2.1.2.2.2.2.2.1, fun _ _ => .dead⟩
theorem s54' (ph : Int) (ev : Bool) (ap np mp : Nat) (tp : Nat → Int) (vp : Nat → Int) (gp : Nat → Int) (hp1 : ap + np ≤ mp) (h0 : S.traE ph ev np (fun q => tp (q + ap)) (fun q => vp (q + ap)) (fun q => gp (q + ap)) = 0) : ∀ (i : Nat) (y : Int), i ≤ np → Holds (y = S.hor (fun q => S.dig (tp (q + ap)) (vp (q + ap)) (gp (q + ap))) i (np - i)) → Comes (q54 ph ev ap np mp tp vp gp) (.h0 y ((i : Int) - 1)) (S.numV ph np (fun q => tp (q + ap)) (fun q => vp (q + ap)) (fun q => gp (q + ap))) := by
  obtain ⟨⟨v1, v2⟩, v3, v4, v5⟩ := tra_ok h0
  have hd : ∀ j, j < np → 0 ≤ S.dig (tp (j + ap)) (vp (j + ap)) (gp (j + ap)) ∧ S.dig (tp (j + ap)) (vp (j + ap)) (gp (j + ap)) < 160 := fun j hj => (dig_b (v5 j hj).1 (v5 j hj).2.1 (v5 j hj).2.2).1
  intro i
  induction i with
  | zero =>
    intro y hi ey
    have hb := num_b h0
    have e : y = S.horT np (fun q => tp (q + ap)) (fun q => vp (q + ap)) (fun q => gp (q + ap)) := ey.get
    rw [← e] at hb
    unfold S.numV
    rw [← e]
    apply Comes.of
    show Goes _ _ _
    (first | rw [q54] | unfold q54)
    repeat' first
      | with_reducible refine goes_if (fun h => ?_) (fun h => ?_) <;> (try simp only [lim64, decide_eq_true_eq, decide_eq_false_iff_not, Int.toNat_natCast, toNat_pred, toNat_succ, Option.getD_some, Option.getD_none, Bool.not_eq_true', Bool.not_eq_false', Bool.and_eq_true, Bool.or_eq_true, Bool.and_eq_false_iff, Bool.or_eq_false_iff, bne_iff_ne, beq_iff_eq, bne_eq_false_iff_eq, beq_eq_false_iff_ne, ne_eq, not_and, Int.not_le, Int.not_lt, ge_iff_le, gt_iff_lt, Nat.not_lt, Nat.not_le, Bool.not_eq_true, Bool.not_eq_false, Bool.true_eq_false, Bool.false_eq_true, not_false_eq_true, not_true_eq_false] at h)
      | exact goes_none.mpr (by omega)
    all_goals first | (exfalso; omega) | exact goes_inr.mpr rfl
  | succ i ih =>
    intro y hi ey
    have hb := hor_b (f := fun q => S.dig (tp (q + ap)) (vp (q + ap)) (gp (q + ap))) (k := np - (i + 1)) (q := i + 1) (fun j _ hj => hd j (by omega))
    have h7 := pow7 (k := np - (i + 1)) (by omega)
    rw [← ey.get] at hb
    have hv := v5 i (by omega)
    try dsimp only at hv
    have e : S.hor (fun q => S.dig (tp (q + ap)) (vp (q + ap)) (gp (q + ap))) i (np - i) = S.dig (tp (i + ap)) (vp (i + ap)) (gp (i + ap)) + 160 * S.hor (fun q => S.dig (tp (q + ap)) (vp (q + ap)) (gp (q + ap))) (i + 1) (np - (i + 1)) := by rw [show np - i = (np - (i + 1)) + 1 by omega]; rfl
    rw [← ey.get] at e
    have ih := ih (y * 160 + tp (i + ap) + 8 * vp (i + ap) + 32 * gp (i + ap)) (by omega) ⟨by rw [e]; unfold S.dig; omega⟩
    have ei : (((i + 1 : Nat) : Int) - 1) = (i : Int) := by omega
    rw [ei]
    apply Comes.of
    show Goes _ _ _
    (first | rw [q54] | unfold q54)
    repeat' first
      | with_reducible refine goes_if (fun h => ?_) (fun h => ?_) <;> (try simp only [lim64, decide_eq_true_eq, decide_eq_false_iff_not, Int.toNat_natCast, toNat_pred, toNat_succ, Option.getD_some, Option.getD_none, Bool.not_eq_true', Bool.not_eq_false', Bool.and_eq_true, Bool.or_eq_true, Bool.and_eq_false_iff, Bool.or_eq_false_iff, bne_iff_ne, beq_iff_eq, bne_eq_false_iff_eq, beq_eq_false_iff_ne, ne_eq, not_and, Int.not_le, Int.not_lt, ge_iff_le, gt_iff_lt, Nat.not_lt, Nat.not_le, Bool.not_eq_true, Bool.not_eq_false, Bool.true_eq_false, Bool.false_eq_true, not_false_eq_true, not_true_eq_false] at h)
      | exact goes_none.mpr (by omega)
    all_goals first | (exfalso; omega) | exact ih
theorem s54 (ph : Int) (ev : Bool) (ap np mp : Nat) (tp : Nat → Int) (vp : Nat → Int) (gp : Nat → Int) (hp : ap + np ≤ mp ∧ np ≤ 1000000 ∧ S.traE ph ev np (fun q => tp (q + ap)) (fun q => vp (q + ap)) (fun q => gp (q + ap)) = 0) : Goes ((q54 ph ev ap np mp tp vp gp)) ((p54 ph ev ap np mp tp vp gp)) (S.numV ph np (fun q => tp (q + ap)) (fun q => vp (q + ap)) (fun q => gp (q + ap))) := by
  obtain ⟨hp1, hp2, h0⟩ := hp
  obtain ⟨⟨v1, v2⟩, v3, v4, v5⟩ := tra_ok h0
  have hm := s54' ph ev ap np mp tp vp gp hp1 h0 np 0 (Nat.le_refl _) ⟨by rw [Nat.sub_self]; rfl⟩
  show Goes _ _ _
  unfold p54
  repeat' first
    | with_reducible refine goes_if (fun h => ?_) (fun h => ?_) <;> (try simp only [lim64, decide_eq_true_eq, decide_eq_false_iff_not, Int.toNat_natCast, toNat_pred, toNat_succ, Option.getD_some, Option.getD_none, Bool.not_eq_true', Bool.not_eq_false', Bool.and_eq_true, Bool.or_eq_true, Bool.and_eq_false_iff, Bool.or_eq_false_iff, bne_iff_ne, beq_iff_eq, bne_eq_false_iff_eq, beq_eq_false_iff_ne, ne_eq, not_and, Int.not_le, Int.not_lt, ge_iff_le, gt_iff_lt, Nat.not_lt, Nat.not_le, Bool.not_eq_true, Bool.not_eq_false, Bool.true_eq_false, Bool.false_eq_true, not_false_eq_true, not_true_eq_false] at h)
    | exact goes_none.mpr (by omega)
  all_goals first | (exfalso; omega) | exact hm

theorem k54_ok : k54.ok Try.prog := by
  intro x hx
  obtain ⟨⟨ph, ev, ⟨ap, np, mp, tp, vp, gp, _⟩, _⟩, _⟩ := x
  obtain ⟨h1, h2⟩ := a54 ph ev ap np mp tp vp gp (s54 ph ev ap np mp tp vp gp (of_dec hx rfl))
  exact ⟨⟨400, (by decide : 1 + 1 + 0 ≤ 400), h1⟩, h2⟩
inductive St55 where
  | h0 (x0 : Int) (x1 : Int)
abbrev Rt55 := Int
noncomputable def V55 (ph : Int) (ev : Bool) (ap np mp : Nat) (tp : Nat → Int) (vp : Nat → Int) (gp : Nat → Int) (r : Rt55) : PV := PV.int IntKind.i64 r
noncomputable def N55 (ph : Int) (ev : Bool) (ap np mp : Nat) (tp : Nat → Int) (vp : Nat → Int) (gp : Nat → Int) (r : Rt55) : List Blk := []
noncomputable def I55 (ph : Int) (ev : Bool) (ap np mp : Nat) (tp : Nat → Int) (vp : Nat → Int) (gp : Nat → Int) : St55 → Hd
  | .h0 x0 x1 => ⟨hd Try.f55 0, [PV.ptr (PA.mk (1) (0) (0) (0)), PV.int IntKind.i64 x0,
 PV.int IntKind.i64 x1], [[(1, (true, Blk.cells
 [PV.int IntKind.i64 ph, PV.bool ev,
 PV.loose (PA.mk (0) (3) ap (0)) np]))], [(0, (false, .cols mp [.int .i64 tp, .int .i64 vp, .int .i64 gp]))]], 2⟩
noncomputable def q55 (ph : Int) (ev : Bool) (ap np mp : Nat) (tp : Nat → Int) (vp : Nat → Int) (gp : Nat → Int) : St55 → Option (St55 ⊕ Rt55)
  | .h0 x0 x1 => bif (decide (x1 ≥ (0 : Int)))
 then (bif (decide ((0 : Int) ≤ x1 ∧ x1 < (↑np : Int)))
 then (bif (decide (Int.toNat x1 + ap < mp))
 then (bif (lim IntKind.i64 (x0 * (160 : Int)))
 then (bif (lim IntKind.i64 (x0 * (160 : Int) + tp (Int.toNat x1 + ap)))
 then (bif (lim IntKind.i64 ((8 : Int) * vp (Int.toNat x1 + ap)))
 then (bif (lim IntKind.i64 (x0 * (160 : Int) + tp (Int.toNat x1 + ap) + (8 : Int) * vp (Int.toNat x1 + ap)))
 then (bif (lim IntKind.i64 ((32 : Int) * gp (Int.toNat x1 + ap)))
 then (bif (lim IntKind.i64
 (x0 * (160 : Int) + tp (Int.toNat x1 + ap) + (8 : Int) * vp (Int.toNat x1 + ap) + (32 : Int) * gp (Int.toNat x1 + ap)))
 then (bif (lim IntKind.i64 (x1 - (1 : Int)))
 then (some (.inl (.h0 (x0 * (160 : Int) + tp (Int.toNat x1 + ap) + (8 : Int) * vp (Int.toNat x1 + ap) + (32 : Int) * gp (Int.toNat x1 + ap)) (x1 - (1 : Int)))))
 else (none))
 else (none))
 else (none))
 else (none))
 else (none))
 else (none))
 else (none))
 else (none))
 else (none))
 else (bif (lim IntKind.i64 (x0 * (5 : Int)))
 then (bif (lim IntKind.i64 (x0 * (5 : Int) + ph))
 then (some (.inr (x0 * (5 : Int) + ph)))
 else (none))
 else (none))
noncomputable def p55 (ph : Int) (ev : Bool) (ap np mp : Nat) (tp : Nat → Int) (vp : Nat → Int) (gp : Nat → Int) : Option (St55 ⊕ Rt55) := bif (lim IntKind.i64 ((↑np : Int) - (1 : Int)))
 then (some (.inl (.h0 ((0 : Int)) ((↑np : Int) - (1 : Int)))))
 else (none)
noncomputable def Te55 (test : Bool → Prop → Prop → Prop) (Kst : KS) (Kret : KR) (ph : Int) (ev : Bool) (ap np mp : Nat) (tp : Nat → Int) (vp : Nat → Int) (gp : Nat → Int) : Prop :=
  test (lim IntKind.i64 ((↑np : Int) - (1 : Int)))
 (Kst (hd Try.f55 0) ([PV.ptr (PA.mk (1) (0) (0) (0)), PV.int IntKind.i64 (0 : Int),
 PV.int IntKind.i64 ((↑np : Int) - (1 : Int))]) ([[(0, false,
 Blk.cols mp
 [Col.int IntKind.i64 tp, Col.int IntKind.i64 vp, Col.int IntKind.i64 gp]),
 (1, true,
 Blk.cells
 [PV.int IntKind.i64 ph, PV.bool ev,
 PV.loose (PA.mk (0) (3) ap (0)) np])]]) (2))
 (False)
set_option maxRecDepth 100000 in
theorem te55 (test : Bool → Prop → Prop → Prop) (Kst : KS) (Kret : KR) (ph : Int) (ev : Bool) (ap np mp : Nat) (tp : Nat → Int) (vp : Nat → Int) (gp : Nat → Int) : run test Try.env true noX true 400 ⟨55, [.cd (mkFn Try.f55).body], argT 0 [.agg [.int .i64 ph, .bool ev, .loose ⟨0, 3, ap, 0⟩ np]], [[], [(0, (false, .cols mp [.int .i64 tp, .int .i64 vp, .int .i64 gp]))]], 1⟩ (proj 1 [1, 3, 4] Kst Kret) =
  Te55 test Kst Kret ph ev ap np mp tp vp gp := by kernel_rfl
noncomputable def T55_0 (test : Bool → Prop → Prop → Prop) (Kst : KS) (Kret : KR) (ph : Int) (ev : Bool) (ap np mp : Nat) (tp : Nat → Int) (vp : Nat → Int) (gp : Nat → Int) (x0 : Int) (x1 : Int) : Prop :=
  test (decide (x1 ≥ (0 : Int)))
 (test (decide ((0 : Int) ≤ x1 ∧ x1 < (↑np : Int)))
 (test (decide (Int.toNat x1 + ap < mp))
 (test (decide (Int.toNat x1 + ap < mp))
 (test (decide (Int.toNat x1 + ap < mp))
 (test (lim IntKind.i64 (x0 * (160 : Int)))
 (test (lim IntKind.i64 (x0 * (160 : Int) + tp (Int.toNat x1 + ap)))
 (test (lim IntKind.i64 ((8 : Int) * vp (Int.toNat x1 + ap)))
 (test (lim IntKind.i64 (x0 * (160 : Int) + tp (Int.toNat x1 + ap) + (8 : Int) * vp (Int.toNat x1 + ap)))
 (test (lim IntKind.i64 ((32 : Int) * gp (Int.toNat x1 + ap)))
 (test (lim IntKind.i64
 (x0 * (160 : Int) + tp (Int.toNat x1 + ap) + (8 : Int) * vp (Int.toNat x1 + ap) + (32 : Int) * gp (Int.toNat x1 + ap)))
 (test (lim IntKind.i64 (x1 - (1 : Int)))
 (Kst (hd Try.f55 0) ([PV.ptr (PA.mk (1) (0) (0) (0)),
 PV.int IntKind.i64
 (x0 * (160 : Int) + tp (Int.toNat x1 + ap) + (8 : Int) * vp (Int.toNat x1 + ap) +
 (32 : Int) * gp (Int.toNat x1 + ap)),
 PV.int IntKind.i64 (x1 - (1 : Int))]) ([[(0, false,
 Blk.cols mp
 [Col.int IntKind.i64 tp, Col.int IntKind.i64 vp, Col.int IntKind.i64 gp]),
 (1, true,
 Blk.cells
 [PV.int IntKind.i64 ph, PV.bool ev,
 PV.loose (PA.mk (0) (3) ap (0)) np])]]) (3))
 (False))
 (False))
 (False))
 (False))
 (False))
 (False))
 (False))
 (False))
 (False))
 (False))
 (False))
 (test (lim IntKind.i64 (x0 * (5 : Int)))
 (test (lim IntKind.i64 (x0 * (5 : Int) + ph))
 (Kret (PV.int IntKind.i64 (x0 * (5 : Int) + ph)) ([[(0, false,
 Blk.cols mp
 [Col.int IntKind.i64 tp, Col.int IntKind.i64 vp, Col.int IntKind.i64 gp])]]) (2))
 (False))
 (False))
set_option maxRecDepth 100000 in
theorem t55_0 (test : Bool → Prop → Prop → Prop) (Kst : KS) (Kret : KR) (ph : Int) (ev : Bool) (ap np mp : Nat) (tp : Nat → Int) (vp : Nat → Int) (gp : Nat → Int) (x0 : Int) (x1 : Int) : run test Try.env true noX true 400 ⟨55, hd Try.f55 0, zipT [1, 3, 4] [PV.ptr (PA.mk (1) (0) (0) (0)), PV.int IntKind.i64 x0,
 PV.int IntKind.i64 x1], [[(1, (true, Blk.cells
 [PV.int IntKind.i64 ph, PV.bool ev,
 PV.loose (PA.mk (0) (3) ap (0)) np]))], [(0, (false, .cols mp [.int .i64 tp, .int .i64 vp, .int .i64 gp]))]], 2⟩ (proj 1 [1, 3, 4] Kst Kret) =
  T55_0 test Kst Kret ph ev ap np mp tp vp gp x0 x1 := by kernel_rfl
set_option maxRecDepth 100000 in
theorem be55 (ph : Int) (ev : Bool) (ap np mp : Nat) (tp : Nat → Int) (vp : Nat → Int) (gp : Nat → Int) (Kst : KS) (Kret : KR) (x : St55 ⊕ Rt55) (hS : HS 1 400 ((I55 ph ev ap np mp tp vp gp)) Kst x) (hR : HR 1 400 ((V55 ph ev ap np mp tp vp gp)) (fun r => [newL (1 + 1) ((N55 ph ev ap np mp tp vp gp) r) ++ [(0, (false, .cols mp [.int .i64 tp, .int .i64 vp, .int .i64 gp]))]]) Kret x) (h : (bif (lim IntKind.i64 ((↑np : Int) - (1 : Int)))
 then (some (.inl (.h0 ((0 : Int)) ((↑np : Int) - (1 : Int)))))
 else (none) : Option (St55 ⊕ Rt55)) = some x) : Te55 cond Kst Kret ph ev ap np mp tp vp gp := by
  unfold Te55
  exact bif_split h
   (fun c0 h => stop_at hS _ h (fun n => bif Nat.beq n 1 then 1 else n) rfl rfl rfl ⟨(rn_ptr (use_own rfl) rfl rfl), ⟨(rn_int rfl), ⟨(rn_int rfl), trivial⟩⟩⟩ rfl (entl_b (use_own rfl) rfl (by simp) (rb_cells ⟨(rn_int rfl), (rn_bool rfl), (rn_loose (use_lo rfl) rfl rfl rfl), trivial⟩) (entl_bor (use_lo rfl) rfl rfl entl_nil)))
   (fun c0 h => no_some h)
set_option maxRecDepth 100000 in
theorem b55_0 (ph : Int) (ev : Bool) (ap np mp : Nat) (tp : Nat → Int) (vp : Nat → Int) (gp : Nat → Int) (Kst : KS) (Kret : KR) (x : St55 ⊕ Rt55) (hS : HS 1 400 ((I55 ph ev ap np mp tp vp gp)) Kst x) (hR : HR 1 400 ((V55 ph ev ap np mp tp vp gp)) (fun r => [newL (1 + 1) ((N55 ph ev ap np mp tp vp gp) r) ++ [(0, (false, .cols mp [.int .i64 tp, .int .i64 vp, .int .i64 gp]))]]) Kret x) (x0 : Int) (x1 : Int) (h : (bif (decide (x1 ≥ (0 : Int)))
 then (bif (decide ((0 : Int) ≤ x1 ∧ x1 < (↑np : Int)))
 then (bif (decide (Int.toNat x1 + ap < mp))
 then (bif (lim IntKind.i64 (x0 * (160 : Int)))
 then (bif (lim IntKind.i64 (x0 * (160 : Int) + tp (Int.toNat x1 + ap)))
 then (bif (lim IntKind.i64 ((8 : Int) * vp (Int.toNat x1 + ap)))
 then (bif (lim IntKind.i64 (x0 * (160 : Int) + tp (Int.toNat x1 + ap) + (8 : Int) * vp (Int.toNat x1 + ap)))
 then (bif (lim IntKind.i64 ((32 : Int) * gp (Int.toNat x1 + ap)))
 then (bif (lim IntKind.i64
 (x0 * (160 : Int) + tp (Int.toNat x1 + ap) + (8 : Int) * vp (Int.toNat x1 + ap) + (32 : Int) * gp (Int.toNat x1 + ap)))
 then (bif (lim IntKind.i64 (x1 - (1 : Int)))
 then (some (.inl (.h0 (x0 * (160 : Int) + tp (Int.toNat x1 + ap) + (8 : Int) * vp (Int.toNat x1 + ap) + (32 : Int) * gp (Int.toNat x1 + ap)) (x1 - (1 : Int)))))
 else (none))
 else (none))
 else (none))
 else (none))
 else (none))
 else (none))
 else (none))
 else (none))
 else (none))
 else (bif (lim IntKind.i64 (x0 * (5 : Int)))
 then (bif (lim IntKind.i64 (x0 * (5 : Int) + ph))
 then (some (.inr (x0 * (5 : Int) + ph)))
 else (none))
 else (none)) : Option (St55 ⊕ Rt55)) = some x) : T55_0 cond Kst Kret ph ev ap np mp tp vp gp x0 x1 := by
  unfold T55_0
  exact bif_split h
   (fun c0 h => bif_split h
   (fun c1 h => bif_split h
   (fun c2 h => cond_yes c2 (cond_yes c2 (bif_split h
   (fun c3 h => bif_split h
   (fun c4 h => bif_split h
   (fun c5 h => bif_split h
   (fun c6 h => bif_split h
   (fun c7 h => bif_split h
   (fun c8 h => bif_split h
   (fun c9 h => stop_at hS _ h (fun n => bif Nat.beq n 1 then 1 else n) rfl rfl rfl ⟨(rn_ptr (use_own rfl) rfl rfl), ⟨(rn_int rfl), ⟨(rn_int rfl), trivial⟩⟩⟩ rfl (entl_b (use_own rfl) rfl (by simp) (rb_cells ⟨(rn_int rfl), (rn_bool rfl), (rn_loose (use_lo rfl) rfl rfl rfl), trivial⟩) (entl_bor (use_lo rfl) rfl rfl entl_nil)))
   (fun c9 h => no_some h))
   (fun c8 h => no_some h))
   (fun c7 h => no_some h))
   (fun c6 h => no_some h))
   (fun c5 h => no_some h))
   (fun c4 h => no_some h))
   (fun c3 h => no_some h))))
   (fun c2 h => no_some h))
   (fun c1 h => no_some h))
   (fun c0 h => bif_split h
   (fun c1 h => bif_split h
   (fun c2 h => ret_at hR _ h (fun n => n) rfl rfl rfl (rn_int rfl) rfl (entl_bor (use_lo rfl) rfl rfl entl_nil))
   (fun c2 h => no_some h))
   (fun c1 h => no_some h))
theorem a55 (ph : Int) (ev : Bool) (ap np mp : Nat) (tp : Nat → Int) (vp : Nat → Int) (gp : Nat → Int) {r : Rt55} (h : Goes ((q55 ph ev ap np mp tp vp gp)) ((p55 ph ev ap np mp tp vp gp)) r) : CallR Try.prog 55 [.agg [.int .i64 ph, .bool ev, .loose ⟨0, 3, ap, 0⟩ np]] [[(0, (false, .cols mp [.int .i64 tp, .int .i64 vp, .int .i64 gp]))]] 1 ((V55 ph ev ap np mp tp vp gp) r) ((fun r => [newL (1 + 1) ((N55 ph ev ap np mp tp vp gp) r) ++ [(0, (false, .cols mp [.int .i64 tp, .int .i64 vp, .int .i64 gp]))]]) r) 400 ∧ ∃ F, Try.prog.funcs[55]? = some F ∧ F.body.isSome = true ∧ (F.name == "runtime.NumGoroutine") = false := by
  refine dec_calls (f := 55) (lo := 1) (hi := 400) (H := [[(0, (false, .cols mp [.int .i64 tp, .int .i64 vp, .int .i64 gp]))]]) (args := [.agg [.int .i64 ph, .bool ev, .loose ⟨0, 3, ap, 0⟩ np]]) Try.envOk Try.mixed noX_ok ((I55 ph ev ap np mp tp vp gp)) ((V55 ph ev ap np mp tp vp gp)) (fun r => [newL (1 + 1) ((N55 ph ev ap np mp tp vp gp) r) ++ [(0, (false, .cols mp [.int .i64 tp, .int .i64 vp, .int .i64 gp]))]]) (fn := mkFn Try.f55) (ts := [1, 3, 4]) (n := 400) rfl (by decide) (by simp) (names_of rfl) ?_ ?_ ?_ h
  · intro s; cases s <;> exact ⟨hd_ok _ _, by simp [I55], names_of rfl, Nat.le_of_ble_eq_true rfl⟩
  · intro Kst Kret x hS hR h
    exact Holds.eq (te55 cond Kst Kret ph ev ap np mp tp vp gp) (be55 ph ev ap np mp tp vp gp Kst Kret x hS hR h)
  · intro Kst Kret x hS hR s h
    cases s with
    | h0 x0 x1 => exact Holds.eq (t55_0 cond Kst Kret ph ev ap np mp tp vp gp x0 x1) (b55_0 ph ev ap np mp tp vp gp Kst Kret x hS hR x0 x1 h)
noncomputable def k55 : Con := ⟨55, [.agg [.plain (.int .i64), .plain (.bool), .list [.int .i64, .int .i64, .int .i64]]], fun (x : (Int × Bool × (Nat × Nat × Nat × (Nat → Int) × (Nat → Int) × (Nat → Int) × Unit) × Unit) × Unit) => (fun (ph : Int) (ev : Bool) (ap np mp : Nat) (tp : Nat → Int) (vp : Nat → Int) (gp : Nat → Int) => decide (ap + np ≤ mp ∧ np ≤ 1000000 ∧ S.traE ph ev np (fun q => tp (q + ap)) (fun q => vp (q + ap)) (fun q => gp (q + ap)) = 0)) x.1.1 x.1.2.1 x.1.2.2.1.1 x.1.2.2.1.2.1 x.1.2.2.1.2.2.1 x.1.2.2.1.2.2.2.1 x.1.2.2.1.2.2.2.2.1 x.1.2.2.1.2.2.2.2.2.1, fun (x : (Int × Bool × (Nat × Nat × Nat × (Nat → Int) × (Nat → Int) × (Nat → Int) × Unit) × Unit) × Unit) => (fun (ph : Int) (ev : Bool) (ap np mp : Nat) (tp : Nat → Int) (vp : Nat → Int) (gp : Nat → Int) => (V55 ph ev ap np mp tp vp gp) (S.numV ph np (fun q => tp (q + ap)) (fun q => vp (q + ap)) (fun q => gp (q + ap)))) x.1.1 x.1.2.1 x.1.2.2.1.1 x.1.2.2.1.2.1 x.1.2.2.1.2.2.1 x.1.2.2.1.2.2.2.1 x.1.2.2.1.2.2.2.2.1 x.1.2.2.1.2.2.2.2.2.1, fun (x : (Int × Bool × (Nat × Nat × Nat × (Nat → Int) × (Nat → Int) × (Nat → Int) × Unit) × Unit) × Unit) => (fun (ph : Int) (ev : Bool) (ap np mp : Nat) (tp : Nat → Int) (vp : Nat → Int) (gp : Nat → Int) => (N55 ph ev ap np mp tp vp gp) (S.numV ph np (fun q => tp (q + ap)) (fun q => vp (q + ap)) (fun q => gp (q + ap)))) x.1.1 x.1.2.1 x.1.2.2.1.1 x.1.2.2.1.2.1 x.1.2.2.1.2.2.1 x.1.2.2.1.2.2.2.1 x.1.2.2.1.2.2.2.2.1 x.1.2.2.1.2.2.2.2.2.1, fun _ _ => .dead⟩
theorem s55' (ph : Int) (ev : Bool) (ap np mp : Nat) (tp : Nat → Int) (vp : Nat → Int) (gp : Nat → Int) (hp1 : ap + np ≤ mp) (h0 : S.traE ph ev np (fun q => tp (q + ap)) (fun q => vp (q + ap)) (fun q => gp (q + ap)) = 0) : ∀ (i : Nat) (y : Int), i ≤ np → Holds (y = S.hor (fun q => S.dig (tp (q + ap)) (vp (q + ap)) (gp (q + ap))) i (np - i)) → Comes (q55 ph ev ap np mp tp vp gp) (.h0 y ((i : Int) - 1)) (S.numV ph np (fun q => tp (q + ap)) (fun q => vp (q + ap)) (fun q => gp (q + ap))) := by
  obtain ⟨⟨v1, v2⟩, v3, v4, v5⟩ := tra_ok h0
  have hd : ∀ j, j < np → 0 ≤ S.dig (tp (j + ap)) (vp (j + ap)) (gp (j + ap)) ∧ S.dig (tp (j + ap)) (vp (j + ap)) (gp (j + ap)) < 160 := fun j hj => (dig_b (v5 j hj).1 (v5 j hj).2.1 (v5 j hj).2.2).1
  intro i
  induction i with
  | zero =>
    intro y hi ey
    have hb := num_b h0
    have e : y = S.horT np (fun q => tp (q + ap)) (fun q => vp (q + ap)) (fun q => gp (q + ap)) := ey.get
    rw [← e] at hb
    unfold S.numV
    rw [← e]
    apply Comes.of
    show Goes _ _ _
    (first | rw [q55] | unfold q55)
    repeat' first
      | with_reducible refine goes_if (fun h => ?_) (fun h => ?_) <;> (try simp only [lim64, decide_eq_true_eq, decide_eq_false_iff_not, Int.toNat_natCast, toNat_pred, toNat_succ, Option.getD_some, Option.getD_none, Bool.not_eq_true', Bool.not_eq_false', Bool.and_eq_true, Bool.or_eq_true, Bool.and_eq_false_iff, Bool.or_eq_false_iff, bne_iff_ne, beq_iff_eq, bne_eq_false_iff_eq, beq_eq_false_iff_ne, ne_eq, not_and, Int.not_le, Int.not_lt, ge_iff_le, gt_iff_lt, Nat.not_lt, Nat.not_le, Bool.not_eq_true, Bool.not_eq_false, Bool.true_eq_false, Bool.false_eq_true, not_false_eq_true, not_true_eq_false] at h)
      | exact goes_none.mpr (by omega)
    all_goals first | (exfalso; omega) | exact goes_inr.mpr rfl
  | succ i ih =>
    intro y hi ey
    have hb := hor_b (f := fun q => S.dig (tp (q + ap)) (vp (q + ap)) (gp (q + ap))) (k := np - (i + 1)) (q := i + 1) (fun j _ hj => hd j (by omega))
    have h7 := pow7 (k := np - (i + 1)) (by omega)
    rw [← ey.get] at hb
    have hv := v5 i (by omega)
    try dsimp only at hv
    have e : S.hor (fun q => S.dig (tp (q + ap)) (vp (q + ap)) (gp (q + ap))) i (np - i) = S.dig (tp (i + ap)) (vp (i + ap)) (gp (i + ap)) + 160 * S.hor (fun q => S.dig (tp (q + ap)) (vp (q + ap)) (gp (q + ap))) (i + 1) (np - (i + 1)) := by rw [show np - i = (np - (i + 1)) + 1 by omega]; rfl
    rw [← ey.get] at e
    have ih := ih (y * 160 + tp (i + ap) + 8 * vp (i + ap) + 32 * gp (i + ap)) (by omega) ⟨by rw [e]; unfold S.dig; omega⟩
    have ei : (((i + 1 : Nat) : Int) - 1) = (i : Int) := by omega
    rw [ei]
    apply Comes.of
    show Goes _ _ _
    (first | rw [q55] | unfold q55)
    repeat' first
      | with_reducible refine goes_if (fun h => ?_) (fun h => ?_) <;> (try simp only [lim64, decide_eq_true_eq, decide_eq_false_iff_not, Int.toNat_natCast, toNat_pred, toNat_succ, Option.getD_some, Option.getD_none, Bool.not_eq_true', Bool.not_eq_false', Bool.and_eq_true, Bool.or_eq_true, Bool.and_eq_false_iff, Bool.or_eq_false_iff, bne_iff_ne, beq_iff_eq, bne_eq_false_iff_eq, beq_eq_false_iff_ne, ne_eq, not_and, Int.not_le, Int.not_lt, ge_iff_le, gt_iff_lt, Nat.not_lt, Nat.not_le, Bool.not_eq_true, Bool.not_eq_false, Bool.true_eq_false, Bool.false_eq_true, not_false_eq_true, not_true_eq_false] at h)
      | exact goes_none.mpr (by omega)
    all_goals first | (exfalso; omega) | exact ih
theorem s55 (ph : Int) (ev : Bool) (ap np mp : Nat) (tp : Nat → Int) (vp : Nat → Int) (gp : Nat → Int) (hp : ap + np ≤ mp ∧ np ≤ 1000000 ∧ S.traE ph ev np (fun q => tp (q + ap)) (fun q => vp (q + ap)) (fun q => gp (q + ap)) = 0) : Goes ((q55 ph ev ap np mp tp vp gp)) ((p55 ph ev ap np mp tp vp gp)) (S.numV ph np (fun q => tp (q + ap)) (fun q => vp (q + ap)) (fun q => gp (q + ap))) := by
  obtain ⟨hp1, hp2, h0⟩ := hp
  obtain ⟨⟨v1, v2⟩, v3, v4, v5⟩ := tra_ok h0
  have hm := s55' ph ev ap np mp tp vp gp hp1 h0 np 0 (Nat.le_refl _) ⟨by rw [Nat.sub_self]; rfl⟩
  show Goes _ _ _
  unfold p55
  repeat' first
    | with_reducible refine goes_if (fun h => ?_) (fun h => ?_) <;> (try simp only [lim64, decide_eq_true_eq, decide_eq_false_iff_not, Int.toNat_natCast, toNat_pred, toNat_succ, Option.getD_some, Option.getD_none, Bool.not_eq_true', Bool.not_eq_false', Bool.and_eq_true, Bool.or_eq_true, Bool.and_eq_false_iff, Bool.or_eq_false_iff, bne_iff_ne, beq_iff_eq, bne_eq_false_iff_eq, beq_eq_false_iff_ne, ne_eq, not_and, Int.not_le, Int.not_lt, ge_iff_le, gt_iff_lt, Nat.not_lt, Nat.not_le, Bool.not_eq_true, Bool.not_eq_false, Bool.true_eq_false, Bool.false_eq_true, not_false_eq_true, not_true_eq_false] at h)
    | exact goes_none.mpr (by omega)
  all_goals first | (exfalso; omega) | exact hm

theorem k55_ok : k55.ok Try.prog := by
  intro x hx
  obtain ⟨⟨ph, ev, ⟨ap, np, mp, tp, vp, gp, _⟩, _⟩, _⟩ := x
  obtain ⟨h1, h2⟩ := a55 ph ev ap np mp tp vp gp (s55 ph ev ap np mp tp vp gp (of_dec hx rfl))
  exact ⟨⟨400, (by decide : 1 + 1 + 0 ≤ 400), h1⟩, h2⟩
noncomputable def xM2 (test : Bool → Prop → Prop → Prop) : Ext := consX test [k13, k15, k54, k55]
theorem xM2_ok : ExtOk Try.prog (xM2 cond) := consX_ok ⟨k13_ok, k15_ok, k54_ok, k55_ok, trivial⟩

end Go.Ev
