/-
  Are two fillings the same?
-/
import Derived.Test.YtejcmbcmhfejkaaB4
namespace Go.Ev
open Go.Proofs
set_option linter.unusedVariables false
set_option linter.unusedSimpArgs false
set_option maxRecDepth 100000
inductive St29 where
  | h0 (x0 : Int)
abbrev Rt29 := Bool
noncomputable def V29 (f : Int) (al nl ml : Nat) (tl : Nat → Int) (g : Int) (am nm mm : Nat) (tm : Nat → Int) (r : Rt29) : PV := PV.bool r
noncomputable def N29 (f : Int) (al nl ml : Nat) (tl : Nat → Int) (g : Int) (am nm mm : Nat) (tm : Nat → Int) (r : Rt29) : List Blk := []
noncomputable def I29 (f : Int) (al nl ml : Nat) (tl : Nat → Int) (g : Int) (am nm mm : Nat) (tm : Nat → Int) : St29 → Hd
  | .h0 x0 => ⟨hd Try.f29 0, [PV.ptr (PA.mk (2) (0) (0) (0)),
 PV.ptr (PA.mk (3) (0) (0) (0)), PV.int IntKind.i64 x0], [[(2, (true, Blk.cells [PV.int IntKind.i64 f, PV.loose (PA.mk (0) (1) al (0)) nl])), (3, (true, Blk.cells [PV.int IntKind.i64 g, PV.loose (PA.mk (1) (1) am (0)) nm]))], [(0, (false, .cols ml [.int .i64 tl])), (1, (false, .cols mm [.int .i64 tm]))]], 4⟩
noncomputable def q29 (f : Int) (al nl ml : Nat) (tl : Nat → Int) (g : Int) (am nm mm : Nat) (tm : Nat → Int) : St29 → Option (St29 ⊕ Rt29)
  | .h0 x0 => bif (decide (x0 < (↑nl : Int)))
 then (bif (decide ((0 : Int) ≤ x0 ∧ x0 < (↑nl : Int)))
 then (bif (decide (Int.toNat x0 + al < ml))
 then (bif (decide ((0 : Int) ≤ x0 ∧ x0 < (↑nm : Int)))
 then (bif (decide (Int.toNat x0 + am < mm))
 then (bif (tl (Int.toNat x0 + al) != tm (Int.toNat x0 + am))
 then (some (.inr (false)))
 else (bif (lim IntKind.i64 (x0 + (1 : Int)))
 then (some (.inl (.h0 (x0 + (1 : Int)))))
 else (none)))
 else (none))
 else (none))
 else (none))
 else (none))
 else (some (.inr (true)))
noncomputable def p29 (f : Int) (al nl ml : Nat) (tl : Nat → Int) (g : Int) (am nm mm : Nat) (tm : Nat → Int) : Option (St29 ⊕ Rt29) := bif (f != g)
 then (some (.inr (false)))
 else (bif ((↑nl : Int) != (↑nm : Int))
 then (some (.inr (false)))
 else (some (.inl (.h0 ((0 : Int))))))
noncomputable def Te29 (test : Bool → Prop → Prop → Prop) (Kst : KS) (Kret : KR) (f : Int) (al nl ml : Nat) (tl : Nat → Int) (g : Int) (am nm mm : Nat) (tm : Nat → Int) : Prop :=
  test (f != g)
 (Kret (PV.tf false) ([[(1, false, Blk.cols mm [Col.int IntKind.i64 tm]),
 (0, false, Blk.cols ml [Col.int IntKind.i64 tl])]]) (4))
 (test ((↑nl : Int) != (↑nm : Int))
 (Kret (PV.tf false) ([[(1, false, Blk.cols mm [Col.int IntKind.i64 tm]),
 (0, false, Blk.cols ml [Col.int IntKind.i64 tl])]]) (4))
 (Kst (hd Try.f29 0) ([PV.ptr (PA.mk (2) (0) (0) (0)),
 PV.ptr (PA.mk (3) (0) (0) (0)), PV.int IntKind.i64 (0 : Int)]) ([[(1, false, Blk.cols mm [Col.int IntKind.i64 tm]),
 (0, false, Blk.cols ml [Col.int IntKind.i64 tl]),
 (3, true,
 Blk.cells
 [PV.int IntKind.i64 g, PV.loose (PA.mk (1) (1) am (0)) nm]),
 (2, true,
 Blk.cells
 [PV.int IntKind.i64 f, PV.loose (PA.mk (0) (1) al (0)) nl])]]) (4)))
set_option maxRecDepth 100000 in
theorem te29 (test : Bool → Prop → Prop → Prop) (Kst : KS) (Kret : KR) (f : Int) (al nl ml : Nat) (tl : Nat → Int) (g : Int) (am nm mm : Nat) (tm : Nat → Int) : run test Try.env true noX true 400 ⟨29, [.cd (mkFn Try.f29).body], argT 0 [.agg [.int .i64 f, .loose ⟨0, 1, al, 0⟩ nl], .agg [.int .i64 g, .loose ⟨1, 1, am, 0⟩ nm]], [[], [(0, (false, .cols ml [.int .i64 tl])), (1, (false, .cols mm [.int .i64 tm]))]], 2⟩ (proj 2 [2, 3, 5] Kst Kret) =
  Te29 test Kst Kret f al nl ml tl g am nm mm tm := by kernel_rfl
noncomputable def T29_0 (test : Bool → Prop → Prop → Prop) (Kst : KS) (Kret : KR) (f : Int) (al nl ml : Nat) (tl : Nat → Int) (g : Int) (am nm mm : Nat) (tm : Nat → Int) (x0 : Int) : Prop :=
  test (decide (x0 < (↑nl : Int)))
 (test (decide ((0 : Int) ≤ x0 ∧ x0 < (↑nl : Int)))
 (test (decide (Int.toNat x0 + al < ml))
 (test (decide ((0 : Int) ≤ x0 ∧ x0 < (↑nm : Int)))
 (test (decide (Int.toNat x0 + am < mm))
 (test (tl (Int.toNat x0 + al) != tm (Int.toNat x0 + am))
 (Kret (PV.tf false) ([[(1, false, Blk.cols mm [Col.int IntKind.i64 tm]),
 (0, false, Blk.cols ml [Col.int IntKind.i64 tl])]]) (4))
 (test (lim IntKind.i64 (x0 + (1 : Int)))
 (Kst (hd Try.f29 0) ([PV.ptr (PA.mk (2) (0) (0) (0)),
 PV.ptr (PA.mk (3) (0) (0) (0)),
 PV.int IntKind.i64 (x0 + (1 : Int))]) ([[(1, false, Blk.cols mm [Col.int IntKind.i64 tm]),
 (0, false, Blk.cols ml [Col.int IntKind.i64 tl]),
 (3, true,
 Blk.cells
 [PV.int IntKind.i64 g, PV.loose (PA.mk (1) (1) am (0)) nm]),
 (2, true,
 Blk.cells
 [PV.int IntKind.i64 f, PV.loose (PA.mk (0) (1) al (0)) nl])]]) (4))
 (False)))
 (False))
 (False))
 (False))
 (False))
 (Kret (PV.tf true) ([[(1, false, Blk.cols mm [Col.int IntKind.i64 tm]),
 (0, false, Blk.cols ml [Col.int IntKind.i64 tl])]]) (4))
set_option maxRecDepth 100000 in
theorem t29_0 (test : Bool → Prop → Prop → Prop) (Kst : KS) (Kret : KR) (f : Int) (al nl ml : Nat) (tl : Nat → Int) (g : Int) (am nm mm : Nat) (tm : Nat → Int) (x0 : Int) : run test Try.env true noX true 400 ⟨29, hd Try.f29 0, zipT [2, 3, 5] [PV.ptr (PA.mk (2) (0) (0) (0)),
 PV.ptr (PA.mk (3) (0) (0) (0)), PV.int IntKind.i64 x0], [[(2, (true, Blk.cells [PV.int IntKind.i64 f, PV.loose (PA.mk (0) (1) al (0)) nl])), (3, (true, Blk.cells [PV.int IntKind.i64 g, PV.loose (PA.mk (1) (1) am (0)) nm]))], [(0, (false, .cols ml [.int .i64 tl])), (1, (false, .cols mm [.int .i64 tm]))]], 4⟩ (proj 2 [2, 3, 5] Kst Kret) =
  T29_0 test Kst Kret f al nl ml tl g am nm mm tm x0 := by kernel_rfl
attribute [local irreducible] Int.subNatNat in
set_option maxRecDepth 100000 in
theorem be29 (f : Int) (al nl ml : Nat) (tl : Nat → Int) (g : Int) (am nm mm : Nat) (tm : Nat → Int) (Kst : KS) (Kret : KR) (x : St29 ⊕ Rt29) (hS : HS 2 400 ((I29 f al nl ml tl g am nm mm tm)) Kst x) (hR : HR 2 400 ((V29 f al nl ml tl g am nm mm tm)) (fun r => [newL (2 + 1) ((N29 f al nl ml tl g am nm mm tm) r) ++ [(0, (false, .cols ml [.int .i64 tl])), (1, (false, .cols mm [.int .i64 tm]))]]) Kret x) (h : (bif (f != g)
 then (some (.inr (false)))
 else (bif ((↑nl : Int) != (↑nm : Int))
 then (some (.inr (false)))
 else (some (.inl (.h0 ((0 : Int)))))) : Option (St29 ⊕ Rt29)) = some x) : Te29 cond Kst Kret f al nl ml tl g am nm mm tm := by
  unfold Te29
  exact bif_split h
   (fun c0 h => ret_at hR _ h (fun n => n) rfl rfl rfl (rn_bool_tf rfl) rfl (entl_bor (use_lo rfl) rfl rfl (entl_bor (use_lo rfl) rfl rfl entl_nil)))
   (fun c0 h => bif_split h
   (fun c1 h => ret_at hR _ h (fun n => n) rfl rfl rfl (rn_bool_tf rfl) rfl (entl_bor (use_lo rfl) rfl rfl (entl_bor (use_lo rfl) rfl rfl entl_nil)))
   (fun c1 h => stop_at hS _ h (fun n => bif Nat.beq n 2 then 2 else bif Nat.beq n 3 then 3 else n) rfl rfl rfl ⟨(rn_ptr (use_own rfl) rfl rfl), ⟨(rn_ptr (use_own rfl) rfl rfl), ⟨(rn_int rfl), trivial⟩⟩⟩ rfl (entl_b (use_own rfl) rfl (by simp) (rb_cells ⟨(rn_int rfl), (rn_loose (use_lo rfl) rfl rfl rfl), trivial⟩) (entl_b (use_own rfl) rfl (by simp) (rb_cells ⟨(rn_int rfl), (rn_loose (use_lo rfl) rfl rfl rfl), trivial⟩) (entl_bor (use_lo rfl) rfl rfl (entl_bor (use_lo rfl) rfl rfl entl_nil))))))
attribute [local irreducible] Int.subNatNat in
set_option maxRecDepth 100000 in
theorem b29_0 (f : Int) (al nl ml : Nat) (tl : Nat → Int) (g : Int) (am nm mm : Nat) (tm : Nat → Int) (Kst : KS) (Kret : KR) (x : St29 ⊕ Rt29) (hS : HS 2 400 ((I29 f al nl ml tl g am nm mm tm)) Kst x) (hR : HR 2 400 ((V29 f al nl ml tl g am nm mm tm)) (fun r => [newL (2 + 1) ((N29 f al nl ml tl g am nm mm tm) r) ++ [(0, (false, .cols ml [.int .i64 tl])), (1, (false, .cols mm [.int .i64 tm]))]]) Kret x) (x0 : Int) (h : (bif (decide (x0 < (↑nl : Int)))
 then (bif (decide ((0 : Int) ≤ x0 ∧ x0 < (↑nl : Int)))
 then (bif (decide (Int.toNat x0 + al < ml))
 then (bif (decide ((0 : Int) ≤ x0 ∧ x0 < (↑nm : Int)))
 then (bif (decide (Int.toNat x0 + am < mm))
 then (bif (tl (Int.toNat x0 + al) != tm (Int.toNat x0 + am))
 then (some (.inr (false)))
 else (bif (lim IntKind.i64 (x0 + (1 : Int)))
 then (some (.inl (.h0 (x0 + (1 : Int)))))
 else (none)))
 else (none))
 else (none))
 else (none))
 else (none))
 else (some (.inr (true))) : Option (St29 ⊕ Rt29)) = some x) : T29_0 cond Kst Kret f al nl ml tl g am nm mm tm x0 := by
  unfold T29_0
  exact bif_split h
   (fun c0 h => bif_split h
   (fun c1 h => bif_split h
   (fun c2 h => bif_split h
   (fun c3 h => bif_split h
   (fun c4 h => bif_split h
   (fun c5 h => ret_at hR _ h (fun n => n) rfl rfl rfl (rn_bool_tf rfl) rfl (entl_bor (use_lo rfl) rfl rfl (entl_bor (use_lo rfl) rfl rfl entl_nil)))
   (fun c5 h => bif_split h
   (fun c6 h => stop_at hS _ h (fun n => bif Nat.beq n 2 then 2 else bif Nat.beq n 3 then 3 else n) rfl rfl rfl ⟨(rn_ptr (use_own rfl) rfl rfl), ⟨(rn_ptr (use_own rfl) rfl rfl), ⟨(rn_int rfl), trivial⟩⟩⟩ rfl (entl_b (use_own rfl) rfl (by simp) (rb_cells ⟨(rn_int rfl), (rn_loose (use_lo rfl) rfl rfl rfl), trivial⟩) (entl_b (use_own rfl) rfl (by simp) (rb_cells ⟨(rn_int rfl), (rn_loose (use_lo rfl) rfl rfl rfl), trivial⟩) (entl_bor (use_lo rfl) rfl rfl (entl_bor (use_lo rfl) rfl rfl entl_nil)))))
   (fun c6 h => no_some h)))
   (fun c4 h => no_some h))
   (fun c3 h => no_some h))
   (fun c2 h => no_some h))
   (fun c1 h => no_some h))
   (fun c0 h => ret_at hR _ h (fun n => n) rfl rfl rfl (rn_bool_tf rfl) rfl (entl_bor (use_lo rfl) rfl rfl (entl_bor (use_lo rfl) rfl rfl entl_nil)))
theorem a29 (f : Int) (al nl ml : Nat) (tl : Nat → Int) (g : Int) (am nm mm : Nat) (tm : Nat → Int) {r : Rt29} (h : Goes ((q29 f al nl ml tl g am nm mm tm)) ((p29 f al nl ml tl g am nm mm tm)) r) : CallR Try.prog 29 [.agg [.int .i64 f, .loose ⟨0, 1, al, 0⟩ nl], .agg [.int .i64 g, .loose ⟨1, 1, am, 0⟩ nm]] [[(0, (false, .cols ml [.int .i64 tl])), (1, (false, .cols mm [.int .i64 tm]))]] 2 ((V29 f al nl ml tl g am nm mm tm) r) ((fun r => [newL (2 + 1) ((N29 f al nl ml tl g am nm mm tm) r) ++ [(0, (false, .cols ml [.int .i64 tl])), (1, (false, .cols mm [.int .i64 tm]))]]) r) 400 ∧ ∃ F, Try.prog.funcs[29]? = some F ∧ F.body.isSome = true ∧ (F.name == "runtime.NumGoroutine") = false := by
  refine dec_calls (f := 29) (lo := 2) (hi := 400) (H := [[(0, (false, .cols ml [.int .i64 tl])), (1, (false, .cols mm [.int .i64 tm]))]]) (args := [.agg [.int .i64 f, .loose ⟨0, 1, al, 0⟩ nl], .agg [.int .i64 g, .loose ⟨1, 1, am, 0⟩ nm]]) Try.envOk Try.mixed noX_ok ((I29 f al nl ml tl g am nm mm tm)) ((V29 f al nl ml tl g am nm mm tm)) (fun r => [newL (2 + 1) ((N29 f al nl ml tl g am nm mm tm) r) ++ [(0, (false, .cols ml [.int .i64 tl])), (1, (false, .cols mm [.int .i64 tm]))]]) (fn := mkFn Try.f29) (ts := [2, 3, 5]) (n := 400) rfl (by decide) (by simp) (names_of rfl) ?_ ?_ ?_ h
  · intro s; cases s <;> exact ⟨hd_ok _ _, by simp [I29], names_of rfl, Nat.le_of_ble_eq_true rfl⟩
  · intro Kst Kret x hS hR h
    exact Holds.eq (te29 cond Kst Kret f al nl ml tl g am nm mm tm) (be29 f al nl ml tl g am nm mm tm Kst Kret x hS hR h)
  · intro Kst Kret x hS hR s h
    cases s with
    | h0 x0 => exact Holds.eq (t29_0 cond Kst Kret f al nl ml tl g am nm mm tm x0) (b29_0 f al nl ml tl g am nm mm tm Kst Kret x hS hR x0 h)
noncomputable def k29 : Con := ⟨29, [.agg [.plain (.int .i64), .list [.int .i64]], .agg [.plain (.int .i64), .list [.int .i64]]], fun (x : (Int × (Nat × Nat × Nat × (Nat → Int) × Unit) × Unit) × (Int × (Nat × Nat × Nat × (Nat → Int) × Unit) × Unit) × Unit) => (fun (f : Int) (al nl ml : Nat) (tl : Nat → Int) (g : Int) (am nm mm : Nat) (tm : Nat → Int) => decide (al + nl ≤ ml ∧ nl ≤ 1000000 ∧ am + nm ≤ mm ∧ nm ≤ 1000000)) x.1.1 x.1.2.1.1 x.1.2.1.2.1 x.1.2.1.2.2.1 x.1.2.1.2.2.2.1 x.2.1.1 x.2.1.2.1.1 x.2.1.2.1.2.1 x.2.1.2.1.2.2.1 x.2.1.2.1.2.2.2.1, fun (x : (Int × (Nat × Nat × Nat × (Nat → Int) × Unit) × Unit) × (Int × (Nat × Nat × Nat × (Nat → Int) × Unit) × Unit) × Unit) => (fun (f : Int) (al nl ml : Nat) (tl : Nat → Int) (g : Int) (am nm mm : Nat) (tm : Nat → Int) => (V29 f al nl ml tl g am nm mm tm) ((decide (f = g) && decide ((S.mkl nl fun j => tl (j + al)) = (S.mkl nm fun j => tm (j + am)))))) x.1.1 x.1.2.1.1 x.1.2.1.2.1 x.1.2.1.2.2.1 x.1.2.1.2.2.2.1 x.2.1.1 x.2.1.2.1.1 x.2.1.2.1.2.1 x.2.1.2.1.2.2.1 x.2.1.2.1.2.2.2.1, fun (x : (Int × (Nat × Nat × Nat × (Nat → Int) × Unit) × Unit) × (Int × (Nat × Nat × Nat × (Nat → Int) × Unit) × Unit) × Unit) => (fun (f : Int) (al nl ml : Nat) (tl : Nat → Int) (g : Int) (am nm mm : Nat) (tm : Nat → Int) => (N29 f al nl ml tl g am nm mm tm) ((decide (f = g) && decide ((S.mkl nl fun j => tl (j + al)) = (S.mkl nm fun j => tm (j + am)))))) x.1.1 x.1.2.1.1 x.1.2.1.2.1 x.1.2.1.2.2.1 x.1.2.1.2.2.2.1 x.2.1.1 x.2.1.2.1.1 x.2.1.2.1.2.1 x.2.1.2.1.2.2.1 x.2.1.2.1.2.2.2.1, fun _ _ => .dead⟩
theorem s29' (f : Int) (al nl ml : Nat) (tl : Nat → Int) (g : Int) (am nm mm : Nat) (tm : Nat → Int) (hp : al + nl ≤ ml ∧ nl ≤ 1000000 ∧ am + nm ≤ mm ∧ nm ≤ 1000000) (he : nl = nm) : ∀ k i : Nat, i + k = nl → (∀ j, j < i → tl (j + al) = tm (j + am)) → Comes (q29 f al nl ml tl g am nm mm tm) (.h0 (i : Int)) (decide ((S.mkl nl fun j => tl (j + al)) = (S.mkl nm fun j => tm (j + am)))) := by
  obtain ⟨hp1, hp2, hp3, hp4⟩ := hp
  have hq : decide ((S.mkl nl fun j => tl (j + al)) = (S.mkl nm fun j => tm (j + am))) = true ↔ ∀ j, j < nl → tl (j + al) = tm (j + am) := by rw [decide_eq_true_eq, mkl_inj]; simp only [he, true_and]
  generalize decide ((S.mkl nl fun j => tl (j + al)) = (S.mkl nm fun j => tm (j + am))) = R at hq ⊢
  intro k
  induction k with
  | zero =>
    intro i hi hj
    apply Comes.of
    show Goes _ _ _
    (first | rw [q29] | unfold q29)
    repeat' first
      | with_reducible refine goes_if (fun h => ?_) (fun h => ?_) <;> (try simp only [lim64, imp_false, decide_eq_true_eq, decide_eq_false_iff_not, Int.toNat_natCast, toNat_pred, toNat_succ, Option.getD_some, Option.getD_none, Bool.not_eq_true', Bool.not_eq_false', Bool.and_eq_true, Bool.or_eq_true, Bool.and_eq_false_iff, Bool.or_eq_false_iff, bne_iff_ne, beq_iff_eq, bne_eq_false_iff_eq, beq_eq_false_iff_ne, ne_eq, not_and, Int.not_le, Int.not_lt, ge_iff_le, gt_iff_lt, Nat.not_lt, Nat.not_le, Bool.not_eq_true, Bool.not_eq_false, Bool.true_eq_false, Bool.false_eq_true, not_false_eq_true, not_true_eq_false] at h)
      | exact goes_none.mpr (by omega)
    all_goals first | (exfalso; omega) | (exact goes_inr.mpr (hq.mpr fun j h => hj j (by omega)).symm)
  | succ k ih =>
    intro i hi hj
    have hw : ∀ {P : Prop}, (R = true → P) → ¬ P → false = R := fun h1 h2 => by cases R; rfl; exact absurd (h1 rfl) h2
    apply Comes.of
    show Goes _ _ _
    (first | rw [q29] | unfold q29)
    repeat' first
      | with_reducible refine goes_if (fun h => ?_) (fun h => ?_) <;> (try simp only [lim64, imp_false, decide_eq_true_eq, decide_eq_false_iff_not, Int.toNat_natCast, toNat_pred, toNat_succ, Option.getD_some, Option.getD_none, Bool.not_eq_true', Bool.not_eq_false', Bool.and_eq_true, Bool.or_eq_true, Bool.and_eq_false_iff, Bool.or_eq_false_iff, bne_iff_ne, beq_iff_eq, bne_eq_false_iff_eq, beq_eq_false_iff_ne, ne_eq, not_and, Int.not_le, Int.not_lt, ge_iff_le, gt_iff_lt, Nat.not_lt, Nat.not_le, Bool.not_eq_true, Bool.not_eq_false, Bool.true_eq_false, Bool.false_eq_true, not_false_eq_true, not_true_eq_false] at h)
      | exact goes_none.mpr (by omega)
    all_goals first
      | (exfalso; omega)
      | (refine ih (i + 1) (by omega) fun j hlt => ?_
         rcases Nat.lt_or_eq_of_le (Nat.le_of_lt_succ hlt) with h1 | h1
         · exact hj j h1
         · subst h1; simp_all)
      | (refine goes_inr.mpr (hw (fun e => hq.mp e i (by omega)) fun e => ?_); simp_all)
theorem s29 (f : Int) (al nl ml : Nat) (tl : Nat → Int) (g : Int) (am nm mm : Nat) (tm : Nat → Int) (hp : al + nl ≤ ml ∧ nl ≤ 1000000 ∧ am + nm ≤ mm ∧ nm ≤ 1000000) : Goes ((q29 f al nl ml tl g am nm mm tm)) ((p29 f al nl ml tl g am nm mm tm)) ((decide (f = g) && decide ((S.mkl nl fun j => tl (j + al)) = (S.mkl nm fun j => tm (j + am))))) := by
  by_cases hf : f = g
  · rw [decide_eq_true hf, Bool.true_and]
    by_cases he : nl = nm
    · have hm := s29' f al nl ml tl g am nm mm tm hp he nl 0 (by omega) (fun j hj => absurd hj (Nat.not_lt_zero j))
      show Goes _ _ _
      unfold p29
      repeat' first
        | with_reducible refine goes_if (fun h => ?_) (fun h => ?_) <;> (try simp only [lim64, imp_false, decide_eq_true_eq, decide_eq_false_iff_not, Int.toNat_natCast, toNat_pred, toNat_succ, Option.getD_some, Option.getD_none, Bool.not_eq_true', Bool.not_eq_false', Bool.and_eq_true, Bool.or_eq_true, Bool.and_eq_false_iff, Bool.or_eq_false_iff, bne_iff_ne, beq_iff_eq, bne_eq_false_iff_eq, beq_eq_false_iff_ne, ne_eq, not_and, Int.not_le, Int.not_lt, ge_iff_le, gt_iff_lt, Nat.not_lt, Nat.not_le, Bool.not_eq_true, Bool.not_eq_false, Bool.true_eq_false, Bool.false_eq_true, not_false_eq_true, not_true_eq_false] at h)
        | exact goes_none.mpr (by omega)
      all_goals first | (exfalso; omega) | exact hm
    · have hd : decide ((S.mkl nl fun j => tl (j + al)) = (S.mkl nm fun j => tm (j + am))) = false := decide_eq_false (fun e => he (mkl_inj.mp e).1)
      rw [hd]
      show Goes _ _ _
      unfold p29
      repeat' first
        | with_reducible refine goes_if (fun h => ?_) (fun h => ?_) <;> (try simp only [lim64, imp_false, decide_eq_true_eq, decide_eq_false_iff_not, Int.toNat_natCast, toNat_pred, toNat_succ, Option.getD_some, Option.getD_none, Bool.not_eq_true', Bool.not_eq_false', Bool.and_eq_true, Bool.or_eq_true, Bool.and_eq_false_iff, Bool.or_eq_false_iff, bne_iff_ne, beq_iff_eq, bne_eq_false_iff_eq, beq_eq_false_iff_ne, ne_eq, not_and, Int.not_le, Int.not_lt, ge_iff_le, gt_iff_lt, Nat.not_lt, Nat.not_le, Bool.not_eq_true, Bool.not_eq_false, Bool.true_eq_false, Bool.false_eq_true, not_false_eq_true, not_true_eq_false] at h)
        | exact goes_none.mpr (by omega)
      all_goals first | (exfalso; omega) | rfl
  · rw [decide_eq_false hf, Bool.false_and]
    show Goes _ _ _
    unfold p29
    repeat' first
      | with_reducible refine goes_if (fun h => ?_) (fun h => ?_) <;> (try simp only [lim64, imp_false, decide_eq_true_eq, decide_eq_false_iff_not, Int.toNat_natCast, toNat_pred, toNat_succ, Option.getD_some, Option.getD_none, Bool.not_eq_true', Bool.not_eq_false', Bool.and_eq_true, Bool.or_eq_true, Bool.and_eq_false_iff, Bool.or_eq_false_iff, bne_iff_ne, beq_iff_eq, bne_eq_false_iff_eq, beq_eq_false_iff_ne, ne_eq, not_and, Int.not_le, Int.not_lt, ge_iff_le, gt_iff_lt, Nat.not_lt, Nat.not_le, Bool.not_eq_true, Bool.not_eq_false, Bool.true_eq_false, Bool.false_eq_true, not_false_eq_true, not_true_eq_false] at h)
      | exact goes_none.mpr (by omega)
    all_goals first | (exfalso; omega) | rfl

theorem k29_ok : k29.ok Try.prog := by
  intro x hx
  obtain ⟨⟨f, ⟨al, nl, ml, tl, _⟩, _⟩, ⟨g, ⟨am, nm, mm, tm, _⟩, _⟩, _⟩ := x
  obtain ⟨h1, h2⟩ := a29 f al nl ml tl g am nm mm tm (s29 f al nl ml tl g am nm mm tm (of_dec hx rfl))
  exact ⟨⟨400, (by decide : 2 + 1 + 0 ≤ 400), h1⟩, h2⟩

end Go.Ev
