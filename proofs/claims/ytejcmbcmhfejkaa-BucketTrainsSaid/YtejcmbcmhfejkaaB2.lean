/-
  The error of a filling.
-/
import Derived.Test.YtejcmbcmhfejkaaB1
namespace Go.Ev
open Go.Proofs
set_option linter.unusedVariables false
set_option linter.unusedSimpArgs false
set_option maxRecDepth 100000
inductive St24 where
  | h0 (x0 : Int)
abbrev Rt24 := Int
noncomputable def V24 (hr : Int) (al nl ml : Nat) (tl : Nat → Int) (r : Rt24) : PV := PV.int IntKind.i64 r
noncomputable def N24 (hr : Int) (al nl ml : Nat) (tl : Nat → Int) (r : Rt24) : List Blk := []
noncomputable def I24 (hr : Int) (al nl ml : Nat) (tl : Nat → Int) : St24 → Hd
  | .h0 x0 => ⟨hd Try.f24 0, [PV.ptr (PA.mk (1) (0) (0) (0)),
 PV.loose (PA.mk (0) (1) al (0)) nl, PV.int IntKind.i64 (↑nl : Int),
 PV.int IntKind.i64 x0], [[(1, (true, Blk.cells [PV.int IntKind.i64 hr, PV.loose (PA.mk (0) (1) al (0)) nl]))], [(0, (false, .cols ml [.int .i64 tl]))]], 2⟩
noncomputable def q24 (hr : Int) (al nl ml : Nat) (tl : Nat → Int) : St24 → Option (St24 ⊕ Rt24)
  | .h0 x0 => bif (decide (x0 < (↑nl : Int)))
 then (bif (decide ((0 : Int) ≤ x0 ∧ x0 < (↑nl : Int)))
 then (bif (decide (Int.toNat x0 + al < ml))
 then (bif (decide (tl (Int.toNat x0 + al) ≥ (0 : Int)))
 then (bif (decide (tl (Int.toNat x0 + al) < hr))
 then (bif (decide (x0 > (0 : Int)))
 then (bif (lim IntKind.i64 (x0 - (1 : Int)))
 then (bif (decide ((0 : Int) ≤ x0 - (1 : Int) ∧ x0 - (1 : Int) < (↑nl : Int)))
 then (bif (decide (Int.toNat (x0 - (1 : Int)) + al < ml))
 then (bif (decide (tl (Int.toNat x0 + al) ≤ tl (Int.toNat (x0 - (1 : Int)) + al)))
 then (some (.inr ((15 : Int))))
 else (bif (lim IntKind.i64 (x0 + (1 : Int)))
 then (some (.inl (.h0 (x0 + (1 : Int)))))
 else (none)))
 else (none))
 else (none))
 else (none))
 else (bif (lim IntKind.i64 (x0 + (1 : Int)))
 then (some (.inl (.h0 (x0 + (1 : Int)))))
 else (none)))
 else (some (.inr ((6 : Int)))))
 else (some (.inr ((6 : Int)))))
 else (none))
 else (none))
 else (some (.inr ((0 : Int))))
noncomputable def p24 (hr : Int) (al nl ml : Nat) (tl : Nat → Int) : Option (St24 ⊕ Rt24) := bif (decide (hr ≥ (1 : Int)))
 then (bif (decide (hr ≤ (2000 : Int)))
 then (some (.inl (.h0 ((0 : Int)))))
 else (some (.inr ((6 : Int)))))
 else (some (.inr ((6 : Int))))
noncomputable def Te24 (test : Bool → Prop → Prop → Prop) (Kst : KS) (Kret : KR) (hr : Int) (al nl ml : Nat) (tl : Nat → Int) : Prop :=
  test (decide (hr ≥ (1 : Int)))
 (test (decide (hr ≤ (2000 : Int)))
 (Kst (hd Try.f24 0) ([PV.ptr (PA.mk (1) (0) (0) (0)),
 PV.loose (PA.mk (0) (1) al (0)) nl, PV.int IntKind.i64 (↑nl : Int),
 PV.int IntKind.i64 (0 : Int)]) ([[(0, false, Blk.cols ml [Col.int IntKind.i64 tl]),
 (1, true,
 Blk.cells
 [PV.int IntKind.i64 hr, PV.loose (PA.mk (0) (1) al (0)) nl])]]) (2))
 (Kret (PV.int IntKind.i64 (6 : Int)) ([[(0, false, Blk.cols ml [Col.int IntKind.i64 tl])]]) (2)))
 (Kret (PV.int IntKind.i64 (6 : Int)) ([[(0, false, Blk.cols ml [Col.int IntKind.i64 tl])]]) (2))
set_option maxRecDepth 100000 in
theorem te24 (test : Bool → Prop → Prop → Prop) (Kst : KS) (Kret : KR) (hr : Int) (al nl ml : Nat) (tl : Nat → Int) : run test Try.env true noX true 400 ⟨24, [.cd (mkFn Try.f24).body], argT 0 [.agg [.int .i64 hr, .loose ⟨0, 1, al, 0⟩ nl]], [[], [(0, (false, .cols ml [.int .i64 tl]))]], 1⟩ (proj 1 [1, 10, 11, 12] Kst Kret) =
  Te24 test Kst Kret hr al nl ml tl := by kernel_rfl
noncomputable def T24_0 (test : Bool → Prop → Prop → Prop) (Kst : KS) (Kret : KR) (hr : Int) (al nl ml : Nat) (tl : Nat → Int) (x0 : Int) : Prop :=
  test (decide (x0 < (↑nl : Int)))
 (test (decide ((0 : Int) ≤ x0 ∧ x0 < (↑nl : Int)))
 (test (decide (Int.toNat x0 + al < ml))
 (test (decide (tl (Int.toNat x0 + al) ≥ (0 : Int)))
 (test (decide (tl (Int.toNat x0 + al) < hr))
 (test (decide (x0 > (0 : Int)))
 (test (lim IntKind.i64 (x0 - (1 : Int)))
 (test (decide ((0 : Int) ≤ x0 - (1 : Int) ∧ x0 - (1 : Int) < (↑nl : Int)))
 (test (decide (Int.toNat (x0 - (1 : Int)) + al < ml))
 (test (decide (tl (Int.toNat x0 + al) ≤ tl (Int.toNat (x0 - (1 : Int)) + al)))
 (Kret (PV.int IntKind.i64 (15 : Int)) ([[(0, false, Blk.cols ml [Col.int IntKind.i64 tl])]]) (2))
 (test (lim IntKind.i64 (x0 + (1 : Int)))
 (Kst (hd Try.f24 0) ([PV.ptr (PA.mk (1) (0) (0) (0)),
 PV.loose (PA.mk (0) (1) al (0)) nl, PV.int IntKind.i64 (↑nl : Int),
 PV.int IntKind.i64 (x0 + (1 : Int))]) ([[(0, false, Blk.cols ml [Col.int IntKind.i64 tl]),
 (1, true,
 Blk.cells
 [PV.int IntKind.i64 hr, PV.loose (PA.mk (0) (1) al (0)) nl])]]) (2))
 (False)))
 (False))
 (False))
 (False))
 (test (lim IntKind.i64 (x0 + (1 : Int)))
 (Kst (hd Try.f24 0) ([PV.ptr (PA.mk (1) (0) (0) (0)),
 PV.loose (PA.mk (0) (1) al (0)) nl, PV.int IntKind.i64 (↑nl : Int),
 PV.int IntKind.i64 (x0 + (1 : Int))]) ([[(0, false, Blk.cols ml [Col.int IntKind.i64 tl]),
 (1, true,
 Blk.cells
 [PV.int IntKind.i64 hr, PV.loose (PA.mk (0) (1) al (0)) nl])]]) (2))
 (False)))
 (Kret (PV.int IntKind.i64 (6 : Int)) ([[(0, false, Blk.cols ml [Col.int IntKind.i64 tl])]]) (2)))
 (Kret (PV.int IntKind.i64 (6 : Int)) ([[(0, false, Blk.cols ml [Col.int IntKind.i64 tl])]]) (2)))
 (False))
 (False))
 (Kret (PV.int IntKind.i64 (0 : Int)) ([[(0, false, Blk.cols ml [Col.int IntKind.i64 tl])]]) (2))
set_option maxRecDepth 100000 in
theorem t24_0 (test : Bool → Prop → Prop → Prop) (Kst : KS) (Kret : KR) (hr : Int) (al nl ml : Nat) (tl : Nat → Int) (x0 : Int) : run test Try.env true noX true 400 ⟨24, hd Try.f24 0, zipT [1, 10, 11, 12] [PV.ptr (PA.mk (1) (0) (0) (0)),
 PV.loose (PA.mk (0) (1) al (0)) nl, PV.int IntKind.i64 (↑nl : Int),
 PV.int IntKind.i64 x0], [[(1, (true, Blk.cells [PV.int IntKind.i64 hr, PV.loose (PA.mk (0) (1) al (0)) nl]))], [(0, (false, .cols ml [.int .i64 tl]))]], 2⟩ (proj 1 [1, 10, 11, 12] Kst Kret) =
  T24_0 test Kst Kret hr al nl ml tl x0 := by kernel_rfl
attribute [local irreducible] Int.subNatNat in
set_option maxRecDepth 100000 in
theorem be24 (hr : Int) (al nl ml : Nat) (tl : Nat → Int) (Kst : KS) (Kret : KR) (x : St24 ⊕ Rt24) (hS : HS 1 400 ((I24 hr al nl ml tl)) Kst x) (hR : HR 1 400 ((V24 hr al nl ml tl)) (fun r => [newL (1 + 1) ((N24 hr al nl ml tl) r) ++ [(0, (false, .cols ml [.int .i64 tl]))]]) Kret x) (h : (bif (decide (hr ≥ (1 : Int)))
 then (bif (decide (hr ≤ (2000 : Int)))
 then (some (.inl (.h0 ((0 : Int)))))
 else (some (.inr ((6 : Int)))))
 else (some (.inr ((6 : Int)))) : Option (St24 ⊕ Rt24)) = some x) : Te24 cond Kst Kret hr al nl ml tl := by
  unfold Te24
  exact bif_split h
   (fun c0 h => bif_split h
   (fun c1 h => stop_at hS _ h (fun n => bif Nat.beq n 1 then 1 else n) rfl rfl rfl ⟨(rn_ptr (use_own rfl) rfl rfl), ⟨(rn_loose (use_lo rfl) rfl rfl rfl), ⟨(rn_int rfl), ⟨(rn_int rfl), trivial⟩⟩⟩⟩ rfl (entl_b (use_own rfl) rfl (by simp) (rb_cells ⟨(rn_int rfl), (rn_loose (use_lo rfl) rfl rfl rfl), trivial⟩) (entl_bor (use_lo rfl) rfl rfl entl_nil)))
   (fun c1 h => ret_at hR _ h (fun n => n) rfl rfl rfl (rn_int rfl) rfl (entl_bor (use_lo rfl) rfl rfl entl_nil)))
   (fun c0 h => ret_at hR _ h (fun n => n) rfl rfl rfl (rn_int rfl) rfl (entl_bor (use_lo rfl) rfl rfl entl_nil))
attribute [local irreducible] Int.subNatNat in
set_option maxRecDepth 100000 in
theorem b24_0 (hr : Int) (al nl ml : Nat) (tl : Nat → Int) (Kst : KS) (Kret : KR) (x : St24 ⊕ Rt24) (hS : HS 1 400 ((I24 hr al nl ml tl)) Kst x) (hR : HR 1 400 ((V24 hr al nl ml tl)) (fun r => [newL (1 + 1) ((N24 hr al nl ml tl) r) ++ [(0, (false, .cols ml [.int .i64 tl]))]]) Kret x) (x0 : Int) (h : (bif (decide (x0 < (↑nl : Int)))
 then (bif (decide ((0 : Int) ≤ x0 ∧ x0 < (↑nl : Int)))
 then (bif (decide (Int.toNat x0 + al < ml))
 then (bif (decide (tl (Int.toNat x0 + al) ≥ (0 : Int)))
 then (bif (decide (tl (Int.toNat x0 + al) < hr))
 then (bif (decide (x0 > (0 : Int)))
 then (bif (lim IntKind.i64 (x0 - (1 : Int)))
 then (bif (decide ((0 : Int) ≤ x0 - (1 : Int) ∧ x0 - (1 : Int) < (↑nl : Int)))
 then (bif (decide (Int.toNat (x0 - (1 : Int)) + al < ml))
 then (bif (decide (tl (Int.toNat x0 + al) ≤ tl (Int.toNat (x0 - (1 : Int)) + al)))
 then (some (.inr ((15 : Int))))
 else (bif (lim IntKind.i64 (x0 + (1 : Int)))
 then (some (.inl (.h0 (x0 + (1 : Int)))))
 else (none)))
 else (none))
 else (none))
 else (none))
 else (bif (lim IntKind.i64 (x0 + (1 : Int)))
 then (some (.inl (.h0 (x0 + (1 : Int)))))
 else (none)))
 else (some (.inr ((6 : Int)))))
 else (some (.inr ((6 : Int)))))
 else (none))
 else (none))
 else (some (.inr ((0 : Int)))) : Option (St24 ⊕ Rt24)) = some x) : T24_0 cond Kst Kret hr al nl ml tl x0 := by
  unfold T24_0
  exact bif_split h
   (fun c0 h => bif_split h
   (fun c1 h => bif_split h
   (fun c2 h => bif_split h
   (fun c3 h => bif_split h
   (fun c4 h => bif_split h
   (fun c5 h => bif_split h
   (fun c6 h => bif_split h
   (fun c7 h => bif_split h
   (fun c8 h => bif_split h
   (fun c9 h => ret_at hR _ h (fun n => n) rfl rfl rfl (rn_int rfl) rfl (entl_bor (use_lo rfl) rfl rfl entl_nil))
   (fun c9 h => bif_split h
   (fun c10 h => stop_at hS _ h (fun n => bif Nat.beq n 1 then 1 else n) rfl rfl rfl ⟨(rn_ptr (use_own rfl) rfl rfl), ⟨(rn_loose (use_lo rfl) rfl rfl rfl), ⟨(rn_int rfl), ⟨(rn_int rfl), trivial⟩⟩⟩⟩ rfl (entl_b (use_own rfl) rfl (by simp) (rb_cells ⟨(rn_int rfl), (rn_loose (use_lo rfl) rfl rfl rfl), trivial⟩) (entl_bor (use_lo rfl) rfl rfl entl_nil)))
   (fun c10 h => no_some h)))
   (fun c8 h => no_some h))
   (fun c7 h => no_some h))
   (fun c6 h => no_some h))
   (fun c5 h => bif_split h
   (fun c6 h => stop_at hS _ h (fun n => bif Nat.beq n 1 then 1 else n) rfl rfl rfl ⟨(rn_ptr (use_own rfl) rfl rfl), ⟨(rn_loose (use_lo rfl) rfl rfl rfl), ⟨(rn_int rfl), ⟨(rn_int rfl), trivial⟩⟩⟩⟩ rfl (entl_b (use_own rfl) rfl (by simp) (rb_cells ⟨(rn_int rfl), (rn_loose (use_lo rfl) rfl rfl rfl), trivial⟩) (entl_bor (use_lo rfl) rfl rfl entl_nil)))
   (fun c6 h => no_some h)))
   (fun c4 h => ret_at hR _ h (fun n => n) rfl rfl rfl (rn_int rfl) rfl (entl_bor (use_lo rfl) rfl rfl entl_nil)))
   (fun c3 h => ret_at hR _ h (fun n => n) rfl rfl rfl (rn_int rfl) rfl (entl_bor (use_lo rfl) rfl rfl entl_nil)))
   (fun c2 h => no_some h))
   (fun c1 h => no_some h))
   (fun c0 h => ret_at hR _ h (fun n => n) rfl rfl rfl (rn_int rfl) rfl (entl_bor (use_lo rfl) rfl rfl entl_nil))
theorem a24 (hr : Int) (al nl ml : Nat) (tl : Nat → Int) {r : Rt24} (h : Goes ((q24 hr al nl ml tl)) ((p24 hr al nl ml tl)) r) : CallR Try.prog 24 [.agg [.int .i64 hr, .loose ⟨0, 1, al, 0⟩ nl]] [[(0, (false, .cols ml [.int .i64 tl]))]] 1 ((V24 hr al nl ml tl) r) ((fun r => [newL (1 + 1) ((N24 hr al nl ml tl) r) ++ [(0, (false, .cols ml [.int .i64 tl]))]]) r) 400 ∧ ∃ F, Try.prog.funcs[24]? = some F ∧ F.body.isSome = true ∧ (F.name == "runtime.NumGoroutine") = false := by
  refine dec_calls (f := 24) (lo := 1) (hi := 400) (H := [[(0, (false, .cols ml [.int .i64 tl]))]]) (args := [.agg [.int .i64 hr, .loose ⟨0, 1, al, 0⟩ nl]]) Try.envOk Try.mixed noX_ok ((I24 hr al nl ml tl)) ((V24 hr al nl ml tl)) (fun r => [newL (1 + 1) ((N24 hr al nl ml tl) r) ++ [(0, (false, .cols ml [.int .i64 tl]))]]) (fn := mkFn Try.f24) (ts := [1, 10, 11, 12]) (n := 400) rfl (by decide) (by simp) (names_of rfl) ?_ ?_ ?_ h
  · intro s; cases s <;> exact ⟨hd_ok _ _, by simp [I24], names_of rfl, Nat.le_of_ble_eq_true rfl⟩
  · intro Kst Kret x hS hR h
    exact Holds.eq (te24 cond Kst Kret hr al nl ml tl) (be24 hr al nl ml tl Kst Kret x hS hR h)
  · intro Kst Kret x hS hR s h
    cases s with
    | h0 x0 => exact Holds.eq (t24_0 cond Kst Kret hr al nl ml tl x0) (b24_0 hr al nl ml tl Kst Kret x hS hR x0 h)
noncomputable def k24 : Con := ⟨24, [.agg [.plain (.int .i64), .list [.int .i64]]], fun (x : (Int × (Nat × Nat × Nat × (Nat → Int) × Unit) × Unit) × Unit) => (fun (hr : Int) (al nl ml : Nat) (tl : Nat → Int) => decide (al + nl ≤ ml ∧ nl ≤ 1000000)) x.1.1 x.1.2.1.1 x.1.2.1.2.1 x.1.2.1.2.2.1 x.1.2.1.2.2.2.1, fun (x : (Int × (Nat × Nat × Nat × (Nat → Int) × Unit) × Unit) × Unit) => (fun (hr : Int) (al nl ml : Nat) (tl : Nat → Int) => (V24 hr al nl ml tl) (S.filE hr nl (fun j => tl (j + al)))) x.1.1 x.1.2.1.1 x.1.2.1.2.1 x.1.2.1.2.2.1 x.1.2.1.2.2.2.1, fun (x : (Int × (Nat × Nat × Nat × (Nat → Int) × Unit) × Unit) × Unit) => (fun (hr : Int) (al nl ml : Nat) (tl : Nat → Int) => (N24 hr al nl ml tl) (S.filE hr nl (fun j => tl (j + al)))) x.1.1 x.1.2.1.1 x.1.2.1.2.1 x.1.2.1.2.2.1 x.1.2.1.2.2.2.1, fun _ _ => .dead⟩
theorem s24' (hr : Int) (al nl ml : Nat) (tl : Nat → Int) (hp : al + nl ≤ ml ∧ nl ≤ 1000000) : ∀ k i : Nat, i + k = nl → Comes (q24 hr al nl ml tl) (.h0 (i : Int)) (S.fillE hr (fun j => tl (j + al)) i k) := by
  obtain ⟨hp1, hp2⟩ := hp
  intro k
  induction k with
  | zero =>
    intro i hi
    apply Comes.of
    show Goes _ _ _
    (first | rw [q24] | unfold q24)
    repeat' first
      | with_reducible refine goes_if (fun h => ?_) (fun h => ?_) <;> (try simp only [lim64, imp_false, decide_eq_true_eq, decide_eq_false_iff_not, Int.toNat_natCast, toNat_pred, toNat_succ, Option.getD_some, Option.getD_none, Bool.not_eq_true', Bool.not_eq_false', Bool.and_eq_true, Bool.or_eq_true, Bool.and_eq_false_iff, Bool.or_eq_false_iff, bne_iff_ne, beq_iff_eq, bne_eq_false_iff_eq, beq_eq_false_iff_ne, ne_eq, not_and, Int.not_le, Int.not_lt, ge_iff_le, gt_iff_lt, Nat.not_lt, Nat.not_le, Bool.not_eq_true, Bool.not_eq_false, Bool.true_eq_false, Bool.false_eq_true, not_false_eq_true, not_true_eq_false] at h)
      | exact goes_none.mpr (by omega)
    all_goals first | (exfalso; omega) | rfl
  | succ k ih =>
    intro i hi
    have ih := ih (i + 1) (by omega)
    have e1 : 0 < i → ((i : Int) - 1).toNat = i - 1 := fun _ => by omega
    by_cases h0 : i = 0
    · subst h0
      apply Comes.of
      show Goes _ _ _
      (first | rw [q24] | unfold q24)
      repeat' first
        | with_reducible refine goes_if (fun h => ?_) (fun h => ?_) <;> (try simp only [lim64, imp_false, decide_eq_true_eq, decide_eq_false_iff_not, Int.toNat_natCast, toNat_pred, toNat_succ, Option.getD_some, Option.getD_none, Bool.not_eq_true', Bool.not_eq_false', Bool.and_eq_true, Bool.or_eq_true, Bool.and_eq_false_iff, Bool.or_eq_false_iff, bne_iff_ne, beq_iff_eq, bne_eq_false_iff_eq, beq_eq_false_iff_ne, ne_eq, not_and, Int.not_le, Int.not_lt, ge_iff_le, gt_iff_lt, Nat.not_lt, Nat.not_le, Bool.not_eq_true, Bool.not_eq_false, Bool.true_eq_false, Bool.false_eq_true, not_false_eq_true, not_true_eq_false] at h)
        | exact goes_none.mpr (by omega)
      all_goals first | (exfalso; omega) | rfl | (refine Eq.mpr (congrArg (Comes _ _) ?_) ih; simp only [S.fillE]; (repeat' split) <;> first | rfl | omega | (exfalso; omega) | (exfalso; simp_all; done) | (exfalso; simp_all; omega) | simp_all) | (refine goes_inr.mpr ?_; simp only [S.fillE]; (repeat' split) <;> first | rfl | omega | (exfalso; omega) | (exfalso; simp_all; done) | (exfalso; simp_all; omega) | simp_all)
    · rw [show S.fillE hr (fun j => tl (j + al)) i (k + 1) = if 0 ≤ tl (i + al) ∧ tl (i + al) < hr then (if 0 < i ∧ tl (i + al) ≤ tl (i - 1 + al) then 15 else S.fillE hr (fun j => tl (j + al)) (i + 1) k) else 6 from rfl]
      apply Comes.of
      rw [q24]
      simp only [e1 (by omega), Int.toNat_natCast]
      repeat' first
        | with_reducible refine goes_if (fun h => ?_) (fun h => ?_) <;> (try simp only [lim64, imp_false, decide_eq_true_eq, decide_eq_false_iff_not, Int.toNat_natCast, toNat_pred, toNat_succ, Option.getD_some, Option.getD_none, Bool.not_eq_true', Bool.not_eq_false', Bool.and_eq_true, Bool.or_eq_true, Bool.and_eq_false_iff, Bool.or_eq_false_iff, bne_iff_ne, beq_iff_eq, bne_eq_false_iff_eq, beq_eq_false_iff_ne, ne_eq, not_and, Int.not_le, Int.not_lt, ge_iff_le, gt_iff_lt, Nat.not_lt, Nat.not_le, Bool.not_eq_true, Bool.not_eq_false, Bool.true_eq_false, Bool.false_eq_true, not_false_eq_true, not_true_eq_false] at h)
        | exact goes_none.mpr (by omega)
      all_goals first | (exfalso; omega) | (rw [if_pos (by omega), if_neg (by omega)]; exact ih) | (rw [if_pos (by omega), if_pos (by omega)]; rfl) | (rw [if_neg (by omega)]; rfl)
theorem s24 (hr : Int) (al nl ml : Nat) (tl : Nat → Int) (hp : al + nl ≤ ml ∧ nl ≤ 1000000) : Goes ((q24 hr al nl ml tl)) ((p24 hr al nl ml tl)) (S.filE hr nl (fun j => tl (j + al))) := by
  have hm := s24' hr al nl ml tl hp nl 0 (by omega)
  obtain ⟨hp1, hp2⟩ := hp
  unfold S.filE
  by_cases hr0 : 1 ≤ hr ∧ hr ≤ 2000
  · rw [if_pos hr0]
    show Goes _ _ _
    unfold p24
    repeat' first
      | with_reducible refine goes_if (fun h => ?_) (fun h => ?_) <;> (try simp only [lim64, imp_false, decide_eq_true_eq, decide_eq_false_iff_not, Int.toNat_natCast, toNat_pred, toNat_succ, Option.getD_some, Option.getD_none, Bool.not_eq_true', Bool.not_eq_false', Bool.and_eq_true, Bool.or_eq_true, Bool.and_eq_false_iff, Bool.or_eq_false_iff, bne_iff_ne, beq_iff_eq, bne_eq_false_iff_eq, beq_eq_false_iff_ne, ne_eq, not_and, Int.not_le, Int.not_lt, ge_iff_le, gt_iff_lt, Nat.not_lt, Nat.not_le, Bool.not_eq_true, Bool.not_eq_false, Bool.true_eq_false, Bool.false_eq_true, not_false_eq_true, not_true_eq_false] at h)
      | exact goes_none.mpr (by omega)
    all_goals first | (exfalso; omega) | exact hm
  · rw [if_neg hr0]
    show Goes _ _ _
    unfold p24
    repeat' first
      | with_reducible refine goes_if (fun h => ?_) (fun h => ?_) <;> (try simp only [lim64, imp_false, decide_eq_true_eq, decide_eq_false_iff_not, Int.toNat_natCast, toNat_pred, toNat_succ, Option.getD_some, Option.getD_none, Bool.not_eq_true', Bool.not_eq_false', Bool.and_eq_true, Bool.or_eq_true, Bool.and_eq_false_iff, Bool.or_eq_false_iff, bne_iff_ne, beq_iff_eq, bne_eq_false_iff_eq, beq_eq_false_iff_ne, ne_eq, not_and, Int.not_le, Int.not_lt, ge_iff_le, gt_iff_lt, Nat.not_lt, Nat.not_le, Bool.not_eq_true, Bool.not_eq_false, Bool.true_eq_false, Bool.false_eq_true, not_false_eq_true, not_true_eq_false] at h)
      | exact goes_none.mpr (by omega)
    all_goals first | (exfalso; omega) | rfl

theorem k24_ok : k24.ok Try.prog := by
  intro x hx
  obtain ⟨⟨hr, ⟨al, nl, ml, tl, _⟩, _⟩, _⟩ := x
  obtain ⟨h1, h2⟩ := a24 hr al nl ml tl (s24 hr al nl ml tl (of_dec hx rfl))
  exact ⟨⟨400, (by decide : 1 + 1 + 0 ≤ 400), h1⟩, h2⟩
inductive St25 where
  | h0 (x0 : Int)
abbrev Rt25 := Int
noncomputable def V25 (hr : Int) (al nl ml : Nat) (tl : Nat → Int) (r : Rt25) : PV := PV.int IntKind.i64 r
noncomputable def N25 (hr : Int) (al nl ml : Nat) (tl : Nat → Int) (r : Rt25) : List Blk := []
noncomputable def I25 (hr : Int) (al nl ml : Nat) (tl : Nat → Int) : St25 → Hd
  | .h0 x0 => ⟨hd Try.f25 0, [PV.ptr (PA.mk (1) (0) (0) (0)), PV.int IntKind.i64 x0], [[(1, (true, Blk.cells [PV.int IntKind.i64 hr, PV.loose (PA.mk (0) (1) al (0)) nl]))], [(0, (false, .cols ml [.int .i64 tl]))]], 2⟩
noncomputable def q25 (hr : Int) (al nl ml : Nat) (tl : Nat → Int) : St25 → Option (St25 ⊕ Rt25)
  | .h0 x0 => bif (decide (x0 < (↑nl : Int)))
 then (bif (decide ((0 : Int) ≤ x0 ∧ x0 < (↑nl : Int)))
 then (bif (decide (Int.toNat x0 + al < ml))
 then (bif (decide (tl (Int.toNat x0 + al) < (0 : Int)))
 then (some (.inr ((6 : Int))))
 else (bif (decide (tl (Int.toNat x0 + al) ≥ hr))
 then (some (.inr ((6 : Int))))
 else (bif (decide (x0 > (0 : Int)))
 then (bif (lim IntKind.i64 (x0 - (1 : Int)))
 then (bif (decide ((0 : Int) ≤ x0 - (1 : Int) ∧ x0 - (1 : Int) < (↑nl : Int)))
 then (bif (decide (Int.toNat (x0 - (1 : Int)) + al < ml))
 then (bif (decide (tl (Int.toNat x0 + al) ≤ tl (Int.toNat (x0 - (1 : Int)) + al)))
 then (some (.inr ((15 : Int))))
 else (bif (lim IntKind.i64 (x0 + (1 : Int)))
 then (some (.inl (.h0 (x0 + (1 : Int)))))
 else (none)))
 else (none))
 else (none))
 else (none))
 else (bif (lim IntKind.i64 (x0 + (1 : Int)))
 then (some (.inl (.h0 (x0 + (1 : Int)))))
 else (none)))))
 else (none))
 else (none))
 else (some (.inr ((0 : Int))))
noncomputable def p25 (hr : Int) (al nl ml : Nat) (tl : Nat → Int) : Option (St25 ⊕ Rt25) := bif (decide (hr ≥ (1 : Int)))
 then (bif (decide (hr ≤ (2000 : Int)))
 then (bif (decide ((0 : Int) < hr))
 then (some (.inl (.h0 ((0 : Int)))))
 else (some (.inr ((6 : Int)))))
 else (some (.inr ((6 : Int)))))
 else (some (.inr ((6 : Int))))
noncomputable def Te25 (test : Bool → Prop → Prop → Prop) (Kst : KS) (Kret : KR) (hr : Int) (al nl ml : Nat) (tl : Nat → Int) : Prop :=
  test (decide (hr ≥ (1 : Int)))
 (test (decide (hr ≤ (2000 : Int)))
 (test (true)
 (test (decide ((0 : Int) < hr))
 (Kst (hd Try.f25 0) ([PV.ptr (PA.mk (1) (0) (0) (0)), PV.int IntKind.i64 (0 : Int)]) ([[(0, false, Blk.cols ml [Col.int IntKind.i64 tl]),
 (1, true,
 Blk.cells
 [PV.int IntKind.i64 hr, PV.loose (PA.mk (0) (1) al (0)) nl])]]) (2))
 (Kret (PV.int IntKind.i64 (6 : Int)) ([[(0, false, Blk.cols ml [Col.int IntKind.i64 tl])]]) (2)))
 (Kret (PV.int IntKind.i64 (6 : Int)) ([[(0, false, Blk.cols ml [Col.int IntKind.i64 tl])]]) (2)))
 (Kret (PV.int IntKind.i64 (6 : Int)) ([[(0, false, Blk.cols ml [Col.int IntKind.i64 tl])]]) (2)))
 (Kret (PV.int IntKind.i64 (6 : Int)) ([[(0, false, Blk.cols ml [Col.int IntKind.i64 tl])]]) (2))
set_option maxRecDepth 100000 in
theorem te25 (test : Bool → Prop → Prop → Prop) (Kst : KS) (Kret : KR) (hr : Int) (al nl ml : Nat) (tl : Nat → Int) : run test Try.env true noX true 400 ⟨25, [.cd (mkFn Try.f25).body], argT 0 [.agg [.int .i64 hr, .loose ⟨0, 1, al, 0⟩ nl]], [[], [(0, (false, .cols ml [.int .i64 tl]))]], 1⟩ (proj 1 [1, 3] Kst Kret) =
  Te25 test Kst Kret hr al nl ml tl := by kernel_rfl
noncomputable def T25_0 (test : Bool → Prop → Prop → Prop) (Kst : KS) (Kret : KR) (hr : Int) (al nl ml : Nat) (tl : Nat → Int) (x0 : Int) : Prop :=
  test (decide (x0 < (↑nl : Int)))
 (test (decide ((0 : Int) ≤ x0 ∧ x0 < (↑nl : Int)))
 (test (decide (Int.toNat x0 + al < ml))
 (test (decide (tl (Int.toNat x0 + al) < (0 : Int)))
 (Kret (PV.int IntKind.i64 (6 : Int)) ([[(0, false, Blk.cols ml [Col.int IntKind.i64 tl])]]) (2))
 (test (decide ((0 : Int) ≤ x0 ∧ x0 < (↑nl : Int)))
 (test (decide (Int.toNat x0 + al < ml))
 (test (decide (tl (Int.toNat x0 + al) ≥ hr))
 (Kret (PV.int IntKind.i64 (6 : Int)) ([[(0, false, Blk.cols ml [Col.int IntKind.i64 tl])]]) (2))
 (test (decide (x0 > (0 : Int)))
 (test (decide ((0 : Int) ≤ x0 ∧ x0 < (↑nl : Int)))
 (test (decide (Int.toNat x0 + al < ml))
 (test (lim IntKind.i64 (x0 - (1 : Int)))
 (test (decide ((0 : Int) ≤ x0 - (1 : Int) ∧ x0 - (1 : Int) < (↑nl : Int)))
 (test (decide (Int.toNat (x0 - (1 : Int)) + al < ml))
 (test (decide (tl (Int.toNat x0 + al) ≤ tl (Int.toNat (x0 - (1 : Int)) + al)))
 (Kret (PV.int IntKind.i64 (15 : Int)) ([[(0, false, Blk.cols ml [Col.int IntKind.i64 tl])]]) (2))
 (test (lim IntKind.i64 (x0 + (1 : Int)))
 (Kst (hd Try.f25 0) ([PV.ptr (PA.mk (1) (0) (0) (0)),
 PV.int IntKind.i64 (x0 + (1 : Int))]) ([[(0, false, Blk.cols ml [Col.int IntKind.i64 tl]),
 (1, true,
 Blk.cells
 [PV.int IntKind.i64 hr, PV.loose (PA.mk (0) (1) al (0)) nl])]]) (2))
 (False)))
 (False))
 (False))
 (False))
 (False))
 (False))
 (test (lim IntKind.i64 (x0 + (1 : Int)))
 (Kst (hd Try.f25 0) ([PV.ptr (PA.mk (1) (0) (0) (0)),
 PV.int IntKind.i64 (x0 + (1 : Int))]) ([[(0, false, Blk.cols ml [Col.int IntKind.i64 tl]),
 (1, true,
 Blk.cells
 [PV.int IntKind.i64 hr, PV.loose (PA.mk (0) (1) al (0)) nl])]]) (2))
 (False))))
 (False))
 (False)))
 (False))
 (False))
 (Kret (PV.int IntKind.i64 (0 : Int)) ([[(0, false, Blk.cols ml [Col.int IntKind.i64 tl])]]) (2))
set_option maxRecDepth 100000 in
theorem t25_0 (test : Bool → Prop → Prop → Prop) (Kst : KS) (Kret : KR) (hr : Int) (al nl ml : Nat) (tl : Nat → Int) (x0 : Int) : run test Try.env true noX true 400 ⟨25, hd Try.f25 0, zipT [1, 3] [PV.ptr (PA.mk (1) (0) (0) (0)), PV.int IntKind.i64 x0], [[(1, (true, Blk.cells [PV.int IntKind.i64 hr, PV.loose (PA.mk (0) (1) al (0)) nl]))], [(0, (false, .cols ml [.int .i64 tl]))]], 2⟩ (proj 1 [1, 3] Kst Kret) =
  T25_0 test Kst Kret hr al nl ml tl x0 := by kernel_rfl
attribute [local irreducible] Int.subNatNat in
set_option maxRecDepth 100000 in
theorem be25 (hr : Int) (al nl ml : Nat) (tl : Nat → Int) (Kst : KS) (Kret : KR) (x : St25 ⊕ Rt25) (hS : HS 1 400 ((I25 hr al nl ml tl)) Kst x) (hR : HR 1 400 ((V25 hr al nl ml tl)) (fun r => [newL (1 + 1) ((N25 hr al nl ml tl) r) ++ [(0, (false, .cols ml [.int .i64 tl]))]]) Kret x) (h : (bif (decide (hr ≥ (1 : Int)))
 then (bif (decide (hr ≤ (2000 : Int)))
 then (bif (decide ((0 : Int) < hr))
 then (some (.inl (.h0 ((0 : Int)))))
 else (some (.inr ((6 : Int)))))
 else (some (.inr ((6 : Int)))))
 else (some (.inr ((6 : Int)))) : Option (St25 ⊕ Rt25)) = some x) : Te25 cond Kst Kret hr al nl ml tl := by
  unfold Te25
  exact bif_split h
   (fun c0 h => bif_split h
   (fun c1 h => cond_yes rfl (bif_split h
   (fun c2 h => stop_at hS _ h (fun n => bif Nat.beq n 1 then 1 else n) rfl rfl rfl ⟨(rn_ptr (use_own rfl) rfl rfl), ⟨(rn_int rfl), trivial⟩⟩ rfl (entl_b (use_own rfl) rfl (by simp) (rb_cells ⟨(rn_int rfl), (rn_loose (use_lo rfl) rfl rfl rfl), trivial⟩) (entl_bor (use_lo rfl) rfl rfl entl_nil)))
   (fun c2 h => ret_at hR _ h (fun n => n) rfl rfl rfl (rn_int rfl) rfl (entl_bor (use_lo rfl) rfl rfl entl_nil))))
   (fun c1 h => ret_at hR _ h (fun n => n) rfl rfl rfl (rn_int rfl) rfl (entl_bor (use_lo rfl) rfl rfl entl_nil)))
   (fun c0 h => ret_at hR _ h (fun n => n) rfl rfl rfl (rn_int rfl) rfl (entl_bor (use_lo rfl) rfl rfl entl_nil))
attribute [local irreducible] Int.subNatNat in
set_option maxRecDepth 100000 in
theorem b25_0 (hr : Int) (al nl ml : Nat) (tl : Nat → Int) (Kst : KS) (Kret : KR) (x : St25 ⊕ Rt25) (hS : HS 1 400 ((I25 hr al nl ml tl)) Kst x) (hR : HR 1 400 ((V25 hr al nl ml tl)) (fun r => [newL (1 + 1) ((N25 hr al nl ml tl) r) ++ [(0, (false, .cols ml [.int .i64 tl]))]]) Kret x) (x0 : Int) (h : (bif (decide (x0 < (↑nl : Int)))
 then (bif (decide ((0 : Int) ≤ x0 ∧ x0 < (↑nl : Int)))
 then (bif (decide (Int.toNat x0 + al < ml))
 then (bif (decide (tl (Int.toNat x0 + al) < (0 : Int)))
 then (some (.inr ((6 : Int))))
 else (bif (decide (tl (Int.toNat x0 + al) ≥ hr))
 then (some (.inr ((6 : Int))))
 else (bif (decide (x0 > (0 : Int)))
 then (bif (lim IntKind.i64 (x0 - (1 : Int)))
 then (bif (decide ((0 : Int) ≤ x0 - (1 : Int) ∧ x0 - (1 : Int) < (↑nl : Int)))
 then (bif (decide (Int.toNat (x0 - (1 : Int)) + al < ml))
 then (bif (decide (tl (Int.toNat x0 + al) ≤ tl (Int.toNat (x0 - (1 : Int)) + al)))
 then (some (.inr ((15 : Int))))
 else (bif (lim IntKind.i64 (x0 + (1 : Int)))
 then (some (.inl (.h0 (x0 + (1 : Int)))))
 else (none)))
 else (none))
 else (none))
 else (none))
 else (bif (lim IntKind.i64 (x0 + (1 : Int)))
 then (some (.inl (.h0 (x0 + (1 : Int)))))
 else (none)))))
 else (none))
 else (none))
 else (some (.inr ((0 : Int)))) : Option (St25 ⊕ Rt25)) = some x) : T25_0 cond Kst Kret hr al nl ml tl x0 := by
  unfold T25_0
  exact bif_split h
   (fun c0 h => bif_split h
   (fun c1 h => bif_split h
   (fun c2 h => bif_split h
   (fun c3 h => ret_at hR _ h (fun n => n) rfl rfl rfl (rn_int rfl) rfl (entl_bor (use_lo rfl) rfl rfl entl_nil))
   (fun c3 h => cond_yes c1 (cond_yes c2 (bif_split h
   (fun c4 h => ret_at hR _ h (fun n => n) rfl rfl rfl (rn_int rfl) rfl (entl_bor (use_lo rfl) rfl rfl entl_nil))
   (fun c4 h => bif_split h
   (fun c5 h => cond_yes c1 (cond_yes c2 (bif_split h
   (fun c6 h => bif_split h
   (fun c7 h => bif_split h
   (fun c8 h => bif_split h
   (fun c9 h => ret_at hR _ h (fun n => n) rfl rfl rfl (rn_int rfl) rfl (entl_bor (use_lo rfl) rfl rfl entl_nil))
   (fun c9 h => bif_split h
   (fun c10 h => stop_at hS _ h (fun n => bif Nat.beq n 1 then 1 else n) rfl rfl rfl ⟨(rn_ptr (use_own rfl) rfl rfl), ⟨(rn_int rfl), trivial⟩⟩ rfl (entl_b (use_own rfl) rfl (by simp) (rb_cells ⟨(rn_int rfl), (rn_loose (use_lo rfl) rfl rfl rfl), trivial⟩) (entl_bor (use_lo rfl) rfl rfl entl_nil)))
   (fun c10 h => no_some h)))
   (fun c8 h => no_some h))
   (fun c7 h => no_some h))
   (fun c6 h => no_some h))))
   (fun c5 h => bif_split h
   (fun c6 h => stop_at hS _ h (fun n => bif Nat.beq n 1 then 1 else n) rfl rfl rfl ⟨(rn_ptr (use_own rfl) rfl rfl), ⟨(rn_int rfl), trivial⟩⟩ rfl (entl_b (use_own rfl) rfl (by simp) (rb_cells ⟨(rn_int rfl), (rn_loose (use_lo rfl) rfl rfl rfl), trivial⟩) (entl_bor (use_lo rfl) rfl rfl entl_nil)))
   (fun c6 h => no_some h)))))))
   (fun c2 h => no_some h))
   (fun c1 h => no_some h))
   (fun c0 h => ret_at hR _ h (fun n => n) rfl rfl rfl (rn_int rfl) rfl (entl_bor (use_lo rfl) rfl rfl entl_nil))
theorem a25 (hr : Int) (al nl ml : Nat) (tl : Nat → Int) {r : Rt25} (h : Goes ((q25 hr al nl ml tl)) ((p25 hr al nl ml tl)) r) : CallR Try.prog 25 [.agg [.int .i64 hr, .loose ⟨0, 1, al, 0⟩ nl]] [[(0, (false, .cols ml [.int .i64 tl]))]] 1 ((V25 hr al nl ml tl) r) ((fun r => [newL (1 + 1) ((N25 hr al nl ml tl) r) ++ [(0, (false, .cols ml [.int .i64 tl]))]]) r) 400 ∧ ∃ F, Try.prog.funcs[25]? = some F ∧ F.body.isSome = true ∧ (F.name == "runtime.NumGoroutine") = false := by
  refine dec_calls (f := 25) (lo := 1) (hi := 400) (H := [[(0, (false, .cols ml [.int .i64 tl]))]]) (args := [.agg [.int .i64 hr, .loose ⟨0, 1, al, 0⟩ nl]]) Try.envOk Try.mixed noX_ok ((I25 hr al nl ml tl)) ((V25 hr al nl ml tl)) (fun r => [newL (1 + 1) ((N25 hr al nl ml tl) r) ++ [(0, (false, .cols ml [.int .i64 tl]))]]) (fn := mkFn Try.f25) (ts := [1, 3]) (n := 400) rfl (by decide) (by simp) (names_of rfl) ?_ ?_ ?_ h
  · intro s; cases s <;> exact ⟨hd_ok _ _, by simp [I25], names_of rfl, Nat.le_of_ble_eq_true rfl⟩
  · intro Kst Kret x hS hR h
    exact Holds.eq (te25 cond Kst Kret hr al nl ml tl) (be25 hr al nl ml tl Kst Kret x hS hR h)
  · intro Kst Kret x hS hR s h
    cases s with
    | h0 x0 => exact Holds.eq (t25_0 cond Kst Kret hr al nl ml tl x0) (b25_0 hr al nl ml tl Kst Kret x hS hR x0 h)
noncomputable def k25 : Con := ⟨25, [.agg [.plain (.int .i64), .list [.int .i64]]], fun (x : (Int × (Nat × Nat × Nat × (Nat → Int) × Unit) × Unit) × Unit) => (fun (hr : Int) (al nl ml : Nat) (tl : Nat → Int) => decide (al + nl ≤ ml ∧ nl ≤ 1000000)) x.1.1 x.1.2.1.1 x.1.2.1.2.1 x.1.2.1.2.2.1 x.1.2.1.2.2.2.1, fun (x : (Int × (Nat × Nat × Nat × (Nat → Int) × Unit) × Unit) × Unit) => (fun (hr : Int) (al nl ml : Nat) (tl : Nat → Int) => (V25 hr al nl ml tl) (S.filE hr nl (fun j => tl (j + al)))) x.1.1 x.1.2.1.1 x.1.2.1.2.1 x.1.2.1.2.2.1 x.1.2.1.2.2.2.1, fun (x : (Int × (Nat × Nat × Nat × (Nat → Int) × Unit) × Unit) × Unit) => (fun (hr : Int) (al nl ml : Nat) (tl : Nat → Int) => (N25 hr al nl ml tl) (S.filE hr nl (fun j => tl (j + al)))) x.1.1 x.1.2.1.1 x.1.2.1.2.1 x.1.2.1.2.2.1 x.1.2.1.2.2.2.1, fun _ _ => .dead⟩
theorem s25' (hr : Int) (al nl ml : Nat) (tl : Nat → Int) (hp : al + nl ≤ ml ∧ nl ≤ 1000000) : ∀ k i : Nat, i + k = nl → Comes (q25 hr al nl ml tl) (.h0 (i : Int)) (S.fillE hr (fun j => tl (j + al)) i k) := by
  obtain ⟨hp1, hp2⟩ := hp
  intro k
  induction k with
  | zero =>
    intro i hi
    apply Comes.of
    show Goes _ _ _
    (first | rw [q25] | unfold q25)
    repeat' first
      | with_reducible refine goes_if (fun h => ?_) (fun h => ?_) <;> (try simp only [lim64, imp_false, decide_eq_true_eq, decide_eq_false_iff_not, Int.toNat_natCast, toNat_pred, toNat_succ, Option.getD_some, Option.getD_none, Bool.not_eq_true', Bool.not_eq_false', Bool.and_eq_true, Bool.or_eq_true, Bool.and_eq_false_iff, Bool.or_eq_false_iff, bne_iff_ne, beq_iff_eq, bne_eq_false_iff_eq, beq_eq_false_iff_ne, ne_eq, not_and, Int.not_le, Int.not_lt, ge_iff_le, gt_iff_lt, Nat.not_lt, Nat.not_le, Bool.not_eq_true, Bool.not_eq_false, Bool.true_eq_false, Bool.false_eq_true, not_false_eq_true, not_true_eq_false] at h)
      | exact goes_none.mpr (by omega)
    all_goals first | (exfalso; omega) | rfl
  | succ k ih =>
    intro i hi
    have ih := ih (i + 1) (by omega)
    have e1 : 0 < i → ((i : Int) - 1).toNat = i - 1 := fun _ => by omega
    by_cases h0 : i = 0
    · subst h0
      apply Comes.of
      show Goes _ _ _
      (first | rw [q25] | unfold q25)
      repeat' first
        | with_reducible refine goes_if (fun h => ?_) (fun h => ?_) <;> (try simp only [lim64, imp_false, decide_eq_true_eq, decide_eq_false_iff_not, Int.toNat_natCast, toNat_pred, toNat_succ, Option.getD_some, Option.getD_none, Bool.not_eq_true', Bool.not_eq_false', Bool.and_eq_true, Bool.or_eq_true, Bool.and_eq_false_iff, Bool.or_eq_false_iff, bne_iff_ne, beq_iff_eq, bne_eq_false_iff_eq, beq_eq_false_iff_ne, ne_eq, not_and, Int.not_le, Int.not_lt, ge_iff_le, gt_iff_lt, Nat.not_lt, Nat.not_le, Bool.not_eq_true, Bool.not_eq_false, Bool.true_eq_false, Bool.false_eq_true, not_false_eq_true, not_true_eq_false] at h)
        | exact goes_none.mpr (by omega)
      all_goals first | (exfalso; omega) | rfl | (refine Eq.mpr (congrArg (Comes _ _) ?_) ih; simp only [S.fillE]; (repeat' split) <;> first | rfl | omega | (exfalso; omega) | (exfalso; simp_all; done) | (exfalso; simp_all; omega) | simp_all) | (refine goes_inr.mpr ?_; simp only [S.fillE]; (repeat' split) <;> first | rfl | omega | (exfalso; omega) | (exfalso; simp_all; done) | (exfalso; simp_all; omega) | simp_all)
    · rw [show S.fillE hr (fun j => tl (j + al)) i (k + 1) = if 0 ≤ tl (i + al) ∧ tl (i + al) < hr then (if 0 < i ∧ tl (i + al) ≤ tl (i - 1 + al) then 15 else S.fillE hr (fun j => tl (j + al)) (i + 1) k) else 6 from rfl]
      apply Comes.of
      rw [q25]
      simp only [e1 (by omega), Int.toNat_natCast]
      repeat' first
        | with_reducible refine goes_if (fun h => ?_) (fun h => ?_) <;> (try simp only [lim64, imp_false, decide_eq_true_eq, decide_eq_false_iff_not, Int.toNat_natCast, toNat_pred, toNat_succ, Option.getD_some, Option.getD_none, Bool.not_eq_true', Bool.not_eq_false', Bool.and_eq_true, Bool.or_eq_true, Bool.and_eq_false_iff, Bool.or_eq_false_iff, bne_iff_ne, beq_iff_eq, bne_eq_false_iff_eq, beq_eq_false_iff_ne, ne_eq, not_and, Int.not_le, Int.not_lt, ge_iff_le, gt_iff_lt, Nat.not_lt, Nat.not_le, Bool.not_eq_true, Bool.not_eq_false, Bool.true_eq_false, Bool.false_eq_true, not_false_eq_true, not_true_eq_false] at h)
        | exact goes_none.mpr (by omega)
      all_goals first | (exfalso; omega) | (rw [if_pos (by omega), if_neg (by omega)]; exact ih) | (rw [if_pos (by omega), if_pos (by omega)]; rfl) | (rw [if_neg (by omega)]; rfl)
theorem s25 (hr : Int) (al nl ml : Nat) (tl : Nat → Int) (hp : al + nl ≤ ml ∧ nl ≤ 1000000) : Goes ((q25 hr al nl ml tl)) ((p25 hr al nl ml tl)) (S.filE hr nl (fun j => tl (j + al))) := by
  have hm := s25' hr al nl ml tl hp nl 0 (by omega)
  obtain ⟨hp1, hp2⟩ := hp
  unfold S.filE
  by_cases hr0 : 1 ≤ hr ∧ hr ≤ 2000
  · rw [if_pos hr0]
    show Goes _ _ _
    unfold p25
    repeat' first
      | with_reducible refine goes_if (fun h => ?_) (fun h => ?_) <;> (try simp only [lim64, imp_false, decide_eq_true_eq, decide_eq_false_iff_not, Int.toNat_natCast, toNat_pred, toNat_succ, Option.getD_some, Option.getD_none, Bool.not_eq_true', Bool.not_eq_false', Bool.and_eq_true, Bool.or_eq_true, Bool.and_eq_false_iff, Bool.or_eq_false_iff, bne_iff_ne, beq_iff_eq, bne_eq_false_iff_eq, beq_eq_false_iff_ne, ne_eq, not_and, Int.not_le, Int.not_lt, ge_iff_le, gt_iff_lt, Nat.not_lt, Nat.not_le, Bool.not_eq_true, Bool.not_eq_false, Bool.true_eq_false, Bool.false_eq_true, not_false_eq_true, not_true_eq_false] at h)
      | exact goes_none.mpr (by omega)
    all_goals first | (exfalso; omega) | exact hm
  · rw [if_neg hr0]
    show Goes _ _ _
    unfold p25
    repeat' first
      | with_reducible refine goes_if (fun h => ?_) (fun h => ?_) <;> (try simp only [lim64, imp_false, decide_eq_true_eq, decide_eq_false_iff_not, Int.toNat_natCast, toNat_pred, toNat_succ, Option.getD_some, Option.getD_none, Bool.not_eq_true', Bool.not_eq_false', Bool.and_eq_true, Bool.or_eq_true, Bool.and_eq_false_iff, Bool.or_eq_false_iff, bne_iff_ne, beq_iff_eq, bne_eq_false_iff_eq, beq_eq_false_iff_ne, ne_eq, not_and, Int.not_le, Int.not_lt, ge_iff_le, gt_iff_lt, Nat.not_lt, Nat.not_le, Bool.not_eq_true, Bool.not_eq_false, Bool.true_eq_false, Bool.false_eq_true, not_false_eq_true, not_true_eq_false] at h)
      | exact goes_none.mpr (by omega)
    all_goals first | (exfalso; omega) | rfl

theorem k25_ok : k25.ok Try.prog := by
  intro x hx
  obtain ⟨⟨hr, ⟨al, nl, ml, tl, _⟩, _⟩, _⟩ := x
  obtain ⟨h1, h2⟩ := a25 hr al nl ml tl (s25 hr al nl ml tl (of_dec hx rfl))
  exact ⟨⟨400, (by decide : 1 + 1 + 0 ≤ 400), h1⟩, h2⟩

end Go.Ev
