/-
  The law of Gap.
-/
import Derived.Test.YtejcmbcmhfejkaaR4
import Derived.Test.YtejcmbcmhfejkaaA5
namespace Go.Ev
open Go.Proofs
set_option linter.unusedVariables false
set_option linter.unusedSimpArgs false
set_option maxRecDepth 100000
inductive St26 where
  | h0 (x0 : Int)
abbrev Rt26 := Bool
noncomputable def V26 (aa na ma : Nat) (ta : Nat → Int) (va : Nat → Int) (ab nb mb : Nat) (tb : Nat → Int) (vb : Nat → Int) (r : Rt26) : PV := PV.bool r
noncomputable def N26 (aa na ma : Nat) (ta : Nat → Int) (va : Nat → Int) (ab nb mb : Nat) (tb : Nat → Int) (vb : Nat → Int) (r : Rt26) : List Blk := []
noncomputable def I26 (aa na ma : Nat) (ta : Nat → Int) (va : Nat → Int) (ab nb mb : Nat) (tb : Nat → Int) (vb : Nat → Int) : St26 → Hd
  | .h0 x0 => ⟨hd Try.f26 0, [PV.loose (PA.mk (0) (2) aa (0)) na,
 PV.loose (PA.mk (1) (2) ab (0)) nb, PV.int IntKind.i64 (↑na : Int),
 PV.int IntKind.i64 x0], [[], [(0, (false, .cols ma [.int .i64 ta, .int .i64 va])), (1, (false, .cols mb [.int .i64 tb, .int .i64 vb]))]], 2⟩
noncomputable def q26 (aa na ma : Nat) (ta : Nat → Int) (va : Nat → Int) (ab nb mb : Nat) (tb : Nat → Int) (vb : Nat → Int) : St26 → Option (St26 ⊕ Rt26)
  | .h0 x0 => bif (decide (x0 < (↑na : Int)))
 then (bif (decide ((0 : Int) ≤ x0 ∧ x0 < (↑na : Int)))
 then (bif (decide (Int.toNat x0 + aa < ma))
 then (bif (decide ((0 : Int) ≤ x0 ∧ x0 < (↑nb : Int)))
 then (bif (decide (Int.toNat x0 + ab < mb))
 then (bif (!(ta (Int.toNat x0 + aa) == tb (Int.toNat x0 + ab) && (va (Int.toNat x0 + aa) == vb (Int.toNat x0 + ab) && true)))
 then (some (.inr (false)))
 else (bif (lim IntKind.i64 (x0 + (1 : Int)))
 then (some (.inl (.h0 (x0 + (1 : Int)))))
 else (none)))
 else (none))
 else (none))
 else (none))
 else (none))
 else (some (.inr (true)))
noncomputable def p26 (aa na ma : Nat) (ta : Nat → Int) (va : Nat → Int) (ab nb mb : Nat) (tb : Nat → Int) (vb : Nat → Int) : Option (St26 ⊕ Rt26) := bif ((↑na : Int) != (↑nb : Int))
 then (some (.inr (false)))
 else (some (.inl (.h0 ((0 : Int)))))
noncomputable def Te26 (test : Bool → Prop → Prop → Prop) (Kst : KS) (Kret : KR) (aa na ma : Nat) (ta : Nat → Int) (va : Nat → Int) (ab nb mb : Nat) (tb : Nat → Int) (vb : Nat → Int) : Prop :=
  test ((↑na : Int) != (↑nb : Int))
 (Kret (PV.tf false) ([[(1, false, Blk.cols mb [Col.int IntKind.i64 tb, Col.int IntKind.i64 vb]),
 (0, false, Blk.cols ma [Col.int IntKind.i64 ta, Col.int IntKind.i64 va])]]) (2))
 (Kst (hd Try.f26 0) ([PV.loose (PA.mk (0) (2) aa (0)) na,
 PV.loose (PA.mk (1) (2) ab (0)) nb, PV.int IntKind.i64 (↑na : Int),
 PV.int IntKind.i64 (0 : Int)]) ([[(1, false, Blk.cols mb [Col.int IntKind.i64 tb, Col.int IntKind.i64 vb]),
 (0, false, Blk.cols ma [Col.int IntKind.i64 ta, Col.int IntKind.i64 va])]]) (2))
set_option maxRecDepth 100000 in
theorem te26 (test : Bool → Prop → Prop → Prop) (Kst : KS) (Kret : KR) (aa na ma : Nat) (ta : Nat → Int) (va : Nat → Int) (ab nb mb : Nat) (tb : Nat → Int) (vb : Nat → Int) : run test Try.env true noX true 400 ⟨26, [.cd (mkFn Try.f26).body], argT 0 [.loose ⟨0, 2, aa, 0⟩ na, .loose ⟨1, 2, ab, 0⟩ nb], [[], [(0, (false, .cols ma [.int .i64 ta, .int .i64 va])), (1, (false, .cols mb [.int .i64 tb, .int .i64 vb]))]], 2⟩ (proj 2 [0, 1, 12, 13] Kst Kret) =
  Te26 test Kst Kret aa na ma ta va ab nb mb tb vb := by kernel_rfl
noncomputable def T26_0 (test : Bool → Prop → Prop → Prop) (Kst : KS) (Kret : KR) (aa na ma : Nat) (ta : Nat → Int) (va : Nat → Int) (ab nb mb : Nat) (tb : Nat → Int) (vb : Nat → Int) (x0 : Int) : Prop :=
  test (decide (x0 < (↑na : Int)))
 (test (decide ((0 : Int) ≤ x0 ∧ x0 < (↑na : Int)))
 (test (decide (Int.toNat x0 + aa < ma))
 (test (decide (Int.toNat x0 + aa < ma))
 (test (decide ((0 : Int) ≤ x0 ∧ x0 < (↑nb : Int)))
 (test (decide (Int.toNat x0 + ab < mb))
 (test (decide (Int.toNat x0 + ab < mb))
 (test (!(ta (Int.toNat x0 + aa) == tb (Int.toNat x0 + ab) && (va (Int.toNat x0 + aa) == vb (Int.toNat x0 + ab) && true)))
 (Kret (PV.tf false) ([[(1, false, Blk.cols mb [Col.int IntKind.i64 tb, Col.int IntKind.i64 vb]),
 (0, false, Blk.cols ma [Col.int IntKind.i64 ta, Col.int IntKind.i64 va])]]) (2))
 (test (lim IntKind.i64 (x0 + (1 : Int)))
 (Kst (hd Try.f26 0) ([PV.loose (PA.mk (0) (2) aa (0)) na,
 PV.loose (PA.mk (1) (2) ab (0)) nb, PV.int IntKind.i64 (↑na : Int),
 PV.int IntKind.i64 (x0 + (1 : Int))]) ([[(1, false, Blk.cols mb [Col.int IntKind.i64 tb, Col.int IntKind.i64 vb]),
 (0, false, Blk.cols ma [Col.int IntKind.i64 ta, Col.int IntKind.i64 va])]]) (2))
 (False)))
 (False))
 (False))
 (False))
 (False))
 (False))
 (False))
 (Kret (PV.tf true) ([[(1, false, Blk.cols mb [Col.int IntKind.i64 tb, Col.int IntKind.i64 vb]),
 (0, false, Blk.cols ma [Col.int IntKind.i64 ta, Col.int IntKind.i64 va])]]) (2))
set_option maxRecDepth 100000 in
theorem t26_0 (test : Bool → Prop → Prop → Prop) (Kst : KS) (Kret : KR) (aa na ma : Nat) (ta : Nat → Int) (va : Nat → Int) (ab nb mb : Nat) (tb : Nat → Int) (vb : Nat → Int) (x0 : Int) : run test Try.env true noX true 400 ⟨26, hd Try.f26 0, zipT [0, 1, 12, 13] [PV.loose (PA.mk (0) (2) aa (0)) na,
 PV.loose (PA.mk (1) (2) ab (0)) nb, PV.int IntKind.i64 (↑na : Int),
 PV.int IntKind.i64 x0], [[], [(0, (false, .cols ma [.int .i64 ta, .int .i64 va])), (1, (false, .cols mb [.int .i64 tb, .int .i64 vb]))]], 2⟩ (proj 2 [0, 1, 12, 13] Kst Kret) =
  T26_0 test Kst Kret aa na ma ta va ab nb mb tb vb x0 := by kernel_rfl
attribute [local irreducible] Int.subNatNat in
set_option maxRecDepth 100000 in
theorem be26 (aa na ma : Nat) (ta : Nat → Int) (va : Nat → Int) (ab nb mb : Nat) (tb : Nat → Int) (vb : Nat → Int) (Kst : KS) (Kret : KR) (x : St26 ⊕ Rt26) (hS : HS 2 400 ((I26 aa na ma ta va ab nb mb tb vb)) Kst x) (hR : HR 2 400 ((V26 aa na ma ta va ab nb mb tb vb)) (fun r => [newL (2 + 1) ((N26 aa na ma ta va ab nb mb tb vb) r) ++ [(0, (false, .cols ma [.int .i64 ta, .int .i64 va])), (1, (false, .cols mb [.int .i64 tb, .int .i64 vb]))]]) Kret x) (h : (bif ((↑na : Int) != (↑nb : Int))
 then (some (.inr (false)))
 else (some (.inl (.h0 ((0 : Int))))) : Option (St26 ⊕ Rt26)) = some x) : Te26 cond Kst Kret aa na ma ta va ab nb mb tb vb := by
  unfold Te26
  exact bif_split h
   (fun c0 h => ret_at hR _ h (fun n => n) rfl rfl rfl (rn_bool_tf rfl) rfl (entl_bor (use_lo rfl) rfl rfl (entl_bor (use_lo rfl) rfl rfl entl_nil)))
   (fun c0 h => stop_at hS _ h (fun n => n) rfl rfl rfl ⟨(rn_loose (use_lo rfl) rfl rfl rfl), ⟨(rn_loose (use_lo rfl) rfl rfl rfl), ⟨(rn_int rfl), ⟨(rn_int rfl), trivial⟩⟩⟩⟩ rfl (entl_bor (use_lo rfl) rfl rfl (entl_bor (use_lo rfl) rfl rfl entl_nil)))
attribute [local irreducible] Int.subNatNat in
set_option maxRecDepth 100000 in
theorem b26_0 (aa na ma : Nat) (ta : Nat → Int) (va : Nat → Int) (ab nb mb : Nat) (tb : Nat → Int) (vb : Nat → Int) (Kst : KS) (Kret : KR) (x : St26 ⊕ Rt26) (hS : HS 2 400 ((I26 aa na ma ta va ab nb mb tb vb)) Kst x) (hR : HR 2 400 ((V26 aa na ma ta va ab nb mb tb vb)) (fun r => [newL (2 + 1) ((N26 aa na ma ta va ab nb mb tb vb) r) ++ [(0, (false, .cols ma [.int .i64 ta, .int .i64 va])), (1, (false, .cols mb [.int .i64 tb, .int .i64 vb]))]]) Kret x) (x0 : Int) (h : (bif (decide (x0 < (↑na : Int)))
 then (bif (decide ((0 : Int) ≤ x0 ∧ x0 < (↑na : Int)))
 then (bif (decide (Int.toNat x0 + aa < ma))
 then (bif (decide ((0 : Int) ≤ x0 ∧ x0 < (↑nb : Int)))
 then (bif (decide (Int.toNat x0 + ab < mb))
 then (bif (!(ta (Int.toNat x0 + aa) == tb (Int.toNat x0 + ab) && (va (Int.toNat x0 + aa) == vb (Int.toNat x0 + ab) && true)))
 then (some (.inr (false)))
 else (bif (lim IntKind.i64 (x0 + (1 : Int)))
 then (some (.inl (.h0 (x0 + (1 : Int)))))
 else (none)))
 else (none))
 else (none))
 else (none))
 else (none))
 else (some (.inr (true))) : Option (St26 ⊕ Rt26)) = some x) : T26_0 cond Kst Kret aa na ma ta va ab nb mb tb vb x0 := by
  unfold T26_0
  exact bif_split h
   (fun c0 h => bif_split h
   (fun c1 h => bif_split h
   (fun c2 h => cond_yes c2 (bif_split h
   (fun c3 h => bif_split h
   (fun c4 h => cond_yes c4 (bif_split h
   (fun c5 h => ret_at hR _ h (fun n => n) rfl rfl rfl (rn_bool_tf rfl) rfl (entl_bor (use_lo rfl) rfl rfl (entl_bor (use_lo rfl) rfl rfl entl_nil)))
   (fun c5 h => bif_split h
   (fun c6 h => stop_at hS _ h (fun n => n) rfl rfl rfl ⟨(rn_loose (use_lo rfl) rfl rfl rfl), ⟨(rn_loose (use_lo rfl) rfl rfl rfl), ⟨(rn_int rfl), ⟨(rn_int rfl), trivial⟩⟩⟩⟩ rfl (entl_bor (use_lo rfl) rfl rfl (entl_bor (use_lo rfl) rfl rfl entl_nil)))
   (fun c6 h => no_some h))))
   (fun c4 h => no_some h))
   (fun c3 h => no_some h)))
   (fun c2 h => no_some h))
   (fun c1 h => no_some h))
   (fun c0 h => ret_at hR _ h (fun n => n) rfl rfl rfl (rn_bool_tf rfl) rfl (entl_bor (use_lo rfl) rfl rfl (entl_bor (use_lo rfl) rfl rfl entl_nil)))
theorem a26 (aa na ma : Nat) (ta : Nat → Int) (va : Nat → Int) (ab nb mb : Nat) (tb : Nat → Int) (vb : Nat → Int) {r : Rt26} (h : Goes ((q26 aa na ma ta va ab nb mb tb vb)) ((p26 aa na ma ta va ab nb mb tb vb)) r) : CallR Try.prog 26 [.loose ⟨0, 2, aa, 0⟩ na, .loose ⟨1, 2, ab, 0⟩ nb] [[(0, (false, .cols ma [.int .i64 ta, .int .i64 va])), (1, (false, .cols mb [.int .i64 tb, .int .i64 vb]))]] 2 ((V26 aa na ma ta va ab nb mb tb vb) r) ((fun r => [newL (2 + 1) ((N26 aa na ma ta va ab nb mb tb vb) r) ++ [(0, (false, .cols ma [.int .i64 ta, .int .i64 va])), (1, (false, .cols mb [.int .i64 tb, .int .i64 vb]))]]) r) 400 ∧ ∃ F, Try.prog.funcs[26]? = some F ∧ F.body.isSome = true ∧ (F.name == "runtime.NumGoroutine") = false := by
  refine dec_calls (f := 26) (lo := 2) (hi := 400) (H := [[(0, (false, .cols ma [.int .i64 ta, .int .i64 va])), (1, (false, .cols mb [.int .i64 tb, .int .i64 vb]))]]) (args := [.loose ⟨0, 2, aa, 0⟩ na, .loose ⟨1, 2, ab, 0⟩ nb]) Try.envOk Try.mixed noX_ok ((I26 aa na ma ta va ab nb mb tb vb)) ((V26 aa na ma ta va ab nb mb tb vb)) (fun r => [newL (2 + 1) ((N26 aa na ma ta va ab nb mb tb vb) r) ++ [(0, (false, .cols ma [.int .i64 ta, .int .i64 va])), (1, (false, .cols mb [.int .i64 tb, .int .i64 vb]))]]) (fn := mkFn Try.f26) (ts := [0, 1, 12, 13]) (n := 400) rfl (by decide) (by simp) (names_of rfl) ?_ ?_ ?_ h
  · intro s; cases s <;> exact ⟨hd_ok _ _, by simp [I26], names_of rfl, Nat.le_of_ble_eq_true rfl⟩
  · intro Kst Kret x hS hR h
    exact Holds.eq (te26 cond Kst Kret aa na ma ta va ab nb mb tb vb) (be26 aa na ma ta va ab nb mb tb vb Kst Kret x hS hR h)
  · intro Kst Kret x hS hR s h
    cases s with
    | h0 x0 => exact Holds.eq (t26_0 cond Kst Kret aa na ma ta va ab nb mb tb vb x0) (b26_0 aa na ma ta va ab nb mb tb vb Kst Kret x hS hR x0 h)
noncomputable def k26 : Con := ⟨26, [.one (.list [.int .i64, .int .i64]), .one (.list [.int .i64, .int .i64])], fun (x : (Nat × Nat × Nat × (Nat → Int) × (Nat → Int) × Unit) × (Nat × Nat × Nat × (Nat → Int) × (Nat → Int) × Unit) × Unit) => (fun (aa na ma : Nat) (ta : Nat → Int) (va : Nat → Int) (ab nb mb : Nat) (tb : Nat → Int) (vb : Nat → Int) => decide (aa + na ≤ ma ∧ na ≤ 1000000 ∧ ab + nb ≤ mb ∧ nb ≤ 1000000)) x.1.1 x.1.2.1 x.1.2.2.1 x.1.2.2.2.1 x.1.2.2.2.2.1 x.2.1.1 x.2.1.2.1 x.2.1.2.2.1 x.2.1.2.2.2.1 x.2.1.2.2.2.2.1, fun (x : (Nat × Nat × Nat × (Nat → Int) × (Nat → Int) × Unit) × (Nat × Nat × Nat × (Nat → Int) × (Nat → Int) × Unit) × Unit) => (fun (aa na ma : Nat) (ta : Nat → Int) (va : Nat → Int) (ab nb mb : Nat) (tb : Nat → Int) (vb : Nat → Int) => (V26 aa na ma ta va ab nb mb tb vb) (decide ((S.mkl na fun j => (ta (j + aa), va (j + aa))) = (S.mkl nb fun j => (tb (j + ab), vb (j + ab)))))) x.1.1 x.1.2.1 x.1.2.2.1 x.1.2.2.2.1 x.1.2.2.2.2.1 x.2.1.1 x.2.1.2.1 x.2.1.2.2.1 x.2.1.2.2.2.1 x.2.1.2.2.2.2.1, fun (x : (Nat × Nat × Nat × (Nat → Int) × (Nat → Int) × Unit) × (Nat × Nat × Nat × (Nat → Int) × (Nat → Int) × Unit) × Unit) => (fun (aa na ma : Nat) (ta : Nat → Int) (va : Nat → Int) (ab nb mb : Nat) (tb : Nat → Int) (vb : Nat → Int) => (N26 aa na ma ta va ab nb mb tb vb) (decide ((S.mkl na fun j => (ta (j + aa), va (j + aa))) = (S.mkl nb fun j => (tb (j + ab), vb (j + ab)))))) x.1.1 x.1.2.1 x.1.2.2.1 x.1.2.2.2.1 x.1.2.2.2.2.1 x.2.1.1 x.2.1.2.1 x.2.1.2.2.1 x.2.1.2.2.2.1 x.2.1.2.2.2.2.1, fun _ _ => .dead⟩
theorem e26 (aa na ma : Nat) (ta : Nat → Int) (va : Nat → Int) (ab nb mb : Nat) (tb : Nat → Int) (vb : Nat → Int) (h : na = nb) : decide ((S.mkl na fun j => (ta (j + aa), va (j + aa))) = (S.mkl nb fun j => (tb (j + ab), vb (j + ab)))) = true ↔ ∀ j, j < na → ta (j + aa) = tb (j + ab) ∧ va (j + aa) = vb (j + ab) := by
  rw [decide_eq_true_eq, mkl_inj]
  simp only [h, true_and, Prod.mk.injEq]
theorem s26' (aa na ma : Nat) (ta : Nat → Int) (va : Nat → Int) (ab nb mb : Nat) (tb : Nat → Int) (vb : Nat → Int) (hp : aa + na ≤ ma ∧ na ≤ 1000000 ∧ ab + nb ≤ mb ∧ nb ≤ 1000000) (he : na = nb) : ∀ k i : Nat, i + k = na → (∀ j, j < i → ta (j + aa) = tb (j + ab) ∧ va (j + aa) = vb (j + ab)) → Comes (q26 aa na ma ta va ab nb mb tb vb) (.h0 (i : Int)) (decide ((S.mkl na fun j => (ta (j + aa), va (j + aa))) = (S.mkl nb fun j => (tb (j + ab), vb (j + ab))))) := by
  obtain ⟨hp1, hp2, hp3, hp4⟩ := hp
  have hq := e26 aa na ma ta va ab nb mb tb vb he
  generalize decide ((S.mkl na fun j => (ta (j + aa), va (j + aa))) = (S.mkl nb fun j => (tb (j + ab), vb (j + ab)))) = R at hq ⊢
  intro k
  induction k with
  | zero =>
    intro i hi hj
    obtain rfl : na = i := by omega
    apply Comes.of
    show Goes _ _ _
    (first | rw [q26] | unfold q26)
    repeat' first
      | with_reducible refine goes_if (fun h => ?_) (fun h => ?_) <;> (try simp only [lim64, imp_false, decide_eq_true_eq, decide_eq_false_iff_not, Int.toNat_natCast, toNat_pred, toNat_succ, Option.getD_some, Option.getD_none, Bool.not_eq_true', Bool.not_eq_false', Bool.and_eq_true, Bool.or_eq_true, Bool.and_eq_false_iff, Bool.or_eq_false_iff, bne_iff_ne, beq_iff_eq, bne_eq_false_iff_eq, beq_eq_false_iff_ne, ne_eq, not_and, Int.not_le, Int.not_lt, ge_iff_le, gt_iff_lt, Nat.not_lt, Nat.not_le, Bool.not_eq_true, Bool.not_eq_false, Bool.true_eq_false, Bool.false_eq_true, not_false_eq_true, not_true_eq_false] at h)
      | exact goes_none.mpr (by omega)
    all_goals first | (exfalso; omega) | (exact goes_inr.mpr (hq.mpr hj).symm)
  | succ k ih =>
    intro i hi hj
    have hw : ∀ {P : Prop}, (R = true → P) → ¬ P → false = R := fun h1 h2 => by cases R; rfl; exact absurd (h1 rfl) h2
    apply Comes.of
    show Goes _ _ _
    (first | rw [q26] | unfold q26)
    repeat' first
      | with_reducible refine goes_if (fun h => ?_) (fun h => ?_) <;> (try simp only [lim64, imp_false, decide_eq_true_eq, decide_eq_false_iff_not, Int.toNat_natCast, toNat_pred, toNat_succ, Option.getD_some, Option.getD_none, Bool.not_eq_true', Bool.not_eq_false', Bool.and_eq_true, Bool.or_eq_true, Bool.and_eq_false_iff, Bool.or_eq_false_iff, bne_iff_ne, beq_iff_eq, bne_eq_false_iff_eq, beq_eq_false_iff_ne, ne_eq, not_and, Int.not_le, Int.not_lt, ge_iff_le, gt_iff_lt, Nat.not_lt, Nat.not_le, Bool.not_eq_true, Bool.not_eq_false, Bool.true_eq_false, Bool.false_eq_true, not_false_eq_true, not_true_eq_false] at h)
      | exact goes_none.mpr (by omega)
    all_goals first
      | (exfalso; omega)
      | (refine ih (i + 1) (by omega) fun j hlt => ?_
         rcases Nat.lt_or_eq_of_le (Nat.le_of_lt_succ hlt) with h1 | h1
         · exact hj j h1
         · subst h1; simp_all)
      | (refine goes_inr.mpr (hw (fun e => hq.mp e i (by omega)) fun e => ?_); simp_all)
theorem s26 (aa na ma : Nat) (ta : Nat → Int) (va : Nat → Int) (ab nb mb : Nat) (tb : Nat → Int) (vb : Nat → Int) (hp : aa + na ≤ ma ∧ na ≤ 1000000 ∧ ab + nb ≤ mb ∧ nb ≤ 1000000) : Goes ((q26 aa na ma ta va ab nb mb tb vb)) ((p26 aa na ma ta va ab nb mb tb vb)) (decide ((S.mkl na fun j => (ta (j + aa), va (j + aa))) = (S.mkl nb fun j => (tb (j + ab), vb (j + ab))))) := by
  by_cases he : na = nb
  · have hm := s26' aa na ma ta va ab nb mb tb vb hp he na 0 (by omega) (fun j hj => absurd hj (Nat.not_lt_zero j))
    show Goes _ _ _
    unfold p26
    repeat' first
      | with_reducible refine goes_if (fun h => ?_) (fun h => ?_) <;> (try simp only [lim64, imp_false, decide_eq_true_eq, decide_eq_false_iff_not, Int.toNat_natCast, toNat_pred, toNat_succ, Option.getD_some, Option.getD_none, Bool.not_eq_true', Bool.not_eq_false', Bool.and_eq_true, Bool.or_eq_true, Bool.and_eq_false_iff, Bool.or_eq_false_iff, bne_iff_ne, beq_iff_eq, bne_eq_false_iff_eq, beq_eq_false_iff_ne, ne_eq, not_and, Int.not_le, Int.not_lt, ge_iff_le, gt_iff_lt, Nat.not_lt, Nat.not_le, Bool.not_eq_true, Bool.not_eq_false, Bool.true_eq_false, Bool.false_eq_true, not_false_eq_true, not_true_eq_false] at h)
      | exact goes_none.mpr (by omega)
    all_goals first | (exfalso; omega) | exact hm
  · have hd : decide ((S.mkl na fun j => (ta (j + aa), va (j + aa))) = (S.mkl nb fun j => (tb (j + ab), vb (j + ab)))) = false := decide_eq_false (fun e => he (mkl_inj.mp e).1)
    rw [hd]
    show Goes _ _ _
    unfold p26
    repeat' first
      | with_reducible refine goes_if (fun h => ?_) (fun h => ?_) <;> (try simp only [lim64, imp_false, decide_eq_true_eq, decide_eq_false_iff_not, Int.toNat_natCast, toNat_pred, toNat_succ, Option.getD_some, Option.getD_none, Bool.not_eq_true', Bool.not_eq_false', Bool.and_eq_true, Bool.or_eq_true, Bool.and_eq_false_iff, Bool.or_eq_false_iff, bne_iff_ne, beq_iff_eq, bne_eq_false_iff_eq, beq_eq_false_iff_ne, ne_eq, not_and, Int.not_le, Int.not_lt, ge_iff_le, gt_iff_lt, Nat.not_lt, Nat.not_le, Bool.not_eq_true, Bool.not_eq_false, Bool.true_eq_false, Bool.false_eq_true, not_false_eq_true, not_true_eq_false] at h)
      | exact goes_none.mpr (by omega)
    all_goals first | (exfalso; omega) | rfl

theorem k26_ok : k26.ok Try.prog := by
  intro x hx
  obtain ⟨⟨aa, na, ma, ta, va, _⟩, ⟨ab, nb, mb, tb, vb, _⟩, _⟩ := x
  obtain ⟨h1, h2⟩ := a26 aa na ma ta va ab nb mb tb vb (s26 aa na ma ta va ab nb mb tb vb (of_dec hx rfl))
  exact ⟨⟨400, (by decide : 2 + 1 + 0 ≤ 400), h1⟩, h2⟩
noncomputable def xL5 (test : Bool → Prop → Prop → Prop) : Ext := consX test [k11, k24, k25, k43, k19, k21, k22, k23, k26]
theorem xL5_ok : ExtOk Try.prog (xL5 cond) := consX_ok ⟨k11_ok, k24_ok, k25_ok, k43_ok, k19_ok, k21_ok, k22_ok, k23_ok, k26_ok, trivial⟩

end Go.Ev
namespace Go.Ev
open Go.Proofs
set_option linter.unusedVariables false
set_option linter.unusedSimpArgs false
set_option maxRecDepth 100000

theorem traS_len {h : Int} {n : Nat} {t : Nat → Int} : (S.traS h n t).2.length ≤ 2001 := by
  unfold S.traS
  split
  · rename_i e
    have := fil_ok e
    have := runsS_len (b := fun j => S.inB t n j) (H := h.toNat) (w := true)
    show (S.runsS _ _ _).length ≤ 2001
    omega
  · exact Nat.zero_le _
abbrev St5 := Empty
abbrev Rt5 := Bool
noncomputable def V5 (hr : Int) (al nl ml : Nat) (tl : Nat → Int) (r : Rt5) : PV := PV.bool r
noncomputable def N5 (hr : Int) (al nl ml : Nat) (tl : Nat → Int) (r : Rt5) : List Blk := []
noncomputable def I5 (hr : Int) (al nl ml : Nat) (tl : Nat → Int) : St5 → Hd := fun s => s.elim
noncomputable def q5 (hr : Int) (al nl ml : Nat) (tl : Nat → Int) : St5 → Option (St5 ⊕ Rt5) := fun s => s.elim
noncomputable def p5 (hr : Int) (al nl ml : Nat) (tl : Nat → Int) : Option (St5 ⊕ Rt5) := bif (decide ((↑nl : Int) ≤ (2100 : Int)))
 then (bif (decide (al + nl ≤ ml ∧ nl ≤ 1000000))
 then (bif (decide (0 + nl ≤ nl ∧ nl ≤ 1000000))
 then (bif ((S.filE hr nl fun (j : Nat) => tl (j + al)) == S.filE hr nl fun (j : Nat) => tl (j + al))
 then (bif ((S.gapS hr nl fun (j : Nat) => tl (j + al)).1 == (S.gapS hr nl fun (j : Nat) => tl (j + al)).1)
 then (bif ((S.gapS hr nl fun (j : Nat) => tl (j + al)).2.1 ==
 (S.gapS hr nl fun (j : Nat) => tl (j + al)).2.1)
 then (bif ((S.gapS hr nl fun (j : Nat) => tl (j + al)).2.2 ==
 (S.gapS hr nl fun (j : Nat) => tl (j + al)).2.2)
 then (bif (decide
 (0 + List.length ((S.traS hr nl fun (j : Nat) => tl (j + al)).2) ≤
 List.length ((S.traS hr nl fun (j : Nat) => tl (j + al)).2) ∧
 List.length ((S.traS hr nl fun (j : Nat) => tl (j + al)).2) ≤ 1000000 ∧
 0 + List.length ((S.traS hr nl fun (j : Nat) => tl (j + al)).2) ≤
 List.length ((S.traS hr nl fun (j : Nat) => tl (j + al)).2) ∧
 List.length ((S.traS hr nl fun (j : Nat) => tl (j + al)).2) ≤ 1000000))
 then (bif (decide
 ((S.mkl (List.length ((S.traS hr nl fun (j : Nat) => tl (j + al)).2)) fun (j : Nat) =>
 ((S.at' ((S.traS hr nl fun (j : Nat) => tl (j + al)).2) j).1,
 (S.at' ((S.traS hr nl fun (j : Nat) => tl (j + al)).2) j).2)) =
 S.mkl (List.length ((S.traS hr nl fun (j : Nat) => tl (j + al)).2)) fun (j : Nat) =>
 ((S.at' ((S.traS hr nl fun (j : Nat) => tl (j + al)).2) j).1,
 (S.at' ((S.traS hr nl fun (j : Nat) => tl (j + al)).2) j).2)))
 then (bif ((S.traS hr nl fun (j : Nat) => tl (j + al)).1 == (S.traS hr nl fun (j : Nat) => tl (j + al)).1)
 then (some (.inr (true)))
 else (some (.inr (false))))
 else (some (.inr (false))))
 else (none))
 else (some (.inr (false))))
 else (some (.inr (false))))
 else (some (.inr (false))))
 else (some (.inr (false))))
 else (none))
 else (none))
 else (some (.inr (true)))
noncomputable def Te5 (test : Bool → Prop → Prop → Prop) (Kst : KS) (Kret : KR) (hr : Int) (al nl ml : Nat) (tl : Nat → Int) : Prop :=
  test (true)
 (test (true)
 (test (decide ((↑nl : Int) ≤ (2100 : Int)))
 (test (decide (al + nl ≤ ml ∧ nl ≤ 1000000))
 (test (decide (0 + nl ≤ nl ∧ nl ≤ 1000000))
 (test (decide (al + nl ≤ ml ∧ nl ≤ 1000000))
 (test (decide (al + nl ≤ ml ∧ nl ≤ 1000000))
 (test (decide (0 + nl ≤ nl ∧ nl ≤ 1000000))
 (test (decide (al + nl ≤ ml ∧ nl ≤ 1000000))
 (test (decide (al + nl ≤ ml ∧ nl ≤ 1000000))
 (test (decide (0 + nl ≤ nl ∧ nl ≤ 1000000))
 (test (decide (al + nl ≤ ml ∧ nl ≤ 1000000))
 (test ((S.filE hr nl fun (j : Nat) => tl (j + al)) == S.filE hr nl fun (j : Nat) => tl (j + al))
 (test ((S.gapS hr nl fun (j : Nat) => tl (j + al)).1 == (S.gapS hr nl fun (j : Nat) => tl (j + al)).1)
 (test ((S.gapS hr nl fun (j : Nat) => tl (j + al)).2.1 ==
 (S.gapS hr nl fun (j : Nat) => tl (j + al)).2.1)
 (test ((S.gapS hr nl fun (j : Nat) => tl (j + al)).2.2 ==
 (S.gapS hr nl fun (j : Nat) => tl (j + al)).2.2)
 (test (decide
 (0 + List.length ((S.traS hr nl fun (j : Nat) => tl (j + al)).2) ≤
 List.length ((S.traS hr nl fun (j : Nat) => tl (j + al)).2) ∧
 List.length ((S.traS hr nl fun (j : Nat) => tl (j + al)).2) ≤ 1000000 ∧
 0 + List.length ((S.traS hr nl fun (j : Nat) => tl (j + al)).2) ≤
 List.length ((S.traS hr nl fun (j : Nat) => tl (j + al)).2) ∧
 List.length ((S.traS hr nl fun (j : Nat) => tl (j + al)).2) ≤ 1000000))
 (test (decide
 ((S.mkl (List.length ((S.traS hr nl fun (j : Nat) => tl (j + al)).2)) fun (j : Nat) =>
 ((S.at' ((S.traS hr nl fun (j : Nat) => tl (j + al)).2) j).1,
 (S.at' ((S.traS hr nl fun (j : Nat) => tl (j + al)).2) j).2)) =
 S.mkl (List.length ((S.traS hr nl fun (j : Nat) => tl (j + al)).2)) fun (j : Nat) =>
 ((S.at' ((S.traS hr nl fun (j : Nat) => tl (j + al)).2) j).1,
 (S.at' ((S.traS hr nl fun (j : Nat) => tl (j + al)).2) j).2)))
 (test ((S.traS hr nl fun (j : Nat) => tl (j + al)).1 == (S.traS hr nl fun (j : Nat) => tl (j + al)).1)
 (Kret (PV.tf true) ([[(0, false, Blk.cols ml [Col.int IntKind.i64 tl])]]) (25))
 (Kret (PV.tf false) ([[(0, false, Blk.cols ml [Col.int IntKind.i64 tl])]]) (25)))
 (Kret (PV.tf false) ([[(0, false, Blk.cols ml [Col.int IntKind.i64 tl])]]) (25)))
 (False))
 (Kret (PV.tf false) ([[(0, false, Blk.cols ml [Col.int IntKind.i64 tl])]]) (24)))
 (Kret (PV.tf false) ([[(0, false, Blk.cols ml [Col.int IntKind.i64 tl])]]) (24)))
 (Kret (PV.tf false) ([[(0, false, Blk.cols ml [Col.int IntKind.i64 tl])]]) (24)))
 (Kret (PV.tf false) ([[(0, false, Blk.cols ml [Col.int IntKind.i64 tl])]]) (24)))
 (False))
 (False))
 (False))
 (False))
 (False))
 (False))
 (False))
 (False))
 (False))
 (test (true)
 (test (true)
 (Kret (PV.tf true) ([[(0, false, Blk.cols ml [Col.int IntKind.i64 tl])]]) (5))
 (Kret (PV.tf false) ([[(0, false, Blk.cols ml [Col.int IntKind.i64 tl])]]) (5)))
 (False)))
 (test (true)
 (test (true)
 (Kret (PV.tf true) ([[(0, false, Blk.cols ml [Col.int IntKind.i64 tl])]]) (4))
 (Kret (PV.tf false) ([[(0, false, Blk.cols ml [Col.int IntKind.i64 tl])]]) (4)))
 (False)))
 (False)
set_option maxRecDepth 100000 in
theorem te5 (test : Bool → Prop → Prop → Prop) (Kst : KS) (Kret : KR) (hr : Int) (al nl ml : Nat) (tl : Nat → Int) : run test Try.env true (xL5 test) true 400 ⟨5, [.cd (mkFn Try.f5).body], argT 0 [.agg [.int .i64 hr, .loose ⟨0, 1, al, 0⟩ nl]], [[], [(0, (false, .cols ml [.int .i64 tl]))]], 1⟩ (proj 1 [] Kst Kret) =
  Te5 test Kst Kret hr al nl ml tl := by kernel_rfl
attribute [local irreducible] Int.subNatNat in
set_option maxRecDepth 100000 in
theorem be5 (hr : Int) (al nl ml : Nat) (tl : Nat → Int) (Kst : KS) (Kret : KR) (x : St5 ⊕ Rt5) (hS : HS 1 400 ((I5 hr al nl ml tl)) Kst x) (hR : HR 1 400 ((V5 hr al nl ml tl)) (fun r => [newL (1 + 1) ((N5 hr al nl ml tl) r) ++ [(0, (false, .cols ml [.int .i64 tl]))]]) Kret x) (h : (bif (decide ((↑nl : Int) ≤ (2100 : Int)))
 then (bif (decide (al + nl ≤ ml ∧ nl ≤ 1000000))
 then (bif (decide (0 + nl ≤ nl ∧ nl ≤ 1000000))
 then (bif ((S.filE hr nl fun (j : Nat) => tl (j + al)) == S.filE hr nl fun (j : Nat) => tl (j + al))
 then (bif ((S.gapS hr nl fun (j : Nat) => tl (j + al)).1 == (S.gapS hr nl fun (j : Nat) => tl (j + al)).1)
 then (bif ((S.gapS hr nl fun (j : Nat) => tl (j + al)).2.1 ==
 (S.gapS hr nl fun (j : Nat) => tl (j + al)).2.1)
 then (bif ((S.gapS hr nl fun (j : Nat) => tl (j + al)).2.2 ==
 (S.gapS hr nl fun (j : Nat) => tl (j + al)).2.2)
 then (bif (decide
 (0 + List.length ((S.traS hr nl fun (j : Nat) => tl (j + al)).2) ≤
 List.length ((S.traS hr nl fun (j : Nat) => tl (j + al)).2) ∧
 List.length ((S.traS hr nl fun (j : Nat) => tl (j + al)).2) ≤ 1000000 ∧
 0 + List.length ((S.traS hr nl fun (j : Nat) => tl (j + al)).2) ≤
 List.length ((S.traS hr nl fun (j : Nat) => tl (j + al)).2) ∧
 List.length ((S.traS hr nl fun (j : Nat) => tl (j + al)).2) ≤ 1000000))
 then (bif (decide
 ((S.mkl (List.length ((S.traS hr nl fun (j : Nat) => tl (j + al)).2)) fun (j : Nat) =>
 ((S.at' ((S.traS hr nl fun (j : Nat) => tl (j + al)).2) j).1,
 (S.at' ((S.traS hr nl fun (j : Nat) => tl (j + al)).2) j).2)) =
 S.mkl (List.length ((S.traS hr nl fun (j : Nat) => tl (j + al)).2)) fun (j : Nat) =>
 ((S.at' ((S.traS hr nl fun (j : Nat) => tl (j + al)).2) j).1,
 (S.at' ((S.traS hr nl fun (j : Nat) => tl (j + al)).2) j).2)))
 then (bif ((S.traS hr nl fun (j : Nat) => tl (j + al)).1 == (S.traS hr nl fun (j : Nat) => tl (j + al)).1)
 then (some (.inr (true)))
 else (some (.inr (false))))
 else (some (.inr (false))))
 else (none))
 else (some (.inr (false))))
 else (some (.inr (false))))
 else (some (.inr (false))))
 else (some (.inr (false))))
 else (none))
 else (none))
 else (some (.inr (true))) : Option (St5 ⊕ Rt5)) = some x) : Te5 cond Kst Kret hr al nl ml tl := by
  unfold Te5
  exact cond_yes rfl (cond_yes rfl (bif_split h
   (fun c0 h => bif_split h
   (fun c1 h => bif_split h
   (fun c2 h => cond_yes c1 (cond_yes c1 (cond_yes c2 (cond_yes c1 (cond_yes c1 (cond_yes c2 (cond_yes c1 (bif_split h
   (fun c3 h => bif_split h
   (fun c4 h => bif_split h
   (fun c5 h => bif_split h
   (fun c6 h => bif_split h
   (fun c7 h => bif_split h
   (fun c8 h => bif_split h
   (fun c9 h => ret_at hR _ h (fun n => n) rfl rfl rfl (rn_bool_tf rfl) rfl (entl_bor (use_lo rfl) rfl rfl entl_nil))
   (fun c9 h => ret_at hR _ h (fun n => n) rfl rfl rfl (rn_bool_tf rfl) rfl (entl_bor (use_lo rfl) rfl rfl entl_nil)))
   (fun c8 h => ret_at hR _ h (fun n => n) rfl rfl rfl (rn_bool_tf rfl) rfl (entl_bor (use_lo rfl) rfl rfl entl_nil)))
   (fun c7 h => no_some h))
   (fun c6 h => ret_at hR _ h (fun n => n) rfl rfl rfl (rn_bool_tf rfl) rfl (entl_bor (use_lo rfl) rfl rfl entl_nil)))
   (fun c5 h => ret_at hR _ h (fun n => n) rfl rfl rfl (rn_bool_tf rfl) rfl (entl_bor (use_lo rfl) rfl rfl entl_nil)))
   (fun c4 h => ret_at hR _ h (fun n => n) rfl rfl rfl (rn_bool_tf rfl) rfl (entl_bor (use_lo rfl) rfl rfl entl_nil)))
   (fun c3 h => ret_at hR _ h (fun n => n) rfl rfl rfl (rn_bool_tf rfl) rfl (entl_bor (use_lo rfl) rfl rfl entl_nil))))))))))
   (fun c2 h => no_some h))
   (fun c1 h => no_some h))
   (fun c0 h => cond_yes rfl (cond_yes rfl (ret_at hR _ h (fun n => n) rfl rfl rfl (rn_bool_tf rfl) rfl (entl_bor (use_lo rfl) rfl rfl entl_nil))))))
theorem a5 (hr : Int) (al nl ml : Nat) (tl : Nat → Int) {r : Rt5} (h : Goes ((q5 hr al nl ml tl)) ((p5 hr al nl ml tl)) r) : CallR Try.prog 5 [.agg [.int .i64 hr, .loose ⟨0, 1, al, 0⟩ nl]] [[(0, (false, .cols ml [.int .i64 tl]))]] 1 ((V5 hr al nl ml tl) r) ((fun r => [newL (1 + 1) ((N5 hr al nl ml tl) r) ++ [(0, (false, .cols ml [.int .i64 tl]))]]) r) 400 ∧ ∃ F, Try.prog.funcs[5]? = some F ∧ F.body.isSome = true ∧ (F.name == "runtime.NumGoroutine") = false := by
  refine dec_calls (f := 5) (lo := 1) (hi := 400) (H := [[(0, (false, .cols ml [.int .i64 tl]))]]) (args := [.agg [.int .i64 hr, .loose ⟨0, 1, al, 0⟩ nl]]) Try.envOk Try.mixed xL5_ok ((I5 hr al nl ml tl)) ((V5 hr al nl ml tl)) (fun r => [newL (1 + 1) ((N5 hr al nl ml tl) r) ++ [(0, (false, .cols ml [.int .i64 tl]))]]) (fn := mkFn Try.f5) (ts := []) (n := 400) rfl (by decide) (by simp) (names_of rfl) ?_ ?_ ?_ h
  · intro s; exact s.elim
  · intro Kst Kret x hS hR h
    exact Holds.eq (te5 cond Kst Kret hr al nl ml tl) (be5 hr al nl ml tl Kst Kret x hS hR h)
  · intro Kst Kret x hS hR s h; exact s.elim
noncomputable def k5 : Con := ⟨5, [.agg [.plain (.int .i64), .list [.int .i64]]], fun (x : (Int × (Nat × Nat × Nat × (Nat → Int) × Unit) × Unit) × Unit) => (fun (hr : Int) (al nl ml : Nat) (tl : Nat → Int) => decide (al + nl ≤ ml)) x.1.1 x.1.2.1.1 x.1.2.1.2.1 x.1.2.1.2.2.1 x.1.2.1.2.2.2.1, fun (x : (Int × (Nat × Nat × Nat × (Nat → Int) × Unit) × Unit) × Unit) => (fun (hr : Int) (al nl ml : Nat) (tl : Nat → Int) => (V5 hr al nl ml tl) (true)) x.1.1 x.1.2.1.1 x.1.2.1.2.1 x.1.2.1.2.2.1 x.1.2.1.2.2.2.1, fun (x : (Int × (Nat × Nat × Nat × (Nat → Int) × Unit) × Unit) × Unit) => (fun (hr : Int) (al nl ml : Nat) (tl : Nat → Int) => (N5 hr al nl ml tl) (true)) x.1.1 x.1.2.1.1 x.1.2.1.2.1 x.1.2.1.2.2.1 x.1.2.1.2.2.2.1, fun _ _ => .dead⟩
theorem s5 (hr : Int) (al nl ml : Nat) (tl : Nat → Int) (hp : al + nl ≤ ml) : Goes ((q5 hr al nl ml tl)) ((p5 hr al nl ml tl)) (true) := by
  have hl := traS_len (h := hr) (n := nl) (t := (fun j => tl (j + al)))
  unfold p5
  generalize S.gapS hr nl (fun j => tl (j + al)) = A at *
  generalize S.traS hr nl (fun j => tl (j + al)) = B at *
  generalize S.filE hr nl (fun j => tl (j + al)) = C at *
  by_cases hn : nl ≤ 2100
  · refine goes_ok (decide_eq_true (by omega)) ?_
    refine goes_ok (decide_eq_true ⟨hp, by omega⟩) ?_
    refine goes_ok (decide_eq_true (by omega)) ?_
    refine goes_ok (beq_self_eq_true _) ?_
    refine goes_ok (beq_self_eq_true _) ?_
    refine goes_ok (beq_self_eq_true _) ?_
    refine goes_ok (beq_self_eq_true _) ?_
    refine goes_ok (decide_eq_true (by omega)) ?_
    refine goes_ok (decide_eq_true rfl) ?_
    exact goes_ok (beq_self_eq_true _) (goes_inr.mpr rfl)
  · exact goes_no (decide_eq_false (by omega)) (goes_inr.mpr rfl)

theorem k5_ok : k5.ok Try.prog := by
  intro x hx
  obtain ⟨⟨hr, ⟨al, nl, ml, tl, _⟩, _⟩, _⟩ := x
  obtain ⟨h1, h2⟩ := a5 hr al nl ml tl (s5 hr al nl ml tl (of_dec hx rfl))
  exact ⟨⟨400, (by decide : 1 + 1 + 0 ≤ 400), h1⟩, h2⟩
theorem pre5 {x : SsI k5.ss} (hx : ssFits k5.ss x) : k5.pre (ssj k5.ss x) = true := by
  obtain ⟨⟨h, ⟨n, t, u'⟩, u''⟩, u'''⟩ := x
  exact decide_eq_true (Nat.le_of_eq (Nat.zero_add _))

end Go.Ev
