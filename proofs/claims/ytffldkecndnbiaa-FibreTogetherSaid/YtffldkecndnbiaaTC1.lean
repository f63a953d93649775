/-
  Above and common.
-/
import Derived.Test.YtffldkecndnbiaaTA3
namespace Go.Ev
open Go.Proofs
set_option linter.unusedVariables false
set_option linter.unusedSimpArgs false
set_option maxRecDepth 100000

theorem abv_base {p : Nat → Int} {a x : Nat} (h : ¬ a < x) : S.abv p a x = (a == x) := by rw [S.abv, dif_neg h]
inductive St53 where
  | h0 (x0 : Int) (x1 : Int)
abbrev Rt53 := Int
noncomputable def V53 (ap np mp : Nat) (tp : Nat → Int) (vp : Nat → Int) (gp : Nat → Int) (wp : Nat → Int) (na : Int) (nb : Int) (r : Rt53) : PV := PV.int IntKind.i64 r
noncomputable def N53 (ap np mp : Nat) (tp : Nat → Int) (vp : Nat → Int) (gp : Nat → Int) (wp : Nat → Int) (na : Int) (nb : Int) (r : Rt53) : List Blk := []
noncomputable def I53 (ap np mp : Nat) (tp : Nat → Int) (vp : Nat → Int) (gp : Nat → Int) (wp : Nat → Int) (na : Int) (nb : Int) : St53 → Hd
  | .h0 x0 x1 => ⟨hd Try.f53 0, [PV.int IntKind.i64 x0, PV.int IntKind.i64 x1,
 PV.ptr (PA.mk (1) (0) (0) (0))], [[(1, (true, Blk.cells [PV.loose (PA.mk (0) (4) ap (0)) np]))], [(0, (false, .cols mp [.int .i64 tp, .int .i64 vp, .int .i64 gp, .int .i64 wp]))]], 2⟩
noncomputable def q53 (ap np mp : Nat) (tp : Nat → Int) (vp : Nat → Int) (gp : Nat → Int) (wp : Nat → Int) (na : Int) (nb : Int) : St53 → Option (St53 ⊕ Rt53)
  | .h0 x0 x1 => bif (x0 != x1)
 then (bif (decide ((0 : Int) ≤ Max.max x0 x1 ∧ Max.max x0 x1 < (↑np : Int)))
 then (bif (decide (Int.toNat (Max.max x0 x1) + ap < mp))
 then (some (.inl (.h0 (Min.min x0 x1) (tp (Int.toNat (Max.max x0 x1) + ap)))))
 else (none))
 else (none))
 else (some (.inr (x0)))
noncomputable def p53 (ap np mp : Nat) (tp : Nat → Int) (vp : Nat → Int) (gp : Nat → Int) (wp : Nat → Int) (na : Int) (nb : Int) : Option (St53 ⊕ Rt53) := some (.inl (.h0 (na) (nb)))
noncomputable def Te53 (test : Bool → Prop → Prop → Prop) (Kst : KS) (Kret : KR) (ap np mp : Nat) (tp : Nat → Int) (vp : Nat → Int) (gp : Nat → Int) (wp : Nat → Int) (na : Int) (nb : Int) : Prop :=
  Kst (hd Try.f53 0) ([PV.int IntKind.i64 na, PV.int IntKind.i64 nb,
 PV.ptr (PA.mk (1) (0) (0) (0))]) ([[(0, false,
 Blk.cols mp
 [Col.int IntKind.i64 tp, Col.int IntKind.i64 vp, Col.int IntKind.i64 gp,
 Col.int IntKind.i64 wp]),
 (1, true, Blk.cells [PV.loose (PA.mk (0) (4) ap (0)) np])]]) (2)
set_option maxRecDepth 100000 in
theorem te53 (test : Bool → Prop → Prop → Prop) (Kst : KS) (Kret : KR) (ap np mp : Nat) (tp : Nat → Int) (vp : Nat → Int) (gp : Nat → Int) (wp : Nat → Int) (na : Int) (nb : Int) : run test Try.env true (xB test) true 400 ⟨53, [.cd (mkFn Try.f53).body], argT 0 [.agg [.loose ⟨0, 4, ap, 0⟩ np], .int .i64 na, .int .i64 nb], [[], [(0, (false, .cols mp [.int .i64 tp, .int .i64 vp, .int .i64 gp, .int .i64 wp]))]], 1⟩ (proj 1 [1, 2, 3] Kst Kret) =
  Te53 test Kst Kret ap np mp tp vp gp wp na nb := by kernel_rfl
noncomputable def T53_0 (test : Bool → Prop → Prop → Prop) (Kst : KS) (Kret : KR) (ap np mp : Nat) (tp : Nat → Int) (vp : Nat → Int) (gp : Nat → Int) (wp : Nat → Int) (na : Int) (nb : Int) (x0 : Int) (x1 : Int) : Prop :=
  test (x0 != x1)
 (test (decide ((0 : Int) ≤ Max.max x0 x1 ∧ Max.max x0 x1 < (↑np : Int)))
 (test (decide (Int.toNat (Max.max x0 x1) + ap < mp))
 (Kst (hd Try.f53 0) ([PV.int IntKind.i64 (Min.min x0 x1), PV.int IntKind.i64 (tp (Int.toNat (Max.max x0 x1) + ap)),
 PV.ptr (PA.mk (1) (0) (0) (0))]) ([[(0, false,
 Blk.cols mp
 [Col.int IntKind.i64 tp, Col.int IntKind.i64 vp, Col.int IntKind.i64 gp,
 Col.int IntKind.i64 wp]),
 (1, true, Blk.cells [PV.loose (PA.mk (0) (4) ap (0)) np])]]) (2))
 (False))
 (False))
 (Kret (PV.int IntKind.i64 x0) ([[(0, false,
 Blk.cols mp
 [Col.int IntKind.i64 tp, Col.int IntKind.i64 vp, Col.int IntKind.i64 gp,
 Col.int IntKind.i64 wp])]]) (2))
set_option maxRecDepth 100000 in
theorem t53_0 (test : Bool → Prop → Prop → Prop) (Kst : KS) (Kret : KR) (ap np mp : Nat) (tp : Nat → Int) (vp : Nat → Int) (gp : Nat → Int) (wp : Nat → Int) (na : Int) (nb : Int) (x0 : Int) (x1 : Int) : run test Try.env true (xB test) true 400 ⟨53, hd Try.f53 0, zipT [1, 2, 3] [PV.int IntKind.i64 x0, PV.int IntKind.i64 x1,
 PV.ptr (PA.mk (1) (0) (0) (0))], [[(1, (true, Blk.cells [PV.loose (PA.mk (0) (4) ap (0)) np]))], [(0, (false, .cols mp [.int .i64 tp, .int .i64 vp, .int .i64 gp, .int .i64 wp]))]], 2⟩ (proj 1 [1, 2, 3] Kst Kret) =
  T53_0 test Kst Kret ap np mp tp vp gp wp na nb x0 x1 := by kernel_rfl
set_option maxRecDepth 100000 in
theorem be53 (ap np mp : Nat) (tp : Nat → Int) (vp : Nat → Int) (gp : Nat → Int) (wp : Nat → Int) (na : Int) (nb : Int) (Kst : KS) (Kret : KR) (x : St53 ⊕ Rt53) (hS : HS 1 400 ((I53 ap np mp tp vp gp wp na nb)) Kst x) (hR : HR 1 400 ((V53 ap np mp tp vp gp wp na nb)) (fun r => [newL (1 + 1) ((N53 ap np mp tp vp gp wp na nb) r) ++ [(0, (false, .cols mp [.int .i64 tp, .int .i64 vp, .int .i64 gp, .int .i64 wp]))]]) Kret x) (h : (some (.inl (.h0 (na) (nb))) : Option (St53 ⊕ Rt53)) = some x) : Te53 cond Kst Kret ap np mp tp vp gp wp na nb := by
  unfold Te53
  exact stop_at hS _ h (fun n => bif Nat.beq n 1 then 1 else n) rfl rfl rfl ⟨(rn_int rfl), ⟨(rn_int rfl), ⟨(rn_ptr (use_own rfl) rfl rfl), trivial⟩⟩⟩ rfl (entl_b (use_own rfl) rfl (by simp) (rb_cells ⟨(rn_loose (use_lo rfl) rfl rfl rfl), trivial⟩) (entl_bor (use_lo rfl) rfl rfl entl_nil))
set_option maxRecDepth 100000 in
theorem b53_0 (ap np mp : Nat) (tp : Nat → Int) (vp : Nat → Int) (gp : Nat → Int) (wp : Nat → Int) (na : Int) (nb : Int) (Kst : KS) (Kret : KR) (x : St53 ⊕ Rt53) (hS : HS 1 400 ((I53 ap np mp tp vp gp wp na nb)) Kst x) (hR : HR 1 400 ((V53 ap np mp tp vp gp wp na nb)) (fun r => [newL (1 + 1) ((N53 ap np mp tp vp gp wp na nb) r) ++ [(0, (false, .cols mp [.int .i64 tp, .int .i64 vp, .int .i64 gp, .int .i64 wp]))]]) Kret x) (x0 : Int) (x1 : Int) (h : (bif (x0 != x1)
 then (bif (decide ((0 : Int) ≤ Max.max x0 x1 ∧ Max.max x0 x1 < (↑np : Int)))
 then (bif (decide (Int.toNat (Max.max x0 x1) + ap < mp))
 then (some (.inl (.h0 (Min.min x0 x1) (tp (Int.toNat (Max.max x0 x1) + ap)))))
 else (none))
 else (none))
 else (some (.inr (x0))) : Option (St53 ⊕ Rt53)) = some x) : T53_0 cond Kst Kret ap np mp tp vp gp wp na nb x0 x1 := by
  unfold T53_0
  exact bif_split h
   (fun c0 h => bif_split h
   (fun c1 h => bif_split h
   (fun c2 h => stop_at hS _ h (fun n => bif Nat.beq n 1 then 1 else n) rfl rfl rfl ⟨(rn_int rfl), ⟨(rn_int rfl), ⟨(rn_ptr (use_own rfl) rfl rfl), trivial⟩⟩⟩ rfl (entl_b (use_own rfl) rfl (by simp) (rb_cells ⟨(rn_loose (use_lo rfl) rfl rfl rfl), trivial⟩) (entl_bor (use_lo rfl) rfl rfl entl_nil)))
   (fun c2 h => no_some h))
   (fun c1 h => no_some h))
   (fun c0 h => ret_at hR _ h (fun n => n) rfl rfl rfl (rn_int rfl) rfl (entl_bor (use_lo rfl) rfl rfl entl_nil))
theorem a53 (ap np mp : Nat) (tp : Nat → Int) (vp : Nat → Int) (gp : Nat → Int) (wp : Nat → Int) (na : Int) (nb : Int) {r : Rt53} (h : Goes ((q53 ap np mp tp vp gp wp na nb)) ((p53 ap np mp tp vp gp wp na nb)) r) : CallR Try.prog 53 [.agg [.loose ⟨0, 4, ap, 0⟩ np], .int .i64 na, .int .i64 nb] [[(0, (false, .cols mp [.int .i64 tp, .int .i64 vp, .int .i64 gp, .int .i64 wp]))]] 1 ((V53 ap np mp tp vp gp wp na nb) r) ((fun r => [newL (1 + 1) ((N53 ap np mp tp vp gp wp na nb) r) ++ [(0, (false, .cols mp [.int .i64 tp, .int .i64 vp, .int .i64 gp, .int .i64 wp]))]]) r) 400 ∧ ∃ F, Try.prog.funcs[53]? = some F ∧ F.body.isSome = true ∧ (F.name == "runtime.NumGoroutine") = false := by
  refine dec_calls (f := 53) (lo := 1) (hi := 400) (H := [[(0, (false, .cols mp [.int .i64 tp, .int .i64 vp, .int .i64 gp, .int .i64 wp]))]]) (args := [.agg [.loose ⟨0, 4, ap, 0⟩ np], .int .i64 na, .int .i64 nb]) Try.envOk Try.mixed xB_ok ((I53 ap np mp tp vp gp wp na nb)) ((V53 ap np mp tp vp gp wp na nb)) (fun r => [newL (1 + 1) ((N53 ap np mp tp vp gp wp na nb) r) ++ [(0, (false, .cols mp [.int .i64 tp, .int .i64 vp, .int .i64 gp, .int .i64 wp]))]]) (fn := mkFn Try.f53) (ts := [1, 2, 3]) (n := 400) rfl (by decide) (by simp) (names_of rfl) ?_ ?_ ?_ h
  · intro s; cases s <;> exact ⟨hd_ok _ _, by simp [I53], names_of rfl, Nat.le_of_ble_eq_true rfl⟩
  · intro Kst Kret x hS hR h
    exact Holds.eq (te53 cond Kst Kret ap np mp tp vp gp wp na nb) (be53 ap np mp tp vp gp wp na nb Kst Kret x hS hR h)
  · intro Kst Kret x hS hR s h
    cases s with
    | h0 x0 x1 => exact Holds.eq (t53_0 cond Kst Kret ap np mp tp vp gp wp na nb x0 x1) (b53_0 ap np mp tp vp gp wp na nb Kst Kret x hS hR x0 x1 h)
noncomputable def k53 : Con := ⟨53, [.agg [.list [.int .i64, .int .i64, .int .i64, .int .i64]], .one (.plain (.int .i64)), .one (.plain (.int .i64))], fun (x : ((Nat × Nat × Nat × (Nat → Int) × (Nat → Int) × (Nat → Int) × (Nat → Int) × Unit) × Unit) × Int × Int × Unit) => (fun (ap np mp : Nat) (tp : Nat → Int) (vp : Nat → Int) (gp : Nat → Int) (wp : Nat → Int) (na : Int) (nb : Int) => decide (ap + np ≤ mp ∧ np ≤ 1000000 ∧ S.treE np (fun q => tp (q + ap)) (fun q => vp (q + ap)) (fun q => gp (q + ap)) (fun q => wp (q + ap)) = 0 ∧ (0 ≤ na ∧ na < np) ∧ 0 ≤ nb ∧ nb < np)) x.1.1.1 x.1.1.2.1 x.1.1.2.2.1 x.1.1.2.2.2.1 x.1.1.2.2.2.2.1 x.1.1.2.2.2.2.2.1 x.1.1.2.2.2.2.2.2.1 x.2.1 x.2.2.1, fun (x : ((Nat × Nat × Nat × (Nat → Int) × (Nat → Int) × (Nat → Int) × (Nat → Int) × Unit) × Unit) × Int × Int × Unit) => (fun (ap np mp : Nat) (tp : Nat → Int) (vp : Nat → Int) (gp : Nat → Int) (wp : Nat → Int) (na : Int) (nb : Int) => (V53 ap np mp tp vp gp wp na nb) ((S.com (fun q => tp (q + ap)) na.toNat nb.toNat : Int))) x.1.1.1 x.1.1.2.1 x.1.1.2.2.1 x.1.1.2.2.2.1 x.1.1.2.2.2.2.1 x.1.1.2.2.2.2.2.1 x.1.1.2.2.2.2.2.2.1 x.2.1 x.2.2.1, fun (x : ((Nat × Nat × Nat × (Nat → Int) × (Nat → Int) × (Nat → Int) × (Nat → Int) × Unit) × Unit) × Int × Int × Unit) => (fun (ap np mp : Nat) (tp : Nat → Int) (vp : Nat → Int) (gp : Nat → Int) (wp : Nat → Int) (na : Int) (nb : Int) => (N53 ap np mp tp vp gp wp na nb) ((S.com (fun q => tp (q + ap)) na.toNat nb.toNat : Int))) x.1.1.1 x.1.1.2.1 x.1.1.2.2.1 x.1.1.2.2.2.1 x.1.1.2.2.2.2.1 x.1.1.2.2.2.2.2.1 x.1.1.2.2.2.2.2.2.1 x.2.1 x.2.2.1, fun _ _ => .dead⟩
theorem s53' (ap np mp : Nat) (tp : Nat → Int) (vp : Nat → Int) (gp : Nat → Int) (wp : Nat → Int) (na : Int) (nb : Int) (hp1 : ap + np ≤ mp) (hn : np ≤ 60) (hv : ∀ i, 0 < i → i < np → 0 ≤ tp (i + ap) ∧ tp (i + ap) < i) : ∀ (s a c : Nat), a + c ≤ s → a < np → c < np → Comes (q53 ap np mp tp vp gp wp na nb) (.h0 (a : Int) (c : Int)) ((S.com (fun q => tp (q + ap)) a c : Nat) : Int) := by
  intro s
  induction s with
  | zero =>
    intro a c hs ha hc
    obtain rfl : a = 0 := by omega
    obtain rfl : c = 0 := by omega
    rw [com_z]
    apply Comes.of
    show Goes _ _ _
    (first | rw [q53] | unfold q53)
    repeat' first
      | with_reducible refine goes_if (fun h => ?_) (fun h => ?_) <;> (try simp only [lim64, decide_eq_true_eq, decide_eq_false_iff_not, Int.toNat_natCast, toNat_pred, toNat_succ, Option.getD_some, Option.getD_none, Bool.not_eq_true', Bool.not_eq_false', Bool.and_eq_true, Bool.or_eq_true, Bool.and_eq_false_iff, Bool.or_eq_false_iff, bne_iff_ne, beq_iff_eq, bne_eq_false_iff_eq, beq_eq_false_iff_ne, ne_eq, not_and, Int.not_le, Int.not_lt, ge_iff_le, gt_iff_lt, Nat.not_lt, Nat.not_le, Bool.not_eq_true, Bool.not_eq_false, Bool.true_eq_false, Bool.false_eq_true, not_false_eq_true, not_true_eq_false] at h)
      | exact goes_none.mpr (by omega)
    all_goals first | (exfalso; omega) | exact goes_inr.mpr rfl
  | succ s ih =>
    intro a c hs ha hc
    rcases Nat.lt_trichotomy a c with hl | hl | hl
    · have e : tp (c + ap) = (S.par (fun q => tp (q + ap)) c : Int) := par_is hv (by omega) hc
      have hpl := par_lt (p := (fun q => tp (q + ap))) (show 0 < c by omega)
      have ih := ih a (S.par (fun q => tp (q + ap)) c) (by omega) ha (by omega)
      rw [com_up' hl]
      have hmx : max (a : Int) (c : Int) = (c : Int) := by omega
      have hmn : min (a : Int) (c : Int) = (a : Int) := by omega
      rw [← e] at ih
      apply Comes.of
      rw [q53, hmx, hmn, Int.toNat_natCast]
      repeat' first
        | with_reducible refine goes_if (fun h => ?_) (fun h => ?_) <;> (try simp only [lim64, decide_eq_true_eq, decide_eq_false_iff_not, Int.toNat_natCast, toNat_pred, toNat_succ, Option.getD_some, Option.getD_none, Bool.not_eq_true', Bool.not_eq_false', Bool.and_eq_true, Bool.or_eq_true, Bool.and_eq_false_iff, Bool.or_eq_false_iff, bne_iff_ne, beq_iff_eq, bne_eq_false_iff_eq, beq_eq_false_iff_ne, ne_eq, not_and, Int.not_le, Int.not_lt, ge_iff_le, gt_iff_lt, Nat.not_lt, Nat.not_le, Bool.not_eq_true, Bool.not_eq_false, Bool.true_eq_false, Bool.false_eq_true, not_false_eq_true, not_true_eq_false] at h)
        | exact goes_none.mpr (by omega)
      all_goals first | (exfalso; omega) | exact ih
    · subst hl
      rw [com_yes abv_eq]
      apply Comes.of
      show Goes _ _ _
      (first | rw [q53] | unfold q53)
      repeat' first
        | with_reducible refine goes_if (fun h => ?_) (fun h => ?_) <;> (try simp only [lim64, decide_eq_true_eq, decide_eq_false_iff_not, Int.toNat_natCast, toNat_pred, toNat_succ, Option.getD_some, Option.getD_none, Bool.not_eq_true', Bool.not_eq_false', Bool.and_eq_true, Bool.or_eq_true, Bool.and_eq_false_iff, Bool.or_eq_false_iff, bne_iff_ne, beq_iff_eq, bne_eq_false_iff_eq, beq_eq_false_iff_ne, ne_eq, not_and, Int.not_le, Int.not_lt, ge_iff_le, gt_iff_lt, Nat.not_lt, Nat.not_le, Bool.not_eq_true, Bool.not_eq_false, Bool.true_eq_false, Bool.false_eq_true, not_false_eq_true, not_true_eq_false] at h)
        | exact goes_none.mpr (by omega)
      all_goals first | (exfalso; omega) | exact goes_inr.mpr rfl
    · have e : tp (a + ap) = (S.par (fun q => tp (q + ap)) a : Int) := par_is hv (by omega) ha
      have hpl := par_lt (p := (fun q => tp (q + ap))) (show 0 < a by omega)
      have ih := ih c (S.par (fun q => tp (q + ap)) a) (by omega) hc (by omega)
      rw [com_up (abv_no hl), com_sym _ _ _ (Nat.le_refl _)]
      have hmx : max (a : Int) (c : Int) = (a : Int) := by omega
      have hmn : min (a : Int) (c : Int) = (c : Int) := by omega
      rw [← e] at ih
      apply Comes.of
      rw [q53, hmx, hmn, Int.toNat_natCast]
      repeat' first
        | with_reducible refine goes_if (fun h => ?_) (fun h => ?_) <;> (try simp only [lim64, decide_eq_true_eq, decide_eq_false_iff_not, Int.toNat_natCast, toNat_pred, toNat_succ, Option.getD_some, Option.getD_none, Bool.not_eq_true', Bool.not_eq_false', Bool.and_eq_true, Bool.or_eq_true, Bool.and_eq_false_iff, Bool.or_eq_false_iff, bne_iff_ne, beq_iff_eq, bne_eq_false_iff_eq, beq_eq_false_iff_ne, ne_eq, not_and, Int.not_le, Int.not_lt, ge_iff_le, gt_iff_lt, Nat.not_lt, Nat.not_le, Bool.not_eq_true, Bool.not_eq_false, Bool.true_eq_false, Bool.false_eq_true, not_false_eq_true, not_true_eq_false] at h)
        | exact goes_none.mpr (by omega)
      all_goals first | (exfalso; omega) | exact ih
theorem s53 (ap np mp : Nat) (tp : Nat → Int) (vp : Nat → Int) (gp : Nat → Int) (wp : Nat → Int) (na : Int) (nb : Int) (hp : ap + np ≤ mp ∧ np ≤ 1000000 ∧ S.treE np (fun q => tp (q + ap)) (fun q => vp (q + ap)) (fun q => gp (q + ap)) (fun q => wp (q + ap)) = 0 ∧ (0 ≤ na ∧ na < np) ∧ 0 ≤ nb ∧ nb < np) : Goes ((q53 ap np mp tp vp gp wp na nb)) ((p53 ap np mp tp vp gp wp na nb)) ((S.com (fun q => tp (q + ap)) na.toNat nb.toNat : Int)) := by
  obtain ⟨hp1, hp2, hp3, hp4, hp5⟩ := hp
  obtain ⟨v1, v2, v3, v4, v5, v6⟩ := tre_ok hp3
  have hm := s53' ap np mp tp vp gp wp na nb hp1 v2 v4 _ na.toNat nb.toNat (Nat.le_refl _) (by omega) (by omega)
  rw [Int.toNat_of_nonneg hp4.1, Int.toNat_of_nonneg hp5.1] at hm
  show Goes _ _ _
  unfold p53
  repeat' first
    | with_reducible refine goes_if (fun h => ?_) (fun h => ?_) <;> (try simp only [lim64, decide_eq_true_eq, decide_eq_false_iff_not, Int.toNat_natCast, toNat_pred, toNat_succ, Option.getD_some, Option.getD_none, Bool.not_eq_true', Bool.not_eq_false', Bool.and_eq_true, Bool.or_eq_true, Bool.and_eq_false_iff, Bool.or_eq_false_iff, bne_iff_ne, beq_iff_eq, bne_eq_false_iff_eq, beq_eq_false_iff_ne, ne_eq, not_and, Int.not_le, Int.not_lt, ge_iff_le, gt_iff_lt, Nat.not_lt, Nat.not_le, Bool.not_eq_true, Bool.not_eq_false, Bool.true_eq_false, Bool.false_eq_true, not_false_eq_true, not_true_eq_false] at h)
    | exact goes_none.mpr (by omega)
  all_goals first | (exfalso; omega) | exact hm

theorem k53_ok : k53.ok Try.prog := by
  intro x hx
  obtain ⟨⟨⟨ap, np, mp, tp, vp, gp, wp, _⟩, _⟩, na, nb, _⟩ := x
  obtain ⟨h1, h2⟩ := a53 ap np mp tp vp gp wp na nb (s53 ap np mp tp vp gp wp na nb (of_dec hx rfl))
  exact ⟨⟨400, (by decide : 1 + 1 + 0 ≤ 400), h1⟩, h2⟩
noncomputable def xG (test : Bool → Prop → Prop → Prop) : Ext := consX test []
theorem xG_ok : ExtOk Try.prog (xG cond) := consX_ok trivial

end Go.Ev
