/-
  Common nodes.
-/
import Derived.Test.YtffldkecndnbiaaC1
namespace Go.Ev
open Go.Proofs
set_option linter.unusedVariables false
set_option linter.unusedSimpArgs false
set_option maxRecDepth 100000
inductive St54 where
  | h0 (x0 : Int)
abbrev Rt54 := Int
noncomputable def V54 (ap np mp : Nat) (tp : Nat → Int) (vp : Nat → Int) (gp : Nat → Int) (wp : Nat → Int) (na : Int) (nb : Int) (r : Rt54) : PV := PV.int IntKind.i64 r
noncomputable def N54 (ap np mp : Nat) (tp : Nat → Int) (vp : Nat → Int) (gp : Nat → Int) (wp : Nat → Int) (na : Int) (nb : Int) (r : Rt54) : List Blk := []
noncomputable def I54 (ap np mp : Nat) (tp : Nat → Int) (vp : Nat → Int) (gp : Nat → Int) (wp : Nat → Int) (na : Int) (nb : Int) : St54 → Hd
  | .h0 x0 => ⟨hd Try.f54 0, [PV.int IntKind.i64 x0, PV.int IntKind.i64 nb,
 PV.ptr (PA.mk (1) (0) (0) (0))], [[(1, (true, Blk.cells [PV.loose (PA.mk (0) (4) ap (0)) np]))], [(0, (false, .cols mp [.int .i64 tp, .int .i64 vp, .int .i64 gp, .int .i64 wp]))]], 2⟩
noncomputable def q54 (ap np mp : Nat) (tp : Nat → Int) (vp : Nat → Int) (gp : Nat → Int) (wp : Nat → Int) (na : Int) (nb : Int) : St54 → Option (St54 ⊕ Rt54)
  | .h0 x0 => bif (decide
 (ap + np ≤ mp ∧
 np ≤ 1000000 ∧
 (S.treE np (fun (q : Nat) => tp (q + ap)) (fun (q : Nat) => vp (q + ap)) (fun (q : Nat) => gp (q + ap))
 fun (q : Nat) => wp (q + ap)) =
 (0 : Int) ∧
 ((0 : Int) ≤ x0 ∧ x0 < (↑np : Int)) ∧ (0 : Int) ≤ nb ∧ nb < (↑np : Int)))
 then (bif (S.abv (fun (q : Nat) => tp (q + ap)) (Int.toNat x0) (Int.toNat nb))
 then (some (.inr (x0)))
 else (bif (decide ((0 : Int) ≤ x0 ∧ x0 < (↑np : Int)))
 then (bif (decide (Int.toNat x0 + ap < mp))
 then (some (.inl (.h0 (tp (Int.toNat x0 + ap)))))
 else (none))
 else (none)))
 else (none)
noncomputable def p54 (ap np mp : Nat) (tp : Nat → Int) (vp : Nat → Int) (gp : Nat → Int) (wp : Nat → Int) (na : Int) (nb : Int) : Option (St54 ⊕ Rt54) := some (.inl (.h0 (na)))
noncomputable def Te54 (test : Bool → Prop → Prop → Prop) (Kst : KS) (Kret : KR) (ap np mp : Nat) (tp : Nat → Int) (vp : Nat → Int) (gp : Nat → Int) (wp : Nat → Int) (na : Int) (nb : Int) : Prop :=
  Kst (hd Try.f54 0) ([PV.int IntKind.i64 na, PV.int IntKind.i64 nb,
 PV.ptr (PA.mk (1) (0) (0) (0))]) ([[(0, false,
 Blk.cols mp
 [Col.int IntKind.i64 tp, Col.int IntKind.i64 vp, Col.int IntKind.i64 gp,
 Col.int IntKind.i64 wp]),
 (1, true, Blk.cells [PV.loose (PA.mk (0) (4) ap (0)) np])]]) (2)
set_option maxRecDepth 100000 in
theorem te54 (test : Bool → Prop → Prop → Prop) (Kst : KS) (Kret : KR) (ap np mp : Nat) (tp : Nat → Int) (vp : Nat → Int) (gp : Nat → Int) (wp : Nat → Int) (na : Int) (nb : Int) : run test Try.env true (xG test) true 400 ⟨54, [.cd (mkFn Try.f54).body], argT 0 [.agg [.loose ⟨0, 4, ap, 0⟩ np], .int .i64 na, .int .i64 nb], [[], [(0, (false, .cols mp [.int .i64 tp, .int .i64 vp, .int .i64 gp, .int .i64 wp]))]], 1⟩ (proj 1 [1, 2, 3] Kst Kret) =
  Te54 test Kst Kret ap np mp tp vp gp wp na nb := by kernel_rfl
noncomputable def T54_0 (test : Bool → Prop → Prop → Prop) (Kst : KS) (Kret : KR) (ap np mp : Nat) (tp : Nat → Int) (vp : Nat → Int) (gp : Nat → Int) (wp : Nat → Int) (na : Int) (nb : Int) (x0 : Int) : Prop :=
  test (decide
 (ap + np ≤ mp ∧
 np ≤ 1000000 ∧
 (S.treE np (fun (q : Nat) => tp (q + ap)) (fun (q : Nat) => vp (q + ap)) (fun (q : Nat) => gp (q + ap))
 fun (q : Nat) => wp (q + ap)) =
 (0 : Int) ∧
 ((0 : Int) ≤ x0 ∧ x0 < (↑np : Int)) ∧ (0 : Int) ≤ nb ∧ nb < (↑np : Int)))
 (test (S.abv (fun (q : Nat) => tp (q + ap)) (Int.toNat x0) (Int.toNat nb))
 (Kret (PV.int IntKind.i64 x0) ([[(0, false,
 Blk.cols mp
 [Col.int IntKind.i64 tp, Col.int IntKind.i64 vp, Col.int IntKind.i64 gp,
 Col.int IntKind.i64 wp])]]) (3))
 (test (decide ((0 : Int) ≤ x0 ∧ x0 < (↑np : Int)))
 (test (decide (Int.toNat x0 + ap < mp))
 (Kst (hd Try.f54 0) ([PV.int IntKind.i64 (tp (Int.toNat x0 + ap)), PV.int IntKind.i64 nb,
 PV.ptr (PA.mk (1) (0) (0) (0))]) ([[(0, false,
 Blk.cols mp
 [Col.int IntKind.i64 tp, Col.int IntKind.i64 vp, Col.int IntKind.i64 gp,
 Col.int IntKind.i64 wp]),
 (1, true, Blk.cells [PV.loose (PA.mk (0) (4) ap (0)) np])]]) (3))
 (False))
 (False)))
 (False)
set_option maxRecDepth 100000 in
theorem t54_0 (test : Bool → Prop → Prop → Prop) (Kst : KS) (Kret : KR) (ap np mp : Nat) (tp : Nat → Int) (vp : Nat → Int) (gp : Nat → Int) (wp : Nat → Int) (na : Int) (nb : Int) (x0 : Int) : run test Try.env true (xG test) true 400 ⟨54, hd Try.f54 0, zipT [1, 2, 3] [PV.int IntKind.i64 x0, PV.int IntKind.i64 nb,
 PV.ptr (PA.mk (1) (0) (0) (0))], [[(1, (true, Blk.cells [PV.loose (PA.mk (0) (4) ap (0)) np]))], [(0, (false, .cols mp [.int .i64 tp, .int .i64 vp, .int .i64 gp, .int .i64 wp]))]], 2⟩ (proj 1 [1, 2, 3] Kst Kret) =
  T54_0 test Kst Kret ap np mp tp vp gp wp na nb x0 := by kernel_rfl
set_option maxRecDepth 100000 in
theorem be54 (ap np mp : Nat) (tp : Nat → Int) (vp : Nat → Int) (gp : Nat → Int) (wp : Nat → Int) (na : Int) (nb : Int) (Kst : KS) (Kret : KR) (x : St54 ⊕ Rt54) (hS : HS 1 400 ((I54 ap np mp tp vp gp wp na nb)) Kst x) (hR : HR 1 400 ((V54 ap np mp tp vp gp wp na nb)) (fun r => [newL (1 + 1) ((N54 ap np mp tp vp gp wp na nb) r) ++ [(0, (false, .cols mp [.int .i64 tp, .int .i64 vp, .int .i64 gp, .int .i64 wp]))]]) Kret x) (h : (some (.inl (.h0 (na))) : Option (St54 ⊕ Rt54)) = some x) : Te54 cond Kst Kret ap np mp tp vp gp wp na nb := by
  unfold Te54
  exact stop_at hS _ h (fun n => bif Nat.beq n 1 then 1 else n) rfl rfl rfl ⟨(rn_int rfl), ⟨(rn_int rfl), ⟨(rn_ptr (use_own rfl) rfl rfl), trivial⟩⟩⟩ rfl (entl_b (use_own rfl) rfl (by simp) (rb_cells ⟨(rn_loose (use_lo rfl) rfl rfl rfl), trivial⟩) (entl_bor (use_lo rfl) rfl rfl entl_nil))
set_option maxRecDepth 100000 in
theorem b54_0 (ap np mp : Nat) (tp : Nat → Int) (vp : Nat → Int) (gp : Nat → Int) (wp : Nat → Int) (na : Int) (nb : Int) (Kst : KS) (Kret : KR) (x : St54 ⊕ Rt54) (hS : HS 1 400 ((I54 ap np mp tp vp gp wp na nb)) Kst x) (hR : HR 1 400 ((V54 ap np mp tp vp gp wp na nb)) (fun r => [newL (1 + 1) ((N54 ap np mp tp vp gp wp na nb) r) ++ [(0, (false, .cols mp [.int .i64 tp, .int .i64 vp, .int .i64 gp, .int .i64 wp]))]]) Kret x) (x0 : Int) (h : (bif (decide
 (ap + np ≤ mp ∧
 np ≤ 1000000 ∧
 (S.treE np (fun (q : Nat) => tp (q + ap)) (fun (q : Nat) => vp (q + ap)) (fun (q : Nat) => gp (q + ap))
 fun (q : Nat) => wp (q + ap)) =
 (0 : Int) ∧
 ((0 : Int) ≤ x0 ∧ x0 < (↑np : Int)) ∧ (0 : Int) ≤ nb ∧ nb < (↑np : Int)))
 then (bif (S.abv (fun (q : Nat) => tp (q + ap)) (Int.toNat x0) (Int.toNat nb))
 then (some (.inr (x0)))
 else (bif (decide ((0 : Int) ≤ x0 ∧ x0 < (↑np : Int)))
 then (bif (decide (Int.toNat x0 + ap < mp))
 then (some (.inl (.h0 (tp (Int.toNat x0 + ap)))))
 else (none))
 else (none)))
 else (none) : Option (St54 ⊕ Rt54)) = some x) : T54_0 cond Kst Kret ap np mp tp vp gp wp na nb x0 := by
  unfold T54_0
  exact bif_split h
   (fun c0 h => bif_split h
   (fun c1 h => ret_at hR _ h (fun n => n) rfl rfl rfl (rn_int rfl) rfl (entl_bor (use_lo rfl) rfl rfl entl_nil))
   (fun c1 h => bif_split h
   (fun c2 h => bif_split h
   (fun c3 h => stop_at hS _ h (fun n => bif Nat.beq n 1 then 1 else n) rfl rfl rfl ⟨(rn_int rfl), ⟨(rn_int rfl), ⟨(rn_ptr (use_own rfl) rfl rfl), trivial⟩⟩⟩ rfl (entl_b (use_own rfl) rfl (by simp) (rb_cells ⟨(rn_loose (use_lo rfl) rfl rfl rfl), trivial⟩) (entl_bor (use_lo rfl) rfl rfl entl_nil)))
   (fun c3 h => no_some h))
   (fun c2 h => no_some h)))
   (fun c0 h => no_some h)
theorem a54 (ap np mp : Nat) (tp : Nat → Int) (vp : Nat → Int) (gp : Nat → Int) (wp : Nat → Int) (na : Int) (nb : Int) {r : Rt54} (h : Goes ((q54 ap np mp tp vp gp wp na nb)) ((p54 ap np mp tp vp gp wp na nb)) r) : CallR Try.prog 54 [.agg [.loose ⟨0, 4, ap, 0⟩ np], .int .i64 na, .int .i64 nb] [[(0, (false, .cols mp [.int .i64 tp, .int .i64 vp, .int .i64 gp, .int .i64 wp]))]] 1 ((V54 ap np mp tp vp gp wp na nb) r) ((fun r => [newL (1 + 1) ((N54 ap np mp tp vp gp wp na nb) r) ++ [(0, (false, .cols mp [.int .i64 tp, .int .i64 vp, .int .i64 gp, .int .i64 wp]))]]) r) 400 ∧ ∃ F, Try.prog.funcs[54]? = some F ∧ F.body.isSome = true ∧ (F.name == "runtime.NumGoroutine") = false := by
  refine dec_calls (f := 54) (lo := 1) (hi := 400) (H := [[(0, (false, .cols mp [.int .i64 tp, .int .i64 vp, .int .i64 gp, .int .i64 wp]))]]) (args := [.agg [.loose ⟨0, 4, ap, 0⟩ np], .int .i64 na, .int .i64 nb]) Try.envOk Try.mixed xG_ok ((I54 ap np mp tp vp gp wp na nb)) ((V54 ap np mp tp vp gp wp na nb)) (fun r => [newL (1 + 1) ((N54 ap np mp tp vp gp wp na nb) r) ++ [(0, (false, .cols mp [.int .i64 tp, .int .i64 vp, .int .i64 gp, .int .i64 wp]))]]) (fn := mkFn Try.f54) (ts := [1, 2, 3]) (n := 400) rfl (by decide) (by simp) (names_of rfl) ?_ ?_ ?_ h
  · intro s; cases s <;> exact ⟨hd_ok _ _, by simp [I54], names_of rfl, Nat.le_of_ble_eq_true rfl⟩
  · intro Kst Kret x hS hR h
    exact Holds.eq (te54 cond Kst Kret ap np mp tp vp gp wp na nb) (be54 ap np mp tp vp gp wp na nb Kst Kret x hS hR h)
  · intro Kst Kret x hS hR s h
    cases s with
    | h0 x0 => exact Holds.eq (t54_0 cond Kst Kret ap np mp tp vp gp wp na nb x0) (b54_0 ap np mp tp vp gp wp na nb Kst Kret x hS hR x0 h)
noncomputable def k54 : Con := ⟨54, [.agg [.list [.int .i64, .int .i64, .int .i64, .int .i64]], .one (.plain (.int .i64)), .one (.plain (.int .i64))], fun (x : ((Nat × Nat × Nat × (Nat → Int) × (Nat → Int) × (Nat → Int) × (Nat → Int) × Unit) × Unit) × Int × Int × Unit) => (fun (ap np mp : Nat) (tp : Nat → Int) (vp : Nat → Int) (gp : Nat → Int) (wp : Nat → Int) (na : Int) (nb : Int) => decide (ap + np ≤ mp ∧ np ≤ 1000000 ∧ S.treE np (fun q => tp (q + ap)) (fun q => vp (q + ap)) (fun q => gp (q + ap)) (fun q => wp (q + ap)) = 0 ∧ (0 ≤ na ∧ na < np) ∧ 0 ≤ nb ∧ nb < np)) x.1.1.1 x.1.1.2.1 x.1.1.2.2.1 x.1.1.2.2.2.1 x.1.1.2.2.2.2.1 x.1.1.2.2.2.2.2.1 x.1.1.2.2.2.2.2.2.1 x.2.1 x.2.2.1, fun (x : ((Nat × Nat × Nat × (Nat → Int) × (Nat → Int) × (Nat → Int) × (Nat → Int) × Unit) × Unit) × Int × Int × Unit) => (fun (ap np mp : Nat) (tp : Nat → Int) (vp : Nat → Int) (gp : Nat → Int) (wp : Nat → Int) (na : Int) (nb : Int) => (V54 ap np mp tp vp gp wp na nb) ((S.com (fun q => tp (q + ap)) na.toNat nb.toNat : Int))) x.1.1.1 x.1.1.2.1 x.1.1.2.2.1 x.1.1.2.2.2.1 x.1.1.2.2.2.2.1 x.1.1.2.2.2.2.2.1 x.1.1.2.2.2.2.2.2.1 x.2.1 x.2.2.1, fun (x : ((Nat × Nat × Nat × (Nat → Int) × (Nat → Int) × (Nat → Int) × (Nat → Int) × Unit) × Unit) × Int × Int × Unit) => (fun (ap np mp : Nat) (tp : Nat → Int) (vp : Nat → Int) (gp : Nat → Int) (wp : Nat → Int) (na : Int) (nb : Int) => (N54 ap np mp tp vp gp wp na nb) ((S.com (fun q => tp (q + ap)) na.toNat nb.toNat : Int))) x.1.1.1 x.1.1.2.1 x.1.1.2.2.1 x.1.1.2.2.2.1 x.1.1.2.2.2.2.1 x.1.1.2.2.2.2.2.1 x.1.1.2.2.2.2.2.2.1 x.2.1 x.2.2.1, fun _ _ => .dead⟩
theorem s54' (ap np mp : Nat) (tp : Nat → Int) (vp : Nat → Int) (gp : Nat → Int) (wp : Nat → Int) (na : Int) (nb : Int) (hp1 : ap + np ≤ mp) (hp2 : np ≤ 1000000) (ht : S.treE np (fun q => tp (q + ap)) (fun q => vp (q + ap)) (fun q => gp (q + ap)) (fun q => wp (q + ap)) = 0) (hv : ∀ i, 0 < i → i < np → 0 ≤ tp (i + ap) ∧ tp (i + ap) < i) (hb : 0 ≤ nb ∧ nb < np) : ∀ (x : Nat), x < np → Comes (q54 ap np mp tp vp gp wp na nb) (.h0 (x : Int)) ((S.com (fun q => tp (q + ap)) x nb.toNat : Nat) : Int) := by
  refine nrec (fun q => tp (q + ap)) (fun hx => ?_) (fun x h0 ih hx => ?_)
  · have hr := abv_root (p := (fun q => tp (q + ap))) nb.toNat
    rw [com_z]
    apply Comes.of
    show Goes _ _ _
    (first | rw [q54] | unfold q54)
    repeat' first
      | with_reducible refine goes_if (fun h => ?_) (fun h => ?_) <;> (try simp only [lim64, decide_eq_true_eq, decide_eq_false_iff_not, Int.toNat_natCast, toNat_pred, toNat_succ, Option.getD_some, Option.getD_none, Bool.not_eq_true', Bool.not_eq_false', Bool.and_eq_true, Bool.or_eq_true, Bool.and_eq_false_iff, Bool.or_eq_false_iff, bne_iff_ne, beq_iff_eq, bne_eq_false_iff_eq, beq_eq_false_iff_ne, ne_eq, not_and, Int.not_le, Int.not_lt, ge_iff_le, gt_iff_lt, Nat.not_lt, Nat.not_le, Bool.not_eq_true, Bool.not_eq_false, Bool.true_eq_false, Bool.false_eq_true, not_false_eq_true, not_true_eq_false] at h)
      | exact goes_none.mpr (by omega)
    all_goals first | (exfalso; omega) | exact goes_inr.mpr rfl | (exfalso; simp_all; done)
  · have e : tp (x + ap) = (S.par (fun q => tp (q + ap)) x : Int) := par_is hv h0 hx
    have hl := par_lt (p := (fun q => tp (q + ap))) h0
    have ih := ih (by omega)
    rw [← e] at ih
    apply Comes.of
    show Goes _ _ _
    (first | rw [q54] | unfold q54)
    repeat' first
      | with_reducible refine goes_if (fun h => ?_) (fun h => ?_) <;> (try simp only [lim64, decide_eq_true_eq, decide_eq_false_iff_not, Int.toNat_natCast, toNat_pred, toNat_succ, Option.getD_some, Option.getD_none, Bool.not_eq_true', Bool.not_eq_false', Bool.and_eq_true, Bool.or_eq_true, Bool.and_eq_false_iff, Bool.or_eq_false_iff, bne_iff_ne, beq_iff_eq, bne_eq_false_iff_eq, beq_eq_false_iff_ne, ne_eq, not_and, Int.not_le, Int.not_lt, ge_iff_le, gt_iff_lt, Nat.not_lt, Nat.not_le, Bool.not_eq_true, Bool.not_eq_false, Bool.true_eq_false, Bool.false_eq_true, not_false_eq_true, not_true_eq_false] at h)
      | exact goes_none.mpr (by omega)
    all_goals first | (exfalso; omega) | (rw [com_up (by assumption)]; exact ih) | (rw [com_yes (by assumption)]; exact goes_inr.mpr rfl)
theorem s54 (ap np mp : Nat) (tp : Nat → Int) (vp : Nat → Int) (gp : Nat → Int) (wp : Nat → Int) (na : Int) (nb : Int) (hp : ap + np ≤ mp ∧ np ≤ 1000000 ∧ S.treE np (fun q => tp (q + ap)) (fun q => vp (q + ap)) (fun q => gp (q + ap)) (fun q => wp (q + ap)) = 0 ∧ (0 ≤ na ∧ na < np) ∧ 0 ≤ nb ∧ nb < np) : Goes ((q54 ap np mp tp vp gp wp na nb)) ((p54 ap np mp tp vp gp wp na nb)) ((S.com (fun q => tp (q + ap)) na.toNat nb.toNat : Int)) := by
  obtain ⟨hp1, hp2, hp3, hp4, hp5⟩ := hp
  obtain ⟨v1, v2, v3, v4, v5, v6⟩ := tre_ok hp3
  have hm := s54' ap np mp tp vp gp wp na nb hp1 hp2 hp3 v4 hp5 na.toNat (by omega)
  rw [Int.toNat_of_nonneg hp4.1] at hm
  show Goes _ _ _
  unfold p54
  repeat' first
    | with_reducible refine goes_if (fun h => ?_) (fun h => ?_) <;> (try simp only [lim64, decide_eq_true_eq, decide_eq_false_iff_not, Int.toNat_natCast, toNat_pred, toNat_succ, Option.getD_some, Option.getD_none, Bool.not_eq_true', Bool.not_eq_false', Bool.and_eq_true, Bool.or_eq_true, Bool.and_eq_false_iff, Bool.or_eq_false_iff, bne_iff_ne, beq_iff_eq, bne_eq_false_iff_eq, beq_eq_false_iff_ne, ne_eq, not_and, Int.not_le, Int.not_lt, ge_iff_le, gt_iff_lt, Nat.not_lt, Nat.not_le, Bool.not_eq_true, Bool.not_eq_false, Bool.true_eq_false, Bool.false_eq_true, not_false_eq_true, not_true_eq_false] at h)
    | exact goes_none.mpr (by omega)
  all_goals first | (exfalso; omega) | exact hm

theorem k54_ok : k54.ok Try.prog := by
  intro x hx
  obtain ⟨⟨⟨ap, np, mp, tp, vp, gp, wp, _⟩, _⟩, na, nb, _⟩ := x
  obtain ⟨h1, h2⟩ := a54 ap np mp tp vp gp wp na nb (s54 ap np mp tp vp gp wp na nb (of_dec hx rfl))
  exact ⟨⟨400, (by decide : 1 + 1 + 0 ≤ 400), h1⟩, h2⟩
noncomputable def xH (test : Bool → Prop → Prop → Prop) : Ext := consX test [k19, k20, k53, k54]
theorem xH_ok : ExtOk Try.prog (xH cond) := consX_ok ⟨k19_ok, k20_ok, k53_ok, k54_ok, trivial⟩

end Go.Ev
