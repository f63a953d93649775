/-
  The path of a node.
-/
import Derived.Test.YtffldkecndnbiaaTA1
namespace Go.Ev
open Go.Proofs
set_option linter.unusedVariables false
set_option linter.unusedSimpArgs false
set_option maxRecDepth 100000
inductive St50 where
  | h0 (x0 : Int) (x1 : List Int)
abbrev Rt50 := List Int
noncomputable def V50 (ap np mp : Nat) (tp : Nat → Int) (vp : Nat → Int) (gp : Nat → Int) (wp : Nat → Int) (node : Int) (r : Rt50) : PV := PV.own (2) (1) (List.length r)
noncomputable def N50 (ap np mp : Nat) (tp : Nat → Int) (vp : Nat → Int) (gp : Nat → Int) (wp : Nat → Int) (node : Int) (r : Rt50) : List Blk := [Blk.cols (List.length r) [Col.int IntKind.i64 fun (j : Nat) => S.at' r j]]
noncomputable def I50 (ap np mp : Nat) (tp : Nat → Int) (vp : Nat → Int) (gp : Nat → Int) (wp : Nat → Int) (node : Int) : St50 → Hd
  | .h0 x0 x1 => ⟨hd Try.f50 0, [PV.int IntKind.i64 x0, PV.ptr (PA.mk (1) (0) (0) (0)),
 PV.own (2) (1) (List.length x1)], [[(1, (true, Blk.cells [PV.loose (PA.mk (0) (4) ap (0)) np])), (2, (true, Blk.cols (List.length x1) [Col.int IntKind.i64 fun (j : Nat) => S.at' x1 j]))], [(0, (false, .cols mp [.int .i64 tp, .int .i64 vp, .int .i64 gp, .int .i64 wp]))]], 3⟩
noncomputable def q50 (ap np mp : Nat) (tp : Nat → Int) (vp : Nat → Int) (gp : Nat → Int) (wp : Nat → Int) (node : Int) : St50 → Option (St50 ⊕ Rt50)
  | .h0 x0 x1 => bif (decide (x0 > (0 : Int)))
 then (bif (decide (List.length x1 + 1 ≤ 1000000))
 then (bif (decide (List.length x1 ≤ List.length x1))
 then (bif (decide ((0 : Int) ≤ x0 ∧ x0 < (↑np : Int)))
 then (bif (decide (Int.toNat x0 + ap < mp))
 then (some (.inl (.h0 (tp (Int.toNat x0 + ap)) (S.snoc x1 x0))))
 else (none))
 else (none))
 else (none))
 else (none))
 else (some (.inr (x1)))
noncomputable def p50 (ap np mp : Nat) (tp : Nat → Int) (vp : Nat → Int) (gp : Nat → Int) (wp : Nat → Int) (node : Int) : Option (St50 ⊕ Rt50) := some (.inl (.h0 (node) ([])))
noncomputable def Te50 (test : Bool → Prop → Prop → Prop) (Kst : KS) (Kret : KR) (ap np mp : Nat) (tp : Nat → Int) (vp : Nat → Int) (gp : Nat → Int) (wp : Nat → Int) (node : Int) : Prop :=
  Kst (hd Try.f50 0) ([PV.int IntKind.i64 node, PV.ptr (PA.mk (1) (0) (0) (0)),
 PV.nils]) ([[(0, false,
 Blk.cols mp
 [Col.int IntKind.i64 tp, Col.int IntKind.i64 vp, Col.int IntKind.i64 gp,
 Col.int IntKind.i64 wp]),
 (1, true, Blk.cells [PV.loose (PA.mk (0) (4) ap (0)) np])]]) (2)
set_option maxRecDepth 100000 in
theorem te50 (test : Bool → Prop → Prop → Prop) (Kst : KS) (Kret : KR) (ap np mp : Nat) (tp : Nat → Int) (vp : Nat → Int) (gp : Nat → Int) (wp : Nat → Int) (node : Int) : run test Try.env true noX true 400 ⟨50, [.cd (mkFn Try.f50).body], argT 0 [.agg [.loose ⟨0, 4, ap, 0⟩ np], .int .i64 node], [[], [(0, (false, .cols mp [.int .i64 tp, .int .i64 vp, .int .i64 gp, .int .i64 wp]))]], 1⟩ (proj 1 [1, 2, 5] Kst Kret) =
  Te50 test Kst Kret ap np mp tp vp gp wp node := by kernel_rfl
noncomputable def T50_0 (test : Bool → Prop → Prop → Prop) (Kst : KS) (Kret : KR) (ap np mp : Nat) (tp : Nat → Int) (vp : Nat → Int) (gp : Nat → Int) (wp : Nat → Int) (node : Int) (x0 : Int) (x1 : List Int) : Prop :=
  test (decide (x0 > (0 : Int)))
 (test (decide (List.length x1 + 1 ≤ 1000000))
 (test (decide (List.length x1 ≤ List.length x1))
 (test (true)
 (test (decide ((0 : Int) ≤ x0 ∧ x0 < (↑np : Int)))
 (test (decide (Int.toNat x0 + ap < mp))
 (Kst (hd Try.f50 0) ([PV.int IntKind.i64 (tp (Int.toNat x0 + ap)),
 PV.ptr (PA.mk (1) (0) (0) (0)),
 PV.own (4) (1) (List.length x1 + 1)]) ([[(0, false,
 Blk.cols mp
 [Col.int IntKind.i64 tp, Col.int IntKind.i64 vp, Col.int IntKind.i64 gp,
 Col.int IntKind.i64 wp]),
 (4, true,
 Blk.cols (List.length x1 + 1)
 [Col.int IntKind.i64 fun (j : Nat) => bif Nat.blt j (List.length x1) then S.at' x1 j else x0]),
 (1, true, Blk.cells [PV.loose (PA.mk (0) (4) ap (0)) np])]]) (5))
 (False))
 (False))
 (False))
 (False))
 (False))
 (Kret (PV.own (2) (1) (List.length x1)) ([[(0, false,
 Blk.cols mp
 [Col.int IntKind.i64 tp, Col.int IntKind.i64 vp, Col.int IntKind.i64 gp,
 Col.int IntKind.i64 wp]),
 (2, true,
 Blk.cols (List.length x1) [Col.int IntKind.i64 fun (j : Nat) => S.at' x1 j])]]) (3))
set_option maxRecDepth 100000 in
theorem t50_0 (test : Bool → Prop → Prop → Prop) (Kst : KS) (Kret : KR) (ap np mp : Nat) (tp : Nat → Int) (vp : Nat → Int) (gp : Nat → Int) (wp : Nat → Int) (node : Int) (x0 : Int) (x1 : List Int) : run test Try.env true noX true 400 ⟨50, hd Try.f50 0, zipT [1, 2, 5] [PV.int IntKind.i64 x0, PV.ptr (PA.mk (1) (0) (0) (0)),
 PV.own (2) (1) (List.length x1)], [[(1, (true, Blk.cells [PV.loose (PA.mk (0) (4) ap (0)) np])), (2, (true, Blk.cols (List.length x1) [Col.int IntKind.i64 fun (j : Nat) => S.at' x1 j]))], [(0, (false, .cols mp [.int .i64 tp, .int .i64 vp, .int .i64 gp, .int .i64 wp]))]], 3⟩ (proj 1 [1, 2, 5] Kst Kret) =
  T50_0 test Kst Kret ap np mp tp vp gp wp node x0 x1 := by kernel_rfl
set_option maxRecDepth 100000 in
theorem be50 (ap np mp : Nat) (tp : Nat → Int) (vp : Nat → Int) (gp : Nat → Int) (wp : Nat → Int) (node : Int) (Kst : KS) (Kret : KR) (x : St50 ⊕ Rt50) (hS : HS 1 400 ((I50 ap np mp tp vp gp wp node)) Kst x) (hR : HR 1 400 ((V50 ap np mp tp vp gp wp node)) (fun r => [newL (1 + 1) ((N50 ap np mp tp vp gp wp node) r) ++ [(0, (false, .cols mp [.int .i64 tp, .int .i64 vp, .int .i64 gp, .int .i64 wp]))]]) Kret x) (h : (some (.inl (.h0 (node) ([]))) : Option (St50 ⊕ Rt50)) = some x) : Te50 cond Kst Kret ap np mp tp vp gp wp node := by
  unfold Te50
  exact stop_at hS _ h (fun n => bif Nat.beq n 1 then 1 else bif Nat.beq n 2 then 399 else n) rfl rfl rfl ⟨(rn_int rfl), ⟨(rn_ptr (use_own rfl) rfl rfl), ⟨(rn_own_nils rfl), trivial⟩⟩⟩ rfl (entl_b (use_own rfl) rfl (by simp) (rb_cells ⟨(rn_loose (use_lo rfl) rfl rfl rfl), trivial⟩) (entl_fresh (use_own rfl) (fresh_ok rfl) (entl_bor (use_lo rfl) rfl rfl entl_nil)))
set_option maxRecDepth 100000 in
theorem b50_0 (ap np mp : Nat) (tp : Nat → Int) (vp : Nat → Int) (gp : Nat → Int) (wp : Nat → Int) (node : Int) (Kst : KS) (Kret : KR) (x : St50 ⊕ Rt50) (hS : HS 1 400 ((I50 ap np mp tp vp gp wp node)) Kst x) (hR : HR 1 400 ((V50 ap np mp tp vp gp wp node)) (fun r => [newL (1 + 1) ((N50 ap np mp tp vp gp wp node) r) ++ [(0, (false, .cols mp [.int .i64 tp, .int .i64 vp, .int .i64 gp, .int .i64 wp]))]]) Kret x) (x0 : Int) (x1 : List Int) (h : (bif (decide (x0 > (0 : Int)))
 then (bif (decide (List.length x1 + 1 ≤ 1000000))
 then (bif (decide (List.length x1 ≤ List.length x1))
 then (bif (decide ((0 : Int) ≤ x0 ∧ x0 < (↑np : Int)))
 then (bif (decide (Int.toNat x0 + ap < mp))
 then (some (.inl (.h0 (tp (Int.toNat x0 + ap)) (S.snoc x1 x0))))
 else (none))
 else (none))
 else (none))
 else (none))
 else (some (.inr (x1))) : Option (St50 ⊕ Rt50)) = some x) : T50_0 cond Kst Kret ap np mp tp vp gp wp node x0 x1 := by
  unfold T50_0
  exact bif_split h
   (fun c0 h => bif_split h
   (fun c1 h => bif_split h
   (fun c2 h => cond_yes rfl (bif_split h
   (fun c3 h => bif_split h
   (fun c4 h => stop_at hS _ h (fun n => bif Nat.beq n 1 then 1 else bif Nat.beq n 2 then 4 else n) rfl rfl rfl ⟨(rn_int rfl), ⟨(rn_ptr (use_own rfl) rfl rfl), ⟨(rn_own (use_own rfl) rfl (snoc_len' rfl)), trivial⟩⟩⟩ rfl (entl_b (use_own rfl) rfl (by simp) (rb_cells ⟨(rn_loose (use_lo rfl) rfl rfl rfl), trivial⟩) (entl_new (use_own rfl) rfl (Nat.le_of_eq (snoc_len' rfl)) (rcs_int (col_snoc' (fun (t : Int) => t) rfl (fun _ _ => rfl)) rcs_nil) (entl_bor (use_lo rfl) rfl rfl entl_nil))))
   (fun c4 h => no_some h))
   (fun c3 h => no_some h)))
   (fun c2 h => no_some h))
   (fun c1 h => no_some h))
   (fun c0 h => ret_at hR _ h (fun n => bif Nat.beq n 2 then 2 else n) rfl rfl rfl (rn_own (use_own rfl) rfl rfl) rfl (entl_new (use_own rfl) rfl (Nat.le_of_eq rfl) (rcs_int (fun _ _ => rfl) rcs_nil) (entl_bor (use_lo rfl) rfl rfl entl_nil)))
theorem a50 (ap np mp : Nat) (tp : Nat → Int) (vp : Nat → Int) (gp : Nat → Int) (wp : Nat → Int) (node : Int) {r : Rt50} (h : Goes ((q50 ap np mp tp vp gp wp node)) ((p50 ap np mp tp vp gp wp node)) r) : CallR Try.prog 50 [.agg [.loose ⟨0, 4, ap, 0⟩ np], .int .i64 node] [[(0, (false, .cols mp [.int .i64 tp, .int .i64 vp, .int .i64 gp, .int .i64 wp]))]] 1 ((V50 ap np mp tp vp gp wp node) r) ((fun r => [newL (1 + 1) ((N50 ap np mp tp vp gp wp node) r) ++ [(0, (false, .cols mp [.int .i64 tp, .int .i64 vp, .int .i64 gp, .int .i64 wp]))]]) r) 400 ∧ ∃ F, Try.prog.funcs[50]? = some F ∧ F.body.isSome = true ∧ (F.name == "runtime.NumGoroutine") = false := by
  refine dec_calls (f := 50) (lo := 1) (hi := 400) (H := [[(0, (false, .cols mp [.int .i64 tp, .int .i64 vp, .int .i64 gp, .int .i64 wp]))]]) (args := [.agg [.loose ⟨0, 4, ap, 0⟩ np], .int .i64 node]) Try.envOk Try.mixed noX_ok ((I50 ap np mp tp vp gp wp node)) ((V50 ap np mp tp vp gp wp node)) (fun r => [newL (1 + 1) ((N50 ap np mp tp vp gp wp node) r) ++ [(0, (false, .cols mp [.int .i64 tp, .int .i64 vp, .int .i64 gp, .int .i64 wp]))]]) (fn := mkFn Try.f50) (ts := [1, 2, 5]) (n := 400) rfl (by decide) (by simp) (names_of rfl) ?_ ?_ ?_ h
  · intro s; cases s <;> exact ⟨hd_ok _ _, by simp [I50], names_of rfl, Nat.le_of_ble_eq_true rfl⟩
  · intro Kst Kret x hS hR h
    exact Holds.eq (te50 cond Kst Kret ap np mp tp vp gp wp node) (be50 ap np mp tp vp gp wp node Kst Kret x hS hR h)
  · intro Kst Kret x hS hR s h
    cases s with
    | h0 x0 x1 => exact Holds.eq (t50_0 cond Kst Kret ap np mp tp vp gp wp node x0 x1) (b50_0 ap np mp tp vp gp wp node Kst Kret x hS hR x0 x1 h)
noncomputable def k50 : Con := ⟨50, [.agg [.list [.int .i64, .int .i64, .int .i64, .int .i64]], .one (.plain (.int .i64))], fun (x : ((Nat × Nat × Nat × (Nat → Int) × (Nat → Int) × (Nat → Int) × (Nat → Int) × Unit) × Unit) × Int × Unit) => (fun (ap np mp : Nat) (tp : Nat → Int) (vp : Nat → Int) (gp : Nat → Int) (wp : Nat → Int) (node : Int) => decide (ap + np ≤ mp ∧ np ≤ 1000000 ∧ S.treE np (fun q => tp (q + ap)) (fun q => vp (q + ap)) (fun q => gp (q + ap)) (fun q => wp (q + ap)) = 0 ∧ 0 ≤ node ∧ node < np)) x.1.1.1 x.1.1.2.1 x.1.1.2.2.1 x.1.1.2.2.2.1 x.1.1.2.2.2.2.1 x.1.1.2.2.2.2.2.1 x.1.1.2.2.2.2.2.2.1 x.2.1, fun (x : ((Nat × Nat × Nat × (Nat → Int) × (Nat → Int) × (Nat → Int) × (Nat → Int) × Unit) × Unit) × Int × Unit) => (fun (ap np mp : Nat) (tp : Nat → Int) (vp : Nat → Int) (gp : Nat → Int) (wp : Nat → Int) (node : Int) => (V50 ap np mp tp vp gp wp node) (S.pathL (fun q => tp (q + ap)) node.toNat [])) x.1.1.1 x.1.1.2.1 x.1.1.2.2.1 x.1.1.2.2.2.1 x.1.1.2.2.2.2.1 x.1.1.2.2.2.2.2.1 x.1.1.2.2.2.2.2.2.1 x.2.1, fun (x : ((Nat × Nat × Nat × (Nat → Int) × (Nat → Int) × (Nat → Int) × (Nat → Int) × Unit) × Unit) × Int × Unit) => (fun (ap np mp : Nat) (tp : Nat → Int) (vp : Nat → Int) (gp : Nat → Int) (wp : Nat → Int) (node : Int) => (N50 ap np mp tp vp gp wp node) (S.pathL (fun q => tp (q + ap)) node.toNat [])) x.1.1.1 x.1.1.2.1 x.1.1.2.2.1 x.1.1.2.2.2.1 x.1.1.2.2.2.2.1 x.1.1.2.2.2.2.2.1 x.1.1.2.2.2.2.2.2.1 x.2.1, fun _ _ => .dead⟩
theorem s50' (ap np mp : Nat) (tp : Nat → Int) (vp : Nat → Int) (gp : Nat → Int) (wp : Nat → Int) (node : Int) (hp1 : ap + np ≤ mp) (hn : np ≤ 60) (hv : ∀ i, 0 < i → i < np → 0 ≤ tp (i + ap) ∧ tp (i + ap) < i) : ∀ (x : Nat) (L : List Int), x < np → L.length + x ≤ 100 → Comes (q50 ap np mp tp vp gp wp node) (.h0 (x : Int) L) (S.pathL (fun q => tp (q + ap)) x L) := by
  refine nrec (fun q => tp (q + ap)) (fun L hx hL => ?_) (fun x h0 ih L hx hL => ?_)
  · rw [pathL_z]
    apply Comes.of
    show Goes _ _ _
    (first | rw [q50] | unfold q50)
    repeat' first
      | with_reducible refine goes_if (fun h => ?_) (fun h => ?_) <;> (try simp only [lim64, decide_eq_true_eq, decide_eq_false_iff_not, Int.toNat_natCast, toNat_pred, toNat_succ, Option.getD_some, Option.getD_none, Bool.not_eq_true', Bool.not_eq_false', Bool.and_eq_true, Bool.or_eq_true, Bool.and_eq_false_iff, Bool.or_eq_false_iff, bne_iff_ne, beq_iff_eq, bne_eq_false_iff_eq, beq_eq_false_iff_ne, ne_eq, not_and, Int.not_le, Int.not_lt, ge_iff_le, gt_iff_lt, Nat.not_lt, Nat.not_le, Bool.not_eq_true, Bool.not_eq_false, Bool.true_eq_false, Bool.false_eq_true, not_false_eq_true, not_true_eq_false] at h)
      | exact goes_none.mpr (by omega)
    all_goals first | (exfalso; omega) | exact goes_inr.mpr rfl
  · rw [pathL_pos h0]
    have e : tp (x + ap) = (S.par (fun q => tp (q + ap)) x : Int) := par_is hv h0 hx
    have hl := par_lt (p := (fun q => tp (q + ap))) h0
    have hs : (S.snoc L (x : Int)).length = L.length + 1 := snoc_len
    have ih := ih (S.snoc L (x : Int)) (by omega) (by omega)
    rw [← e] at ih
    apply Comes.of
    show Goes _ _ _
    (first | rw [q50] | unfold q50)
    repeat' first
      | with_reducible refine goes_if (fun h => ?_) (fun h => ?_) <;> (try simp only [lim64, decide_eq_true_eq, decide_eq_false_iff_not, Int.toNat_natCast, toNat_pred, toNat_succ, Option.getD_some, Option.getD_none, Bool.not_eq_true', Bool.not_eq_false', Bool.and_eq_true, Bool.or_eq_true, Bool.and_eq_false_iff, Bool.or_eq_false_iff, bne_iff_ne, beq_iff_eq, bne_eq_false_iff_eq, beq_eq_false_iff_ne, ne_eq, not_and, Int.not_le, Int.not_lt, ge_iff_le, gt_iff_lt, Nat.not_lt, Nat.not_le, Bool.not_eq_true, Bool.not_eq_false, Bool.true_eq_false, Bool.false_eq_true, not_false_eq_true, not_true_eq_false] at h)
      | exact goes_none.mpr (by omega)
    all_goals first | (exfalso; omega) | exact ih
theorem s50 (ap np mp : Nat) (tp : Nat → Int) (vp : Nat → Int) (gp : Nat → Int) (wp : Nat → Int) (node : Int) (hp : ap + np ≤ mp ∧ np ≤ 1000000 ∧ S.treE np (fun q => tp (q + ap)) (fun q => vp (q + ap)) (fun q => gp (q + ap)) (fun q => wp (q + ap)) = 0 ∧ 0 ≤ node ∧ node < np) : Goes ((q50 ap np mp tp vp gp wp node)) ((p50 ap np mp tp vp gp wp node)) (S.pathL (fun q => tp (q + ap)) node.toNat []) := by
  obtain ⟨hp1, hp2, hp3, hp4, hp5⟩ := hp
  obtain ⟨v1, v2, v3, v4, v5, v6⟩ := tre_ok hp3
  have hm := s50' ap np mp tp vp gp wp node hp1 v2 v4 node.toNat [] (by omega) (by show 0 + _ ≤ 100; omega)
  rw [Int.toNat_of_nonneg hp4] at hm
  show Goes _ _ _
  unfold p50
  repeat' first
    | with_reducible refine goes_if (fun h => ?_) (fun h => ?_) <;> (try simp only [lim64, decide_eq_true_eq, decide_eq_false_iff_not, Int.toNat_natCast, toNat_pred, toNat_succ, Option.getD_some, Option.getD_none, Bool.not_eq_true', Bool.not_eq_false', Bool.and_eq_true, Bool.or_eq_true, Bool.and_eq_false_iff, Bool.or_eq_false_iff, bne_iff_ne, beq_iff_eq, bne_eq_false_iff_eq, beq_eq_false_iff_ne, ne_eq, not_and, Int.not_le, Int.not_lt, ge_iff_le, gt_iff_lt, Nat.not_lt, Nat.not_le, Bool.not_eq_true, Bool.not_eq_false, Bool.true_eq_false, Bool.false_eq_true, not_false_eq_true, not_true_eq_false] at h)
    | exact goes_none.mpr (by omega)
  all_goals first | (exfalso; omega) | exact hm

theorem k50_ok : k50.ok Try.prog := by
  intro x hx
  obtain ⟨⟨⟨ap, np, mp, tp, vp, gp, wp, _⟩, _⟩, node, _⟩ := x
  obtain ⟨h1, h2⟩ := a50 ap np mp tp vp gp wp node (s50 ap np mp tp vp gp wp node (of_dec hx rfl))
  exact ⟨⟨400, (by decide : 1 + 1 + 1 ≤ 400), h1⟩, h2⟩
noncomputable def xA (test : Bool → Prop → Prop → Prop) : Ext := consX test [k19, k50]
theorem xA_ok : ExtOk Try.prog (xA cond) := consX_ok ⟨k19_ok, k50_ok, trivial⟩

end Go.Ev
