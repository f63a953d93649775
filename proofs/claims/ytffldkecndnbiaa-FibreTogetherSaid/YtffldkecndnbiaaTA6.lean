/-
  The leaves.
-/
import Derived.Test.YtffldkecndnbiaaTA6x
namespace Go.Ev
open Go.Proofs
set_option linter.unusedVariables false
set_option linter.unusedSimpArgs false
set_option maxRecDepth 100000

theorem lef_any {p : Nat → Int} {n i : Nat} : S.lefB p n i = !(S.any (fun q => decide (p q = (i : Int))) n) := rfl
theorem lea_in {p : Nat → Int} {n : Nat} (i : Nat) : (S.cho (S.lefB p n) i).length ≤ i := cho_len
inductive St40 where
  | h0 (x0 : Int) (x1 : List Int)
abbrev Rt40 := List Int
noncomputable def V40 (ap np mp : Nat) (tp : Nat → Int) (vp : Nat → Int) (gp : Nat → Int) (wp : Nat → Int) (r : Rt40) : PV := PV.own (2) (1) (List.length r)
noncomputable def N40 (ap np mp : Nat) (tp : Nat → Int) (vp : Nat → Int) (gp : Nat → Int) (wp : Nat → Int) (r : Rt40) : List Blk := [Blk.cols (List.length r) [Col.int IntKind.i64 fun (j : Nat) => S.at' r j]]
noncomputable def I40 (ap np mp : Nat) (tp : Nat → Int) (vp : Nat → Int) (gp : Nat → Int) (wp : Nat → Int) : St40 → Hd
  | .h0 x0 x1 => ⟨hd Try.f40 0, [PV.ptr (PA.mk (1) (0) (0) (0)),
 PV.own (2) (1) (List.length x1), PV.int IntKind.i64 (↑np : Int),
 PV.int IntKind.i64 x0], [[(1, (true, Blk.cells [PV.loose (PA.mk (0) (4) ap (0)) np])), (2, (true, Blk.cols (List.length x1) [Col.int IntKind.i64 fun (j : Nat) => S.at' x1 j]))], [(0, (false, .cols mp [.int .i64 tp, .int .i64 vp, .int .i64 gp, .int .i64 wp]))]], 3⟩
noncomputable def q40 (ap np mp : Nat) (tp : Nat → Int) (vp : Nat → Int) (gp : Nat → Int) (wp : Nat → Int) : St40 → Option (St40 ⊕ Rt40)
  | .h0 x0 x1 => bif (decide (x0 < (↑np : Int)))
 then (bif (decide (ap + np ≤ mp ∧ np ≤ 1000000))
 then (bif (S.any (fun (j : Nat) => decide (tp (j + ap) = x0)) np)
 then (bif (lim IntKind.i64 (x0 + (1 : Int)))
 then (some (.inl (.h0 (x0 + (1 : Int)) (x1))))
 else (none))
 else (bif (decide (List.length x1 + 1 ≤ 1000000))
 then (bif (decide (List.length x1 ≤ List.length x1))
 then (bif (lim IntKind.i64 (x0 + (1 : Int)))
 then (some (.inl (.h0 (x0 + (1 : Int)) (S.snoc x1 x0))))
 else (none))
 else (none))
 else (none)))
 else (none))
 else (some (.inr (x1)))
noncomputable def p40 (ap np mp : Nat) (tp : Nat → Int) (vp : Nat → Int) (gp : Nat → Int) (wp : Nat → Int) : Option (St40 ⊕ Rt40) := some (.inl (.h0 ((0 : Int)) ([])))
noncomputable def Te40 (test : Bool → Prop → Prop → Prop) (Kst : KS) (Kret : KR) (ap np mp : Nat) (tp : Nat → Int) (vp : Nat → Int) (gp : Nat → Int) (wp : Nat → Int) : Prop :=
  Kst (hd Try.f40 0) ([PV.ptr (PA.mk (1) (0) (0) (0)), PV.nils,
 PV.int IntKind.i64 (↑np : Int), PV.int IntKind.i64 (0 : Int)]) ([[(0, false,
 Blk.cols mp
 [Col.int IntKind.i64 tp, Col.int IntKind.i64 vp, Col.int IntKind.i64 gp,
 Col.int IntKind.i64 wp]),
 (1, true, Blk.cells [PV.loose (PA.mk (0) (4) ap (0)) np])]]) (2)
set_option maxRecDepth 100000 in
theorem te40 (test : Bool → Prop → Prop → Prop) (Kst : KS) (Kret : KR) (ap np mp : Nat) (tp : Nat → Int) (vp : Nat → Int) (gp : Nat → Int) (wp : Nat → Int) : run test Try.env true (xD test) true 400 ⟨40, [.cd (mkFn Try.f40).body], argT 0 [.agg [.loose ⟨0, 4, ap, 0⟩ np]], [[], [(0, (false, .cols mp [.int .i64 tp, .int .i64 vp, .int .i64 gp, .int .i64 wp]))]], 1⟩ (proj 1 [1, 3, 7, 8] Kst Kret) =
  Te40 test Kst Kret ap np mp tp vp gp wp := by kernel_rfl
noncomputable def T40_0 (test : Bool → Prop → Prop → Prop) (Kst : KS) (Kret : KR) (ap np mp : Nat) (tp : Nat → Int) (vp : Nat → Int) (gp : Nat → Int) (wp : Nat → Int) (x0 : Int) (x1 : List Int) : Prop :=
  test (decide (x0 < (↑np : Int)))
 (test (decide (ap + np ≤ mp ∧ np ≤ 1000000))
 (test (S.any (fun (j : Nat) => decide (tp (j + ap) = x0)) np)
 (test (lim IntKind.i64 (x0 + (1 : Int)))
 (Kst (hd Try.f40 0) ([PV.ptr (PA.mk (1) (0) (0) (0)),
 PV.own (2) (1) (List.length x1), PV.int IntKind.i64 (↑np : Int),
 PV.int IntKind.i64 (x0 + (1 : Int))]) ([[(0, false,
 Blk.cols mp
 [Col.int IntKind.i64 tp, Col.int IntKind.i64 vp, Col.int IntKind.i64 gp,
 Col.int IntKind.i64 wp]),
 (2, true,
 Blk.cols (List.length x1) [Col.int IntKind.i64 fun (j : Nat) => S.at' x1 j]),
 (1, true, Blk.cells [PV.loose (PA.mk (0) (4) ap (0)) np])]]) (5))
 (False))
 (test (decide (List.length x1 + 1 ≤ 1000000))
 (test (decide (List.length x1 ≤ List.length x1))
 (test (true)
 (test (lim IntKind.i64 (x0 + (1 : Int)))
 (Kst (hd Try.f40 0) ([PV.ptr (PA.mk (1) (0) (0) (0)),
 PV.own (6) (1) (List.length x1 + 1), PV.int IntKind.i64 (↑np : Int),
 PV.int IntKind.i64 (x0 + (1 : Int))]) ([[(0, false,
 Blk.cols mp
 [Col.int IntKind.i64 tp, Col.int IntKind.i64 vp, Col.int IntKind.i64 gp,
 Col.int IntKind.i64 wp]),
 (6, true,
 Blk.cols (List.length x1 + 1)
 [Col.int IntKind.i64 fun (j : Nat) => bif Nat.blt j (List.length x1) then S.at' x1 j else x0]),
 (1, true, Blk.cells [PV.loose (PA.mk (0) (4) ap (0)) np])]]) (7))
 (False))
 (False))
 (False))
 (False)))
 (False))
 (Kret (PV.own (2) (1) (List.length x1)) ([[(0, false,
 Blk.cols mp
 [Col.int IntKind.i64 tp, Col.int IntKind.i64 vp, Col.int IntKind.i64 gp,
 Col.int IntKind.i64 wp]),
 (2, true,
 Blk.cols (List.length x1) [Col.int IntKind.i64 fun (j : Nat) => S.at' x1 j])]]) (3))
set_option maxRecDepth 100000 in
theorem t40_0 (test : Bool → Prop → Prop → Prop) (Kst : KS) (Kret : KR) (ap np mp : Nat) (tp : Nat → Int) (vp : Nat → Int) (gp : Nat → Int) (wp : Nat → Int) (x0 : Int) (x1 : List Int) : run test Try.env true (xD test) true 400 ⟨40, hd Try.f40 0, zipT [1, 3, 7, 8] [PV.ptr (PA.mk (1) (0) (0) (0)),
 PV.own (2) (1) (List.length x1), PV.int IntKind.i64 (↑np : Int),
 PV.int IntKind.i64 x0], [[(1, (true, Blk.cells [PV.loose (PA.mk (0) (4) ap (0)) np])), (2, (true, Blk.cols (List.length x1) [Col.int IntKind.i64 fun (j : Nat) => S.at' x1 j]))], [(0, (false, .cols mp [.int .i64 tp, .int .i64 vp, .int .i64 gp, .int .i64 wp]))]], 3⟩ (proj 1 [1, 3, 7, 8] Kst Kret) =
  T40_0 test Kst Kret ap np mp tp vp gp wp x0 x1 := by kernel_rfl
set_option maxRecDepth 100000 in
theorem be40 (ap np mp : Nat) (tp : Nat → Int) (vp : Nat → Int) (gp : Nat → Int) (wp : Nat → Int) (Kst : KS) (Kret : KR) (x : St40 ⊕ Rt40) (hS : HS 1 400 ((I40 ap np mp tp vp gp wp)) Kst x) (hR : HR 1 400 ((V40 ap np mp tp vp gp wp)) (fun r => [newL (1 + 1) ((N40 ap np mp tp vp gp wp) r) ++ [(0, (false, .cols mp [.int .i64 tp, .int .i64 vp, .int .i64 gp, .int .i64 wp]))]]) Kret x) (h : (some (.inl (.h0 ((0 : Int)) ([]))) : Option (St40 ⊕ Rt40)) = some x) : Te40 cond Kst Kret ap np mp tp vp gp wp := by
  unfold Te40
  exact stop_at hS _ h (fun n => bif Nat.beq n 1 then 1 else bif Nat.beq n 2 then 399 else n) rfl rfl rfl ⟨(rn_ptr (use_own rfl) rfl rfl), ⟨(rn_own_nils rfl), ⟨(rn_int rfl), ⟨(rn_int rfl), trivial⟩⟩⟩⟩ rfl (entl_b (use_own rfl) rfl (by simp) (rb_cells ⟨(rn_loose (use_lo rfl) rfl rfl rfl), trivial⟩) (entl_fresh (use_own rfl) (fresh_ok rfl) (entl_bor (use_lo rfl) rfl rfl entl_nil)))
set_option maxRecDepth 100000 in
theorem b40_0 (ap np mp : Nat) (tp : Nat → Int) (vp : Nat → Int) (gp : Nat → Int) (wp : Nat → Int) (Kst : KS) (Kret : KR) (x : St40 ⊕ Rt40) (hS : HS 1 400 ((I40 ap np mp tp vp gp wp)) Kst x) (hR : HR 1 400 ((V40 ap np mp tp vp gp wp)) (fun r => [newL (1 + 1) ((N40 ap np mp tp vp gp wp) r) ++ [(0, (false, .cols mp [.int .i64 tp, .int .i64 vp, .int .i64 gp, .int .i64 wp]))]]) Kret x) (x0 : Int) (x1 : List Int) (h : (bif (decide (x0 < (↑np : Int)))
 then (bif (decide (ap + np ≤ mp ∧ np ≤ 1000000))
 then (bif (S.any (fun (j : Nat) => decide (tp (j + ap) = x0)) np)
 then (bif (lim IntKind.i64 (x0 + (1 : Int)))
 then (some (.inl (.h0 (x0 + (1 : Int)) (x1))))
 else (none))
 else (bif (decide (List.length x1 + 1 ≤ 1000000))
 then (bif (decide (List.length x1 ≤ List.length x1))
 then (bif (lim IntKind.i64 (x0 + (1 : Int)))
 then (some (.inl (.h0 (x0 + (1 : Int)) (S.snoc x1 x0))))
 else (none))
 else (none))
 else (none)))
 else (none))
 else (some (.inr (x1))) : Option (St40 ⊕ Rt40)) = some x) : T40_0 cond Kst Kret ap np mp tp vp gp wp x0 x1 := by
  unfold T40_0
  exact bif_split h
   (fun c0 h => bif_split h
   (fun c1 h => bif_split h
   (fun c2 h => bif_split h
   (fun c3 h => stop_at hS _ h (fun n => bif Nat.beq n 1 then 1 else bif Nat.beq n 2 then 2 else n) rfl rfl rfl ⟨(rn_ptr (use_own rfl) rfl rfl), ⟨(rn_own (use_own rfl) rfl rfl), ⟨(rn_int rfl), ⟨(rn_int rfl), trivial⟩⟩⟩⟩ rfl (entl_b (use_own rfl) rfl (by simp) (rb_cells ⟨(rn_loose (use_lo rfl) rfl rfl rfl), trivial⟩) (entl_new (use_own rfl) rfl (Nat.le_of_eq rfl) (rcs_int (fun _ _ => rfl) rcs_nil) (entl_bor (use_lo rfl) rfl rfl entl_nil))))
   (fun c3 h => no_some h))
   (fun c2 h => bif_split h
   (fun c3 h => bif_split h
   (fun c4 h => cond_yes rfl (bif_split h
   (fun c5 h => stop_at hS _ h (fun n => bif Nat.beq n 1 then 1 else bif Nat.beq n 2 then 6 else n) rfl rfl rfl ⟨(rn_ptr (use_own rfl) rfl rfl), ⟨(rn_own (use_own rfl) rfl (snoc_len' rfl)), ⟨(rn_int rfl), ⟨(rn_int rfl), trivial⟩⟩⟩⟩ rfl (entl_b (use_own rfl) rfl (by simp) (rb_cells ⟨(rn_loose (use_lo rfl) rfl rfl rfl), trivial⟩) (entl_new (use_own rfl) rfl (Nat.le_of_eq (snoc_len' rfl)) (rcs_int (col_snoc' (fun (t : Int) => t) rfl (fun _ _ => rfl)) rcs_nil) (entl_bor (use_lo rfl) rfl rfl entl_nil))))
   (fun c5 h => no_some h)))
   (fun c4 h => no_some h))
   (fun c3 h => no_some h)))
   (fun c1 h => no_some h))
   (fun c0 h => ret_at hR _ h (fun n => bif Nat.beq n 2 then 2 else n) rfl rfl rfl (rn_own (use_own rfl) rfl rfl) rfl (entl_new (use_own rfl) rfl (Nat.le_of_eq rfl) (rcs_int (fun _ _ => rfl) rcs_nil) (entl_bor (use_lo rfl) rfl rfl entl_nil)))
theorem a40 (ap np mp : Nat) (tp : Nat → Int) (vp : Nat → Int) (gp : Nat → Int) (wp : Nat → Int) {r : Rt40} (h : Goes ((q40 ap np mp tp vp gp wp)) ((p40 ap np mp tp vp gp wp)) r) : CallR Try.prog 40 [.agg [.loose ⟨0, 4, ap, 0⟩ np]] [[(0, (false, .cols mp [.int .i64 tp, .int .i64 vp, .int .i64 gp, .int .i64 wp]))]] 1 ((V40 ap np mp tp vp gp wp) r) ((fun r => [newL (1 + 1) ((N40 ap np mp tp vp gp wp) r) ++ [(0, (false, .cols mp [.int .i64 tp, .int .i64 vp, .int .i64 gp, .int .i64 wp]))]]) r) 400 ∧ ∃ F, Try.prog.funcs[40]? = some F ∧ F.body.isSome = true ∧ (F.name == "runtime.NumGoroutine") = false := by
  refine dec_calls (f := 40) (lo := 1) (hi := 400) (H := [[(0, (false, .cols mp [.int .i64 tp, .int .i64 vp, .int .i64 gp, .int .i64 wp]))]]) (args := [.agg [.loose ⟨0, 4, ap, 0⟩ np]]) Try.envOk Try.mixed xD_ok ((I40 ap np mp tp vp gp wp)) ((V40 ap np mp tp vp gp wp)) (fun r => [newL (1 + 1) ((N40 ap np mp tp vp gp wp) r) ++ [(0, (false, .cols mp [.int .i64 tp, .int .i64 vp, .int .i64 gp, .int .i64 wp]))]]) (fn := mkFn Try.f40) (ts := [1, 3, 7, 8]) (n := 400) rfl (by decide) (by simp) (names_of rfl) ?_ ?_ ?_ h
  · intro s; cases s <;> exact ⟨hd_ok _ _, by simp [I40], names_of rfl, Nat.le_of_ble_eq_true rfl⟩
  · intro Kst Kret x hS hR h
    exact Holds.eq (te40 cond Kst Kret ap np mp tp vp gp wp) (be40 ap np mp tp vp gp wp Kst Kret x hS hR h)
  · intro Kst Kret x hS hR s h
    cases s with
    | h0 x0 x1 => exact Holds.eq (t40_0 cond Kst Kret ap np mp tp vp gp wp x0 x1) (b40_0 ap np mp tp vp gp wp Kst Kret x hS hR x0 x1 h)
noncomputable def k40 : Con := ⟨40, [.agg [.list [.int .i64, .int .i64, .int .i64, .int .i64]]], fun (x : ((Nat × Nat × Nat × (Nat → Int) × (Nat → Int) × (Nat → Int) × (Nat → Int) × Unit) × Unit) × Unit) => (fun (ap np mp : Nat) (tp : Nat → Int) (vp : Nat → Int) (gp : Nat → Int) (wp : Nat → Int) => decide (ap + np ≤ mp ∧ np ≤ 1000000)) x.1.1.1 x.1.1.2.1 x.1.1.2.2.1 x.1.1.2.2.2.1 x.1.1.2.2.2.2.1 x.1.1.2.2.2.2.2.1 x.1.1.2.2.2.2.2.2.1, fun (x : ((Nat × Nat × Nat × (Nat → Int) × (Nat → Int) × (Nat → Int) × (Nat → Int) × Unit) × Unit) × Unit) => (fun (ap np mp : Nat) (tp : Nat → Int) (vp : Nat → Int) (gp : Nat → Int) (wp : Nat → Int) => (V40 ap np mp tp vp gp wp) (S.leaL (fun q => tp (q + ap)) np)) x.1.1.1 x.1.1.2.1 x.1.1.2.2.1 x.1.1.2.2.2.1 x.1.1.2.2.2.2.1 x.1.1.2.2.2.2.2.1 x.1.1.2.2.2.2.2.2.1, fun (x : ((Nat × Nat × Nat × (Nat → Int) × (Nat → Int) × (Nat → Int) × (Nat → Int) × Unit) × Unit) × Unit) => (fun (ap np mp : Nat) (tp : Nat → Int) (vp : Nat → Int) (gp : Nat → Int) (wp : Nat → Int) => (N40 ap np mp tp vp gp wp) (S.leaL (fun q => tp (q + ap)) np)) x.1.1.1 x.1.1.2.1 x.1.1.2.2.1 x.1.1.2.2.2.1 x.1.1.2.2.2.2.1 x.1.1.2.2.2.2.2.1 x.1.1.2.2.2.2.2.2.1, fun _ _ => .dead⟩
theorem s40' (ap np mp : Nat) (tp : Nat → Int) (vp : Nat → Int) (gp : Nat → Int) (wp : Nat → Int) (hp : ap + np ≤ mp ∧ np ≤ 1000000) : ∀ (k i : Nat) (L : List Int), i + k = np → Holds (L = S.cho (S.lefB (fun q => tp (q + ap)) np) i) → Comes (q40 ap np mp tp vp gp wp) (.h0 (i : Int) L) (S.leaL (fun q => tp (q + ap)) np) := by
  obtain ⟨hp1, hp2⟩ := hp
  intro k
  induction k with
  | zero =>
    intro i L hi eL
    have hL : L.length ≤ i := by rw [eL.get]; exact cho_len
    apply Comes.of
    show Goes _ _ _
    (first | rw [q40] | unfold q40)
    repeat' first
      | with_reducible refine goes_if (fun h => ?_) (fun h => ?_) <;> (try simp only [lim64, decide_eq_true_eq, decide_eq_false_iff_not, Int.toNat_natCast, toNat_pred, toNat_succ, Option.getD_some, Option.getD_none, Bool.not_eq_true', Bool.not_eq_false', Bool.and_eq_true, Bool.or_eq_true, Bool.and_eq_false_iff, Bool.or_eq_false_iff, bne_iff_ne, beq_iff_eq, bne_eq_false_iff_eq, beq_eq_false_iff_ne, ne_eq, not_and, Int.not_le, Int.not_lt, ge_iff_le, gt_iff_lt, Nat.not_lt, Nat.not_le, Bool.not_eq_true, Bool.not_eq_false, Bool.true_eq_false, Bool.false_eq_true, not_false_eq_true, not_true_eq_false] at h)
      | exact goes_none.mpr (by omega)
    all_goals first | (exfalso; omega) | (obtain rfl : np = i := (by omega);  exact goes_inr.mpr eL.get)
  | succ k ih =>
    intro i L hi eL
    have hL : L.length ≤ i := by rw [eL.get]; exact cho_len
    have hb : S.lefB (fun q => tp (q + ap)) np i = !(S.any (fun q => decide (tp (q + ap) = (i : Int))) np) := rfl
    apply Comes.of
    show Goes _ _ _
    (first | rw [q40] | unfold q40)
    repeat' first
      | with_reducible refine goes_if (fun h => ?_) (fun h => ?_) <;> (try simp only [lim64, decide_eq_true_eq, decide_eq_false_iff_not, Int.toNat_natCast, toNat_pred, toNat_succ, Option.getD_some, Option.getD_none, Bool.not_eq_true', Bool.not_eq_false', Bool.and_eq_true, Bool.or_eq_true, Bool.and_eq_false_iff, Bool.or_eq_false_iff, bne_iff_ne, beq_iff_eq, bne_eq_false_iff_eq, beq_eq_false_iff_ne, ne_eq, not_and, Int.not_le, Int.not_lt, ge_iff_le, gt_iff_lt, Nat.not_lt, Nat.not_le, Bool.not_eq_true, Bool.not_eq_false, Bool.true_eq_false, Bool.false_eq_true, not_false_eq_true, not_true_eq_false] at h)
      | exact goes_none.mpr (by omega)
    all_goals first
      | (exfalso; omega)
      | (refine ih (i + 1) _ (by omega) ⟨?_⟩; first | (have hc : S.lefB (fun q => tp (q + ap)) np i = true := (by rw [hb]; simp only [Bool.not_eq_true']; assumption); rw [cho_yes hc, eL.get]) | (have hc : S.lefB (fun q => tp (q + ap)) np i = false := (by rw [hb]; simp only [Bool.not_eq_false']; assumption); rw [cho_no hc, eL.get]))
      | (refine ih (i + 1) _ (by omega) ⟨?_⟩ <;> (skip))
theorem s40 (ap np mp : Nat) (tp : Nat → Int) (vp : Nat → Int) (gp : Nat → Int) (wp : Nat → Int) (hp : ap + np ≤ mp ∧ np ≤ 1000000) : Goes ((q40 ap np mp tp vp gp wp)) ((p40 ap np mp tp vp gp wp)) (S.leaL (fun q => tp (q + ap)) np) := by
  have hm := s40' ap np mp tp vp gp wp hp np 0 [] (by omega) ⟨rfl⟩
  show Goes _ _ _
  unfold p40
  repeat' first
    | with_reducible refine goes_if (fun h => ?_) (fun h => ?_) <;> (try simp only [lim64, decide_eq_true_eq, decide_eq_false_iff_not, Int.toNat_natCast, toNat_pred, toNat_succ, Option.getD_some, Option.getD_none, Bool.not_eq_true', Bool.not_eq_false', Bool.and_eq_true, Bool.or_eq_true, Bool.and_eq_false_iff, Bool.or_eq_false_iff, bne_iff_ne, beq_iff_eq, bne_eq_false_iff_eq, beq_eq_false_iff_ne, ne_eq, not_and, Int.not_le, Int.not_lt, ge_iff_le, gt_iff_lt, Nat.not_lt, Nat.not_le, Bool.not_eq_true, Bool.not_eq_false, Bool.true_eq_false, Bool.false_eq_true, not_false_eq_true, not_true_eq_false] at h)
    | exact goes_none.mpr (by omega)
  all_goals first | (exfalso; omega) | exact hm

theorem k40_ok : k40.ok Try.prog := by
  intro x hx
  obtain ⟨⟨⟨ap, np, mp, tp, vp, gp, wp, _⟩, _⟩, _⟩ := x
  obtain ⟨h1, h2⟩ := a40 ap np mp tp vp gp wp (s40 ap np mp tp vp gp wp (of_dec hx rfl))
  exact ⟨⟨400, (by decide : 1 + 1 + 1 ≤ 400), h1⟩, h2⟩
noncomputable def xE (test : Bool → Prop → Prop → Prop) : Ext := consX test [k19, k40]
theorem xE_ok : ExtOk Try.prog (xE cond) := consX_ok ⟨k19_ok, k40_ok, trivial⟩

end Go.Ev
