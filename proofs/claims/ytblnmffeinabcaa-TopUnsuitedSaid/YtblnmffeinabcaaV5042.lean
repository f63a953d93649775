/-
  The parts that the statement needs, 2 of 3.
-/
import Derived.Test.YtblnmffeinabcaaV5041
namespace Go.Ev
open Go.Proofs
open Go.IntWalk
set_option linter.unusedVariables false
set_option linter.unusedSimpArgs false
set_option maxRecDepth 100000
set_option maxHeartbeats 2000000
theorem b17_0 (ar nr mr : Nat) (tr : Nat → Int) (vr : Nat → Int) (gr : Nat → Int) (ao no mo : Nat) (to : Nat → Bool) (Kst : KS) (Kret : KR) (x : St17 ⊕ Rt17) (hS : HS 2 400 ((I17 ar nr mr tr vr gr ao no mo to)) Kst x) (hR : HR 2 400 ((V17 ar nr mr tr vr gr ao no mo to)) (fun r => [newL (2 + 1) ((N17 ar nr mr tr vr gr ao no mo to) r) ++ [(0, (false, .cols mr [.int .i64 tr, .int .i64 vr, .int .i64 gr])), (1, (false, .cols mo [.bool to]))]]) Kret x) (x0 : Int) (x1 : Int) (h : (bif (decide (x1 < (↑nr : Int)))
 then (bif (decide ((0 : Int) ≤ x1 ∧ x1 < (↑nr : Int)))
 then (bif (decide (Int.toNat x1 + ar < mr))
 then (bif (decide ((0 : Int) ≤ x1 ∧ x1 < (↑no : Int)))
 then (bif (decide (Int.toNat x1 + ao < mo))
 then (bif (to (Int.toNat x1 + ao))
 then (bif (lim IntKind.i64 (x0 + gr (Int.toNat x1 + ar)))
 then (bif (lim IntKind.i64 (x1 + (1 : Int)))
 then (some (.inl (.h0 (x0 + gr (Int.toNat x1 + ar)) (x1 + (1 : Int)))))
 else (none))
 else (none))
 else (bif (lim IntKind.i64 (x1 + (1 : Int)))
 then (some (.inl (.h0 (x0) (x1 + (1 : Int)))))
 else (none)))
 else (none))
 else (none))
 else (none))
 else (none))
 else (some (.inr (x0, (0 : Int)))) : Option (St17 ⊕ Rt17)) = some x) : T17_0 cond Kst Kret ar nr mr tr vr gr ao no mo to x0 x1 := by
  unfold T17_0
  exact bif_split h
   (fun c0 h => bif_split h
   (fun c1 h => bif_split h
   (fun c2 h => cond_yes c2 (cond_yes c2 (bif_split h
   (fun c3 h => bif_split h
   (fun c4 h => bif_split h
   (fun c5 h => bif_split h
   (fun c6 h => bif_split h
   (fun c7 h => stop_at hS _ h (fun n => bif Nat.beq n 2 then 2 else n) rfl rfl rfl ⟨(rn_ptr (use_own rfl) rfl rfl), ⟨(rn_int rfl), ⟨(rn_loose (use_lo rfl) rfl rfl rfl), ⟨(rn_int rfl), ⟨(rn_int rfl), trivial⟩⟩⟩⟩⟩ rfl (entl_b (use_own rfl) rfl (by simp) (rb_cells ⟨(rn_loose (use_lo rfl) rfl rfl rfl), (rn_loose (use_lo rfl) rfl rfl rfl), trivial⟩) (entl_bor (use_lo rfl) rfl rfl (entl_bor (use_lo rfl) rfl rfl entl_nil))))
   (fun c7 h => no_some h))
   (fun c6 h => no_some h))
   (fun c5 h => bif_split h
   (fun c6 h => stop_at hS _ h (fun n => bif Nat.beq n 2 then 2 else n) rfl rfl rfl ⟨(rn_ptr (use_own rfl) rfl rfl), ⟨(rn_int rfl), ⟨(rn_loose (use_lo rfl) rfl rfl rfl), ⟨(rn_int rfl), ⟨(rn_int rfl), trivial⟩⟩⟩⟩⟩ rfl (entl_b (use_own rfl) rfl (by simp) (rb_cells ⟨(rn_loose (use_lo rfl) rfl rfl rfl), (rn_loose (use_lo rfl) rfl rfl rfl), trivial⟩) (entl_bor (use_lo rfl) rfl rfl (entl_bor (use_lo rfl) rfl rfl entl_nil))))
   (fun c6 h => no_some h)))
   (fun c4 h => no_some h))
   (fun c3 h => no_some h))))
   (fun c2 h => no_some h))
   (fun c1 h => no_some h))
   (fun c0 h => ret_at hR _ h (fun n => n) rfl rfl rfl (rn_tup ⟨(rn_int rfl), (rn_int rfl), trivial⟩) rfl (entl_bor (use_lo rfl) rfl rfl (entl_bor (use_lo rfl) rfl rfl entl_nil)))
theorem a17 (ar nr mr : Nat) (tr : Nat → Int) (vr : Nat → Int) (gr : Nat → Int) (ao no mo : Nat) (to : Nat → Bool) {r : Rt17} (h : Goes ((q17 ar nr mr tr vr gr ao no mo to)) ((p17 ar nr mr tr vr gr ao no mo to)) r) : CallR Try.prog 24 [.agg [.loose ⟨0, 3, ar, 0⟩ nr, .loose ⟨1, 1, ao, 0⟩ no]] [[(0, (false, .cols mr [.int .i64 tr, .int .i64 vr, .int .i64 gr])), (1, (false, .cols mo [.bool to]))]] 2 ((V17 ar nr mr tr vr gr ao no mo to) r) ((fun r => [newL (2 + 1) ((N17 ar nr mr tr vr gr ao no mo to) r) ++ [(0, (false, .cols mr [.int .i64 tr, .int .i64 vr, .int .i64 gr])), (1, (false, .cols mo [.bool to]))]]) r) 400 ∧ ∃ F, Try.prog.funcs[24]? = some F ∧ F.body.isSome = true ∧ (F.name == "runtime.NumGoroutine") = false := by
  refine dec_calls (f := 24) (lo := 2) (hi := 400) (H := [[(0, (false, .cols mr [.int .i64 tr, .int .i64 vr, .int .i64 gr])), (1, (false, .cols mo [.bool to]))]]) (args := [.agg [.loose ⟨0, 3, ar, 0⟩ nr, .loose ⟨1, 1, ao, 0⟩ no]]) Try.envOk Try.mixed xB_ok ((I17 ar nr mr tr vr gr ao no mo to)) ((V17 ar nr mr tr vr gr ao no mo to)) (fun r => [newL (2 + 1) ((N17 ar nr mr tr vr gr ao no mo to) r) ++ [(0, (false, .cols mr [.int .i64 tr, .int .i64 vr, .int .i64 gr])), (1, (false, .cols mo [.bool to]))]]) (fn := mkFn Try.f24) (ts := [1, 5, 14, 15, 16]) (n := 400) rfl (by decide) (by simp) (names_of rfl) ?_ ?_ ?_ h
  · intro s; cases s <;> exact ⟨hd_ok _ _, by simp [I17], names_of rfl, Nat.le_of_ble_eq_true rfl⟩
  · intro Kst Kret x hS hR h
    exact Holds.eq (te17 cond Kst Kret ar nr mr tr vr gr ao no mo to) (be17 ar nr mr tr vr gr ao no mo to Kst Kret x hS hR h)
  · intro Kst Kret x hS hR s h
    cases s with
    | h0 x0 x1 => exact Holds.eq (t17_0 cond Kst Kret ar nr mr tr vr gr ao no mo to x0 x1) (b17_0 ar nr mr tr vr gr ao no mo to Kst Kret x hS hR x0 x1 h)
noncomputable def k17 : Con := ⟨24, [.agg [.list [.int .i64, .int .i64, .int .i64], .list [.bool]]], fun (x : ((Nat × Nat × Nat × (Nat → Int) × (Nat → Int) × (Nat → Int) × Unit) × (Nat × Nat × Nat × (Nat → Bool) × Unit) × Unit) × Unit) => (fun (ar nr mr : Nat) (tr : Nat → Int) (vr : Nat → Int) (gr : Nat → Int) (ao no mo : Nat) (to : Nat → Bool) => decide (ar + nr ≤ mr ∧ nr ≤ 1000000 ∧ ao + no ≤ mo ∧ no ≤ 1000000)) x.1.1.1 x.1.1.2.1 x.1.1.2.2.1 x.1.1.2.2.2.1 x.1.1.2.2.2.2.1 x.1.1.2.2.2.2.2.1 x.1.2.1.1 x.1.2.1.2.1 x.1.2.1.2.2.1 x.1.2.1.2.2.2.1, fun (x : ((Nat × Nat × Nat × (Nat → Int) × (Nat → Int) × (Nat → Int) × Unit) × (Nat × Nat × Nat × (Nat → Bool) × Unit) × Unit) × Unit) => (fun (ar nr mr : Nat) (tr : Nat → Int) (vr : Nat → Int) (gr : Nat → Int) (ao no mo : Nat) (to : Nat → Bool) => (V17 ar nr mr tr vr gr ao no mo to) (S.fieldS nr (fun j => tr (j + ar)) (fun j => vr (j + ar)) (fun j => gr (j + ar)) no (fun j => to (j + ao)))) x.1.1.1 x.1.1.2.1 x.1.1.2.2.1 x.1.1.2.2.2.1 x.1.1.2.2.2.2.1 x.1.1.2.2.2.2.2.1 x.1.2.1.1 x.1.2.1.2.1 x.1.2.1.2.2.1 x.1.2.1.2.2.2.1, fun (x : ((Nat × Nat × Nat × (Nat → Int) × (Nat → Int) × (Nat → Int) × Unit) × (Nat × Nat × Nat × (Nat → Bool) × Unit) × Unit) × Unit) => (fun (ar nr mr : Nat) (tr : Nat → Int) (vr : Nat → Int) (gr : Nat → Int) (ao no mo : Nat) (to : Nat → Bool) => (N17 ar nr mr tr vr gr ao no mo to) (S.fieldS nr (fun j => tr (j + ar)) (fun j => vr (j + ar)) (fun j => gr (j + ar)) no (fun j => to (j + ao)))) x.1.1.1 x.1.1.2.1 x.1.1.2.2.1 x.1.1.2.2.2.1 x.1.1.2.2.2.2.1 x.1.1.2.2.2.2.2.1 x.1.2.1.1 x.1.2.1.2.1 x.1.2.1.2.2.1 x.1.2.1.2.2.2.1, fun _ _ => .dead⟩
theorem s17' (ar nr mr : Nat) (tr : Nat → Int) (vr : Nat → Int) (gr : Nat → Int) (ao no mo : Nat) (to : Nat → Bool) (hp : ar + nr ≤ mr ∧ nr ≤ 1000000 ∧ ao + no ≤ mo ∧ no ≤ 1000000) (hv : S.magE nr (fun j => tr (j + ar)) (fun j => vr (j + ar)) (fun j => gr (j + ar)) no = 0) : ∀ k i : Nat, i + k = nr → Comes (q17 ar nr mr tr vr gr ao no mo to) (.h0 (S.fldN (fun j => gr (j + ar)) (fun j => to (j + ao)) i) (i : Int)) ((S.fldN (fun j => gr (j + ar)) (fun j => to (j + ao)) nr, 0)) := by
  obtain ⟨hp1, hp2, hp3, hp4⟩ := hp
  intro k
  induction k with
  | zero =>
    intro i hi
    obtain ⟨v1, v2, v3, v4⟩ := mag_ok hv
    have g := fld_ge (w := (fun j => gr (j + ar))) (o := (fun j => to (j + ao))) (n := nr) (fun j hj => by have := v4 j hj; omega) i (by omega)
    have w : i < nr → _ := fun h => v4 i h
    apply Comes.of
    show Goes _ _ _
    (first | rw [q17] | unfold q17)
    repeat' first
      | with_reducible refine goes_if (fun h => ?_) (fun h => ?_) <;> (try simp only [lim64, imp_false, decide_eq_true_eq, decide_eq_false_iff_not, Int.toNat_natCast, toNat_pred, toNat_succ, Option.getD_some, Option.getD_none, Bool.not_eq_true', Bool.not_eq_false', Bool.and_eq_true, Bool.or_eq_true, Bool.and_eq_false_iff, Bool.or_eq_false_iff, bne_iff_ne, beq_iff_eq, bne_eq_false_iff_eq, beq_eq_false_iff_ne, ne_eq, not_and, Int.not_le, Int.not_lt, ge_iff_le, gt_iff_lt, Nat.not_lt, Nat.not_le, Bool.not_eq_true, Bool.not_eq_false, Bool.true_eq_false, Bool.false_eq_true, not_false_eq_true, not_true_eq_false] at h)
      | exact goes_none.mpr (by omega)
    all_goals first | (exfalso; omega) | (obtain rfl : nr = i := (by omega); rfl)
  | succ k ih =>
    intro i hi
    have ih := ih (i + 1) (by omega)
    obtain ⟨v1, v2, v3, v4⟩ := mag_ok hv
    have g := fld_ge (w := (fun j => gr (j + ar))) (o := (fun j => to (j + ao))) (n := nr) (fun j hj => by have := v4 j hj; omega) i (by omega)
    have w : i < nr → _ := fun h => v4 i h
    apply Comes.of
    show Goes _ _ _
    (first | rw [q17] | unfold q17)
    repeat' first
      | with_reducible refine goes_if (fun h => ?_) (fun h => ?_) <;> (try simp only [lim64, imp_false, decide_eq_true_eq, decide_eq_false_iff_not, Int.toNat_natCast, toNat_pred, toNat_succ, Option.getD_some, Option.getD_none, Bool.not_eq_true', Bool.not_eq_false', Bool.and_eq_true, Bool.or_eq_true, Bool.and_eq_false_iff, Bool.or_eq_false_iff, bne_iff_ne, beq_iff_eq, bne_eq_false_iff_eq, beq_eq_false_iff_ne, ne_eq, not_and, Int.not_le, Int.not_lt, ge_iff_le, gt_iff_lt, Nat.not_lt, Nat.not_le, Bool.not_eq_true, Bool.not_eq_false, Bool.true_eq_false, Bool.false_eq_true, not_false_eq_true, not_true_eq_false] at h)
      | exact goes_none.mpr (by omega)
    all_goals first | (exfalso; omega) | (refine Eq.mpr (congrArg (fun s => Comes _ s _) ?_) ih; simp only [S.fldN, *, cond_true, cond_false]; rfl)
theorem s17 (ar nr mr : Nat) (tr : Nat → Int) (vr : Nat → Int) (gr : Nat → Int) (ao no mo : Nat) (to : Nat → Bool) (hp : ar + nr ≤ mr ∧ nr ≤ 1000000 ∧ ao + no ≤ mo ∧ no ≤ 1000000) : Goes ((q17 ar nr mr tr vr gr ao no mo to)) ((p17 ar nr mr tr vr gr ao no mo to)) (S.fieldS nr (fun j => tr (j + ar)) (fun j => vr (j + ar)) (fun j => gr (j + ar)) no (fun j => to (j + ao))) := by
  by_cases hv : S.magE nr (fun j => tr (j + ar)) (fun j => vr (j + ar)) (fun j => gr (j + ar)) no = 0
  · have hm := s17' ar nr mr tr vr gr ao no mo to hp hv nr 0 (by omega)
    obtain ⟨v1, v2, v3, v4⟩ := mag_ok hv
    obtain ⟨hp1, hp2, hp3, hp4⟩ := hp
    unfold S.fieldS
    rw [if_pos hv]
    show Goes _ _ _
    unfold p17
    repeat' first
      | with_reducible refine goes_if (fun h => ?_) (fun h => ?_) <;> (try simp only [lim64, imp_false, decide_eq_true_eq, decide_eq_false_iff_not, Int.toNat_natCast, toNat_pred, toNat_succ, Option.getD_some, Option.getD_none, Bool.not_eq_true', Bool.not_eq_false', Bool.and_eq_true, Bool.or_eq_true, Bool.and_eq_false_iff, Bool.or_eq_false_iff, bne_iff_ne, beq_iff_eq, bne_eq_false_iff_eq, beq_eq_false_iff_ne, ne_eq, not_and, Int.not_le, Int.not_lt, ge_iff_le, gt_iff_lt, Nat.not_lt, Nat.not_le, Bool.not_eq_true, Bool.not_eq_false, Bool.true_eq_false, Bool.false_eq_true, not_false_eq_true, not_true_eq_false] at h)
      | exact goes_none.mpr (by omega)
    all_goals first | (exfalso; omega) | (exfalso; exact absurd hv (by assumption)) | exact hm | rfl
  · obtain ⟨hp1, hp2, hp3, hp4⟩ := hp
    unfold S.fieldS
    rw [if_neg hv]
    show Goes _ _ _
    unfold p17
    repeat' first
      | with_reducible refine goes_if (fun h => ?_) (fun h => ?_) <;> (try simp only [lim64, imp_false, decide_eq_true_eq, decide_eq_false_iff_not, Int.toNat_natCast, toNat_pred, toNat_succ, Option.getD_some, Option.getD_none, Bool.not_eq_true', Bool.not_eq_false', Bool.and_eq_true, Bool.or_eq_true, Bool.and_eq_false_iff, Bool.or_eq_false_iff, bne_iff_ne, beq_iff_eq, bne_eq_false_iff_eq, beq_eq_false_iff_ne, ne_eq, not_and, Int.not_le, Int.not_lt, ge_iff_le, gt_iff_lt, Nat.not_lt, Nat.not_le, Bool.not_eq_true, Bool.not_eq_false, Bool.true_eq_false, Bool.false_eq_true, not_false_eq_true, not_true_eq_false] at h)
      | exact goes_none.mpr (by omega)
    all_goals first | (exfalso; omega) | (exfalso; exact hv (by assumption)) | rfl
theorem k17_ok : k17.ok Try.prog := by
  intro x hx
  obtain ⟨⟨⟨ar, nr, mr, tr, vr, gr, _⟩, ⟨ao, no, mo, to, _⟩, _⟩, _⟩ := x
  obtain ⟨h1, h2⟩ := a17 ar nr mr tr vr gr ao no mo to (s17 ar nr mr tr vr gr ao no mo to (of_dec hx rfl))
  exact ⟨⟨400, (by decide : 2 + 1 + 0 ≤ 400), h1⟩, h2⟩
inductive St44 where
  | h0 (x0 : Int) (x1 : List Bool)
abbrev Rt44 := List Bool
noncomputable def V44 (ar nr mr : Nat) (tr : Nat → Int) (vr : Nat → Int) (gr : Nat → Int) (no mo : Nat) (to : Nat → Bool) (v : Int) (r : Rt44) : PV := PV.tup []
noncomputable def N44 (ar nr mr : Nat) (tr : Nat → Int) (vr : Nat → Int) (gr : Nat → Int) (no mo : Nat) (to : Nat → Bool) (v : Int) (r : Rt44) : List Blk := []
noncomputable def W44 (ar nr mr : Nat) (tr : Nat → Int) (vr : Nat → Int) (gr : Nat → Int) (no mo : Nat) (to : Nat → Bool) (v : Int) (r : Rt44) : Nat → Blk := fun n => bif Nat.beq n 1 then Blk.cols (List.length r) [Col.bool fun j => S.at' r j] else .dead
noncomputable def I44 (ar nr mr : Nat) (tr : Nat → Int) (vr : Nat → Int) (gr : Nat → Int) (no mo : Nat) (to : Nat → Bool) (v : Int) : St44 → Hd
  | .h0 x0 x1 => ⟨hd Try.f37 0, [PV.int IntKind.i64 v, PV.ptr (PA.mk (2) (0) (0) (0)),
 PV.loose (PA.mk (0) (3) ar (0)) nr, PV.int IntKind.i64 (↑nr : Int),
 PV.int IntKind.i64 x0], [[(2, (true, Blk.cells
 [PV.loose (PA.mk (0) (3) ar (0)) nr,
 PV.own (1) (1) (List.length x1)]))], [(0, (false, .cols mr [.int .i64 tr, .int .i64 vr, .int .i64 gr])), (1, (true, Blk.cols (List.length x1) [Col.bool fun j => S.at' x1 j]))]], 3⟩
noncomputable def q44 (ar nr mr : Nat) (tr : Nat → Int) (vr : Nat → Int) (gr : Nat → Int) (no mo : Nat) (to : Nat → Bool) (v : Int) : St44 → Option (St44 ⊕ Rt44)
  | .h0 x0 x1 => bif (decide (x0 < (↑nr : Int)))
 then (bif (decide ((0 : Int) ≤ x0 ∧ x0 < (↑nr : Int)))
 then (bif (decide (Int.toNat x0 + ar < mr))
 then (bif (decide (v ≥ tr (Int.toNat x0 + ar)))
 then (bif (decide ((0 : Int) ≤ x0 ∧ x0 < (↑(List.length x1) : Int)))
 then (bif (decide (Int.toNat x0 < List.length x1))
 then (bif (lim IntKind.i64 (x0 + (1 : Int)))
 then (some (.inl (.h0 (x0 + (1 : Int)) (S.mkl (List.length x1) fun j => bif Nat.beq j (Int.toNat x0) then true else S.at' x1 j))))
 else (none))
 else (none))
 else (none))
 else (bif (decide (v ≤ vr (Int.toNat x0 + ar)))
 then (bif (decide ((0 : Int) ≤ x0 ∧ x0 < (↑(List.length x1) : Int)))
 then (bif (decide (Int.toNat x0 < List.length x1))
 then (bif (lim IntKind.i64 (x0 + (1 : Int)))
 then (some (.inl (.h0 (x0 + (1 : Int)) (S.mkl (List.length x1) fun j => bif Nat.beq j (Int.toNat x0) then false else S.at' x1 j))))
 else (none))
 else (none))
 else (none))
 else (bif (lim IntKind.i64 (x0 + (1 : Int)))
 then (some (.inl (.h0 (x0 + (1 : Int)) (x1))))
 else (none))))
 else (none))
 else (none))
 else (some (.inr (x1)))
noncomputable def p44 (ar nr mr : Nat) (tr : Nat → Int) (vr : Nat → Int) (gr : Nat → Int) (no mo : Nat) (to : Nat → Bool) (v : Int) : Option (St44 ⊕ Rt44) := some (.inl (.h0 ((0 : Int)) (S.mkl no fun j => to j)))
noncomputable def Te44 (test : Bool → Prop → Prop → Prop) (Kst : KS) (Kret : KR) (ar nr mr : Nat) (tr : Nat → Int) (vr : Nat → Int) (gr : Nat → Int) (no mo : Nat) (to : Nat → Bool) (v : Int) : Prop :=
  Kst (hd Try.f37 0) ([PV.int IntKind.i64 v, PV.ptr (PA.mk (2) (0) (0) (0)),
 PV.loose (PA.mk (0) (3) ar (0)) nr, PV.int IntKind.i64 (↑nr : Int),
 PV.int IntKind.i64 (0 : Int)]) ([[(1, true, Blk.cols no [Col.bool to]),
 (0, false,
 Blk.cols mr
 [Col.int IntKind.i64 tr, Col.int IntKind.i64 vr, Col.int IntKind.i64 gr]),
 (2, true,
 Blk.cells
 [PV.loose (PA.mk (0) (3) ar (0)) nr,
 PV.own (1) (1) no])]]) (3)
theorem te44 (test : Bool → Prop → Prop → Prop) (Kst : KS) (Kret : KR) (ar nr mr : Nat) (tr : Nat → Int) (vr : Nat → Int) (gr : Nat → Int) (no mo : Nat) (to : Nat → Bool) (v : Int) : run test Try.env true noX true 400 ⟨37, [.cd (mkFn Try.f37).body], argT 0 [.agg [.loose ⟨0, 3, ar, 0⟩ nr, .own 1 1 no], .int .i64 v], [[], [(0, (false, .cols mr [.int .i64 tr, .int .i64 vr, .int .i64 gr])), (1, (true, .cols no [.bool to]))]], 2⟩ (proj 2 [1, 2, 7, 8, 9] Kst Kret) =
  Te44 test Kst Kret ar nr mr tr vr gr no mo to v := by kernel_rfl
noncomputable def T44_0 (test : Bool → Prop → Prop → Prop) (Kst : KS) (Kret : KR) (ar nr mr : Nat) (tr : Nat → Int) (vr : Nat → Int) (gr : Nat → Int) (no mo : Nat) (to : Nat → Bool) (v : Int) (x0 : Int) (x1 : List Bool) : Prop :=
  test (decide (x0 < (↑nr : Int)))
 (test (decide ((0 : Int) ≤ x0 ∧ x0 < (↑nr : Int)))
 (test (decide (Int.toNat x0 + ar < mr))
 (test (decide (Int.toNat x0 + ar < mr))
 (test (decide (Int.toNat x0 + ar < mr))
 (test (decide (v ≥ tr (Int.toNat x0 + ar)))
 (test (decide (v ≥ tr (Int.toNat x0 + ar)))
 (test (decide ((0 : Int) ≤ x0 ∧ x0 < (↑(List.length x1) : Int)))
 (test (decide (Int.toNat x0 < List.length x1))
 (test (lim IntKind.i64 (x0 + (1 : Int)))
 (Kst (hd Try.f37 0) ([PV.int IntKind.i64 v, PV.ptr (PA.mk (2) (0) (0) (0)),
 PV.loose (PA.mk (0) (3) ar (0)) nr, PV.int IntKind.i64 (↑nr : Int),
 PV.int IntKind.i64 (x0 + (1 : Int))]) ([[(1, true,
 Blk.cols (List.length x1)
 [Col.bool fun j => bif Nat.beq j (Int.toNat x0) then true else S.at' x1 j]),
 (0, false,
 Blk.cols mr
 [Col.int IntKind.i64 tr, Col.int IntKind.i64 vr, Col.int IntKind.i64 gr]),
 (2, true,
 Blk.cells
 [PV.loose (PA.mk (0) (3) ar (0)) nr,
 PV.own (1) (1) (List.length x1)])]]) (5))
 (False))
 (False))
 (False))
 (test (decide ((0 : Int) ≤ x0 ∧ x0 < (↑(List.length x1) : Int)))
 (test (decide (Int.toNat x0 < List.length x1))
 (test (lim IntKind.i64 (x0 + (1 : Int)))
 (Kst (hd Try.f37 0) ([PV.int IntKind.i64 v, PV.ptr (PA.mk (2) (0) (0) (0)),
 PV.loose (PA.mk (0) (3) ar (0)) nr, PV.int IntKind.i64 (↑nr : Int),
 PV.int IntKind.i64 (x0 + (1 : Int))]) ([[(1, true,
 Blk.cols (List.length x1)
 [Col.bool fun j => bif Nat.beq j (Int.toNat x0) then false else S.at' x1 j]),
 (0, false,
 Blk.cols mr
 [Col.int IntKind.i64 tr, Col.int IntKind.i64 vr, Col.int IntKind.i64 gr]),
 (2, true,
 Blk.cells
 [PV.loose (PA.mk (0) (3) ar (0)) nr,
 PV.own (1) (1) (List.length x1)])]]) (5))
 (False))
 (False))
 (False)))
 (test (decide (v ≤ vr (Int.toNat x0 + ar)))
 (test (decide (v ≥ tr (Int.toNat x0 + ar)))
 (test (decide ((0 : Int) ≤ x0 ∧ x0 < (↑(List.length x1) : Int)))
 (test (decide (Int.toNat x0 < List.length x1))
 (test (lim IntKind.i64 (x0 + (1 : Int)))
 (Kst (hd Try.f37 0) ([PV.int IntKind.i64 v, PV.ptr (PA.mk (2) (0) (0) (0)),
 PV.loose (PA.mk (0) (3) ar (0)) nr, PV.int IntKind.i64 (↑nr : Int),
 PV.int IntKind.i64 (x0 + (1 : Int))]) ([[(1, true,
 Blk.cols (List.length x1)
 [Col.bool fun j => bif Nat.beq j (Int.toNat x0) then true else S.at' x1 j]),
 (0, false,
 Blk.cols mr
 [Col.int IntKind.i64 tr, Col.int IntKind.i64 vr, Col.int IntKind.i64 gr]),
 (2, true,
 Blk.cells
 [PV.loose (PA.mk (0) (3) ar (0)) nr,
 PV.own (1) (1) (List.length x1)])]]) (5))
 (False))
 (False))
 (False))
 (test (decide ((0 : Int) ≤ x0 ∧ x0 < (↑(List.length x1) : Int)))
 (test (decide (Int.toNat x0 < List.length x1))
 (test (lim IntKind.i64 (x0 + (1 : Int)))
 (Kst (hd Try.f37 0) ([PV.int IntKind.i64 v, PV.ptr (PA.mk (2) (0) (0) (0)),
 PV.loose (PA.mk (0) (3) ar (0)) nr, PV.int IntKind.i64 (↑nr : Int),
 PV.int IntKind.i64 (x0 + (1 : Int))]) ([[(1, true,
 Blk.cols (List.length x1)
 [Col.bool fun j => bif Nat.beq j (Int.toNat x0) then false else S.at' x1 j]),
 (0, false,
 Blk.cols mr
 [Col.int IntKind.i64 tr, Col.int IntKind.i64 vr, Col.int IntKind.i64 gr]),
 (2, true,
 Blk.cells
 [PV.loose (PA.mk (0) (3) ar (0)) nr,
 PV.own (1) (1) (List.length x1)])]]) (5))
 (False))
 (False))
 (False)))
 (test (lim IntKind.i64 (x0 + (1 : Int)))
 (Kst (hd Try.f37 0) ([PV.int IntKind.i64 v, PV.ptr (PA.mk (2) (0) (0) (0)),
 PV.loose (PA.mk (0) (3) ar (0)) nr, PV.int IntKind.i64 (↑nr : Int),
 PV.int IntKind.i64 (x0 + (1 : Int))]) ([[(1, true, Blk.cols (List.length x1) [Col.bool fun j => S.at' x1 j]),
 (0, false,
 Blk.cols mr
 [Col.int IntKind.i64 tr, Col.int IntKind.i64 vr, Col.int IntKind.i64 gr]),
 (2, true,
 Blk.cells
 [PV.loose (PA.mk (0) (3) ar (0)) nr,
 PV.own (1) (1) (List.length x1)])]]) (5))
 (False))))
 (False))
 (False))
 (False))
 (False))
 (Kret (PV.tup []) ([[(1, true, Blk.cols (List.length x1) [Col.bool fun j => S.at' x1 j]),
 (0, false,
 Blk.cols mr
 [Col.int IntKind.i64 tr, Col.int IntKind.i64 vr, Col.int IntKind.i64 gr])]]) (3))
theorem t44_0 (test : Bool → Prop → Prop → Prop) (Kst : KS) (Kret : KR) (ar nr mr : Nat) (tr : Nat → Int) (vr : Nat → Int) (gr : Nat → Int) (no mo : Nat) (to : Nat → Bool) (v : Int) (x0 : Int) (x1 : List Bool) : run test Try.env true noX true 400 ⟨37, hd Try.f37 0, zipT [1, 2, 7, 8, 9] [PV.int IntKind.i64 v, PV.ptr (PA.mk (2) (0) (0) (0)),
 PV.loose (PA.mk (0) (3) ar (0)) nr, PV.int IntKind.i64 (↑nr : Int),
 PV.int IntKind.i64 x0], [[(2, (true, Blk.cells
 [PV.loose (PA.mk (0) (3) ar (0)) nr,
 PV.own (1) (1) (List.length x1)]))], [(0, (false, .cols mr [.int .i64 tr, .int .i64 vr, .int .i64 gr])), (1, (true, Blk.cols (List.length x1) [Col.bool fun j => S.at' x1 j]))]], 3⟩ (proj 2 [1, 2, 7, 8, 9] Kst Kret) =
  T44_0 test Kst Kret ar nr mr tr vr gr no mo to v x0 x1 := by kernel_rfl
theorem be44 (ar nr mr : Nat) (tr : Nat → Int) (vr : Nat → Int) (gr : Nat → Int) (no mo : Nat) (to : Nat → Bool) (v : Int) (Kst : KS) (Kret : KR) (x : St44 ⊕ Rt44) (hS : HS 2 400 ((I44 ar nr mr tr vr gr no mo to v)) Kst x) (hR : HR 2 400 ((V44 ar nr mr tr vr gr no mo to v)) (fun r => [newL (2 + 1) ((N44 ar nr mr tr vr gr no mo to v) r) ++ [(0, (false, .cols mr [.int .i64 tr, .int .i64 vr, .int .i64 gr])), (1, (true, ((W44 ar nr mr tr vr gr no mo to v) r 1)))]]) Kret x) (h : (some (.inl (.h0 ((0 : Int)) (S.mkl no fun j => to j))) : Option (St44 ⊕ Rt44)) = some x) : Te44 cond Kst Kret ar nr mr tr vr gr no mo to v := by
  unfold Te44
  exact stop_at hS _ h (fun n => bif Nat.beq n 2 then 2 else n) rfl rfl rfl ⟨(rn_int rfl), ⟨(rn_ptr (use_own rfl) rfl rfl), ⟨(rn_loose (use_lo rfl) rfl rfl rfl), ⟨(rn_int rfl), ⟨(rn_int rfl), trivial⟩⟩⟩⟩⟩ rfl (entl_b (use_own rfl) rfl (by simp) (rb_cells ⟨(rn_loose (use_lo rfl) rfl rfl rfl), (rn_own (use_lo rfl) rfl mkl_len), trivial⟩) (entl_bor (use_lo rfl) rfl rfl (entl_new (use_lo rfl) rfl (Nat.le_of_eq mkl_len) (rcs_bool (fun _ hj => col_mkl (fun (t : Bool) => t) hj) rcs_nil) entl_nil)))
theorem b44_0 (ar nr mr : Nat) (tr : Nat → Int) (vr : Nat → Int) (gr : Nat → Int) (no mo : Nat) (to : Nat → Bool) (v : Int) (Kst : KS) (Kret : KR) (x : St44 ⊕ Rt44) (hS : HS 2 400 ((I44 ar nr mr tr vr gr no mo to v)) Kst x) (hR : HR 2 400 ((V44 ar nr mr tr vr gr no mo to v)) (fun r => [newL (2 + 1) ((N44 ar nr mr tr vr gr no mo to v) r) ++ [(0, (false, .cols mr [.int .i64 tr, .int .i64 vr, .int .i64 gr])), (1, (true, ((W44 ar nr mr tr vr gr no mo to v) r 1)))]]) Kret x) (x0 : Int) (x1 : List Bool) (h : (bif (decide (x0 < (↑nr : Int)))
 then (bif (decide ((0 : Int) ≤ x0 ∧ x0 < (↑nr : Int)))
 then (bif (decide (Int.toNat x0 + ar < mr))
 then (bif (decide (v ≥ tr (Int.toNat x0 + ar)))
 then (bif (decide ((0 : Int) ≤ x0 ∧ x0 < (↑(List.length x1) : Int)))
 then (bif (decide (Int.toNat x0 < List.length x1))
 then (bif (lim IntKind.i64 (x0 + (1 : Int)))
 then (some (.inl (.h0 (x0 + (1 : Int)) (S.mkl (List.length x1) fun j => bif Nat.beq j (Int.toNat x0) then true else S.at' x1 j))))
 else (none))
 else (none))
 else (none))
 else (bif (decide (v ≤ vr (Int.toNat x0 + ar)))
 then (bif (decide ((0 : Int) ≤ x0 ∧ x0 < (↑(List.length x1) : Int)))
 then (bif (decide (Int.toNat x0 < List.length x1))
 then (bif (lim IntKind.i64 (x0 + (1 : Int)))
 then (some (.inl (.h0 (x0 + (1 : Int)) (S.mkl (List.length x1) fun j => bif Nat.beq j (Int.toNat x0) then false else S.at' x1 j))))
 else (none))
 else (none))
 else (none))
 else (bif (lim IntKind.i64 (x0 + (1 : Int)))
 then (some (.inl (.h0 (x0 + (1 : Int)) (x1))))
 else (none))))
 else (none))
 else (none))
 else (some (.inr (x1))) : Option (St44 ⊕ Rt44)) = some x) : T44_0 cond Kst Kret ar nr mr tr vr gr no mo to v x0 x1 := by
  unfold T44_0
  exact bif_split h
   (fun c0 h => bif_split h
   (fun c1 h => bif_split h
   (fun c2 h => cond_yes c2 (cond_yes c2 (bif_split h
   (fun c3 h => cond_yes c3 (bif_split h
   (fun c4 h => bif_split h
   (fun c5 h => bif_split h
   (fun c6 h => stop_at hS _ h (fun n => bif Nat.beq n 2 then 2 else n) rfl rfl rfl ⟨(rn_int rfl), ⟨(rn_ptr (use_own rfl) rfl rfl), ⟨(rn_loose (use_lo rfl) rfl rfl rfl), ⟨(rn_int rfl), ⟨(rn_int rfl), trivial⟩⟩⟩⟩⟩ rfl (entl_b (use_own rfl) rfl (by simp) (rb_cells ⟨(rn_loose (use_lo rfl) rfl rfl rfl), (rn_own (use_lo rfl) rfl mkl_len), trivial⟩) (entl_bor (use_lo rfl) rfl rfl (entl_new (use_lo rfl) rfl (Nat.le_of_eq mkl_len) (rcs_bool (fun _ hj => col_mkl (fun (t : Bool) => t) hj) rcs_nil) entl_nil))))
   (fun c6 h => no_some h))
   (fun c5 h => no_some h))
   (fun c4 h => no_some h)))
   (fun c3 h => bif_split h
   (fun c4 h => cond_no c3 (bif_split h
   (fun c5 h => bif_split h
   (fun c6 h => bif_split h
   (fun c7 h => stop_at hS _ h (fun n => bif Nat.beq n 2 then 2 else n) rfl rfl rfl ⟨(rn_int rfl), ⟨(rn_ptr (use_own rfl) rfl rfl), ⟨(rn_loose (use_lo rfl) rfl rfl rfl), ⟨(rn_int rfl), ⟨(rn_int rfl), trivial⟩⟩⟩⟩⟩ rfl (entl_b (use_own rfl) rfl (by simp) (rb_cells ⟨(rn_loose (use_lo rfl) rfl rfl rfl), (rn_own (use_lo rfl) rfl mkl_len), trivial⟩) (entl_bor (use_lo rfl) rfl rfl (entl_new (use_lo rfl) rfl (Nat.le_of_eq mkl_len) (rcs_bool (fun _ hj => col_mkl (fun (t : Bool) => t) hj) rcs_nil) entl_nil))))
   (fun c7 h => no_some h))
   (fun c6 h => no_some h))
   (fun c5 h => no_some h)))
   (fun c4 h => bif_split h
   (fun c5 h => stop_at hS _ h (fun n => bif Nat.beq n 2 then 2 else n) rfl rfl rfl ⟨(rn_int rfl), ⟨(rn_ptr (use_own rfl) rfl rfl), ⟨(rn_loose (use_lo rfl) rfl rfl rfl), ⟨(rn_int rfl), ⟨(rn_int rfl), trivial⟩⟩⟩⟩⟩ rfl (entl_b (use_own rfl) rfl (by simp) (rb_cells ⟨(rn_loose (use_lo rfl) rfl rfl rfl), (rn_own (use_lo rfl) rfl rfl), trivial⟩) (entl_bor (use_lo rfl) rfl rfl (entl_new (use_lo rfl) rfl (Nat.le_of_eq rfl) (rcs_bool (fun _ _ => rfl) rcs_nil) entl_nil))))
   (fun c5 h => no_some h))))))
   (fun c2 h => no_some h))
   (fun c1 h => no_some h))
   (fun c0 h => ret_at hR _ h (fun n => n) rfl rfl rfl (rn_tup trivial) rfl (entl_bor (use_lo rfl) rfl rfl (entl_new (use_lo rfl) rfl (Nat.le_of_eq rfl) (rcs_bool (fun _ _ => rfl) rcs_nil) entl_nil)))
theorem a44 (ar nr mr : Nat) (tr : Nat → Int) (vr : Nat → Int) (gr : Nat → Int) (no mo : Nat) (to : Nat → Bool) (v : Int) {r : Rt44} (h : Goes ((q44 ar nr mr tr vr gr no mo to v)) ((p44 ar nr mr tr vr gr no mo to v)) r) : CallR Try.prog 37 [.agg [.loose ⟨0, 3, ar, 0⟩ nr, .own 1 1 no], .int .i64 v] [[(0, (false, .cols mr [.int .i64 tr, .int .i64 vr, .int .i64 gr])), (1, (true, .cols no [.bool to]))]] 2 ((V44 ar nr mr tr vr gr no mo to v) r) ((fun r => [newL (2 + 1) ((N44 ar nr mr tr vr gr no mo to v) r) ++ [(0, (false, .cols mr [.int .i64 tr, .int .i64 vr, .int .i64 gr])), (1, (true, ((W44 ar nr mr tr vr gr no mo to v) r 1)))]]) r) 400 ∧ ∃ F, Try.prog.funcs[37]? = some F ∧ F.body.isSome = true ∧ (F.name == "runtime.NumGoroutine") = false := by
  refine dec_calls (f := 37) (lo := 2) (hi := 400) (H := [[(0, (false, .cols mr [.int .i64 tr, .int .i64 vr, .int .i64 gr])), (1, (true, .cols no [.bool to]))]]) (args := [.agg [.loose ⟨0, 3, ar, 0⟩ nr, .own 1 1 no], .int .i64 v]) Try.envOk Try.mixed noX_ok ((I44 ar nr mr tr vr gr no mo to v)) ((V44 ar nr mr tr vr gr no mo to v)) (fun r => [newL (2 + 1) ((N44 ar nr mr tr vr gr no mo to v) r) ++ [(0, (false, .cols mr [.int .i64 tr, .int .i64 vr, .int .i64 gr])), (1, (true, ((W44 ar nr mr tr vr gr no mo to v) r 1)))]]) (fn := mkFn Try.f37) (ts := [1, 2, 7, 8, 9]) (n := 400) rfl (by decide) (by simp) (names_of rfl) ?_ ?_ ?_ h
  · intro s; cases s <;> exact ⟨hd_ok _ _, by simp [I44], names_of rfl, Nat.le_of_ble_eq_true rfl⟩
  · intro Kst Kret x hS hR h
    exact Holds.eq (te44 cond Kst Kret ar nr mr tr vr gr no mo to v) (be44 ar nr mr tr vr gr no mo to v Kst Kret x hS hR h)
  · intro Kst Kret x hS hR s h
    cases s with
    | h0 x0 x1 => exact Holds.eq (t44_0 cond Kst Kret ar nr mr tr vr gr no mo to v x0 x1) (b44_0 ar nr mr tr vr gr no mo to v Kst Kret x hS hR x0 x1 h)
noncomputable def k44 : Con := ⟨37, [.agg [.list [.int .i64, .int .i64, .int .i64], .own [.bool]], .one (.plain (.int .i64))], fun (x : ((Nat × Nat × Nat × (Nat → Int) × (Nat → Int) × (Nat → Int) × Unit) × (Nat × Nat × (Nat → Bool) × Unit) × Unit) × Int × Unit) => (fun (ar nr mr : Nat) (tr : Nat → Int) (vr : Nat → Int) (gr : Nat → Int) (no mo : Nat) (to : Nat → Bool) (v : Int) => decide (ar + nr ≤ mr ∧ nr ≤ 1000000 ∧ no = nr)) x.1.1.1 x.1.1.2.1 x.1.1.2.2.1 x.1.1.2.2.2.1 x.1.1.2.2.2.2.1 x.1.1.2.2.2.2.2.1 x.1.2.1.1 x.1.2.1.2.1 x.1.2.1.2.2.1 x.2.1, fun (x : ((Nat × Nat × Nat × (Nat → Int) × (Nat → Int) × (Nat → Int) × Unit) × (Nat × Nat × (Nat → Bool) × Unit) × Unit) × Int × Unit) => (fun (ar nr mr : Nat) (tr : Nat → Int) (vr : Nat → Int) (gr : Nat → Int) (no mo : Nat) (to : Nat → Bool) (v : Int) => (V44 ar nr mr tr vr gr no mo to v) (S.mkl no fun j => S.aft (tr (j + ar)) (vr (j + ar)) (to j) v)) x.1.1.1 x.1.1.2.1 x.1.1.2.2.1 x.1.1.2.2.2.1 x.1.1.2.2.2.2.1 x.1.1.2.2.2.2.2.1 x.1.2.1.1 x.1.2.1.2.1 x.1.2.1.2.2.1 x.2.1, fun (x : ((Nat × Nat × Nat × (Nat → Int) × (Nat → Int) × (Nat → Int) × Unit) × (Nat × Nat × (Nat → Bool) × Unit) × Unit) × Int × Unit) => (fun (ar nr mr : Nat) (tr : Nat → Int) (vr : Nat → Int) (gr : Nat → Int) (no mo : Nat) (to : Nat → Bool) (v : Int) => (N44 ar nr mr tr vr gr no mo to v) (S.mkl no fun j => S.aft (tr (j + ar)) (vr (j + ar)) (to j) v)) x.1.1.1 x.1.1.2.1 x.1.1.2.2.1 x.1.1.2.2.2.1 x.1.1.2.2.2.2.1 x.1.1.2.2.2.2.2.1 x.1.2.1.1 x.1.2.1.2.1 x.1.2.1.2.2.1 x.2.1, fun (x : ((Nat × Nat × Nat × (Nat → Int) × (Nat → Int) × (Nat → Int) × Unit) × (Nat × Nat × (Nat → Bool) × Unit) × Unit) × Int × Unit) => (fun (ar nr mr : Nat) (tr : Nat → Int) (vr : Nat → Int) (gr : Nat → Int) (no mo : Nat) (to : Nat → Bool) (v : Int) => (W44 ar nr mr tr vr gr no mo to v) (S.mkl no fun j => S.aft (tr (j + ar)) (vr (j + ar)) (to j) v)) x.1.1.1 x.1.1.2.1 x.1.1.2.2.1 x.1.1.2.2.2.1 x.1.1.2.2.2.2.1 x.1.1.2.2.2.2.2.1 x.1.2.1.1 x.1.2.1.2.1 x.1.2.1.2.2.1 x.2.1⟩
theorem any_succ {p : Nat → Bool} {n : Nat} : S.any p (n + 1) = (S.any p n || p n) := by simp [S.any, List.range_succ]
theorem s44' (ar nr mr : Nat) (tr : Nat → Int) (vr : Nat → Int) (gr : Nat → Int) (no mo : Nat) (to : Nat → Bool) (v : Int) (hp : ar + nr ≤ mr ∧ nr ≤ 1000000 ∧ no = nr) : ∀ (k i : Nat) (l : List Bool), i + k = nr → Holds (l = (S.mkl no fun j => if j < i then S.aft (tr (j + ar)) (vr (j + ar)) (to j) v else to j)) → Comes (q44 ar nr mr tr vr gr no mo to v) (.h0 (i : Int) l) (S.mkl no fun j => S.aft (tr (j + ar)) (vr (j + ar)) (to j) v) := by
  obtain ⟨hp1, hp2, hp3⟩ := hp
  intro k
  induction k with
  | zero =>
    intro i l hi el
    have hl : l.length = no := by rw [el.get]; exact mkl_len
    apply Comes.of
    show Goes _ _ _
    (first | rw [q44] | unfold q44)
    repeat' first
      | with_reducible refine goes_if (fun h => ?_) (fun h => ?_) <;> (try simp only [lim64, imp_false, decide_eq_true_eq, decide_eq_false_iff_not, Int.toNat_natCast, toNat_pred, toNat_succ, Option.getD_some, Option.getD_none, Bool.not_eq_true', Bool.not_eq_false', Bool.and_eq_true, Bool.or_eq_true, Bool.and_eq_false_iff, Bool.or_eq_false_iff, bne_iff_ne, beq_iff_eq, bne_eq_false_iff_eq, beq_eq_false_iff_ne, ne_eq, not_and, Int.not_le, Int.not_lt, ge_iff_le, gt_iff_lt, Nat.not_lt, Nat.not_le, Bool.not_eq_true, Bool.not_eq_false, Bool.true_eq_false, Bool.false_eq_true, not_false_eq_true, not_true_eq_false] at h)
      | exact goes_none.mpr (by omega)
    all_goals first | (exfalso; omega) | (obtain rfl : nr = i := (by omega);  refine goes_inr.mpr ?_; rw [el.get]; exact mkl_congr fun j hj => if_pos (by omega))
  | succ k ih =>
    intro i l hi el
    have hl : l.length = no := by rw [el.get]; exact mkl_len
    apply Comes.of
    show Goes _ _ _
    (first | rw [q44] | unfold q44)
    repeat' first
      | with_reducible refine goes_if (fun h => ?_) (fun h => ?_) <;> (try simp only [lim64, imp_false, decide_eq_true_eq, decide_eq_false_iff_not, Int.toNat_natCast, toNat_pred, toNat_succ, Option.getD_some, Option.getD_none, Bool.not_eq_true', Bool.not_eq_false', Bool.and_eq_true, Bool.or_eq_true, Bool.and_eq_false_iff, Bool.or_eq_false_iff, bne_iff_ne, beq_iff_eq, bne_eq_false_iff_eq, beq_eq_false_iff_ne, ne_eq, not_and, Int.not_le, Int.not_lt, ge_iff_le, gt_iff_lt, Nat.not_lt, Nat.not_le, Bool.not_eq_true, Bool.not_eq_false, Bool.true_eq_false, Bool.false_eq_true, not_false_eq_true, not_true_eq_false] at h)
      | exact goes_none.mpr (by omega)
    all_goals first
      | (exfalso; omega)
      | (refine ih (i + 1) _ (by omega) ⟨?_⟩; rw [hl, el.get]; exact upd_step (by unfold S.aft; simp only [Bool.cond_eq_ite, decide_eq_true_eq, Int.toNat_natCast]; (repeat' split) <;> first | rfl | omega)) | (refine ih (i + 1) _ (by omega) ⟨?_⟩; rw [el.get]; exact same_step (by unfold S.aft; simp only [Bool.cond_eq_ite, decide_eq_true_eq, Int.toNat_natCast]; (repeat' split) <;> first | rfl | omega))
      | (refine ih (i + 1) _ (by omega) ⟨?_⟩ <;> (simp only [Bool.cond_eq_ite, decide_eq_true_eq, ← el.get]; (repeat' split) <;> first | rfl | omega | (exfalso; omega) | (exfalso; simp_all; done) | (exfalso; simp_all; omega) | simp_all))
theorem s44 (ar nr mr : Nat) (tr : Nat → Int) (vr : Nat → Int) (gr : Nat → Int) (no mo : Nat) (to : Nat → Bool) (v : Int) (hp : ar + nr ≤ mr ∧ nr ≤ 1000000 ∧ no = nr) : Goes ((q44 ar nr mr tr vr gr no mo to v)) ((p44 ar nr mr tr vr gr no mo to v)) (S.mkl no fun j => S.aft (tr (j + ar)) (vr (j + ar)) (to j) v) := by
  have hm := s44' ar nr mr tr vr gr no mo to v hp nr 0 (S.mkl no fun j => to j) (by omega) ⟨upd_none⟩
  show Goes _ _ _
  unfold p44
  repeat' first
    | with_reducible refine goes_if (fun h => ?_) (fun h => ?_) <;> (try simp only [lim64, imp_false, decide_eq_true_eq, decide_eq_false_iff_not, Int.toNat_natCast, toNat_pred, toNat_succ, Option.getD_some, Option.getD_none, Bool.not_eq_true', Bool.not_eq_false', Bool.and_eq_true, Bool.or_eq_true, Bool.and_eq_false_iff, Bool.or_eq_false_iff, bne_iff_ne, beq_iff_eq, bne_eq_false_iff_eq, beq_eq_false_iff_ne, ne_eq, not_and, Int.not_le, Int.not_lt, ge_iff_le, gt_iff_lt, Nat.not_lt, Nat.not_le, Bool.not_eq_true, Bool.not_eq_false, Bool.true_eq_false, Bool.false_eq_true, not_false_eq_true, not_true_eq_false] at h)
    | exact goes_none.mpr (by omega)
  all_goals first | (exfalso; omega) | exact hm
theorem k44_ok : k44.ok Try.prog := by
  intro x hx
  obtain ⟨⟨⟨ar, nr, mr, tr, vr, gr, _⟩, ⟨no, mo, to, _⟩, _⟩, v, _⟩ := x
  obtain ⟨h1, h2⟩ := a44 ar nr mr tr vr gr no mo to v (s44 ar nr mr tr vr gr no mo to v (of_dec hx rfl))
  exact ⟨⟨400, (by decide : 2 + 1 + 0 ≤ 400), h1⟩, h2⟩
noncomputable def xC (test : Bool → Prop → Prop → Prop) : Ext := consX test [k21, k37, k38, k42, k49, k44, k17]
theorem xC_ok : ExtOk Try.prog (xC cond) := consX_ok ⟨k21_ok, k37_ok, k38_ok, k42_ok, k49_ok, k44_ok, k17_ok, trivial⟩
inductive St34 where
  | h0 (x0 : Int)
abbrev Rt34 := Bool × Int
noncomputable def V34 (ar nr mr : Nat) (tr : Nat → Int) (vr : Nat → Int) (gr : Nat → Int) (ao no mo : Nat) (to : Nat → Bool) (al nl ml : Nat) (tl : Nat → Int) (r : Rt34) : PV := PV.tup [PV.bool r.1, PV.int IntKind.i64 r.2]
noncomputable def N34 (ar nr mr : Nat) (tr : Nat → Int) (vr : Nat → Int) (gr : Nat → Int) (ao no mo : Nat) (to : Nat → Bool) (al nl ml : Nat) (tl : Nat → Int) (r : Rt34) : List Blk := []
noncomputable def I34 (ar nr mr : Nat) (tr : Nat → Int) (vr : Nat → Int) (gr : Nat → Int) (ao no mo : Nat) (to : Nat → Bool) (al nl ml : Nat) (tl : Nat → Int) : St34 → Hd
  | .h0 x0 => ⟨hd Try.f20 0, [PV.loose (PA.mk (2) (1) al (0)) nl,
 PV.loose (PA.mk (0) (3) ar (0)) nr, PV.int IntKind.i64 (↑nr : Int),
 PV.int IntKind.i64 x0], [[], [(0, (false, .cols mr [.int .i64 tr, .int .i64 vr, .int .i64 gr])), (1, (false, .cols mo [.bool to])), (2, (false, .cols ml [.int .i64 tl]))]], 3⟩
noncomputable def q34 (ar nr mr : Nat) (tr : Nat → Int) (vr : Nat → Int) (gr : Nat → Int) (ao no mo : Nat) (to : Nat → Bool) (al nl ml : Nat) (tl : Nat → Int) : St34 → Option (St34 ⊕ Rt34)
  | .h0 x0 => bif (decide (x0 < (↑nr : Int)))
 then (bif (decide ((0 : Int) ≤ x0 ∧ x0 < (↑nr : Int)))
 then (bif (decide (Int.toNat x0 + ar < mr))
 then (bif (decide (al + nl ≤ ml ∧ nl ≤ 1000000))
 then (bif (S.any
 (fun j => decide (tl (j + al) ≥ tr (Int.toNat x0 + ar) ∨ tl (j + al) ≤ vr (Int.toNat x0 + ar))) nl)
 then (bif (lim IntKind.i64 (x0 + (1 : Int)))
 then (some (.inl (.h0 (x0 + (1 : Int)))))
 else (none))
 else (some (.inr (false, (0 : Int)))))
 else (none))
 else (none))
 else (none))
 else (some (.inr (true, (0 : Int))))
noncomputable def p34 (ar nr mr : Nat) (tr : Nat → Int) (vr : Nat → Int) (gr : Nat → Int) (ao no mo : Nat) (to : Nat → Bool) (al nl ml : Nat) (tl : Nat → Int) : Option (St34 ⊕ Rt34) := bif (decide (ar + nr ≤ mr ∧ nr ≤ 1000000 ∧ al + nl ≤ ml ∧ nl ≤ 1000000))
 then (bif ((S.histE nr (fun j => tr (j + ar)) (fun j => vr (j + ar)) (fun j => gr (j + ar)) no nl
 fun j => tl (j + al)) !=
 (0 : Int))
 then (some (.inr (false, S.histE nr (fun j => tr (j + ar)) (fun j => vr (j + ar)) (fun j => gr (j + ar)) no nl
 fun j => tl (j + al))))
 else (some (.inl (.h0 ((0 : Int))))))
 else (none)
noncomputable def Te34 (test : Bool → Prop → Prop → Prop) (Kst : KS) (Kret : KR) (ar nr mr : Nat) (tr : Nat → Int) (vr : Nat → Int) (gr : Nat → Int) (ao no mo : Nat) (to : Nat → Bool) (al nl ml : Nat) (tl : Nat → Int) : Prop :=
  test (decide (ar + nr ≤ mr ∧ nr ≤ 1000000 ∧ al + nl ≤ ml ∧ nl ≤ 1000000))
 (test ((S.histE nr (fun j => tr (j + ar)) (fun j => vr (j + ar)) (fun j => gr (j + ar)) no nl
 fun j => tl (j + al)) !=
 (0 : Int))
 (Kret (PV.tup
 [PV.tf false,
 PV.int IntKind.i64
 (S.histE nr (fun j => tr (j + ar)) (fun j => vr (j + ar)) (fun j => gr (j + ar)) no
 nl fun j => tl (j + al))]) ([[(2, false, Blk.cols ml [Col.int IntKind.i64 tl]),
 (1, false, Blk.cols mo [Col.bool to]),
 (0, false,
 Blk.cols mr
 [Col.int IntKind.i64 tr, Col.int IntKind.i64 vr, Col.int IntKind.i64 gr])]]) (5))
 (Kst (hd Try.f20 0) ([PV.loose (PA.mk (2) (1) al (0)) nl,
 PV.loose (PA.mk (0) (3) ar (0)) nr, PV.int IntKind.i64 (↑nr : Int),
 PV.int IntKind.i64 (0 : Int)]) ([[(2, false, Blk.cols ml [Col.int IntKind.i64 tl]),
 (1, false, Blk.cols mo [Col.bool to]),
 (0, false,
 Blk.cols mr
 [Col.int IntKind.i64 tr, Col.int IntKind.i64 vr, Col.int IntKind.i64 gr])]]) (5)))
 (False)
theorem te34 (test : Bool → Prop → Prop → Prop) (Kst : KS) (Kret : KR) (ar nr mr : Nat) (tr : Nat → Int) (vr : Nat → Int) (gr : Nat → Int) (ao no mo : Nat) (to : Nat → Bool) (al nl ml : Nat) (tl : Nat → Int) : run test Try.env true (xC test) true 400 ⟨20, [.cd (mkFn Try.f20).body], argT 0 [.agg [.loose ⟨0, 3, ar, 0⟩ nr, .loose ⟨1, 1, ao, 0⟩ no], .loose ⟨2, 1, al, 0⟩ nl], [[], [(0, (false, .cols mr [.int .i64 tr, .int .i64 vr, .int .i64 gr])), (1, (false, .cols mo [.bool to])), (2, (false, .cols ml [.int .i64 tl]))]], 3⟩ (proj 3 [1, 16, 17, 18] Kst Kret) =
  Te34 test Kst Kret ar nr mr tr vr gr ao no mo to al nl ml tl := by kernel_rfl
noncomputable def T34_0 (test : Bool → Prop → Prop → Prop) (Kst : KS) (Kret : KR) (ar nr mr : Nat) (tr : Nat → Int) (vr : Nat → Int) (gr : Nat → Int) (ao no mo : Nat) (to : Nat → Bool) (al nl ml : Nat) (tl : Nat → Int) (x0 : Int) : Prop :=
  test (decide (x0 < (↑nr : Int)))
 (test (decide ((0 : Int) ≤ x0 ∧ x0 < (↑nr : Int)))
 (test (decide (Int.toNat x0 + ar < mr))
 (test (decide (Int.toNat x0 + ar < mr))
 (test (decide (Int.toNat x0 + ar < mr))
 (test (decide (al + nl ≤ ml ∧ nl ≤ 1000000))
 (test (S.any
 (fun j => decide (tl (j + al) ≥ tr (Int.toNat x0 + ar) ∨ tl (j + al) ≤ vr (Int.toNat x0 + ar))) nl)
 (test (lim IntKind.i64 (x0 + (1 : Int)))
 (Kst (hd Try.f20 0) ([PV.loose (PA.mk (2) (1) al (0)) nl,
 PV.loose (PA.mk (0) (3) ar (0)) nr, PV.int IntKind.i64 (↑nr : Int),
 PV.int IntKind.i64 (x0 + (1 : Int))]) ([[(2, false, Blk.cols ml [Col.int IntKind.i64 tl]),
 (1, false, Blk.cols mo [Col.bool to]),
 (0, false,
 Blk.cols mr
 [Col.int IntKind.i64 tr, Col.int IntKind.i64 vr, Col.int IntKind.i64 gr])]]) (5))
 (False))
 (Kret (PV.tup [PV.tf false, PV.int IntKind.i64 (0 : Int)]) ([[(2, false, Blk.cols ml [Col.int IntKind.i64 tl]),
 (1, false, Blk.cols mo [Col.bool to]),
 (0, false,
 Blk.cols mr
 [Col.int IntKind.i64 tr, Col.int IntKind.i64 vr, Col.int IntKind.i64 gr])]]) (5)))
 (False))
 (False))
 (False))
 (False))
 (False))
 (Kret (PV.tup [PV.tf true, PV.int IntKind.i64 (0 : Int)]) ([[(2, false, Blk.cols ml [Col.int IntKind.i64 tl]),
 (1, false, Blk.cols mo [Col.bool to]),
 (0, false,
 Blk.cols mr
 [Col.int IntKind.i64 tr, Col.int IntKind.i64 vr, Col.int IntKind.i64 gr])]]) (3))
theorem t34_0 (test : Bool → Prop → Prop → Prop) (Kst : KS) (Kret : KR) (ar nr mr : Nat) (tr : Nat → Int) (vr : Nat → Int) (gr : Nat → Int) (ao no mo : Nat) (to : Nat → Bool) (al nl ml : Nat) (tl : Nat → Int) (x0 : Int) : run test Try.env true (xC test) true 400 ⟨20, hd Try.f20 0, zipT [1, 16, 17, 18] [PV.loose (PA.mk (2) (1) al (0)) nl,
 PV.loose (PA.mk (0) (3) ar (0)) nr, PV.int IntKind.i64 (↑nr : Int),
 PV.int IntKind.i64 x0], [[], [(0, (false, .cols mr [.int .i64 tr, .int .i64 vr, .int .i64 gr])), (1, (false, .cols mo [.bool to])), (2, (false, .cols ml [.int .i64 tl]))]], 3⟩ (proj 3 [1, 16, 17, 18] Kst Kret) =
  T34_0 test Kst Kret ar nr mr tr vr gr ao no mo to al nl ml tl x0 := by kernel_rfl
theorem be34 (ar nr mr : Nat) (tr : Nat → Int) (vr : Nat → Int) (gr : Nat → Int) (ao no mo : Nat) (to : Nat → Bool) (al nl ml : Nat) (tl : Nat → Int) (Kst : KS) (Kret : KR) (x : St34 ⊕ Rt34) (hS : HS 3 400 ((I34 ar nr mr tr vr gr ao no mo to al nl ml tl)) Kst x) (hR : HR 3 400 ((V34 ar nr mr tr vr gr ao no mo to al nl ml tl)) (fun r => [newL (3 + 1) ((N34 ar nr mr tr vr gr ao no mo to al nl ml tl) r) ++ [(0, (false, .cols mr [.int .i64 tr, .int .i64 vr, .int .i64 gr])), (1, (false, .cols mo [.bool to])), (2, (false, .cols ml [.int .i64 tl]))]]) Kret x) (h : (bif (decide (ar + nr ≤ mr ∧ nr ≤ 1000000 ∧ al + nl ≤ ml ∧ nl ≤ 1000000))
 then (bif ((S.histE nr (fun j => tr (j + ar)) (fun j => vr (j + ar)) (fun j => gr (j + ar)) no nl
 fun j => tl (j + al)) !=
 (0 : Int))
 then (some (.inr (false, S.histE nr (fun j => tr (j + ar)) (fun j => vr (j + ar)) (fun j => gr (j + ar)) no nl
 fun j => tl (j + al))))
 else (some (.inl (.h0 ((0 : Int))))))
 else (none) : Option (St34 ⊕ Rt34)) = some x) : Te34 cond Kst Kret ar nr mr tr vr gr ao no mo to al nl ml tl := by
  unfold Te34
  exact bif_split h
   (fun c0 h => bif_split h
   (fun c1 h => ret_at hR _ h (fun n => n) rfl rfl rfl (rn_tup ⟨(rn_bool_tf rfl), (rn_int rfl), trivial⟩) rfl (entl_bor (use_lo rfl) rfl rfl (entl_bor (use_lo rfl) rfl rfl (entl_bor (use_lo rfl) rfl rfl entl_nil))))
   (fun c1 h => stop_at hS _ h (fun n => n) rfl rfl rfl ⟨(rn_loose (use_lo rfl) rfl rfl rfl), ⟨(rn_loose (use_lo rfl) rfl rfl rfl), ⟨(rn_int rfl), ⟨(rn_int rfl), trivial⟩⟩⟩⟩ rfl (entl_bor (use_lo rfl) rfl rfl (entl_bor (use_lo rfl) rfl rfl (entl_bor (use_lo rfl) rfl rfl entl_nil)))))
   (fun c0 h => no_some h)
theorem b34_0 (ar nr mr : Nat) (tr : Nat → Int) (vr : Nat → Int) (gr : Nat → Int) (ao no mo : Nat) (to : Nat → Bool) (al nl ml : Nat) (tl : Nat → Int) (Kst : KS) (Kret : KR) (x : St34 ⊕ Rt34) (hS : HS 3 400 ((I34 ar nr mr tr vr gr ao no mo to al nl ml tl)) Kst x) (hR : HR 3 400 ((V34 ar nr mr tr vr gr ao no mo to al nl ml tl)) (fun r => [newL (3 + 1) ((N34 ar nr mr tr vr gr ao no mo to al nl ml tl) r) ++ [(0, (false, .cols mr [.int .i64 tr, .int .i64 vr, .int .i64 gr])), (1, (false, .cols mo [.bool to])), (2, (false, .cols ml [.int .i64 tl]))]]) Kret x) (x0 : Int) (h : (bif (decide (x0 < (↑nr : Int)))
 then (bif (decide ((0 : Int) ≤ x0 ∧ x0 < (↑nr : Int)))
 then (bif (decide (Int.toNat x0 + ar < mr))
 then (bif (decide (al + nl ≤ ml ∧ nl ≤ 1000000))
 then (bif (S.any
 (fun j => decide (tl (j + al) ≥ tr (Int.toNat x0 + ar) ∨ tl (j + al) ≤ vr (Int.toNat x0 + ar))) nl)
 then (bif (lim IntKind.i64 (x0 + (1 : Int)))
 then (some (.inl (.h0 (x0 + (1 : Int)))))
 else (none))
 else (some (.inr (false, (0 : Int)))))
 else (none))
 else (none))
 else (none))
 else (some (.inr (true, (0 : Int)))) : Option (St34 ⊕ Rt34)) = some x) : T34_0 cond Kst Kret ar nr mr tr vr gr ao no mo to al nl ml tl x0 := by
  unfold T34_0
  exact bif_split h
   (fun c0 h => bif_split h
   (fun c1 h => bif_split h
   (fun c2 h => cond_yes c2 (cond_yes c2 (bif_split h
   (fun c3 h => bif_split h
   (fun c4 h => bif_split h
   (fun c5 h => stop_at hS _ h (fun n => n) rfl rfl rfl ⟨(rn_loose (use_lo rfl) rfl rfl rfl), ⟨(rn_loose (use_lo rfl) rfl rfl rfl), ⟨(rn_int rfl), ⟨(rn_int rfl), trivial⟩⟩⟩⟩ rfl (entl_bor (use_lo rfl) rfl rfl (entl_bor (use_lo rfl) rfl rfl (entl_bor (use_lo rfl) rfl rfl entl_nil))))
   (fun c5 h => no_some h))
   (fun c4 h => ret_at hR _ h (fun n => n) rfl rfl rfl (rn_tup ⟨(rn_bool_tf rfl), (rn_int rfl), trivial⟩) rfl (entl_bor (use_lo rfl) rfl rfl (entl_bor (use_lo rfl) rfl rfl (entl_bor (use_lo rfl) rfl rfl entl_nil)))))
   (fun c3 h => no_some h))))
   (fun c2 h => no_some h))
   (fun c1 h => no_some h))
   (fun c0 h => ret_at hR _ h (fun n => n) rfl rfl rfl (rn_tup ⟨(rn_bool_tf rfl), (rn_int rfl), trivial⟩) rfl (entl_bor (use_lo rfl) rfl rfl (entl_bor (use_lo rfl) rfl rfl (entl_bor (use_lo rfl) rfl rfl entl_nil))))
theorem a34 (ar nr mr : Nat) (tr : Nat → Int) (vr : Nat → Int) (gr : Nat → Int) (ao no mo : Nat) (to : Nat → Bool) (al nl ml : Nat) (tl : Nat → Int) {r : Rt34} (h : Goes ((q34 ar nr mr tr vr gr ao no mo to al nl ml tl)) ((p34 ar nr mr tr vr gr ao no mo to al nl ml tl)) r) : CallR Try.prog 20 [.agg [.loose ⟨0, 3, ar, 0⟩ nr, .loose ⟨1, 1, ao, 0⟩ no], .loose ⟨2, 1, al, 0⟩ nl] [[(0, (false, .cols mr [.int .i64 tr, .int .i64 vr, .int .i64 gr])), (1, (false, .cols mo [.bool to])), (2, (false, .cols ml [.int .i64 tl]))]] 3 ((V34 ar nr mr tr vr gr ao no mo to al nl ml tl) r) ((fun r => [newL (3 + 1) ((N34 ar nr mr tr vr gr ao no mo to al nl ml tl) r) ++ [(0, (false, .cols mr [.int .i64 tr, .int .i64 vr, .int .i64 gr])), (1, (false, .cols mo [.bool to])), (2, (false, .cols ml [.int .i64 tl]))]]) r) 400 ∧ ∃ F, Try.prog.funcs[20]? = some F ∧ F.body.isSome = true ∧ (F.name == "runtime.NumGoroutine") = false := by
  refine dec_calls (f := 20) (lo := 3) (hi := 400) (H := [[(0, (false, .cols mr [.int .i64 tr, .int .i64 vr, .int .i64 gr])), (1, (false, .cols mo [.bool to])), (2, (false, .cols ml [.int .i64 tl]))]]) (args := [.agg [.loose ⟨0, 3, ar, 0⟩ nr, .loose ⟨1, 1, ao, 0⟩ no], .loose ⟨2, 1, al, 0⟩ nl]) Try.envOk Try.mixed xC_ok ((I34 ar nr mr tr vr gr ao no mo to al nl ml tl)) ((V34 ar nr mr tr vr gr ao no mo to al nl ml tl)) (fun r => [newL (3 + 1) ((N34 ar nr mr tr vr gr ao no mo to al nl ml tl) r) ++ [(0, (false, .cols mr [.int .i64 tr, .int .i64 vr, .int .i64 gr])), (1, (false, .cols mo [.bool to])), (2, (false, .cols ml [.int .i64 tl]))]]) (fn := mkFn Try.f20) (ts := [1, 16, 17, 18]) (n := 400) rfl (by decide) (by simp) (names_of rfl) ?_ ?_ ?_ h
  · intro s; cases s <;> exact ⟨hd_ok _ _, by simp [I34], names_of rfl, Nat.le_of_ble_eq_true rfl⟩
  · intro Kst Kret x hS hR h
    exact Holds.eq (te34 cond Kst Kret ar nr mr tr vr gr ao no mo to al nl ml tl) (be34 ar nr mr tr vr gr ao no mo to al nl ml tl Kst Kret x hS hR h)
  · intro Kst Kret x hS hR s h
    cases s with
    | h0 x0 => exact Holds.eq (t34_0 cond Kst Kret ar nr mr tr vr gr ao no mo to al nl ml tl x0) (b34_0 ar nr mr tr vr gr ao no mo to al nl ml tl Kst Kret x hS hR x0 h)
noncomputable def k34 : Con := ⟨20, [.agg [.list [.int .i64, .int .i64, .int .i64], .list [.bool]], .one (.list [.int .i64])], fun (x : ((Nat × Nat × Nat × (Nat → Int) × (Nat → Int) × (Nat → Int) × Unit) × (Nat × Nat × Nat × (Nat → Bool) × Unit) × Unit) × (Nat × Nat × Nat × (Nat → Int) × Unit) × Unit) => (fun (ar nr mr : Nat) (tr : Nat → Int) (vr : Nat → Int) (gr : Nat → Int) (ao no mo : Nat) (to : Nat → Bool) (al nl ml : Nat) (tl : Nat → Int) => decide (ar + nr ≤ mr ∧ nr ≤ 1000000 ∧ ao + no ≤ mo ∧ no ≤ 1000000 ∧ al + nl ≤ ml ∧ nl ≤ 1000000)) x.1.1.1 x.1.1.2.1 x.1.1.2.2.1 x.1.1.2.2.2.1 x.1.1.2.2.2.2.1 x.1.1.2.2.2.2.2.1 x.1.2.1.1 x.1.2.1.2.1 x.1.2.1.2.2.1 x.1.2.1.2.2.2.1 x.2.1.1 x.2.1.2.1 x.2.1.2.2.1 x.2.1.2.2.2.1, fun (x : ((Nat × Nat × Nat × (Nat → Int) × (Nat → Int) × (Nat → Int) × Unit) × (Nat × Nat × Nat × (Nat → Bool) × Unit) × Unit) × (Nat × Nat × Nat × (Nat → Int) × Unit) × Unit) => (fun (ar nr mr : Nat) (tr : Nat → Int) (vr : Nat → Int) (gr : Nat → Int) (ao no mo : Nat) (to : Nat → Bool) (al nl ml : Nat) (tl : Nat → Int) => (V34 ar nr mr tr vr gr ao no mo to al nl ml tl) (S.erS nr (fun j => tr (j + ar)) (fun j => vr (j + ar)) (fun j => gr (j + ar)) no nl (fun j => tl (j + al)))) x.1.1.1 x.1.1.2.1 x.1.1.2.2.1 x.1.1.2.2.2.1 x.1.1.2.2.2.2.1 x.1.1.2.2.2.2.2.1 x.1.2.1.1 x.1.2.1.2.1 x.1.2.1.2.2.1 x.1.2.1.2.2.2.1 x.2.1.1 x.2.1.2.1 x.2.1.2.2.1 x.2.1.2.2.2.1, fun (x : ((Nat × Nat × Nat × (Nat → Int) × (Nat → Int) × (Nat → Int) × Unit) × (Nat × Nat × Nat × (Nat → Bool) × Unit) × Unit) × (Nat × Nat × Nat × (Nat → Int) × Unit) × Unit) => (fun (ar nr mr : Nat) (tr : Nat → Int) (vr : Nat → Int) (gr : Nat → Int) (ao no mo : Nat) (to : Nat → Bool) (al nl ml : Nat) (tl : Nat → Int) => (N34 ar nr mr tr vr gr ao no mo to al nl ml tl) (S.erS nr (fun j => tr (j + ar)) (fun j => vr (j + ar)) (fun j => gr (j + ar)) no nl (fun j => tl (j + al)))) x.1.1.1 x.1.1.2.1 x.1.1.2.2.1 x.1.1.2.2.2.1 x.1.1.2.2.2.2.1 x.1.1.2.2.2.2.2.1 x.1.2.1.1 x.1.2.1.2.1 x.1.2.1.2.2.1 x.1.2.1.2.2.2.1 x.2.1.1 x.2.1.2.1 x.2.1.2.2.1 x.2.1.2.2.2.1, fun _ _ => .dead⟩
theorem s34' (ar nr mr : Nat) (tr : Nat → Int) (vr : Nat → Int) (gr : Nat → Int) (ao no mo : Nat) (to : Nat → Bool) (al nl ml : Nat) (tl : Nat → Int) (hp : ar + nr ≤ mr ∧ nr ≤ 1000000 ∧ ao + no ≤ mo ∧ no ≤ 1000000 ∧ al + nl ≤ ml ∧ nl ≤ 1000000) : ∀ k i : Nat, i + k = nr → Comes (q34 ar nr mr tr vr gr ao no mo to al nl ml tl) (.h0 (i : Int)) ((S.erB (fun j => tr (j + ar)) (fun j => vr (j + ar)) nl (fun j => tl (j + al)) i k, 0)) := by
  obtain ⟨hp1, hp2, hp3, hp4, hp5, hp6⟩ := hp
  intro k
  induction k with
  | zero =>
    intro i hi
    apply Comes.of
    show Goes _ _ _
    (first | rw [q34] | unfold q34)
    repeat' first
      | with_reducible refine goes_if (fun h => ?_) (fun h => ?_) <;> (try simp only [lim64, imp_false, decide_eq_true_eq, decide_eq_false_iff_not, Int.toNat_natCast, toNat_pred, toNat_succ, Option.getD_some, Option.getD_none, Bool.not_eq_true', Bool.not_eq_false', Bool.and_eq_true, Bool.or_eq_true, Bool.and_eq_false_iff, Bool.or_eq_false_iff, bne_iff_ne, beq_iff_eq, bne_eq_false_iff_eq, beq_eq_false_iff_ne, ne_eq, not_and, Int.not_le, Int.not_lt, ge_iff_le, gt_iff_lt, Nat.not_lt, Nat.not_le, Bool.not_eq_true, Bool.not_eq_false, Bool.true_eq_false, Bool.false_eq_true, not_false_eq_true, not_true_eq_false] at h)
      | exact goes_none.mpr (by omega)
    all_goals first | (exfalso; omega) | rfl | (refine Eq.mpr (congrArg (Comes _ _) ?_) True; simp only [S.erB]; (repeat' split) <;> first | rfl | omega | (exfalso; omega) | (exfalso; simp_all; done) | (exfalso; simp_all; omega) | simp_all) | (refine goes_inr.mpr ?_; simp only [S.erB]; (repeat' split) <;> first | rfl | omega | (exfalso; omega) | (exfalso; simp_all; done) | (exfalso; simp_all; omega) | simp_all)
  | succ k ih =>
    intro i hi
    have ih := ih (i + 1) (by omega)
    apply Comes.of
    show Goes _ _ _
    (first | rw [q34] | unfold q34)
    repeat' first
      | with_reducible refine goes_if (fun h => ?_) (fun h => ?_) <;> (try simp only [lim64, imp_false, decide_eq_true_eq, decide_eq_false_iff_not, Int.toNat_natCast, toNat_pred, toNat_succ, Option.getD_some, Option.getD_none, Bool.not_eq_true', Bool.not_eq_false', Bool.and_eq_true, Bool.or_eq_true, Bool.and_eq_false_iff, Bool.or_eq_false_iff, bne_iff_ne, beq_iff_eq, bne_eq_false_iff_eq, beq_eq_false_iff_ne, ne_eq, not_and, Int.not_le, Int.not_lt, ge_iff_le, gt_iff_lt, Nat.not_lt, Nat.not_le, Bool.not_eq_true, Bool.not_eq_false, Bool.true_eq_false, Bool.false_eq_true, not_false_eq_true, not_true_eq_false] at h)
      | exact goes_none.mpr (by omega)
    all_goals first | (exfalso; omega) | rfl | (refine Eq.mpr (congrArg (Comes _ _) ?_) ih; simp only [S.erB]; (repeat' split) <;> first | rfl | omega | (exfalso; omega) | (exfalso; simp_all; done) | (exfalso; simp_all; omega) | simp_all) | (refine goes_inr.mpr ?_; simp only [S.erB]; (repeat' split) <;> first | rfl | omega | (exfalso; omega) | (exfalso; simp_all; done) | (exfalso; simp_all; omega) | simp_all)
theorem s34 (ar nr mr : Nat) (tr : Nat → Int) (vr : Nat → Int) (gr : Nat → Int) (ao no mo : Nat) (to : Nat → Bool) (al nl ml : Nat) (tl : Nat → Int) (hp : ar + nr ≤ mr ∧ nr ≤ 1000000 ∧ ao + no ≤ mo ∧ no ≤ 1000000 ∧ al + nl ≤ ml ∧ nl ≤ 1000000) : Goes ((q34 ar nr mr tr vr gr ao no mo to al nl ml tl)) ((p34 ar nr mr tr vr gr ao no mo to al nl ml tl)) (S.erS nr (fun j => tr (j + ar)) (fun j => vr (j + ar)) (fun j => gr (j + ar)) no nl (fun j => tl (j + al))) := by
  unfold S.erS
  by_cases hv : S.histE nr (fun j => tr (j + ar)) (fun j => vr (j + ar)) (fun j => gr (j + ar)) no nl (fun j => tl (j + al)) = 0
  · have hm := s34' ar nr mr tr vr gr ao no mo to al nl ml tl hp nr 0 (by omega)
    obtain ⟨hp1, hp2, hp3, hp4, hp5, hp6⟩ := hp
    rw [if_pos hv]
    show Goes _ _ _
    unfold p34
    repeat' first
      | with_reducible refine goes_if (fun h => ?_) (fun h => ?_) <;> (try simp only [lim64, imp_false, decide_eq_true_eq, decide_eq_false_iff_not, Int.toNat_natCast, toNat_pred, toNat_succ, Option.getD_some, Option.getD_none, Bool.not_eq_true', Bool.not_eq_false', Bool.and_eq_true, Bool.or_eq_true, Bool.and_eq_false_iff, Bool.or_eq_false_iff, bne_iff_ne, beq_iff_eq, bne_eq_false_iff_eq, beq_eq_false_iff_ne, ne_eq, not_and, Int.not_le, Int.not_lt, ge_iff_le, gt_iff_lt, Nat.not_lt, Nat.not_le, Bool.not_eq_true, Bool.not_eq_false, Bool.true_eq_false, Bool.false_eq_true, not_false_eq_true, not_true_eq_false] at h)
      | exact goes_none.mpr (by omega)
    all_goals first | (exfalso; omega) | (exfalso; exact absurd hv (by assumption)) | exact hm
  · obtain ⟨hp1, hp2, hp3, hp4, hp5, hp6⟩ := hp
    rw [if_neg hv]
    show Goes _ _ _
    unfold p34
    repeat' first
      | with_reducible refine goes_if (fun h => ?_) (fun h => ?_) <;> (try simp only [lim64, imp_false, decide_eq_true_eq, decide_eq_false_iff_not, Int.toNat_natCast, toNat_pred, toNat_succ, Option.getD_some, Option.getD_none, Bool.not_eq_true', Bool.not_eq_false', Bool.and_eq_true, Bool.or_eq_true, Bool.and_eq_false_iff, Bool.or_eq_false_iff, bne_iff_ne, beq_iff_eq, bne_eq_false_iff_eq, beq_eq_false_iff_ne, ne_eq, not_and, Int.not_le, Int.not_lt, ge_iff_le, gt_iff_lt, Nat.not_lt, Nat.not_le, Bool.not_eq_true, Bool.not_eq_false, Bool.true_eq_false, Bool.false_eq_true, not_false_eq_true, not_true_eq_false] at h)
      | exact goes_none.mpr (by omega)
    all_goals first | (exfalso; omega) | (exfalso; exact hv (by assumption)) | rfl
theorem k34_ok : k34.ok Try.prog := by
  intro x hx
  obtain ⟨⟨⟨ar, nr, mr, tr, vr, gr, _⟩, ⟨ao, no, mo, to, _⟩, _⟩, ⟨al, nl, ml, tl, _⟩, _⟩ := x
  obtain ⟨h1, h2⟩ := a34 ar nr mr tr vr gr ao no mo to al nl ml tl (s34 ar nr mr tr vr gr ao no mo to al nl ml tl (of_dec hx rfl))
  exact ⟨⟨400, (by decide : 3 + 1 + 0 ≤ 400), h1⟩, h2⟩
inductive St24 where
  | h0 (x0 : Int) (x1 : List (Int × Int × Int)) (x2 : List Bool)
abbrev Rt24 := Int × List (Int × Int × Int) × List Bool
noncomputable def V24 (ar nr mr : Nat) (tr : Nat → Int) (vr : Nat → Int) (gr : Nat → Int) (ao no mo : Nat) (to : Nat → Bool) (al nl ml : Nat) (tl : Nat → Int) (r : Rt24) : PV := PV.tup
 [PV.agg
 [PV.own (4) (3) (List.length r.2.1), PV.own (5) (1) (List.length r.2.2)],
 PV.int IntKind.i64 r.1]
noncomputable def N24 (ar nr mr : Nat) (tr : Nat → Int) (vr : Nat → Int) (gr : Nat → Int) (ao no mo : Nat) (to : Nat → Bool) (al nl ml : Nat) (tl : Nat → Int) (r : Rt24) : List Blk := [Blk.cols (List.length r.2.1)
 [Col.int IntKind.i64 fun j => (S.at' r.2.1 j).1,
 Col.int IntKind.i64 fun j => (S.at' r.2.1 j).2.1,
 Col.int IntKind.i64 fun j => (S.at' r.2.1 j).2.2], Blk.cols (List.length r.2.2) [Col.bool fun j => S.at' r.2.2 j]]
noncomputable def I24 (ar nr mr : Nat) (tr : Nat → Int) (vr : Nat → Int) (gr : Nat → Int) (ao no mo : Nat) (to : Nat → Bool) (al nl ml : Nat) (tl : Nat → Int) : St24 → Hd
  | .h0 x0 x1 x2 => ⟨hd Try.f23 0, [PV.ptr (PA.mk (3) (0) (0) (0)),
 PV.ptr (PA.mk (4) (0) (0) (0)),
 PV.loose (PA.mk (2) (1) al (0)) nl, PV.int IntKind.i64 (↑nl : Int),
 PV.int IntKind.i64 x0], [[(3, (true, Blk.cells [PV.nils, PV.nils])), (4, (true, Blk.cells
 [PV.own (5) (3) (List.length x1), PV.own (6) (1) (List.length x2)])), (5, (true, Blk.cols (List.length x1)
 [Col.int IntKind.i64 fun j => (S.at' x1 j).1,
 Col.int IntKind.i64 fun j => (S.at' x1 j).2.1,
 Col.int IntKind.i64 fun j => (S.at' x1 j).2.2])), (6, (true, Blk.cols (List.length x2) [Col.bool fun j => S.at' x2 j]))], [(0, (false, .cols mr [.int .i64 tr, .int .i64 vr, .int .i64 gr])), (1, (false, .cols mo [.bool to])), (2, (false, .cols ml [.int .i64 tl]))]], 7⟩
noncomputable def q24 (ar nr mr : Nat) (tr : Nat → Int) (vr : Nat → Int) (gr : Nat → Int) (ao no mo : Nat) (to : Nat → Bool) (al nl ml : Nat) (tl : Nat → Int) : St24 → Option (St24 ⊕ Rt24)
  | .h0 x0 x1 x2 => bif (decide (x0 < (↑nl : Int)))
 then (bif (decide ((0 : Int) ≤ x0 ∧ x0 < (↑nl : Int)))
 then (bif (decide (Int.toNat x0 + al < ml))
 then (bif (decide (List.length x2 ≤ List.length x2))
 then (bif (decide
 (0 + List.length x1 ≤ List.length x1 ∧ List.length x1 ≤ 1000000 ∧ List.length x2 = List.length x1))
 then (bif (lim IntKind.i64 (x0 + (1 : Int)))
 then (some (.inl (.h0 (x0 + (1 : Int)) (x1) (S.mkl (List.length x2) fun j =>
 S.at'
 (S.mkl (List.length x2) fun j =>
 S.aft ((S.at' x1 j).1) ((S.at' x1 j).2.1) (S.at' x2 j)
 (tl (Int.toNat x0 + al)))
 j))))
 else (none))
 else (none))
 else (none))
 else (none))
 else (none))
 else (some (.inr ((0 : Int), x1, x2)))
noncomputable def p24 (ar nr mr : Nat) (tr : Nat → Int) (vr : Nat → Int) (gr : Nat → Int) (ao no mo : Nat) (to : Nat → Bool) (al nl ml : Nat) (tl : Nat → Int) : Option (St24 ⊕ Rt24) := bif (decide (ar + nr ≤ mr ∧ nr ≤ 1000000 ∧ al + nl ≤ ml ∧ nl ≤ 1000000))
 then (bif ((S.histE nr (fun j => tr (j + ar)) (fun j => vr (j + ar)) (fun j => gr (j + ar)) no nl
 fun j => tl (j + al)) !=
 (0 : Int))
 then (some (.inr (S.histE nr (fun j => tr (j + ar)) (fun j => vr (j + ar)) (fun j => gr (j + ar)) no nl
 fun j => tl (j + al), [], [])))
 else (bif (decide (ar + nr ≤ mr ∧ nr ≤ 1000000))
 then (bif (decide (ao + no ≤ mo ∧ no ≤ 1000000))
 then (some (.inl (.h0 ((0 : Int)) (S.mkl nr fun j => (tr (j + ar), vr (j + ar), gr (j + ar))) (S.mkl no fun j => to (j + ao)))))
 else (none))
 else (none)))
 else (none)
noncomputable def Te24 (test : Bool → Prop → Prop → Prop) (Kst : KS) (Kret : KR) (ar nr mr : Nat) (tr : Nat → Int) (vr : Nat → Int) (gr : Nat → Int) (ao no mo : Nat) (to : Nat → Bool) (al nl ml : Nat) (tl : Nat → Int) : Prop :=
  test (decide (ar + nr ≤ mr ∧ nr ≤ 1000000 ∧ al + nl ≤ ml ∧ nl ≤ 1000000))
 (test ((S.histE nr (fun j => tr (j + ar)) (fun j => vr (j + ar)) (fun j => gr (j + ar)) no nl
 fun j => tl (j + al)) !=
 (0 : Int))
 (Kret (PV.tup
 [PV.agg [PV.nils, PV.nils],
 PV.int IntKind.i64
 (S.histE nr (fun j => tr (j + ar)) (fun j => vr (j + ar)) (fun j => gr (j + ar)) no
 nl fun j => tl (j + al))]) ([[(2, false, Blk.cols ml [Col.int IntKind.i64 tl]),
 (1, false, Blk.cols mo [Col.bool to]),
 (0, false,
 Blk.cols mr
 [Col.int IntKind.i64 tr, Col.int IntKind.i64 vr, Col.int IntKind.i64 gr])]]) (6))
 (test (decide (ar + nr ≤ mr ∧ nr ≤ 1000000))
 (test (decide (ao + no ≤ mo ∧ no ≤ 1000000))
 (Kst (hd Try.f23 0) ([PV.ptr (PA.mk (4) (0) (0) (0)),
 PV.ptr (PA.mk (12) (0) (0) (0)),
 PV.loose (PA.mk (2) (1) al (0)) nl, PV.int IntKind.i64 (↑nl : Int),
 PV.int IntKind.i64 (0 : Int)]) ([[(2, false, Blk.cols ml [Col.int IntKind.i64 tl]),
 (1, false, Blk.cols mo [Col.bool to]),
 (0, false,
 Blk.cols mr
 [Col.int IntKind.i64 tr, Col.int IntKind.i64 vr, Col.int IntKind.i64 gr]),
 (12, true,
 Blk.cells [PV.own (9) (3) nr, PV.own (11) (1) no]),
 (4, true, Blk.cells [PV.nils, PV.nils]),
 (11, true, Blk.cols no [Col.bool fun j => to (j + ao)]),
 (9, true,
 Blk.cols nr
 [Col.int IntKind.i64 fun j => tr (j + ar),
 Col.int IntKind.i64 fun j => vr (j + ar),
 Col.int IntKind.i64 fun j => gr (j + ar)])]]) (13))
 (False))
 (False)))
 (False)
theorem te24 (test : Bool → Prop → Prop → Prop) (Kst : KS) (Kret : KR) (ar nr mr : Nat) (tr : Nat → Int) (vr : Nat → Int) (gr : Nat → Int) (ao no mo : Nat) (to : Nat → Bool) (al nl ml : Nat) (tl : Nat → Int) : run test Try.env true (xC test) true 400 ⟨23, [.cd (mkFn Try.f23).body], argT 0 [.agg [.loose ⟨0, 3, ar, 0⟩ nr, .loose ⟨1, 1, ao, 0⟩ no], .loose ⟨2, 1, al, 0⟩ nl], [[], [(0, (false, .cols mr [.int .i64 tr, .int .i64 vr, .int .i64 gr])), (1, (false, .cols mo [.bool to])), (2, (false, .cols ml [.int .i64 tl]))]], 3⟩ (proj 3 [4, 7, 19, 20, 21] Kst Kret) =
  Te24 test Kst Kret ar nr mr tr vr gr ao no mo to al nl ml tl := by kernel_rfl
noncomputable def T24_0 (test : Bool → Prop → Prop → Prop) (Kst : KS) (Kret : KR) (ar nr mr : Nat) (tr : Nat → Int) (vr : Nat → Int) (gr : Nat → Int) (ao no mo : Nat) (to : Nat → Bool) (al nl ml : Nat) (tl : Nat → Int) (x0 : Int) (x1 : List (Int × Int × Int)) (x2 : List Bool) : Prop :=
  test (decide (x0 < (↑nl : Int)))
 (test (decide ((0 : Int) ≤ x0 ∧ x0 < (↑nl : Int)))
 (test (decide (Int.toNat x0 + al < ml))
 (test (decide (List.length x2 ≤ List.length x2))
 (test (decide
 (0 + List.length x1 ≤ List.length x1 ∧ List.length x1 ≤ 1000000 ∧ List.length x2 = List.length x1))
 (test (lim IntKind.i64 (x0 + (1 : Int)))
 (Kst (hd Try.f23 0) ([PV.ptr (PA.mk (3) (0) (0) (0)),
 PV.ptr (PA.mk (4) (0) (0) (0)),
 PV.loose (PA.mk (2) (1) al (0)) nl, PV.int IntKind.i64 (↑nl : Int),
 PV.int IntKind.i64 (x0 + (1 : Int))]) ([[(2, false, Blk.cols ml [Col.int IntKind.i64 tl]),
 (1, false, Blk.cols mo [Col.bool to]),
 (0, false,
 Blk.cols mr
 [Col.int IntKind.i64 tr, Col.int IntKind.i64 vr, Col.int IntKind.i64 gr]),
 (4, true,
 Blk.cells
 [PV.own (5) (3) (List.length x1), PV.own (6) (1) (List.length x2)]),
 (3, true, Blk.cells [PV.nils, PV.nils]),
 (6, true,
 Blk.cols
 (List.length
 (S.mkl (List.length x2) fun j =>
 S.aft ((S.at' x1 j).1) ((S.at' x1 j).2.1) (S.at' x2 j)
 (tl (Int.toNat x0 + al))))
 [Col.bool fun j =>
 S.at'
 (S.mkl (List.length x2) fun j =>
 S.aft ((S.at' x1 j).1) ((S.at' x1 j).2.1) (S.at' x2 j)
 (tl (Int.toNat x0 + al)))
 j]),
 (5, true,
 Blk.cols (List.length x1)
 [Col.int IntKind.i64 fun j => (S.at' x1 j).1,
 Col.int IntKind.i64 fun j => (S.at' x1 j).2.1,
 Col.int IntKind.i64 fun j => (S.at' x1 j).2.2])]]) (8))
 (False))
 (False))
 (False))
 (False))
 (False))
 (Kret (PV.tup
 [PV.agg
 [PV.own (5) (3) (List.length x1), PV.own (6) (1) (List.length x2)],
 PV.int IntKind.i64 (0 : Int)]) ([[(2, false, Blk.cols ml [Col.int IntKind.i64 tl]),
 (1, false, Blk.cols mo [Col.bool to]),
 (0, false,
 Blk.cols mr
 [Col.int IntKind.i64 tr, Col.int IntKind.i64 vr, Col.int IntKind.i64 gr]),
 (6, true, Blk.cols (List.length x2) [Col.bool fun j => S.at' x2 j]),
 (5, true,
 Blk.cols (List.length x1)
 [Col.int IntKind.i64 fun j => (S.at' x1 j).1,
 Col.int IntKind.i64 fun j => (S.at' x1 j).2.1,
 Col.int IntKind.i64 fun j => (S.at' x1 j).2.2])]]) (7))
theorem t24_0 (test : Bool → Prop → Prop → Prop) (Kst : KS) (Kret : KR) (ar nr mr : Nat) (tr : Nat → Int) (vr : Nat → Int) (gr : Nat → Int) (ao no mo : Nat) (to : Nat → Bool) (al nl ml : Nat) (tl : Nat → Int) (x0 : Int) (x1 : List (Int × Int × Int)) (x2 : List Bool) : run test Try.env true (xC test) true 400 ⟨23, hd Try.f23 0, zipT [4, 7, 19, 20, 21] [PV.ptr (PA.mk (3) (0) (0) (0)),
 PV.ptr (PA.mk (4) (0) (0) (0)),
 PV.loose (PA.mk (2) (1) al (0)) nl, PV.int IntKind.i64 (↑nl : Int),
 PV.int IntKind.i64 x0], [[(3, (true, Blk.cells [PV.nils, PV.nils])), (4, (true, Blk.cells
 [PV.own (5) (3) (List.length x1), PV.own (6) (1) (List.length x2)])), (5, (true, Blk.cols (List.length x1)
 [Col.int IntKind.i64 fun j => (S.at' x1 j).1,
 Col.int IntKind.i64 fun j => (S.at' x1 j).2.1,
 Col.int IntKind.i64 fun j => (S.at' x1 j).2.2])), (6, (true, Blk.cols (List.length x2) [Col.bool fun j => S.at' x2 j]))], [(0, (false, .cols mr [.int .i64 tr, .int .i64 vr, .int .i64 gr])), (1, (false, .cols mo [.bool to])), (2, (false, .cols ml [.int .i64 tl]))]], 7⟩ (proj 3 [4, 7, 19, 20, 21] Kst Kret) =
  T24_0 test Kst Kret ar nr mr tr vr gr ao no mo to al nl ml tl x0 x1 x2 := by kernel_rfl
theorem be24 (ar nr mr : Nat) (tr : Nat → Int) (vr : Nat → Int) (gr : Nat → Int) (ao no mo : Nat) (to : Nat → Bool) (al nl ml : Nat) (tl : Nat → Int) (Kst : KS) (Kret : KR) (x : St24 ⊕ Rt24) (hS : HS 3 400 ((I24 ar nr mr tr vr gr ao no mo to al nl ml tl)) Kst x) (hR : HR 3 400 ((V24 ar nr mr tr vr gr ao no mo to al nl ml tl)) (fun r => [newL (3 + 1) ((N24 ar nr mr tr vr gr ao no mo to al nl ml tl) r) ++ [(0, (false, .cols mr [.int .i64 tr, .int .i64 vr, .int .i64 gr])), (1, (false, .cols mo [.bool to])), (2, (false, .cols ml [.int .i64 tl]))]]) Kret x) (h : (bif (decide (ar + nr ≤ mr ∧ nr ≤ 1000000 ∧ al + nl ≤ ml ∧ nl ≤ 1000000))
 then (bif ((S.histE nr (fun j => tr (j + ar)) (fun j => vr (j + ar)) (fun j => gr (j + ar)) no nl
 fun j => tl (j + al)) !=
 (0 : Int))
 then (some (.inr (S.histE nr (fun j => tr (j + ar)) (fun j => vr (j + ar)) (fun j => gr (j + ar)) no nl
 fun j => tl (j + al), [], [])))
 else (bif (decide (ar + nr ≤ mr ∧ nr ≤ 1000000))
 then (bif (decide (ao + no ≤ mo ∧ no ≤ 1000000))
 then (some (.inl (.h0 ((0 : Int)) (S.mkl nr fun j => (tr (j + ar), vr (j + ar), gr (j + ar))) (S.mkl no fun j => to (j + ao)))))
 else (none))
 else (none)))
 else (none) : Option (St24 ⊕ Rt24)) = some x) : Te24 cond Kst Kret ar nr mr tr vr gr ao no mo to al nl ml tl := by
  unfold Te24
  exact bif_split h
   (fun c0 h => bif_split h
   (fun c1 h => ret_at hR _ h (fun n => bif Nat.beq n 4 then 399 else bif Nat.beq n 5 then 398 else n) rfl rfl rfl (rn_tup ⟨(rn_agg ⟨(rn_own_nils rfl), (rn_own_nils rfl), trivial⟩), (rn_int rfl), trivial⟩) rfl (entl_fresh (use_own rfl) (fresh_ok rfl) (entl_fresh (use_own rfl) (fresh_ok rfl) (entl_bor (use_lo rfl) rfl rfl (entl_bor (use_lo rfl) rfl rfl (entl_bor (use_lo rfl) rfl rfl entl_nil))))))
   (fun c1 h => bif_split h
   (fun c2 h => bif_split h
   (fun c3 h => stop_at hS _ h (fun n => bif Nat.beq n 3 then 4 else bif Nat.beq n 4 then 12 else bif Nat.beq n 5 then 9 else bif Nat.beq n 6 then 11 else n) rfl rfl rfl ⟨(rn_ptr (use_own rfl) rfl rfl), ⟨(rn_ptr (use_own rfl) rfl rfl), ⟨(rn_loose (use_lo rfl) rfl rfl rfl), ⟨(rn_int rfl), ⟨(rn_int rfl), trivial⟩⟩⟩⟩⟩ rfl (entl_b (use_own rfl) rfl (by simp) (rb_cells ⟨rn_nils, rn_nils, trivial⟩) (entl_b (use_own rfl) rfl (by simp) (rb_cells ⟨(rn_own (use_own rfl) rfl mkl_len), (rn_own (use_own rfl) rfl mkl_len), trivial⟩) (entl_new (use_own rfl) rfl (Nat.le_of_eq mkl_len) (rcs_int (fun _ hj => col_mkl (fun (t : Int × Int × Int) => t.1) hj) (rcs_int (fun _ hj => col_mkl (fun (t : Int × Int × Int) => t.2.1) hj) (rcs_int (fun _ hj => col_mkl (fun (t : Int × Int × Int) => t.2.2) hj) rcs_nil))) (entl_new (use_own rfl) rfl (Nat.le_of_eq mkl_len) (rcs_bool (fun _ hj => col_mkl (fun (t : Bool) => t) hj) rcs_nil) (entl_bor (use_lo rfl) rfl rfl (entl_bor (use_lo rfl) rfl rfl (entl_bor (use_lo rfl) rfl rfl entl_nil))))))))
   (fun c3 h => no_some h))
   (fun c2 h => no_some h)))
   (fun c0 h => no_some h)
theorem b24_0 (ar nr mr : Nat) (tr : Nat → Int) (vr : Nat → Int) (gr : Nat → Int) (ao no mo : Nat) (to : Nat → Bool) (al nl ml : Nat) (tl : Nat → Int) (Kst : KS) (Kret : KR) (x : St24 ⊕ Rt24) (hS : HS 3 400 ((I24 ar nr mr tr vr gr ao no mo to al nl ml tl)) Kst x) (hR : HR 3 400 ((V24 ar nr mr tr vr gr ao no mo to al nl ml tl)) (fun r => [newL (3 + 1) ((N24 ar nr mr tr vr gr ao no mo to al nl ml tl) r) ++ [(0, (false, .cols mr [.int .i64 tr, .int .i64 vr, .int .i64 gr])), (1, (false, .cols mo [.bool to])), (2, (false, .cols ml [.int .i64 tl]))]]) Kret x) (x0 : Int) (x1 : List (Int × Int × Int)) (x2 : List Bool) (h : (bif (decide (x0 < (↑nl : Int)))
 then (bif (decide ((0 : Int) ≤ x0 ∧ x0 < (↑nl : Int)))
 then (bif (decide (Int.toNat x0 + al < ml))
 then (bif (decide (List.length x2 ≤ List.length x2))
 then (bif (decide
 (0 + List.length x1 ≤ List.length x1 ∧ List.length x1 ≤ 1000000 ∧ List.length x2 = List.length x1))
 then (bif (lim IntKind.i64 (x0 + (1 : Int)))
 then (some (.inl (.h0 (x0 + (1 : Int)) (x1) (S.mkl (List.length x2) fun j =>
 S.at'
 (S.mkl (List.length x2) fun j =>
 S.aft ((S.at' x1 j).1) ((S.at' x1 j).2.1) (S.at' x2 j)
 (tl (Int.toNat x0 + al)))
 j))))
 else (none))
 else (none))
 else (none))
 else (none))
 else (none))
 else (some (.inr ((0 : Int), x1, x2))) : Option (St24 ⊕ Rt24)) = some x) : T24_0 cond Kst Kret ar nr mr tr vr gr ao no mo to al nl ml tl x0 x1 x2 := by
  unfold T24_0
  exact bif_split h
   (fun c0 h => bif_split h
   (fun c1 h => bif_split h
   (fun c2 h => bif_split h
   (fun c3 h => bif_split h
   (fun c4 h => bif_split h
   (fun c5 h => stop_at hS _ h (fun n => bif Nat.beq n 3 then 3 else bif Nat.beq n 4 then 4 else bif Nat.beq n 5 then 5 else bif Nat.beq n 6 then 6 else n) rfl rfl rfl ⟨(rn_ptr (use_own rfl) rfl rfl), ⟨(rn_ptr (use_own rfl) rfl rfl), ⟨(rn_loose (use_lo rfl) rfl rfl rfl), ⟨(rn_int rfl), ⟨(rn_int rfl), trivial⟩⟩⟩⟩⟩ rfl (entl_b (use_own rfl) rfl (by simp) (rb_cells ⟨rn_nils, rn_nils, trivial⟩) (entl_b (use_own rfl) rfl (by simp) (rb_cells ⟨(rn_own (use_own rfl) rfl rfl), (rn_own (use_own rfl) rfl mkl_len), trivial⟩) (entl_new (use_own rfl) rfl (Nat.le_of_eq rfl) (rcs_int (fun _ _ => rfl) (rcs_int (fun _ _ => rfl) (rcs_int (fun _ _ => rfl) rcs_nil))) (entl_new (use_own rfl) rfl (by first | exact Nat.le_of_eq mkl_len | (simp only [mkl_len, snoc_len]; omega)) (rcs_bool (fun _ hj => col_mkl (fun (t : Bool) => t) hj) rcs_nil) (entl_bor (use_lo rfl) rfl rfl (entl_bor (use_lo rfl) rfl rfl (entl_bor (use_lo rfl) rfl rfl entl_nil))))))))
   (fun c5 h => no_some h))
   (fun c4 h => no_some h))
   (fun c3 h => no_some h))
   (fun c2 h => no_some h))
   (fun c1 h => no_some h))
   (fun c0 h => ret_at hR _ h (fun n => bif Nat.beq n 4 then 5 else bif Nat.beq n 5 then 6 else n) rfl rfl rfl (rn_tup ⟨(rn_agg ⟨(rn_own (use_own rfl) rfl rfl), (rn_own (use_own rfl) rfl rfl), trivial⟩), (rn_int rfl), trivial⟩) rfl (entl_new (use_own rfl) rfl (Nat.le_of_eq rfl) (rcs_int (fun _ _ => rfl) (rcs_int (fun _ _ => rfl) (rcs_int (fun _ _ => rfl) rcs_nil))) (entl_new (use_own rfl) rfl (Nat.le_of_eq rfl) (rcs_bool (fun _ _ => rfl) rcs_nil) (entl_bor (use_lo rfl) rfl rfl (entl_bor (use_lo rfl) rfl rfl (entl_bor (use_lo rfl) rfl rfl entl_nil))))))
theorem a24 (ar nr mr : Nat) (tr : Nat → Int) (vr : Nat → Int) (gr : Nat → Int) (ao no mo : Nat) (to : Nat → Bool) (al nl ml : Nat) (tl : Nat → Int) {r : Rt24} (h : Goes ((q24 ar nr mr tr vr gr ao no mo to al nl ml tl)) ((p24 ar nr mr tr vr gr ao no mo to al nl ml tl)) r) : CallR Try.prog 23 [.agg [.loose ⟨0, 3, ar, 0⟩ nr, .loose ⟨1, 1, ao, 0⟩ no], .loose ⟨2, 1, al, 0⟩ nl] [[(0, (false, .cols mr [.int .i64 tr, .int .i64 vr, .int .i64 gr])), (1, (false, .cols mo [.bool to])), (2, (false, .cols ml [.int .i64 tl]))]] 3 ((V24 ar nr mr tr vr gr ao no mo to al nl ml tl) r) ((fun r => [newL (3 + 1) ((N24 ar nr mr tr vr gr ao no mo to al nl ml tl) r) ++ [(0, (false, .cols mr [.int .i64 tr, .int .i64 vr, .int .i64 gr])), (1, (false, .cols mo [.bool to])), (2, (false, .cols ml [.int .i64 tl]))]]) r) 400 ∧ ∃ F, Try.prog.funcs[23]? = some F ∧ F.body.isSome = true ∧ (F.name == "runtime.NumGoroutine") = false := by
  refine dec_calls (f := 23) (lo := 3) (hi := 400) (H := [[(0, (false, .cols mr [.int .i64 tr, .int .i64 vr, .int .i64 gr])), (1, (false, .cols mo [.bool to])), (2, (false, .cols ml [.int .i64 tl]))]]) (args := [.agg [.loose ⟨0, 3, ar, 0⟩ nr, .loose ⟨1, 1, ao, 0⟩ no], .loose ⟨2, 1, al, 0⟩ nl]) Try.envOk Try.mixed xC_ok ((I24 ar nr mr tr vr gr ao no mo to al nl ml tl)) ((V24 ar nr mr tr vr gr ao no mo to al nl ml tl)) (fun r => [newL (3 + 1) ((N24 ar nr mr tr vr gr ao no mo to al nl ml tl) r) ++ [(0, (false, .cols mr [.int .i64 tr, .int .i64 vr, .int .i64 gr])), (1, (false, .cols mo [.bool to])), (2, (false, .cols ml [.int .i64 tl]))]]) (fn := mkFn Try.f23) (ts := [4, 7, 19, 20, 21]) (n := 400) rfl (by decide) (by simp) (names_of rfl) ?_ ?_ ?_ h
  · intro s; cases s <;> exact ⟨hd_ok _ _, by simp [I24], names_of rfl, Nat.le_of_ble_eq_true rfl⟩
  · intro Kst Kret x hS hR h
    exact Holds.eq (te24 cond Kst Kret ar nr mr tr vr gr ao no mo to al nl ml tl) (be24 ar nr mr tr vr gr ao no mo to al nl ml tl Kst Kret x hS hR h)
  · intro Kst Kret x hS hR s h
    cases s with
    | h0 x0 x1 x2 => exact Holds.eq (t24_0 cond Kst Kret ar nr mr tr vr gr ao no mo to al nl ml tl x0 x1 x2) (b24_0 ar nr mr tr vr gr ao no mo to al nl ml tl Kst Kret x hS hR x0 x1 x2 h)
noncomputable def k24 : Con := ⟨23, [.agg [.list [.int .i64, .int .i64, .int .i64], .list [.bool]], .one (.list [.int .i64])], fun (x : ((Nat × Nat × Nat × (Nat → Int) × (Nat → Int) × (Nat → Int) × Unit) × (Nat × Nat × Nat × (Nat → Bool) × Unit) × Unit) × (Nat × Nat × Nat × (Nat → Int) × Unit) × Unit) => (fun (ar nr mr : Nat) (tr : Nat → Int) (vr : Nat → Int) (gr : Nat → Int) (ao no mo : Nat) (to : Nat → Bool) (al nl ml : Nat) (tl : Nat → Int) => decide (ar + nr ≤ mr ∧ nr ≤ 1000000 ∧ ao + no ≤ mo ∧ no ≤ 1000000 ∧ al + nl ≤ ml ∧ nl ≤ 1000000)) x.1.1.1 x.1.1.2.1 x.1.1.2.2.1 x.1.1.2.2.2.1 x.1.1.2.2.2.2.1 x.1.1.2.2.2.2.2.1 x.1.2.1.1 x.1.2.1.2.1 x.1.2.1.2.2.1 x.1.2.1.2.2.2.1 x.2.1.1 x.2.1.2.1 x.2.1.2.2.1 x.2.1.2.2.2.1, fun (x : ((Nat × Nat × Nat × (Nat → Int) × (Nat → Int) × (Nat → Int) × Unit) × (Nat × Nat × Nat × (Nat → Bool) × Unit) × Unit) × (Nat × Nat × Nat × (Nat → Int) × Unit) × Unit) => (fun (ar nr mr : Nat) (tr : Nat → Int) (vr : Nat → Int) (gr : Nat → Int) (ao no mo : Nat) (to : Nat → Bool) (al nl ml : Nat) (tl : Nat → Int) => (V24 ar nr mr tr vr gr ao no mo to al nl ml tl) (S.histS nr (fun j => tr (j + ar)) (fun j => vr (j + ar)) (fun j => gr (j + ar)) no (fun j => to (j + ao)) nl (fun j => tl (j + al)))) x.1.1.1 x.1.1.2.1 x.1.1.2.2.1 x.1.1.2.2.2.1 x.1.1.2.2.2.2.1 x.1.1.2.2.2.2.2.1 x.1.2.1.1 x.1.2.1.2.1 x.1.2.1.2.2.1 x.1.2.1.2.2.2.1 x.2.1.1 x.2.1.2.1 x.2.1.2.2.1 x.2.1.2.2.2.1, fun (x : ((Nat × Nat × Nat × (Nat → Int) × (Nat → Int) × (Nat → Int) × Unit) × (Nat × Nat × Nat × (Nat → Bool) × Unit) × Unit) × (Nat × Nat × Nat × (Nat → Int) × Unit) × Unit) => (fun (ar nr mr : Nat) (tr : Nat → Int) (vr : Nat → Int) (gr : Nat → Int) (ao no mo : Nat) (to : Nat → Bool) (al nl ml : Nat) (tl : Nat → Int) => (N24 ar nr mr tr vr gr ao no mo to al nl ml tl) (S.histS nr (fun j => tr (j + ar)) (fun j => vr (j + ar)) (fun j => gr (j + ar)) no (fun j => to (j + ao)) nl (fun j => tl (j + al)))) x.1.1.1 x.1.1.2.1 x.1.1.2.2.1 x.1.1.2.2.2.1 x.1.1.2.2.2.2.1 x.1.1.2.2.2.2.2.1 x.1.2.1.1 x.1.2.1.2.1 x.1.2.1.2.2.1 x.1.2.1.2.2.2.1 x.2.1.1 x.2.1.2.1 x.2.1.2.2.1 x.2.1.2.2.2.1, fun _ _ => .dead⟩
theorem s24' (ar nr mr : Nat) (tr : Nat → Int) (vr : Nat → Int) (gr : Nat → Int) (ao no mo : Nat) (to : Nat → Bool) (al nl ml : Nat) (tl : Nat → Int) (hp : ar + nr ≤ mr ∧ nr ≤ 1000000 ∧ ao + no ≤ mo ∧ no ≤ 1000000 ∧ al + nl ≤ ml ∧ nl ≤ 1000000) (hv : S.histE nr (fun j => tr (j + ar)) (fun j => vr (j + ar)) (fun j => gr (j + ar)) no nl (fun j => tl (j + al)) = 0) : ∀ (k i : Nat) (lr : List (Int × Int × Int)) (lo : List Bool), i + k = nl → Holds (lr = S.mkl nr fun j => (tr (j + ar), vr (j + ar), gr (j + ar))) → Holds (lo = S.mkl no fun j => S.aftN (tr (j + ar)) (vr (j + ar)) (fun j => tl (j + al)) (to (j + ao)) i) → Comes (q24 ar nr mr tr vr gr ao no mo to al nl ml tl) (.h0 (i : Int) lr lo) ((0, S.mkl nr fun j => (tr (j + ar), vr (j + ar), gr (j + ar)), S.mkl no fun j => S.aftN (tr (j + ar)) (vr (j + ar)) (fun j => tl (j + al)) (to (j + ao)) nl)) := by
  obtain ⟨hp1, hp2, hp3, hp4, hp5, hp6⟩ := hp
  obtain ⟨hm, hl1, hl2⟩ := hist_ok hv
  obtain ⟨v1, v2, v3, v4⟩ := mag_ok hm
  intro k
  induction k with
  | zero =>
    intro i lr lo hi elr elo
    have hlr : lr.length = nr := by rw [elr.get]; exact mkl_len
    have hlo : lo.length = no := by rw [elo.get]; exact mkl_len
    apply Comes.of
    show Goes _ _ _
    (first | rw [q24] | unfold q24)
    repeat' first
      | with_reducible refine goes_if (fun h => ?_) (fun h => ?_) <;> (try simp only [lim64, imp_false, decide_eq_true_eq, decide_eq_false_iff_not, Int.toNat_natCast, toNat_pred, toNat_succ, Option.getD_some, Option.getD_none, Bool.not_eq_true', Bool.not_eq_false', Bool.and_eq_true, Bool.or_eq_true, Bool.and_eq_false_iff, Bool.or_eq_false_iff, bne_iff_ne, beq_iff_eq, bne_eq_false_iff_eq, beq_eq_false_iff_ne, ne_eq, not_and, Int.not_le, Int.not_lt, ge_iff_le, gt_iff_lt, Nat.not_lt, Nat.not_le, Bool.not_eq_true, Bool.not_eq_false, Bool.true_eq_false, Bool.false_eq_true, not_false_eq_true, not_true_eq_false] at h)
      | exact goes_none.mpr (by omega)
    all_goals first | (exfalso; omega) | (obtain rfl : nl = i := (by omega); rw [elr.get]; rw [elo.get]; rfl)
  | succ k ih =>
    intro i lr lo hi elr elo
    have hlr : lr.length = nr := by rw [elr.get]; exact mkl_len
    have hlo : lo.length = no := by rw [elo.get]; exact mkl_len
    apply Comes.of
    show Goes _ _ _
    (first | rw [q24] | unfold q24)
    repeat' first
      | with_reducible refine goes_if (fun h => ?_) (fun h => ?_) <;> (try simp only [lim64, imp_false, decide_eq_true_eq, decide_eq_false_iff_not, Int.toNat_natCast, toNat_pred, toNat_succ, Option.getD_some, Option.getD_none, Bool.not_eq_true', Bool.not_eq_false', Bool.and_eq_true, Bool.or_eq_true, Bool.and_eq_false_iff, Bool.or_eq_false_iff, bne_iff_ne, beq_iff_eq, bne_eq_false_iff_eq, beq_eq_false_iff_ne, ne_eq, not_and, Int.not_le, Int.not_lt, ge_iff_le, gt_iff_lt, Nat.not_lt, Nat.not_le, Bool.not_eq_true, Bool.not_eq_false, Bool.true_eq_false, Bool.false_eq_true, not_false_eq_true, not_true_eq_false] at h)
      | exact goes_none.mpr (by omega)
    all_goals first
      | (exfalso; omega)
      | (refine ih (i + 1) _ _ (by omega) ⟨elr.get⟩ ⟨?_⟩; rw [hlo, elr.get, elo.get]; refine mkl_congr fun j hj => ?_; rw [at_mkl hj, at_mkl hj, at_mkl (by omega)]; rfl)
      | (refine ih (i + 1) _ _ (by omega) ⟨?_⟩ ⟨?_⟩ <;> (skip))
theorem s24 (ar nr mr : Nat) (tr : Nat → Int) (vr : Nat → Int) (gr : Nat → Int) (ao no mo : Nat) (to : Nat → Bool) (al nl ml : Nat) (tl : Nat → Int) (hp : ar + nr ≤ mr ∧ nr ≤ 1000000 ∧ ao + no ≤ mo ∧ no ≤ 1000000 ∧ al + nl ≤ ml ∧ nl ≤ 1000000) : Goes ((q24 ar nr mr tr vr gr ao no mo to al nl ml tl)) ((p24 ar nr mr tr vr gr ao no mo to al nl ml tl)) (S.histS nr (fun j => tr (j + ar)) (fun j => vr (j + ar)) (fun j => gr (j + ar)) no (fun j => to (j + ao)) nl (fun j => tl (j + al))) := by
  unfold S.histS
  by_cases hv : S.histE nr (fun j => tr (j + ar)) (fun j => vr (j + ar)) (fun j => gr (j + ar)) no nl (fun j => tl (j + al)) = 0
  · have hm := s24' ar nr mr tr vr gr ao no mo to al nl ml tl hp hv nl 0 (S.mkl nr fun j => (tr (j + ar), vr (j + ar), gr (j + ar))) (S.mkl no fun j => to (j + ao)) (by omega) ⟨rfl⟩ ⟨rfl⟩
    obtain ⟨hp1, hp2, hp3, hp4, hp5, hp6⟩ := hp
    rw [if_pos hv]
    show Goes _ _ _
    unfold p24
    repeat' first
      | with_reducible refine goes_if (fun h => ?_) (fun h => ?_) <;> (try simp only [lim64, imp_false, decide_eq_true_eq, decide_eq_false_iff_not, Int.toNat_natCast, toNat_pred, toNat_succ, Option.getD_some, Option.getD_none, Bool.not_eq_true', Bool.not_eq_false', Bool.and_eq_true, Bool.or_eq_true, Bool.and_eq_false_iff, Bool.or_eq_false_iff, bne_iff_ne, beq_iff_eq, bne_eq_false_iff_eq, beq_eq_false_iff_ne, ne_eq, not_and, Int.not_le, Int.not_lt, ge_iff_le, gt_iff_lt, Nat.not_lt, Nat.not_le, Bool.not_eq_true, Bool.not_eq_false, Bool.true_eq_false, Bool.false_eq_true, not_false_eq_true, not_true_eq_false] at h)
      | exact goes_none.mpr (by omega)
    all_goals first | (exfalso; omega) | (exfalso; exact absurd hv (by assumption)) | exact hm
  · obtain ⟨hp1, hp2, hp3, hp4, hp5, hp6⟩ := hp
    rw [if_neg hv]
    show Goes _ _ _
    unfold p24
    repeat' first
      | with_reducible refine goes_if (fun h => ?_) (fun h => ?_) <;> (try simp only [lim64, imp_false, decide_eq_true_eq, decide_eq_false_iff_not, Int.toNat_natCast, toNat_pred, toNat_succ, Option.getD_some, Option.getD_none, Bool.not_eq_true', Bool.not_eq_false', Bool.and_eq_true, Bool.or_eq_true, Bool.and_eq_false_iff, Bool.or_eq_false_iff, bne_iff_ne, beq_iff_eq, bne_eq_false_iff_eq, beq_eq_false_iff_ne, ne_eq, not_and, Int.not_le, Int.not_lt, ge_iff_le, gt_iff_lt, Nat.not_lt, Nat.not_le, Bool.not_eq_true, Bool.not_eq_false, Bool.true_eq_false, Bool.false_eq_true, not_false_eq_true, not_true_eq_false] at h)
      | exact goes_none.mpr (by omega)
    all_goals first | (exfalso; omega) | (exfalso; exact hv (by assumption)) | rfl
theorem k24_ok : k24.ok Try.prog := by
  intro x hx
  obtain ⟨⟨⟨ar, nr, mr, tr, vr, gr, _⟩, ⟨ao, no, mo, to, _⟩, _⟩, ⟨al, nl, ml, tl, _⟩, _⟩ := x
  obtain ⟨h1, h2⟩ := a24 ar nr mr tr vr gr ao no mo to al nl ml tl (s24 ar nr mr tr vr gr ao no mo to al nl ml tl (of_dec hx rfl))
  exact ⟨⟨400, (by decide : 3 + 1 + 2 ≤ 400), h1⟩, h2⟩
namespace S
def botE (m c : Int) : Int := if m = 0 then c else m
def suiS (e : Int) (x : Bool) : Bool × Int := if e = 0 then (x, 0) else (false, e)
def ahdB (n : Nat) (t : Nat → Int) (fl pt x : Int) : Bool := if t (n - 1) < fl then decide (pt ≤ x ∧ x ≤ max fl (maxN t (n - 1))) else decide (x ≤ pt ∧ min fl (minN t (n - 1)) ≤ x)
end S
theorem er_in {n no nl : Nat} {u d w : Nat → Int} {t : Nat → Int} (h : S.magE n u d w no = 0) (h1 : nl ≤ 1000) (h2 : ∀ j, j < nl → -1099511627776 ≤ t j ∧ t j ≤ 1099511627776) : S.erS n u d w no nl t = (S.erB u d nl t 0 n, 0) := by
  have hh : S.histE n u d w no nl t = 0 := by
    unfold S.histE
    rw [if_pos h, if_neg (by omega)]
    have : ∀ k i, i + k = nl → S.inE t i k = 0 := by
      intro k
      induction k with
      | zero => intro i _; rfl
      | succ k ih => intro i hi; simp only [S.inE]; rw [if_pos (h2 i (by omega))]; exact ih (i + 1) (by omega)
    exact this nl 0 (Nat.zero_add _)
  unfold S.erS
  rw [if_pos hh]
theorem stp_in {cn : ByteArray} {n : Nat} {t : Nat → Int} {rp fl : Int} (h : S.cyE cn n t rp fl = 0) : (S.stpL n t rp fl).length ≤ 181 ∧ 1 ≤ (S.stpL n t rp fl).length ∧ ∀ j, j < (S.stpL n t rp fl).length → -1099511627776 ≤ S.at' (S.stpL n t rp fl) j ∧ S.at' (S.stpL n t rp fl) j ≤ 1099511627776 := by
  obtain ⟨c1, c2, c3, c4, c5⟩ := cy_ok h
  have hb := mul_bd c1.2 c2.2
  refine ⟨by rw [stp_len]; omega, by rw [stp_len]; omega, fun j hj => ?_⟩
  rw [stp_len] at hj
  unfold S.stpL
  by_cases h1 : j < n * rp.toNat
  · rw [at_snoc_lt (by rw [mkl_len]; exact h1), at_mkl h1]
    exact (c5 (j % n) (Nat.mod_lt _ (by omega))).1
  · have e : j = (S.mkl (n * rp.toNat) fun j => t (j % n)).length := by rw [mkl_len]; omega
    rw [e, at_snoc_eq]; exact c3
noncomputable def xT2 (test : Bool → Prop → Prop → Prop) : Ext := consX test [k116, k135, k149, k21, k34, k24, k17]
theorem xT2_ok : ExtOk Try.prog (xT2 cond) := consX_ok ⟨k116_ok, k135_ok, k149_ok, k21_ok, k34_ok, k24_ok, k17_ok, trivial⟩
namespace S
abbrev St4 := Int × Bool × Bool × Int
def prS (l : Nat → Int) (pr x : Int) : Int := if x = l pr.toNat then pr + 1 else if x = l 0 then 1 else 0
def setS (n : Nat) (t : Nat → Int) (fl : Int) (nl : Nat) (l : Nat → Int) (a : St4) (x : Int) : St4 :=
  let p := prS l a.1 x
  let ah := a.2.1 && ahdB n t fl a.2.2.2 x
  let dr := a.2.2.1 || (a.2.1 && !ahdB n t fl a.2.2.2 x)
  if p = (nl : Int) then (0, true, dr, fl) else (p, ah, dr, if ah = true then x else a.2.2.2)
def behK (n : Nat) (t : Nat → Int) (fl : Int) (nl : Nat) (l : Nat → Int) (x : Nat → Int) : Nat → St4
  | 0 => (0, false, false, 0)
  | i + 1 => setS n t fl nl l (behK n t fl nl l x i) (x i)
def behS (e : Int) (n : Nat) (t : Nat → Int) (rp fl : Int) (ns : Nat) (x : Nat → Int) : Int × Bool × Bool × Int × Int :=
  if e = 0 then (if setE ns x = 0 then (let a := behK n t fl (stpL n t rp fl).length (fun j => at' (stpL n t rp fl) j) x ns; (a.1, a.2.1, a.2.2.1, a.2.2.2, 0)) else (0, false, false, 0, setE ns x)) else (0, false, false, 0, e)
end S
theorem set_0 {n : Nat} {t : Nat → Int} : S.setE n t = 0 ↔ n ≤ 500 ∧ ∀ j, j < n → -1099511627776 ≤ t j ∧ t j ≤ 1099511627776 := by
  unfold S.setE
  constructor
  · intro h
    split at h
    · cases h
    · split at h
      · rename_i h2
        exact ⟨by omega, fun j hj => of_decide_eq_true (all_iff.mp h2 j hj)⟩
      · cases h
  · rintro ⟨h1, h2⟩
    rw [if_neg (by omega), if_pos (all_iff.mpr fun j hj => decide_eq_true (h2 j hj))]
abbrev St142 := Empty
abbrev Rt142 := Int
noncomputable def V142 (ar nr mr : Nat) (tr : Nat → Int) (vr : Nat → Int) (gr : Nat → Int) (ao no mo : Nat) (to : Nat → Bool) (cn : ByteArray) (aq nq mq : Nat) (tq : Nat → Int) (rp : Int) (fl : Int) (r : Rt142) : PV := PV.int IntKind.i64 r
noncomputable def N142 (ar nr mr : Nat) (tr : Nat → Int) (vr : Nat → Int) (gr : Nat → Int) (ao no mo : Nat) (to : Nat → Bool) (cn : ByteArray) (aq nq mq : Nat) (tq : Nat → Int) (rp : Int) (fl : Int) (r : Rt142) : List Blk := []
noncomputable def I142 (ar nr mr : Nat) (tr : Nat → Int) (vr : Nat → Int) (gr : Nat → Int) (ao no mo : Nat) (to : Nat → Bool) (cn : ByteArray) (aq nq mq : Nat) (tq : Nat → Int) (rp : Int) (fl : Int) : St142 → Hd := fun s => s.elim
noncomputable def q142 (ar nr mr : Nat) (tr : Nat → Int) (vr : Nat → Int) (gr : Nat → Int) (ao no mo : Nat) (to : Nat → Bool) (cn : ByteArray) (aq nq mq : Nat) (tq : Nat → Int) (rp : Int) (fl : Int) : St142 → Option (St142 ⊕ Rt142) := fun s => s.elim
noncomputable def p142 (ar nr mr : Nat) (tr : Nat → Int) (vr : Nat → Int) (gr : Nat → Int) (ao no mo : Nat) (to : Nat → Bool) (cn : ByteArray) (aq nq mq : Nat) (tq : Nat → Int) (rp : Int) (fl : Int) : Option (St142 ⊕ Rt142) := bif (decide (ar + nr ≤ mr ∧ nr ≤ 1000000))
 then (bif (S.magE nr (fun j => tr (j + ar)) (fun j => vr (j + ar)) (fun j => gr (j + ar)) no !=
 (0 : Int))
 then (some (.inr (S.magE nr (fun j => tr (j + ar)) (fun j => vr (j + ar)) (fun j => gr (j + ar)) no)))
 else (bif (decide (aq + nq ≤ mq ∧ nq ≤ 1000000))
 then (some (.inr (S.cyE cn nq (fun j => tq (j + aq)) rp fl)))
 else (none)))
 else (none)
noncomputable def Te142 (test : Bool → Prop → Prop → Prop) (Kst : KS) (Kret : KR) (ar nr mr : Nat) (tr : Nat → Int) (vr : Nat → Int) (gr : Nat → Int) (ao no mo : Nat) (to : Nat → Bool) (cn : ByteArray) (aq nq mq : Nat) (tq : Nat → Int) (rp : Int) (fl : Int) : Prop :=
  test (decide (ar + nr ≤ mr ∧ nr ≤ 1000000))
 (test (S.magE nr (fun j => tr (j + ar)) (fun j => vr (j + ar)) (fun j => gr (j + ar)) no !=
 (0 : Int))
 (Kret (PV.int IntKind.i64
 (S.magE nr (fun j => tr (j + ar)) (fun j => vr (j + ar)) (fun j => gr (j + ar)) no)) ([[(2, false, Blk.cols mq [Col.int IntKind.i64 tq]),
 (1, false, Blk.cols mo [Col.bool to]),
 (0, false,
 Blk.cols mr
 [Col.int IntKind.i64 tr, Col.int IntKind.i64 vr, Col.int IntKind.i64 gr])]]) (6))
 (test (decide (aq + nq ≤ mq ∧ nq ≤ 1000000))
 (Kret (PV.int IntKind.i64 (S.cyE cn nq (fun j => tq (j + aq)) rp fl)) ([[(2, false, Blk.cols mq [Col.int IntKind.i64 tq]),
 (1, false, Blk.cols mo [Col.bool to]),
 (0, false,
 Blk.cols mr
 [Col.int IntKind.i64 tr, Col.int IntKind.i64 vr, Col.int IntKind.i64 gr])]]) (7))
 (False)))
 (False)
theorem te142 (test : Bool → Prop → Prop → Prop) (Kst : KS) (Kret : KR) (ar nr mr : Nat) (tr : Nat → Int) (vr : Nat → Int) (gr : Nat → Int) (ao no mo : Nat) (to : Nat → Bool) (cn : ByteArray) (aq nq mq : Nat) (tq : Nat → Int) (rp : Int) (fl : Int) : run test Try.env true (xT2 test) true 400 ⟨19, [.cd (mkFn Try.f19).body], argT 0 [.agg [.loose ⟨0, 3, ar, 0⟩ nr, .loose ⟨1, 1, ao, 0⟩ no], .agg [.str cn, .loose ⟨2, 1, aq, 0⟩ nq, .int .i64 rp, .int .i64 fl]], [[], [(0, (false, .cols mr [.int .i64 tr, .int .i64 vr, .int .i64 gr])), (1, (false, .cols mo [.bool to])), (2, (false, .cols mq [.int .i64 tq]))]], 3⟩ (proj 3 [] Kst Kret) =
  Te142 test Kst Kret ar nr mr tr vr gr ao no mo to cn aq nq mq tq rp fl := by kernel_rfl
theorem be142 (ar nr mr : Nat) (tr : Nat → Int) (vr : Nat → Int) (gr : Nat → Int) (ao no mo : Nat) (to : Nat → Bool) (cn : ByteArray) (aq nq mq : Nat) (tq : Nat → Int) (rp : Int) (fl : Int) (Kst : KS) (Kret : KR) (x : St142 ⊕ Rt142) (hS : HS 3 400 ((I142 ar nr mr tr vr gr ao no mo to cn aq nq mq tq rp fl)) Kst x) (hR : HR 3 400 ((V142 ar nr mr tr vr gr ao no mo to cn aq nq mq tq rp fl)) (fun r => [newL (3 + 1) ((N142 ar nr mr tr vr gr ao no mo to cn aq nq mq tq rp fl) r) ++ [(0, (false, .cols mr [.int .i64 tr, .int .i64 vr, .int .i64 gr])), (1, (false, .cols mo [.bool to])), (2, (false, .cols mq [.int .i64 tq]))]]) Kret x) (h : (bif (decide (ar + nr ≤ mr ∧ nr ≤ 1000000))
 then (bif (S.magE nr (fun j => tr (j + ar)) (fun j => vr (j + ar)) (fun j => gr (j + ar)) no !=
 (0 : Int))
 then (some (.inr (S.magE nr (fun j => tr (j + ar)) (fun j => vr (j + ar)) (fun j => gr (j + ar)) no)))
 else (bif (decide (aq + nq ≤ mq ∧ nq ≤ 1000000))
 then (some (.inr (S.cyE cn nq (fun j => tq (j + aq)) rp fl)))
 else (none)))
 else (none) : Option (St142 ⊕ Rt142)) = some x) : Te142 cond Kst Kret ar nr mr tr vr gr ao no mo to cn aq nq mq tq rp fl := by
  unfold Te142
  exact bif_split h
   (fun c0 h => bif_split h
   (fun c1 h => ret_at hR _ h (fun n => n) rfl rfl rfl (rn_int rfl) rfl (entl_bor (use_lo rfl) rfl rfl (entl_bor (use_lo rfl) rfl rfl (entl_bor (use_lo rfl) rfl rfl entl_nil))))
   (fun c1 h => bif_split h
   (fun c2 h => ret_at hR _ h (fun n => n) rfl rfl rfl (rn_int rfl) rfl (entl_bor (use_lo rfl) rfl rfl (entl_bor (use_lo rfl) rfl rfl (entl_bor (use_lo rfl) rfl rfl entl_nil))))
   (fun c2 h => no_some h)))
   (fun c0 h => no_some h)
theorem a142 (ar nr mr : Nat) (tr : Nat → Int) (vr : Nat → Int) (gr : Nat → Int) (ao no mo : Nat) (to : Nat → Bool) (cn : ByteArray) (aq nq mq : Nat) (tq : Nat → Int) (rp : Int) (fl : Int) {r : Rt142} (h : Goes ((q142 ar nr mr tr vr gr ao no mo to cn aq nq mq tq rp fl)) ((p142 ar nr mr tr vr gr ao no mo to cn aq nq mq tq rp fl)) r) : CallR Try.prog 19 [.agg [.loose ⟨0, 3, ar, 0⟩ nr, .loose ⟨1, 1, ao, 0⟩ no], .agg [.str cn, .loose ⟨2, 1, aq, 0⟩ nq, .int .i64 rp, .int .i64 fl]] [[(0, (false, .cols mr [.int .i64 tr, .int .i64 vr, .int .i64 gr])), (1, (false, .cols mo [.bool to])), (2, (false, .cols mq [.int .i64 tq]))]] 3 ((V142 ar nr mr tr vr gr ao no mo to cn aq nq mq tq rp fl) r) ((fun r => [newL (3 + 1) ((N142 ar nr mr tr vr gr ao no mo to cn aq nq mq tq rp fl) r) ++ [(0, (false, .cols mr [.int .i64 tr, .int .i64 vr, .int .i64 gr])), (1, (false, .cols mo [.bool to])), (2, (false, .cols mq [.int .i64 tq]))]]) r) 400 ∧ ∃ F, Try.prog.funcs[19]? = some F ∧ F.body.isSome = true ∧ (F.name == "runtime.NumGoroutine") = false := by
  refine dec_calls (f := 19) (lo := 3) (hi := 400) (H := [[(0, (false, .cols mr [.int .i64 tr, .int .i64 vr, .int .i64 gr])), (1, (false, .cols mo [.bool to])), (2, (false, .cols mq [.int .i64 tq]))]]) (args := [.agg [.loose ⟨0, 3, ar, 0⟩ nr, .loose ⟨1, 1, ao, 0⟩ no], .agg [.str cn, .loose ⟨2, 1, aq, 0⟩ nq, .int .i64 rp, .int .i64 fl]]) Try.envOk Try.mixed xT2_ok ((I142 ar nr mr tr vr gr ao no mo to cn aq nq mq tq rp fl)) ((V142 ar nr mr tr vr gr ao no mo to cn aq nq mq tq rp fl)) (fun r => [newL (3 + 1) ((N142 ar nr mr tr vr gr ao no mo to cn aq nq mq tq rp fl) r) ++ [(0, (false, .cols mr [.int .i64 tr, .int .i64 vr, .int .i64 gr])), (1, (false, .cols mo [.bool to])), (2, (false, .cols mq [.int .i64 tq]))]]) (fn := mkFn Try.f19) (ts := []) (n := 400) rfl (by decide) (by simp) (names_of rfl) ?_ ?_ ?_ h
  · intro s; exact s.elim
  · intro Kst Kret x hS hR h
    exact Holds.eq (te142 cond Kst Kret ar nr mr tr vr gr ao no mo to cn aq nq mq tq rp fl) (be142 ar nr mr tr vr gr ao no mo to cn aq nq mq tq rp fl Kst Kret x hS hR h)
  · intro Kst Kret x hS hR s h; exact s.elim
noncomputable def k142 : Con := ⟨19, [.agg [.list [.int .i64, .int .i64, .int .i64], .list [.bool]], .agg [.plain (.str), .list [.int .i64], .plain (.int .i64), .plain (.int .i64)]], fun (x : ((Nat × Nat × Nat × (Nat → Int) × (Nat → Int) × (Nat → Int) × Unit) × (Nat × Nat × Nat × (Nat → Bool) × Unit) × Unit) × (ByteArray × (Nat × Nat × Nat × (Nat → Int) × Unit) × Int × Int × Unit) × Unit) => (fun (ar nr mr : Nat) (tr : Nat → Int) (vr : Nat → Int) (gr : Nat → Int) (ao no mo : Nat) (to : Nat → Bool) (cn : ByteArray) (aq nq mq : Nat) (tq : Nat → Int) (rp : Int) (fl : Int) => decide ((ar + nr ≤ mr ∧ nr ≤ 1000000) ∧ (aq + nq ≤ mq ∧ nq ≤ 1000000))) x.1.1.1 x.1.1.2.1 x.1.1.2.2.1 x.1.1.2.2.2.1 x.1.1.2.2.2.2.1 x.1.1.2.2.2.2.2.1 x.1.2.1.1 x.1.2.1.2.1 x.1.2.1.2.2.1 x.1.2.1.2.2.2.1 x.2.1.1 x.2.1.2.1.1 x.2.1.2.1.2.1 x.2.1.2.1.2.2.1 x.2.1.2.1.2.2.2.1 x.2.1.2.2.1 x.2.1.2.2.2.1, fun (x : ((Nat × Nat × Nat × (Nat → Int) × (Nat → Int) × (Nat → Int) × Unit) × (Nat × Nat × Nat × (Nat → Bool) × Unit) × Unit) × (ByteArray × (Nat × Nat × Nat × (Nat → Int) × Unit) × Int × Int × Unit) × Unit) => (fun (ar nr mr : Nat) (tr : Nat → Int) (vr : Nat → Int) (gr : Nat → Int) (ao no mo : Nat) (to : Nat → Bool) (cn : ByteArray) (aq nq mq : Nat) (tq : Nat → Int) (rp : Int) (fl : Int) => (V142 ar nr mr tr vr gr ao no mo to cn aq nq mq tq rp fl) (S.botE (S.magE nr (fun j => tr (j + ar)) (fun j => vr (j + ar)) (fun j => gr (j + ar)) no) (S.cyE cn nq (fun j => tq (j + aq)) rp fl))) x.1.1.1 x.1.1.2.1 x.1.1.2.2.1 x.1.1.2.2.2.1 x.1.1.2.2.2.2.1 x.1.1.2.2.2.2.2.1 x.1.2.1.1 x.1.2.1.2.1 x.1.2.1.2.2.1 x.1.2.1.2.2.2.1 x.2.1.1 x.2.1.2.1.1 x.2.1.2.1.2.1 x.2.1.2.1.2.2.1 x.2.1.2.1.2.2.2.1 x.2.1.2.2.1 x.2.1.2.2.2.1, fun (x : ((Nat × Nat × Nat × (Nat → Int) × (Nat → Int) × (Nat → Int) × Unit) × (Nat × Nat × Nat × (Nat → Bool) × Unit) × Unit) × (ByteArray × (Nat × Nat × Nat × (Nat → Int) × Unit) × Int × Int × Unit) × Unit) => (fun (ar nr mr : Nat) (tr : Nat → Int) (vr : Nat → Int) (gr : Nat → Int) (ao no mo : Nat) (to : Nat → Bool) (cn : ByteArray) (aq nq mq : Nat) (tq : Nat → Int) (rp : Int) (fl : Int) => (N142 ar nr mr tr vr gr ao no mo to cn aq nq mq tq rp fl) (S.botE (S.magE nr (fun j => tr (j + ar)) (fun j => vr (j + ar)) (fun j => gr (j + ar)) no) (S.cyE cn nq (fun j => tq (j + aq)) rp fl))) x.1.1.1 x.1.1.2.1 x.1.1.2.2.1 x.1.1.2.2.2.1 x.1.1.2.2.2.2.1 x.1.1.2.2.2.2.2.1 x.1.2.1.1 x.1.2.1.2.1 x.1.2.1.2.2.1 x.1.2.1.2.2.2.1 x.2.1.1 x.2.1.2.1.1 x.2.1.2.1.2.1 x.2.1.2.1.2.2.1 x.2.1.2.1.2.2.2.1 x.2.1.2.2.1 x.2.1.2.2.2.1, fun _ _ => .dead⟩
theorem s142 (ar nr mr : Nat) (tr : Nat → Int) (vr : Nat → Int) (gr : Nat → Int) (ao no mo : Nat) (to : Nat → Bool) (cn : ByteArray) (aq nq mq : Nat) (tq : Nat → Int) (rp : Int) (fl : Int) (hp : (ar + nr ≤ mr ∧ nr ≤ 1000000) ∧ (aq + nq ≤ mq ∧ nq ≤ 1000000)) : Goes ((q142 ar nr mr tr vr gr ao no mo to cn aq nq mq tq rp fl)) ((p142 ar nr mr tr vr gr ao no mo to cn aq nq mq tq rp fl)) (S.botE (S.magE nr (fun j => tr (j + ar)) (fun j => vr (j + ar)) (fun j => gr (j + ar)) no) (S.cyE cn nq (fun j => tq (j + aq)) rp fl)) := by
  obtain ⟨⟨hp1, hp2⟩, hp3, hp4⟩ := hp
  unfold S.botE p142
  generalize (S.magE nr (fun j => tr (j + ar)) (fun j => vr (j + ar)) (fun j => gr (j + ar)) no) = e at *
  show Goes _ _ _
  repeat' first
    | with_reducible refine goes_if (fun h => ?_) (fun h => ?_) <;> (try simp only [lim64, imp_false, decide_eq_true_eq, decide_eq_false_iff_not, Int.toNat_natCast, toNat_pred, toNat_succ, Option.getD_some, Option.getD_none, Bool.not_eq_true', Bool.not_eq_false', Bool.and_eq_true, Bool.or_eq_true, Bool.and_eq_false_iff, Bool.or_eq_false_iff, bne_iff_ne, beq_iff_eq, bne_eq_false_iff_eq, beq_eq_false_iff_ne, ne_eq, not_and, Int.not_le, Int.not_lt, ge_iff_le, gt_iff_lt, Nat.not_lt, Nat.not_le, Bool.not_eq_true, Bool.not_eq_false, Bool.true_eq_false, Bool.false_eq_true, not_false_eq_true, not_true_eq_false] at h)
    | exact goes_none.mpr (by omega)
  all_goals first | (exfalso; omega) | (rw [if_pos (by omega)]; exact goes_inr.mpr rfl) | (rw [if_neg (by omega)]; exact goes_inr.mpr rfl)
theorem k142_ok : k142.ok Try.prog := by
  intro x hx
  obtain ⟨⟨⟨ar, nr, mr, tr, vr, gr, _⟩, ⟨ao, no, mo, to, _⟩, _⟩, ⟨cn, ⟨aq, nq, mq, tq, _⟩, rp, fl, _⟩, _⟩ := x
  obtain ⟨h1, h2⟩ := a142 ar nr mr tr vr gr ao no mo to cn aq nq mq tq rp fl (s142 ar nr mr tr vr gr ao no mo to cn aq nq mq tq rp fl (of_dec hx rfl))
  exact ⟨⟨400, (by decide : 3 + 1 + 0 ≤ 400), h1⟩, h2⟩
abbrev St120 := Empty
abbrev Rt120 := Bool × Int
noncomputable def V120 (ar nr mr : Nat) (tr : Nat → Int) (vr : Nat → Int) (gr : Nat → Int) (ao no mo : Nat) (to : Nat → Bool) (cn : ByteArray) (aq nq mq : Nat) (tq : Nat → Int) (rp : Int) (fl : Int) (r : Rt120) : PV := PV.tup [PV.bool r.1, PV.int IntKind.i64 r.2]
noncomputable def N120 (ar nr mr : Nat) (tr : Nat → Int) (vr : Nat → Int) (gr : Nat → Int) (ao no mo : Nat) (to : Nat → Bool) (cn : ByteArray) (aq nq mq : Nat) (tq : Nat → Int) (rp : Int) (fl : Int) (r : Rt120) : List Blk := []
noncomputable def I120 (ar nr mr : Nat) (tr : Nat → Int) (vr : Nat → Int) (gr : Nat → Int) (ao no mo : Nat) (to : Nat → Bool) (cn : ByteArray) (aq nq mq : Nat) (tq : Nat → Int) (rp : Int) (fl : Int) : St120 → Hd := fun s => s.elim
noncomputable def q120 (ar nr mr : Nat) (tr : Nat → Int) (vr : Nat → Int) (gr : Nat → Int) (ao no mo : Nat) (to : Nat → Bool) (cn : ByteArray) (aq nq mq : Nat) (tq : Nat → Int) (rp : Int) (fl : Int) : St120 → Option (St120 ⊕ Rt120) := fun s => s.elim
noncomputable def p120 (ar nr mr : Nat) (tr : Nat → Int) (vr : Nat → Int) (gr : Nat → Int) (ao no mo : Nat) (to : Nat → Bool) (cn : ByteArray) (aq nq mq : Nat) (tq : Nat → Int) (rp : Int) (fl : Int) : Option (St120 ⊕ Rt120) := bif (decide (ar + nr ≤ mr ∧ nr ≤ 1000000))
 then (bif (S.magE nr (fun j => tr (j + ar)) (fun j => vr (j + ar)) (fun j => gr (j + ar)) no !=
 (0 : Int))
 then (some (.inr (false, S.magE nr (fun j => tr (j + ar)) (fun j => vr (j + ar)) (fun j => gr (j + ar)) no)))
 else (bif (decide (aq + nq ≤ mq ∧ nq ≤ 1000000))
 then (bif (S.cyE cn nq (fun j => tq (j + aq)) rp fl != (0 : Int))
 then (some (.inr (false, S.cyE cn nq (fun j => tq (j + aq)) rp fl)))
 else (bif (decide (aq + nq ≤ mq ∧ nq ≤ 20 ∧ (0 : Int) ≤ rp ∧ rp ≤ (9 : Int)))
 then (bif (decide
 (ar + nr ≤ mr ∧
 nr ≤ 1000000 ∧
 ao + no ≤ mo ∧
 no ≤ 1000000 ∧
 0 + List.length (S.stpL nq (fun j => tq (j + aq)) rp fl) ≤
 List.length (S.stpL nq (fun j => tq (j + aq)) rp fl) ∧
 List.length (S.stpL nq (fun j => tq (j + aq)) rp fl) ≤ 1000000))
 then (bif (Prod.fst
 (S.erS nr (fun j => tr (j + ar)) (fun j => vr (j + ar)) (fun j => gr (j + ar)) no
 (List.length (S.stpL nq (fun j => tq (j + aq)) rp fl)) fun j =>
 S.at' (S.stpL nq (fun j => tq (j + aq)) rp fl) j))
 then (some (.inr (true, Prod.snd
 (S.erS nr (fun j => tr (j + ar)) (fun j => vr (j + ar)) (fun j => gr (j + ar)) no
 (List.length (S.stpL nq (fun j => tq (j + aq)) rp fl)) fun j =>
 S.at' (S.stpL nq (fun j => tq (j + aq)) rp fl) j))))
 else (some (.inr (false, Prod.snd
 (S.erS nr (fun j => tr (j + ar)) (fun j => vr (j + ar)) (fun j => gr (j + ar)) no
 (List.length (S.stpL nq (fun j => tq (j + aq)) rp fl)) fun j =>
 S.at' (S.stpL nq (fun j => tq (j + aq)) rp fl) j)))))
 else (none))
 else (none)))
 else (none)))
 else (none)
noncomputable def Te120 (test : Bool → Prop → Prop → Prop) (Kst : KS) (Kret : KR) (ar nr mr : Nat) (tr : Nat → Int) (vr : Nat → Int) (gr : Nat → Int) (ao no mo : Nat) (to : Nat → Bool) (cn : ByteArray) (aq nq mq : Nat) (tq : Nat → Int) (rp : Int) (fl : Int) : Prop :=
  test (decide (ar + nr ≤ mr ∧ nr ≤ 1000000))
 (test (S.magE nr (fun j => tr (j + ar)) (fun j => vr (j + ar)) (fun j => gr (j + ar)) no !=
 (0 : Int))
 (test (S.magE nr (fun j => tr (j + ar)) (fun j => vr (j + ar)) (fun j => gr (j + ar)) no !=
 (0 : Int))
 (Kret (PV.tup
 [PV.tf false,
 PV.int IntKind.i64
 (S.magE nr (fun j => tr (j + ar)) (fun j => vr (j + ar)) (fun j => gr (j + ar)) no)]) ([[(2, false, Blk.cols mq [Col.int IntKind.i64 tq]),
 (1, false, Blk.cols mo [Col.bool to]),
 (0, false,
 Blk.cols mr
 [Col.int IntKind.i64 tr, Col.int IntKind.i64 vr, Col.int IntKind.i64 gr])]]) (8))
 (test (decide (aq + nq ≤ mq ∧ nq ≤ 20 ∧ (0 : Int) ≤ rp ∧ rp ≤ (9 : Int)))
 (test (decide
 (ar + nr ≤ mr ∧
 nr ≤ 1000000 ∧
 ao + no ≤ mo ∧
 no ≤ 1000000 ∧
 0 + List.length (S.stpL nq (fun j => tq (j + aq)) rp fl) ≤
 List.length (S.stpL nq (fun j => tq (j + aq)) rp fl) ∧
 List.length (S.stpL nq (fun j => tq (j + aq)) rp fl) ≤ 1000000))
 (test (Prod.fst
 (S.erS nr (fun j => tr (j + ar)) (fun j => vr (j + ar)) (fun j => gr (j + ar)) no
 (List.length (S.stpL nq (fun j => tq (j + aq)) rp fl)) fun j =>
 S.at' (S.stpL nq (fun j => tq (j + aq)) rp fl) j))
 (Kret (PV.tup
 [PV.tf true,
 PV.int IntKind.i64
 (Prod.snd
 (S.erS nr (fun j => tr (j + ar)) (fun j => vr (j + ar)) (fun j => gr (j + ar)) no
 (List.length (S.stpL nq (fun j => tq (j + aq)) rp fl)) fun j =>
 S.at' (S.stpL nq (fun j => tq (j + aq)) rp fl) j))]) ([[(2, false, Blk.cols mq [Col.int IntKind.i64 tq]),
 (1, false, Blk.cols mo [Col.bool to]),
 (0, false,
 Blk.cols mr
 [Col.int IntKind.i64 tr, Col.int IntKind.i64 vr, Col.int IntKind.i64 gr])]]) (11))
 (Kret (PV.tup
 [PV.tf false,
 PV.int IntKind.i64
 (Prod.snd
 (S.erS nr (fun j => tr (j + ar)) (fun j => vr (j + ar)) (fun j => gr (j + ar)) no
 (List.length (S.stpL nq (fun j => tq (j + aq)) rp fl)) fun j =>
 S.at' (S.stpL nq (fun j => tq (j + aq)) rp fl) j))]) ([[(2, false, Blk.cols mq [Col.int IntKind.i64 tq]),
 (1, false, Blk.cols mo [Col.bool to]),
 (0, false,
 Blk.cols mr
 [Col.int IntKind.i64 tr, Col.int IntKind.i64 vr, Col.int IntKind.i64 gr])]]) (11)))
 (False))
 (False)))
 (test (decide (aq + nq ≤ mq ∧ nq ≤ 1000000))
 (test (S.cyE cn nq (fun j => tq (j + aq)) rp fl != (0 : Int))
 (Kret (PV.tup
 [PV.tf false, PV.int IntKind.i64 (S.cyE cn nq (fun j => tq (j + aq)) rp fl)]) ([[(2, false, Blk.cols mq [Col.int IntKind.i64 tq]),
 (1, false, Blk.cols mo [Col.bool to]),
 (0, false,
 Blk.cols mr
 [Col.int IntKind.i64 tr, Col.int IntKind.i64 vr, Col.int IntKind.i64 gr])]]) (9))
 (test (decide (aq + nq ≤ mq ∧ nq ≤ 20 ∧ (0 : Int) ≤ rp ∧ rp ≤ (9 : Int)))
 (test (decide
 (ar + nr ≤ mr ∧
 nr ≤ 1000000 ∧
 ao + no ≤ mo ∧
 no ≤ 1000000 ∧
 0 + List.length (S.stpL nq (fun j => tq (j + aq)) rp fl) ≤
 List.length (S.stpL nq (fun j => tq (j + aq)) rp fl) ∧
 List.length (S.stpL nq (fun j => tq (j + aq)) rp fl) ≤ 1000000))
 (test (Prod.fst
 (S.erS nr (fun j => tr (j + ar)) (fun j => vr (j + ar)) (fun j => gr (j + ar)) no
 (List.length (S.stpL nq (fun j => tq (j + aq)) rp fl)) fun j =>
 S.at' (S.stpL nq (fun j => tq (j + aq)) rp fl) j))
 (Kret (PV.tup
 [PV.tf true,
 PV.int IntKind.i64
 (Prod.snd
 (S.erS nr (fun j => tr (j + ar)) (fun j => vr (j + ar)) (fun j => gr (j + ar)) no
 (List.length (S.stpL nq (fun j => tq (j + aq)) rp fl)) fun j =>
 S.at' (S.stpL nq (fun j => tq (j + aq)) rp fl) j))]) ([[(2, false, Blk.cols mq [Col.int IntKind.i64 tq]),
 (1, false, Blk.cols mo [Col.bool to]),
 (0, false,
 Blk.cols mr
 [Col.int IntKind.i64 tr, Col.int IntKind.i64 vr, Col.int IntKind.i64 gr])]]) (12))
 (Kret (PV.tup
 [PV.tf false,
 PV.int IntKind.i64
 (Prod.snd
 (S.erS nr (fun j => tr (j + ar)) (fun j => vr (j + ar)) (fun j => gr (j + ar)) no
 (List.length (S.stpL nq (fun j => tq (j + aq)) rp fl)) fun j =>
 S.at' (S.stpL nq (fun j => tq (j + aq)) rp fl) j))]) ([[(2, false, Blk.cols mq [Col.int IntKind.i64 tq]),
 (1, false, Blk.cols mo [Col.bool to]),
 (0, false,
 Blk.cols mr
 [Col.int IntKind.i64 tr, Col.int IntKind.i64 vr, Col.int IntKind.i64 gr])]]) (12)))
 (False))
 (False)))
 (False)))
 (False)
theorem te120 (test : Bool → Prop → Prop → Prop) (Kst : KS) (Kret : KR) (ar nr mr : Nat) (tr : Nat → Int) (vr : Nat → Int) (gr : Nat → Int) (ao no mo : Nat) (to : Nat → Bool) (cn : ByteArray) (aq nq mq : Nat) (tq : Nat → Int) (rp : Int) (fl : Int) : run test Try.env true (xT2 test) true 400 ⟨11, [.cd (mkFn Try.f11).body], argT 0 [.agg [.loose ⟨0, 3, ar, 0⟩ nr, .loose ⟨1, 1, ao, 0⟩ no], .agg [.str cn, .loose ⟨2, 1, aq, 0⟩ nq, .int .i64 rp, .int .i64 fl]], [[], [(0, (false, .cols mr [.int .i64 tr, .int .i64 vr, .int .i64 gr])), (1, (false, .cols mo [.bool to])), (2, (false, .cols mq [.int .i64 tq]))]], 3⟩ (proj 3 [] Kst Kret) =
  Te120 test Kst Kret ar nr mr tr vr gr ao no mo to cn aq nq mq tq rp fl := by kernel_rfl
theorem be120 (ar nr mr : Nat) (tr : Nat → Int) (vr : Nat → Int) (gr : Nat → Int) (ao no mo : Nat) (to : Nat → Bool) (cn : ByteArray) (aq nq mq : Nat) (tq : Nat → Int) (rp : Int) (fl : Int) (Kst : KS) (Kret : KR) (x : St120 ⊕ Rt120) (hS : HS 3 400 ((I120 ar nr mr tr vr gr ao no mo to cn aq nq mq tq rp fl)) Kst x) (hR : HR 3 400 ((V120 ar nr mr tr vr gr ao no mo to cn aq nq mq tq rp fl)) (fun r => [newL (3 + 1) ((N120 ar nr mr tr vr gr ao no mo to cn aq nq mq tq rp fl) r) ++ [(0, (false, .cols mr [.int .i64 tr, .int .i64 vr, .int .i64 gr])), (1, (false, .cols mo [.bool to])), (2, (false, .cols mq [.int .i64 tq]))]]) Kret x) (h : (bif (decide (ar + nr ≤ mr ∧ nr ≤ 1000000))
 then (bif (S.magE nr (fun j => tr (j + ar)) (fun j => vr (j + ar)) (fun j => gr (j + ar)) no !=
 (0 : Int))
 then (some (.inr (false, S.magE nr (fun j => tr (j + ar)) (fun j => vr (j + ar)) (fun j => gr (j + ar)) no)))
 else (bif (decide (aq + nq ≤ mq ∧ nq ≤ 1000000))
 then (bif (S.cyE cn nq (fun j => tq (j + aq)) rp fl != (0 : Int))
 then (some (.inr (false, S.cyE cn nq (fun j => tq (j + aq)) rp fl)))
 else (bif (decide (aq + nq ≤ mq ∧ nq ≤ 20 ∧ (0 : Int) ≤ rp ∧ rp ≤ (9 : Int)))
 then (bif (decide
 (ar + nr ≤ mr ∧
 nr ≤ 1000000 ∧
 ao + no ≤ mo ∧
 no ≤ 1000000 ∧
 0 + List.length (S.stpL nq (fun j => tq (j + aq)) rp fl) ≤
 List.length (S.stpL nq (fun j => tq (j + aq)) rp fl) ∧
 List.length (S.stpL nq (fun j => tq (j + aq)) rp fl) ≤ 1000000))
 then (bif (Prod.fst
 (S.erS nr (fun j => tr (j + ar)) (fun j => vr (j + ar)) (fun j => gr (j + ar)) no
 (List.length (S.stpL nq (fun j => tq (j + aq)) rp fl)) fun j =>
 S.at' (S.stpL nq (fun j => tq (j + aq)) rp fl) j))
 then (some (.inr (true, Prod.snd
 (S.erS nr (fun j => tr (j + ar)) (fun j => vr (j + ar)) (fun j => gr (j + ar)) no
 (List.length (S.stpL nq (fun j => tq (j + aq)) rp fl)) fun j =>
 S.at' (S.stpL nq (fun j => tq (j + aq)) rp fl) j))))
 else (some (.inr (false, Prod.snd
 (S.erS nr (fun j => tr (j + ar)) (fun j => vr (j + ar)) (fun j => gr (j + ar)) no
 (List.length (S.stpL nq (fun j => tq (j + aq)) rp fl)) fun j =>
 S.at' (S.stpL nq (fun j => tq (j + aq)) rp fl) j)))))
 else (none))
 else (none)))
 else (none)))
 else (none) : Option (St120 ⊕ Rt120)) = some x) : Te120 cond Kst Kret ar nr mr tr vr gr ao no mo to cn aq nq mq tq rp fl := by
  unfold Te120
  exact bif_split h
   (fun c0 h => bif_split h
   (fun c1 h => cond_yes c1 (ret_at hR _ h (fun n => n) rfl rfl rfl (rn_tup ⟨(rn_bool_tf rfl), (rn_int rfl), trivial⟩) rfl (entl_bor (use_lo rfl) rfl rfl (entl_bor (use_lo rfl) rfl rfl (entl_bor (use_lo rfl) rfl rfl entl_nil)))))
   (fun c1 h => bif_split h
   (fun c2 h => bif_split h
   (fun c3 h => ret_at hR _ h (fun n => n) rfl rfl rfl (rn_tup ⟨(rn_bool_tf rfl), (rn_int rfl), trivial⟩) rfl (entl_bor (use_lo rfl) rfl rfl (entl_bor (use_lo rfl) rfl rfl (entl_bor (use_lo rfl) rfl rfl entl_nil))))
   (fun c3 h => bif_split h
   (fun c4 h => bif_split h
   (fun c5 h => bif_split h
   (fun c6 h => ret_at hR _ h (fun n => n) rfl rfl rfl (rn_tup ⟨(rn_bool_tf rfl), (rn_int rfl), trivial⟩) rfl (entl_bor (use_lo rfl) rfl rfl (entl_bor (use_lo rfl) rfl rfl (entl_bor (use_lo rfl) rfl rfl entl_nil))))
   (fun c6 h => ret_at hR _ h (fun n => n) rfl rfl rfl (rn_tup ⟨(rn_bool_tf rfl), (rn_int rfl), trivial⟩) rfl (entl_bor (use_lo rfl) rfl rfl (entl_bor (use_lo rfl) rfl rfl (entl_bor (use_lo rfl) rfl rfl entl_nil)))))
   (fun c5 h => no_some h))
   (fun c4 h => no_some h)))
   (fun c2 h => no_some h)))
   (fun c0 h => no_some h)
theorem a120 (ar nr mr : Nat) (tr : Nat → Int) (vr : Nat → Int) (gr : Nat → Int) (ao no mo : Nat) (to : Nat → Bool) (cn : ByteArray) (aq nq mq : Nat) (tq : Nat → Int) (rp : Int) (fl : Int) {r : Rt120} (h : Goes ((q120 ar nr mr tr vr gr ao no mo to cn aq nq mq tq rp fl)) ((p120 ar nr mr tr vr gr ao no mo to cn aq nq mq tq rp fl)) r) : CallR Try.prog 11 [.agg [.loose ⟨0, 3, ar, 0⟩ nr, .loose ⟨1, 1, ao, 0⟩ no], .agg [.str cn, .loose ⟨2, 1, aq, 0⟩ nq, .int .i64 rp, .int .i64 fl]] [[(0, (false, .cols mr [.int .i64 tr, .int .i64 vr, .int .i64 gr])), (1, (false, .cols mo [.bool to])), (2, (false, .cols mq [.int .i64 tq]))]] 3 ((V120 ar nr mr tr vr gr ao no mo to cn aq nq mq tq rp fl) r) ((fun r => [newL (3 + 1) ((N120 ar nr mr tr vr gr ao no mo to cn aq nq mq tq rp fl) r) ++ [(0, (false, .cols mr [.int .i64 tr, .int .i64 vr, .int .i64 gr])), (1, (false, .cols mo [.bool to])), (2, (false, .cols mq [.int .i64 tq]))]]) r) 400 ∧ ∃ F, Try.prog.funcs[11]? = some F ∧ F.body.isSome = true ∧ (F.name == "runtime.NumGoroutine") = false := by
  refine dec_calls (f := 11) (lo := 3) (hi := 400) (H := [[(0, (false, .cols mr [.int .i64 tr, .int .i64 vr, .int .i64 gr])), (1, (false, .cols mo [.bool to])), (2, (false, .cols mq [.int .i64 tq]))]]) (args := [.agg [.loose ⟨0, 3, ar, 0⟩ nr, .loose ⟨1, 1, ao, 0⟩ no], .agg [.str cn, .loose ⟨2, 1, aq, 0⟩ nq, .int .i64 rp, .int .i64 fl]]) Try.envOk Try.mixed xT2_ok ((I120 ar nr mr tr vr gr ao no mo to cn aq nq mq tq rp fl)) ((V120 ar nr mr tr vr gr ao no mo to cn aq nq mq tq rp fl)) (fun r => [newL (3 + 1) ((N120 ar nr mr tr vr gr ao no mo to cn aq nq mq tq rp fl) r) ++ [(0, (false, .cols mr [.int .i64 tr, .int .i64 vr, .int .i64 gr])), (1, (false, .cols mo [.bool to])), (2, (false, .cols mq [.int .i64 tq]))]]) (fn := mkFn Try.f11) (ts := []) (n := 400) rfl (by decide) (by simp) (names_of rfl) ?_ ?_ ?_ h
  · intro s; exact s.elim
  · intro Kst Kret x hS hR h
    exact Holds.eq (te120 cond Kst Kret ar nr mr tr vr gr ao no mo to cn aq nq mq tq rp fl) (be120 ar nr mr tr vr gr ao no mo to cn aq nq mq tq rp fl Kst Kret x hS hR h)
  · intro Kst Kret x hS hR s h; exact s.elim
noncomputable def k120 : Con := ⟨11, [.agg [.list [.int .i64, .int .i64, .int .i64], .list [.bool]], .agg [.plain (.str), .list [.int .i64], .plain (.int .i64), .plain (.int .i64)]], fun (x : ((Nat × Nat × Nat × (Nat → Int) × (Nat → Int) × (Nat → Int) × Unit) × (Nat × Nat × Nat × (Nat → Bool) × Unit) × Unit) × (ByteArray × (Nat × Nat × Nat × (Nat → Int) × Unit) × Int × Int × Unit) × Unit) => (fun (ar nr mr : Nat) (tr : Nat → Int) (vr : Nat → Int) (gr : Nat → Int) (ao no mo : Nat) (to : Nat → Bool) (cn : ByteArray) (aq nq mq : Nat) (tq : Nat → Int) (rp : Int) (fl : Int) => decide ((ar + nr ≤ mr ∧ nr ≤ 1000000) ∧ (ao + no ≤ mo ∧ no ≤ 1000000) ∧ (aq + nq ≤ mq ∧ nq ≤ 1000000))) x.1.1.1 x.1.1.2.1 x.1.1.2.2.1 x.1.1.2.2.2.1 x.1.1.2.2.2.2.1 x.1.1.2.2.2.2.2.1 x.1.2.1.1 x.1.2.1.2.1 x.1.2.1.2.2.1 x.1.2.1.2.2.2.1 x.2.1.1 x.2.1.2.1.1 x.2.1.2.1.2.1 x.2.1.2.1.2.2.1 x.2.1.2.1.2.2.2.1 x.2.1.2.2.1 x.2.1.2.2.2.1, fun (x : ((Nat × Nat × Nat × (Nat → Int) × (Nat → Int) × (Nat → Int) × Unit) × (Nat × Nat × Nat × (Nat → Bool) × Unit) × Unit) × (ByteArray × (Nat × Nat × Nat × (Nat → Int) × Unit) × Int × Int × Unit) × Unit) => (fun (ar nr mr : Nat) (tr : Nat → Int) (vr : Nat → Int) (gr : Nat → Int) (ao no mo : Nat) (to : Nat → Bool) (cn : ByteArray) (aq nq mq : Nat) (tq : Nat → Int) (rp : Int) (fl : Int) => (V120 ar nr mr tr vr gr ao no mo to cn aq nq mq tq rp fl) (S.suiS (S.botE (S.magE nr (fun j => tr (j + ar)) (fun j => vr (j + ar)) (fun j => gr (j + ar)) no) (S.cyE cn nq (fun j => tq (j + aq)) rp fl)) (S.erB (fun j => tr (j + ar)) (fun j => vr (j + ar)) (S.stpL nq (fun j => tq (j + aq)) rp fl).length (fun j => S.at' (S.stpL nq (fun j => tq (j + aq)) rp fl) j) 0 nr))) x.1.1.1 x.1.1.2.1 x.1.1.2.2.1 x.1.1.2.2.2.1 x.1.1.2.2.2.2.1 x.1.1.2.2.2.2.2.1 x.1.2.1.1 x.1.2.1.2.1 x.1.2.1.2.2.1 x.1.2.1.2.2.2.1 x.2.1.1 x.2.1.2.1.1 x.2.1.2.1.2.1 x.2.1.2.1.2.2.1 x.2.1.2.1.2.2.2.1 x.2.1.2.2.1 x.2.1.2.2.2.1, fun (x : ((Nat × Nat × Nat × (Nat → Int) × (Nat → Int) × (Nat → Int) × Unit) × (Nat × Nat × Nat × (Nat → Bool) × Unit) × Unit) × (ByteArray × (Nat × Nat × Nat × (Nat → Int) × Unit) × Int × Int × Unit) × Unit) => (fun (ar nr mr : Nat) (tr : Nat → Int) (vr : Nat → Int) (gr : Nat → Int) (ao no mo : Nat) (to : Nat → Bool) (cn : ByteArray) (aq nq mq : Nat) (tq : Nat → Int) (rp : Int) (fl : Int) => (N120 ar nr mr tr vr gr ao no mo to cn aq nq mq tq rp fl) (S.suiS (S.botE (S.magE nr (fun j => tr (j + ar)) (fun j => vr (j + ar)) (fun j => gr (j + ar)) no) (S.cyE cn nq (fun j => tq (j + aq)) rp fl)) (S.erB (fun j => tr (j + ar)) (fun j => vr (j + ar)) (S.stpL nq (fun j => tq (j + aq)) rp fl).length (fun j => S.at' (S.stpL nq (fun j => tq (j + aq)) rp fl) j) 0 nr))) x.1.1.1 x.1.1.2.1 x.1.1.2.2.1 x.1.1.2.2.2.1 x.1.1.2.2.2.2.1 x.1.1.2.2.2.2.2.1 x.1.2.1.1 x.1.2.1.2.1 x.1.2.1.2.2.1 x.1.2.1.2.2.2.1 x.2.1.1 x.2.1.2.1.1 x.2.1.2.1.2.1 x.2.1.2.1.2.2.1 x.2.1.2.1.2.2.2.1 x.2.1.2.2.1 x.2.1.2.2.2.1, fun _ _ => .dead⟩
theorem s120 (ar nr mr : Nat) (tr : Nat → Int) (vr : Nat → Int) (gr : Nat → Int) (ao no mo : Nat) (to : Nat → Bool) (cn : ByteArray) (aq nq mq : Nat) (tq : Nat → Int) (rp : Int) (fl : Int) (hp : (ar + nr ≤ mr ∧ nr ≤ 1000000) ∧ (ao + no ≤ mo ∧ no ≤ 1000000) ∧ (aq + nq ≤ mq ∧ nq ≤ 1000000)) : Goes ((q120 ar nr mr tr vr gr ao no mo to cn aq nq mq tq rp fl)) ((p120 ar nr mr tr vr gr ao no mo to cn aq nq mq tq rp fl)) (S.suiS (S.botE (S.magE nr (fun j => tr (j + ar)) (fun j => vr (j + ar)) (fun j => gr (j + ar)) no) (S.cyE cn nq (fun j => tq (j + aq)) rp fl)) (S.erB (fun j => tr (j + ar)) (fun j => vr (j + ar)) (S.stpL nq (fun j => tq (j + aq)) rp fl).length (fun j => S.at' (S.stpL nq (fun j => tq (j + aq)) rp fl) j) 0 nr)) := by
  obtain ⟨⟨hp1, hp2⟩, ⟨hp5, hp6⟩, hp3, hp4⟩ := hp
  have hc : (S.cyE cn nq (fun j => tq (j + aq)) rp fl) = 0 → (nq ≤ 20 ∧ 0 ≤ rp ∧ rp ≤ 9) ∧ (S.stpL nq (fun j => tq (j + aq)) rp fl).length ≤ 181 := fun h => by have := cy_ok h; have := stp_in h; omega
  unfold S.suiS S.botE
  by_cases hm : (S.magE nr (fun j => tr (j + ar)) (fun j => vr (j + ar)) (fun j => gr (j + ar)) no) = 0
  · by_cases hy : (S.cyE cn nq (fun j => tq (j + aq)) rp fl) = 0
    · have hst := stp_in hy
      have he : S.erS nr (fun j => tr (j + ar)) (fun j => vr (j + ar)) (fun j => gr (j + ar)) no (S.stpL nq (fun j => tq (j + aq)) rp fl).length (fun j => S.at' (S.stpL nq (fun j => tq (j + aq)) rp fl) j) = (S.erB (fun j => tr (j + ar)) (fun j => vr (j + ar)) (S.stpL nq (fun j => tq (j + aq)) rp fl).length (fun j => S.at' (S.stpL nq (fun j => tq (j + aq)) rp fl) j) 0 nr, 0) := er_in hm (by omega) hst.2.2
      have hc := hc hy
      rw [if_pos hm, if_pos hy]
      unfold p120
      simp only [hm, hy, he]
      clear he
      generalize S.erB (fun j => tr (j + ar)) (fun j => vr (j + ar)) (S.stpL nq (fun j => tq (j + aq)) rp fl).length (fun j => S.at' (S.stpL nq (fun j => tq (j + aq)) rp fl) j) 0 nr = A at *
      generalize (S.stpL nq (fun j => tq (j + aq)) rp fl) = L at *
      cases A
      all_goals
       show Goes _ _ _
       repeat' first
        | with_reducible refine goes_if (fun h => ?_) (fun h => ?_) <;> (try simp only [lim64, imp_false, decide_eq_true_eq, decide_eq_false_iff_not, Int.toNat_natCast, toNat_pred, toNat_succ, Option.getD_some, Option.getD_none, Bool.not_eq_true', Bool.not_eq_false', Bool.and_eq_true, Bool.or_eq_true, Bool.and_eq_false_iff, Bool.or_eq_false_iff, bne_iff_ne, beq_iff_eq, bne_eq_false_iff_eq, beq_eq_false_iff_ne, ne_eq, not_and, Int.not_le, Int.not_lt, ge_iff_le, gt_iff_lt, Nat.not_lt, Nat.not_le, Bool.not_eq_true, Bool.not_eq_false, Bool.true_eq_false, Bool.false_eq_true, not_false_eq_true, not_true_eq_false] at h)
        | exact goes_none.mpr (by omega)
       all_goals first | (exfalso; omega) | exact goes_inr.mpr rfl | (exfalso; simp_all; done)
    · rw [if_pos hm, if_neg hy]
      unfold p120
      simp only [hm]
      generalize (S.cyE cn nq (fun j => tq (j + aq)) rp fl) = e at *
      show Goes _ _ _
      repeat' first
        | with_reducible refine goes_if (fun h => ?_) (fun h => ?_) <;> (try simp only [lim64, imp_false, decide_eq_true_eq, decide_eq_false_iff_not, Int.toNat_natCast, toNat_pred, toNat_succ, Option.getD_some, Option.getD_none, Bool.not_eq_true', Bool.not_eq_false', Bool.and_eq_true, Bool.or_eq_true, Bool.and_eq_false_iff, Bool.or_eq_false_iff, bne_iff_ne, beq_iff_eq, bne_eq_false_iff_eq, beq_eq_false_iff_ne, ne_eq, not_and, Int.not_le, Int.not_lt, ge_iff_le, gt_iff_lt, Nat.not_lt, Nat.not_le, Bool.not_eq_true, Bool.not_eq_false, Bool.true_eq_false, Bool.false_eq_true, not_false_eq_true, not_true_eq_false] at h)
        | exact goes_none.mpr (by omega)
      all_goals first | (exfalso; omega) | exact goes_inr.mpr rfl | (exfalso; simp_all; done)
  · rw [if_neg hm, if_neg hm]
    unfold p120
    generalize (S.magE nr (fun j => tr (j + ar)) (fun j => vr (j + ar)) (fun j => gr (j + ar)) no) = e at *
    show Goes _ _ _
    repeat' first
      | with_reducible refine goes_if (fun h => ?_) (fun h => ?_) <;> (try simp only [lim64, imp_false, decide_eq_true_eq, decide_eq_false_iff_not, Int.toNat_natCast, toNat_pred, toNat_succ, Option.getD_some, Option.getD_none, Bool.not_eq_true', Bool.not_eq_false', Bool.and_eq_true, Bool.or_eq_true, Bool.and_eq_false_iff, Bool.or_eq_false_iff, bne_iff_ne, beq_iff_eq, bne_eq_false_iff_eq, beq_eq_false_iff_ne, ne_eq, not_and, Int.not_le, Int.not_lt, ge_iff_le, gt_iff_lt, Nat.not_lt, Nat.not_le, Bool.not_eq_true, Bool.not_eq_false, Bool.true_eq_false, Bool.false_eq_true, not_false_eq_true, not_true_eq_false] at h)
      | exact goes_none.mpr (by omega)
    all_goals first | (exfalso; omega) | exact goes_inr.mpr rfl | (exfalso; simp_all; done)
theorem k120_ok : k120.ok Try.prog := by
  intro x hx
  obtain ⟨⟨⟨ar, nr, mr, tr, vr, gr, _⟩, ⟨ao, no, mo, to, _⟩, _⟩, ⟨cn, ⟨aq, nq, mq, tq, _⟩, rp, fl, _⟩, _⟩ := x
  obtain ⟨h1, h2⟩ := a120 ar nr mr tr vr gr ao no mo to cn aq nq mq tq rp fl (s120 ar nr mr tr vr gr ao no mo to cn aq nq mq tq rp fl (of_dec hx rfl))
  exact ⟨⟨400, (by decide : 3 + 1 + 0 ≤ 400), h1⟩, h2⟩
noncomputable def xFA (test : Bool → Prop → Prop → Prop) : Ext := consX test [k142, k149, k120, k135, k24, k17]
theorem xFA_ok : ExtOk Try.prog (xFA cond) := consX_ok ⟨k142_ok, k149_ok, k120_ok, k135_ok, k24_ok, k17_ok, trivial⟩
namespace S
def faS (e s : Int) (er : Bool) (x : Int) : Int × Int := if e = 0 then (if s = 0 then (if er = true then (x, 0) else (0, 8)) else (0, s)) else (0, e)
def fldH (n : Nat) (u d w : Nat → Int) (o : Nat → Bool) (nl : Nat) (t : Nat → Int) : Int := fldN w (fun j => aftN (u j) (d j) t (o j) nl) n
end S
theorem fldN_congr {w w' : Nat → Int} {o o' : Nat → Bool} : ∀ {n : Nat}, (∀ j, j < n → w j = w' j ∧ o j = o' j) → S.fldN w o n = S.fldN w' o' n
  | 0, _ => rfl
  | n + 1, h => by
    obtain ⟨h1, h2⟩ := h n (by omega)
    simp only [S.fldN]
    rw [h1, h2, fldN_congr fun j hj => h j (by omega)]
theorem hist_in {n no nl : Nat} {u d w t : Nat → Int} {o : Nat → Bool} (h : S.magE n u d w no = 0) (h1 : nl ≤ 1000) (h2 : ∀ j, j < nl → -1099511627776 ≤ t j ∧ t j ≤ 1099511627776) : S.histS n u d w no o nl t = (0, S.mkl n fun j => (u j, d j, w j), S.mkl no fun j => S.aftN (u j) (d j) t (o j) nl) := by
  have hh : S.histE n u d w no nl t = 0 := by
    unfold S.histE
    rw [if_pos h, if_neg (by omega)]
    have : ∀ k i, i + k = nl → S.inE t i k = 0 := by
      intro k
      induction k with
      | zero => intro i _; rfl
      | succ k ih => intro i hi; simp only [S.inE]; rw [if_pos (h2 i (by omega))]; exact ih (i + 1) (by omega)
    exact this nl 0 (Nat.zero_add _)
  unfold S.histS
  rw [if_pos hh]
theorem field_in {n no nl : Nat} {u d w t : Nat → Int} {o : Nat → Bool} (h : S.magE n u d w no = 0) : S.fieldS n (fun j => (S.at' (S.mkl n fun j => (u j, d j, w j)) j).1) (fun j => (S.at' (S.mkl n fun j => (u j, d j, w j)) j).2.1) (fun j => (S.at' (S.mkl n fun j => (u j, d j, w j)) j).2.2) no (fun j => S.at' (S.mkl no fun j => S.aftN (u j) (d j) t (o j) nl) j) = (S.fldH n u d w o nl t, 0) := by
  obtain ⟨v1, v2, v3, v4⟩ := mag_ok h
  unfold S.fieldS
  rw [mag_congr (u' := u) (d' := d) (w' := w) (fun j hj => by rw [at_mkl hj]; exact ⟨rfl, rfl, rfl⟩), if_pos h]
  unfold S.fldH
  rw [fldN_congr (w' := w) (o' := fun j => S.aftN (u j) (d j) t (o j) nl) fun j hj => by rw [at_mkl hj, at_mkl (by omega)]; exact ⟨rfl, rfl⟩]
abbrev St129 := Empty
abbrev Rt129 := Int × Int
noncomputable def V129 (ar nr mr : Nat) (tr : Nat → Int) (vr : Nat → Int) (gr : Nat → Int) (ao no mo : Nat) (to : Nat → Bool) (cn : ByteArray) (aq nq mq : Nat) (tq : Nat → Int) (rp : Int) (fl : Int) (al nl ml : Nat) (tl : Nat → Int) (r : Rt129) : PV := PV.tup [PV.int IntKind.i64 r.1, PV.int IntKind.i64 r.2]
noncomputable def N129 (ar nr mr : Nat) (tr : Nat → Int) (vr : Nat → Int) (gr : Nat → Int) (ao no mo : Nat) (to : Nat → Bool) (cn : ByteArray) (aq nq mq : Nat) (tq : Nat → Int) (rp : Int) (fl : Int) (al nl ml : Nat) (tl : Nat → Int) (r : Rt129) : List Blk := []
noncomputable def I129 (ar nr mr : Nat) (tr : Nat → Int) (vr : Nat → Int) (gr : Nat → Int) (ao no mo : Nat) (to : Nat → Bool) (cn : ByteArray) (aq nq mq : Nat) (tq : Nat → Int) (rp : Int) (fl : Int) (al nl ml : Nat) (tl : Nat → Int) : St129 → Hd := fun s => s.elim
noncomputable def q129 (ar nr mr : Nat) (tr : Nat → Int) (vr : Nat → Int) (gr : Nat → Int) (ao no mo : Nat) (to : Nat → Bool) (cn : ByteArray) (aq nq mq : Nat) (tq : Nat → Int) (rp : Int) (fl : Int) (al nl ml : Nat) (tl : Nat → Int) : St129 → Option (St129 ⊕ Rt129) := fun s => s.elim
noncomputable def p129 (ar nr mr : Nat) (tr : Nat → Int) (vr : Nat → Int) (gr : Nat → Int) (ao no mo : Nat) (to : Nat → Bool) (cn : ByteArray) (aq nq mq : Nat) (tq : Nat → Int) (rp : Int) (fl : Int) (al nl ml : Nat) (tl : Nat → Int) : Option (St129 ⊕ Rt129) := bif (decide ((ar + nr ≤ mr ∧ nr ≤ 1000000) ∧ aq + nq ≤ mq ∧ nq ≤ 1000000))
 then (bif (S.botE
 (S.magE nr (fun j => tr (j + ar)) (fun j => vr (j + ar)) (fun j => gr (j + ar)) no)
 (S.cyE cn nq (fun j => tq (j + aq)) rp fl) !=
 (0 : Int))
 then (some (.inr ((0 : Int), S.botE
 (S.magE nr (fun j => tr (j + ar)) (fun j => vr (j + ar)) (fun j => gr (j + ar)) no)
 (S.cyE cn nq (fun j => tq (j + aq)) rp fl))))
 else (bif (decide (al + nl ≤ ml ∧ nl ≤ 1000000))
 then (bif ((S.setE nl fun j => tl (j + al)) != (0 : Int))
 then (some (.inr ((0 : Int), S.setE nl fun j => tl (j + al))))
 else (bif (decide
 ((ar + nr ≤ mr ∧ nr ≤ 1000000) ∧ (ao + no ≤ mo ∧ no ≤ 1000000) ∧ aq + nq ≤ mq ∧ nq ≤ 1000000))
 then (bif (Prod.fst
 (S.suiS
 (S.botE
 (S.magE nr (fun j => tr (j + ar)) (fun j => vr (j + ar)) (fun j => gr (j + ar)) no)
 (S.cyE cn nq (fun j => tq (j + aq)) rp fl))
 (S.erB (fun j => tr (j + ar)) (fun j => vr (j + ar))
 (List.length (S.stpL nq (fun j => tq (j + aq)) rp fl))
 (fun j => S.at' (S.stpL nq (fun j => tq (j + aq)) rp fl) j) (0) nr)))
 then (bif (Prod.snd
 (S.suiS
 (S.botE
 (S.magE nr (fun j => tr (j + ar)) (fun j => vr (j + ar)) (fun j => gr (j + ar))
 no)
 (S.cyE cn nq (fun j => tq (j + aq)) rp fl))
 (S.erB (fun j => tr (j + ar)) (fun j => vr (j + ar))
 (List.length (S.stpL nq (fun j => tq (j + aq)) rp fl))
 (fun j => S.at' (S.stpL nq (fun j => tq (j + aq)) rp fl) j) (0) nr)) !=
 (0 : Int))
 then (some (.inr ((0 : Int), Prod.snd
 (S.suiS
 (S.botE
 (S.magE nr (fun j => tr (j + ar)) (fun j => vr (j + ar)) (fun j => gr (j + ar)) no)
 (S.cyE cn nq (fun j => tq (j + aq)) rp fl))
 (S.erB (fun j => tr (j + ar)) (fun j => vr (j + ar))
 (List.length (S.stpL nq (fun j => tq (j + aq)) rp fl))
 (fun j => S.at' (S.stpL nq (fun j => tq (j + aq)) rp fl) j) (0) nr)))))
 else (bif (decide (aq + nq ≤ mq ∧ nq ≤ 20 ∧ (0 : Int) ≤ rp ∧ rp ≤ (9 : Int)))
 then (bif (decide (List.length (S.stpL nq (fun j => tq (j + aq)) rp fl) + nl ≤ 1000000))
 then (bif (decide
 (List.length (S.stpL nq (fun j => tq (j + aq)) rp fl) ≤
 List.length (S.stpL nq (fun j => tq (j + aq)) rp fl)))
 then (bif (decide (al + nl ≤ ml))
 then (bif (decide
 (ar + nr ≤ mr ∧
 nr ≤ 1000000 ∧
 ao + no ≤ mo ∧
 no ≤ 1000000 ∧
 0 + (List.length (S.stpL nq (fun j => tq (j + aq)) rp fl) + nl) ≤
 List.length (S.stpL nq (fun j => tq (j + aq)) rp fl) + nl ∧
 List.length (S.stpL nq (fun j => tq (j + aq)) rp fl) + nl ≤ 1000000))
 then (bif (Prod.fst
 (S.histS nr (fun j => tr (j + ar)) (fun j => vr (j + ar)) (fun j => gr (j + ar)) no
 (fun j => to (j + ao)) (List.length (S.stpL nq (fun j => tq (j + aq)) rp fl) + nl)
 fun j =>
 bif Nat.blt j (List.length (S.stpL nq (fun j => tq (j + aq)) rp fl)) then
 S.at' (S.stpL nq (fun j => tq (j + aq)) rp fl) j
 else tl (j - List.length (S.stpL nq (fun j => tq (j + aq)) rp fl) + al)) !=
 (0 : Int))
 then (some (.inr ((0 : Int), Prod.fst
 (S.histS nr (fun j => tr (j + ar)) (fun j => vr (j + ar)) (fun j => gr (j + ar)) no
 (fun j => to (j + ao)) (List.length (S.stpL nq (fun j => tq (j + aq)) rp fl) + nl)
 fun j =>
 bif Nat.blt j (List.length (S.stpL nq (fun j => tq (j + aq)) rp fl)) then
 S.at' (S.stpL nq (fun j => tq (j + aq)) rp fl) j
 else tl (j - List.length (S.stpL nq (fun j => tq (j + aq)) rp fl) + al)))))
 else (bif (decide
 (0 +
 List.length
 (Prod.fst
 (Prod.snd
 (S.histS nr (fun j => tr (j + ar)) (fun j => vr (j + ar))
 (fun j => gr (j + ar)) no (fun j => to (j + ao))
 (List.length (S.stpL nq (fun j => tq (j + aq)) rp fl) + nl) fun j =>
 bif Nat.blt j (List.length (S.stpL nq (fun j => tq (j + aq)) rp fl)) then
 S.at' (S.stpL nq (fun j => tq (j + aq)) rp fl) j
 else tl (j - List.length (S.stpL nq (fun j => tq (j + aq)) rp fl) + al)))) ≤
 List.length
 (Prod.fst
 (Prod.snd
 (S.histS nr (fun j => tr (j + ar)) (fun j => vr (j + ar))
 (fun j => gr (j + ar)) no (fun j => to (j + ao))
 (List.length (S.stpL nq (fun j => tq (j + aq)) rp fl) + nl) fun j =>
 bif Nat.blt j (List.length (S.stpL nq (fun j => tq (j + aq)) rp fl)) then
 S.at' (S.stpL nq (fun j => tq (j + aq)) rp fl) j
 else tl (j - List.length (S.stpL nq (fun j => tq (j + aq)) rp fl) + al)))) ∧
 List.length
 (Prod.fst
 (Prod.snd
 (S.histS nr (fun j => tr (j + ar)) (fun j => vr (j + ar))
 (fun j => gr (j + ar)) no (fun j => to (j + ao))
 (List.length (S.stpL nq (fun j => tq (j + aq)) rp fl) + nl) fun j =>
 bif Nat.blt j (List.length (S.stpL nq (fun j => tq (j + aq)) rp fl)) then
 S.at' (S.stpL nq (fun j => tq (j + aq)) rp fl) j
 else tl (j - List.length (S.stpL nq (fun j => tq (j + aq)) rp fl) + al)))) ≤
 1000000 ∧
 0 +
 List.length
 (Prod.snd
 (Prod.snd
 (S.histS nr (fun j => tr (j + ar)) (fun j => vr (j + ar))
 (fun j => gr (j + ar)) no (fun j => to (j + ao))
 (List.length (S.stpL nq (fun j => tq (j + aq)) rp fl) + nl) fun j =>
 bif Nat.blt j (List.length (S.stpL nq (fun j => tq (j + aq)) rp fl)) then
 S.at' (S.stpL nq (fun j => tq (j + aq)) rp fl) j
 else tl (j - List.length (S.stpL nq (fun j => tq (j + aq)) rp fl) + al)))) ≤
 List.length
 (Prod.snd
 (Prod.snd
 (S.histS nr (fun j => tr (j + ar)) (fun j => vr (j + ar))
 (fun j => gr (j + ar)) no (fun j => to (j + ao))
 (List.length (S.stpL nq (fun j => tq (j + aq)) rp fl) + nl) fun j =>
 bif Nat.blt j (List.length (S.stpL nq (fun j => tq (j + aq)) rp fl)) then
 S.at' (S.stpL nq (fun j => tq (j + aq)) rp fl) j
 else tl (j - List.length (S.stpL nq (fun j => tq (j + aq)) rp fl) + al)))) ∧
 List.length
 (Prod.snd
 (Prod.snd
 (S.histS nr (fun j => tr (j + ar)) (fun j => vr (j + ar))
 (fun j => gr (j + ar)) no (fun j => to (j + ao))
 (List.length (S.stpL nq (fun j => tq (j + aq)) rp fl) + nl) fun j =>
 bif Nat.blt j (List.length (S.stpL nq (fun j => tq (j + aq)) rp fl)) then
 S.at' (S.stpL nq (fun j => tq (j + aq)) rp fl) j
 else tl (j - List.length (S.stpL nq (fun j => tq (j + aq)) rp fl) + al)))) ≤
 1000000))
 then (some (.inr (Prod.fst
 (S.fieldS
 (List.length
 (Prod.fst
 (Prod.snd
 (S.histS nr (fun j => tr (j + ar)) (fun j => vr (j + ar)) (fun j => gr (j + ar))
 no (fun j => to (j + ao)) (List.length (S.stpL nq (fun j => tq (j + aq)) rp fl) + nl)
 fun j =>
 bif Nat.blt j (List.length (S.stpL nq (fun j => tq (j + aq)) rp fl)) then
 S.at' (S.stpL nq (fun j => tq (j + aq)) rp fl) j
 else tl (j - List.length (S.stpL nq (fun j => tq (j + aq)) rp fl) + al)))))
 (fun j =>
 Prod.fst
 (S.at'
 (Prod.fst
 (Prod.snd
 (S.histS nr (fun j => tr (j + ar)) (fun j => vr (j + ar))
 (fun j => gr (j + ar)) no (fun j => to (j + ao))
 (List.length (S.stpL nq (fun j => tq (j + aq)) rp fl) + nl) fun j =>
 bif Nat.blt j (List.length (S.stpL nq (fun j => tq (j + aq)) rp fl)) then
 S.at' (S.stpL nq (fun j => tq (j + aq)) rp fl) j
 else tl (j - List.length (S.stpL nq (fun j => tq (j + aq)) rp fl) + al))))
 j))
 (fun j =>
 Prod.fst
 (Prod.snd
 (S.at'
 (Prod.fst
 (Prod.snd
 (S.histS nr (fun j => tr (j + ar)) (fun j => vr (j + ar))
 (fun j => gr (j + ar)) no (fun j => to (j + ao))
 (List.length (S.stpL nq (fun j => tq (j + aq)) rp fl) + nl) fun j =>
 bif Nat.blt j (List.length (S.stpL nq (fun j => tq (j + aq)) rp fl)) then
 S.at' (S.stpL nq (fun j => tq (j + aq)) rp fl) j
 else tl (j - List.length (S.stpL nq (fun j => tq (j + aq)) rp fl) + al))))
 j)))
 (fun j =>
 Prod.snd
 (Prod.snd
 (S.at'
 (Prod.fst
 (Prod.snd
 (S.histS nr (fun j => tr (j + ar)) (fun j => vr (j + ar))
 (fun j => gr (j + ar)) no (fun j => to (j + ao))
 (List.length (S.stpL nq (fun j => tq (j + aq)) rp fl) + nl) fun j =>
 bif Nat.blt j (List.length (S.stpL nq (fun j => tq (j + aq)) rp fl)) then
 S.at' (S.stpL nq (fun j => tq (j + aq)) rp fl) j
 else tl (j - List.length (S.stpL nq (fun j => tq (j + aq)) rp fl) + al))))
 j)))
 (List.length
 (Prod.snd
 (Prod.snd
 (S.histS nr (fun j => tr (j + ar)) (fun j => vr (j + ar)) (fun j => gr (j + ar))
 no (fun j => to (j + ao)) (List.length (S.stpL nq (fun j => tq (j + aq)) rp fl) + nl)
 fun j =>
 bif Nat.blt j (List.length (S.stpL nq (fun j => tq (j + aq)) rp fl)) then
 S.at' (S.stpL nq (fun j => tq (j + aq)) rp fl) j
 else tl (j - List.length (S.stpL nq (fun j => tq (j + aq)) rp fl) + al)))))
 fun j =>
 S.at'
 (Prod.snd
 (Prod.snd
 (S.histS nr (fun j => tr (j + ar)) (fun j => vr (j + ar)) (fun j => gr (j + ar))
 no (fun j => to (j + ao)) (List.length (S.stpL nq (fun j => tq (j + aq)) rp fl) + nl)
 fun j =>
 bif Nat.blt j (List.length (S.stpL nq (fun j => tq (j + aq)) rp fl)) then
 S.at' (S.stpL nq (fun j => tq (j + aq)) rp fl) j
 else tl (j - List.length (S.stpL nq (fun j => tq (j + aq)) rp fl) + al))))
 j), Prod.snd
 (S.fieldS
 (List.length
 (Prod.fst
 (Prod.snd
 (S.histS nr (fun j => tr (j + ar)) (fun j => vr (j + ar)) (fun j => gr (j + ar))
 no (fun j => to (j + ao)) (List.length (S.stpL nq (fun j => tq (j + aq)) rp fl) + nl)
 fun j =>
 bif Nat.blt j (List.length (S.stpL nq (fun j => tq (j + aq)) rp fl)) then
 S.at' (S.stpL nq (fun j => tq (j + aq)) rp fl) j
 else tl (j - List.length (S.stpL nq (fun j => tq (j + aq)) rp fl) + al)))))
 (fun j =>
 Prod.fst
 (S.at'
 (Prod.fst
 (Prod.snd
 (S.histS nr (fun j => tr (j + ar)) (fun j => vr (j + ar))
 (fun j => gr (j + ar)) no (fun j => to (j + ao))
 (List.length (S.stpL nq (fun j => tq (j + aq)) rp fl) + nl) fun j =>
 bif Nat.blt j (List.length (S.stpL nq (fun j => tq (j + aq)) rp fl)) then
 S.at' (S.stpL nq (fun j => tq (j + aq)) rp fl) j
 else tl (j - List.length (S.stpL nq (fun j => tq (j + aq)) rp fl) + al))))
 j))
 (fun j =>
 Prod.fst
 (Prod.snd
 (S.at'
 (Prod.fst
 (Prod.snd
 (S.histS nr (fun j => tr (j + ar)) (fun j => vr (j + ar))
 (fun j => gr (j + ar)) no (fun j => to (j + ao))
 (List.length (S.stpL nq (fun j => tq (j + aq)) rp fl) + nl) fun j =>
 bif Nat.blt j (List.length (S.stpL nq (fun j => tq (j + aq)) rp fl)) then
 S.at' (S.stpL nq (fun j => tq (j + aq)) rp fl) j
 else tl (j - List.length (S.stpL nq (fun j => tq (j + aq)) rp fl) + al))))
 j)))
 (fun j =>
 Prod.snd
 (Prod.snd
 (S.at'
 (Prod.fst
 (Prod.snd
 (S.histS nr (fun j => tr (j + ar)) (fun j => vr (j + ar))
 (fun j => gr (j + ar)) no (fun j => to (j + ao))
 (List.length (S.stpL nq (fun j => tq (j + aq)) rp fl) + nl) fun j =>
 bif Nat.blt j (List.length (S.stpL nq (fun j => tq (j + aq)) rp fl)) then
 S.at' (S.stpL nq (fun j => tq (j + aq)) rp fl) j
 else tl (j - List.length (S.stpL nq (fun j => tq (j + aq)) rp fl) + al))))
 j)))
 (List.length
 (Prod.snd
 (Prod.snd
 (S.histS nr (fun j => tr (j + ar)) (fun j => vr (j + ar)) (fun j => gr (j + ar))
 no (fun j => to (j + ao)) (List.length (S.stpL nq (fun j => tq (j + aq)) rp fl) + nl)
 fun j =>
 bif Nat.blt j (List.length (S.stpL nq (fun j => tq (j + aq)) rp fl)) then
 S.at' (S.stpL nq (fun j => tq (j + aq)) rp fl) j
 else tl (j - List.length (S.stpL nq (fun j => tq (j + aq)) rp fl) + al)))))
 fun j =>
 S.at'
 (Prod.snd
 (Prod.snd
 (S.histS nr (fun j => tr (j + ar)) (fun j => vr (j + ar)) (fun j => gr (j + ar))
 no (fun j => to (j + ao)) (List.length (S.stpL nq (fun j => tq (j + aq)) rp fl) + nl)
 fun j =>
 bif Nat.blt j (List.length (S.stpL nq (fun j => tq (j + aq)) rp fl)) then
 S.at' (S.stpL nq (fun j => tq (j + aq)) rp fl) j
 else tl (j - List.length (S.stpL nq (fun j => tq (j + aq)) rp fl) + al))))
 j))))
 else (none)))
 else (none))
 else (none))
 else (none))
 else (none))
 else (none)))
 else (bif (Prod.snd
 (S.suiS
 (S.botE
 (S.magE nr (fun j => tr (j + ar)) (fun j => vr (j + ar)) (fun j => gr (j + ar))
 no)
 (S.cyE cn nq (fun j => tq (j + aq)) rp fl))
 (S.erB (fun j => tr (j + ar)) (fun j => vr (j + ar))
 (List.length (S.stpL nq (fun j => tq (j + aq)) rp fl))
 (fun j => S.at' (S.stpL nq (fun j => tq (j + aq)) rp fl) j) (0) nr)) !=
 (0 : Int))
 then (some (.inr ((0 : Int), Prod.snd
 (S.suiS
 (S.botE
 (S.magE nr (fun j => tr (j + ar)) (fun j => vr (j + ar)) (fun j => gr (j + ar)) no)
 (S.cyE cn nq (fun j => tq (j + aq)) rp fl))
 (S.erB (fun j => tr (j + ar)) (fun j => vr (j + ar))
 (List.length (S.stpL nq (fun j => tq (j + aq)) rp fl))
 (fun j => S.at' (S.stpL nq (fun j => tq (j + aq)) rp fl) j) (0) nr)))))
 else (some (.inr ((0 : Int), (8 : Int))))))
 else (none)))
 else (none)))
 else (none)
noncomputable def Te129 (test : Bool → Prop → Prop → Prop) (Kst : KS) (Kret : KR) (ar nr mr : Nat) (tr : Nat → Int) (vr : Nat → Int) (gr : Nat → Int) (ao no mo : Nat) (to : Nat → Bool) (cn : ByteArray) (aq nq mq : Nat) (tq : Nat → Int) (rp : Int) (fl : Int) (al nl ml : Nat) (tl : Nat → Int) : Prop :=
  test (decide ((ar + nr ≤ mr ∧ nr ≤ 1000000) ∧ aq + nq ≤ mq ∧ nq ≤ 1000000))
 (test (S.botE
 (S.magE nr (fun j => tr (j + ar)) (fun j => vr (j + ar)) (fun j => gr (j + ar)) no)
 (S.cyE cn nq (fun j => tq (j + aq)) rp fl) !=
 (0 : Int))
 (Kret (PV.tup
 [PV.int IntKind.i64 (0 : Int),
 PV.int IntKind.i64
 (S.botE
 (S.magE nr (fun j => tr (j + ar)) (fun j => vr (j + ar)) (fun j => gr (j + ar))
 no)
 (S.cyE cn nq (fun j => tq (j + aq)) rp fl))]) ([[(3, false, Blk.cols ml [Col.int IntKind.i64 tl]),
 (2, false, Blk.cols mq [Col.int IntKind.i64 tq]),
 (1, false, Blk.cols mo [Col.bool to]),
 (0, false,
 Blk.cols mr
 [Col.int IntKind.i64 tr, Col.int IntKind.i64 vr, Col.int IntKind.i64 gr])]]) (7))
 (test (decide (al + nl ≤ ml ∧ nl ≤ 1000000))
 (test ((S.setE nl fun j => tl (j + al)) != (0 : Int))
 (Kret (PV.tup
 [PV.int IntKind.i64 (0 : Int), PV.int IntKind.i64 (S.setE nl fun j => tl (j + al))]) ([[(3, false, Blk.cols ml [Col.int IntKind.i64 tl]),
 (2, false, Blk.cols mq [Col.int IntKind.i64 tq]),
 (1, false, Blk.cols mo [Col.bool to]),
 (0, false,
 Blk.cols mr
 [Col.int IntKind.i64 tr, Col.int IntKind.i64 vr, Col.int IntKind.i64 gr])]]) (8))
 (test (decide
 ((ar + nr ≤ mr ∧ nr ≤ 1000000) ∧ (ao + no ≤ mo ∧ no ≤ 1000000) ∧ aq + nq ≤ mq ∧ nq ≤ 1000000))
 (test (Prod.fst
 (S.suiS
 (S.botE
 (S.magE nr (fun j => tr (j + ar)) (fun j => vr (j + ar)) (fun j => gr (j + ar)) no)
 (S.cyE cn nq (fun j => tq (j + aq)) rp fl))
 (S.erB (fun j => tr (j + ar)) (fun j => vr (j + ar))
 (List.length (S.stpL nq (fun j => tq (j + aq)) rp fl))
 (fun j => S.at' (S.stpL nq (fun j => tq (j + aq)) rp fl) j) (0) nr)))
 (test (Prod.snd
 (S.suiS
 (S.botE
 (S.magE nr (fun j => tr (j + ar)) (fun j => vr (j + ar)) (fun j => gr (j + ar))
 no)
 (S.cyE cn nq (fun j => tq (j + aq)) rp fl))
 (S.erB (fun j => tr (j + ar)) (fun j => vr (j + ar))
 (List.length (S.stpL nq (fun j => tq (j + aq)) rp fl))
 (fun j => S.at' (S.stpL nq (fun j => tq (j + aq)) rp fl) j) (0) nr)) !=
 (0 : Int))
 (Kret (PV.tup
 [PV.int IntKind.i64 (0 : Int),
 PV.int IntKind.i64
 (Prod.snd
 (S.suiS
 (S.botE
 (S.magE nr (fun j => tr (j + ar)) (fun j => vr (j + ar))
 (fun j => gr (j + ar)) no)
 (S.cyE cn nq (fun j => tq (j + aq)) rp fl))
 (S.erB (fun j => tr (j + ar)) (fun j => vr (j + ar))
 (List.length (S.stpL nq (fun j => tq (j + aq)) rp fl))
 (fun j => S.at' (S.stpL nq (fun j => tq (j + aq)) rp fl) j) (0) nr)))]) ([[(3, false, Blk.cols ml [Col.int IntKind.i64 tl]),
 (2, false, Blk.cols mq [Col.int IntKind.i64 tq]),
 (1, false, Blk.cols mo [Col.bool to]),
 (0, false,
 Blk.cols mr
 [Col.int IntKind.i64 tr, Col.int IntKind.i64 vr, Col.int IntKind.i64 gr])]]) (9))
 (test (decide (aq + nq ≤ mq ∧ nq ≤ 20 ∧ (0 : Int) ≤ rp ∧ rp ≤ (9 : Int)))
 (test (decide (List.length (S.stpL nq (fun j => tq (j + aq)) rp fl) + nl ≤ 1000000))
 (test (decide
 (List.length (S.stpL nq (fun j => tq (j + aq)) rp fl) ≤
 List.length (S.stpL nq (fun j => tq (j + aq)) rp fl)))
 (test (decide (al + nl ≤ ml))
 (test (decide
 (ar + nr ≤ mr ∧
 nr ≤ 1000000 ∧
 ao + no ≤ mo ∧
 no ≤ 1000000 ∧
 0 + (List.length (S.stpL nq (fun j => tq (j + aq)) rp fl) + nl) ≤
 List.length (S.stpL nq (fun j => tq (j + aq)) rp fl) + nl ∧
 List.length (S.stpL nq (fun j => tq (j + aq)) rp fl) + nl ≤ 1000000))
 (test (Prod.fst
 (S.histS nr (fun j => tr (j + ar)) (fun j => vr (j + ar)) (fun j => gr (j + ar)) no
 (fun j => to (j + ao)) (List.length (S.stpL nq (fun j => tq (j + aq)) rp fl) + nl)
 fun j =>
 bif Nat.blt j (List.length (S.stpL nq (fun j => tq (j + aq)) rp fl)) then
 S.at' (S.stpL nq (fun j => tq (j + aq)) rp fl) j
 else tl (j - List.length (S.stpL nq (fun j => tq (j + aq)) rp fl) + al)) !=
 (0 : Int))
 (Kret (PV.tup
 [PV.int IntKind.i64 (0 : Int),
 PV.int IntKind.i64
 (Prod.fst
 (S.histS nr (fun j => tr (j + ar)) (fun j => vr (j + ar)) (fun j => gr (j + ar))
 no (fun j => to (j + ao)) (List.length (S.stpL nq (fun j => tq (j + aq)) rp fl) + nl)
 fun j =>
 bif Nat.blt j (List.length (S.stpL nq (fun j => tq (j + aq)) rp fl)) then
 S.at' (S.stpL nq (fun j => tq (j + aq)) rp fl) j
 else tl (j - List.length (S.stpL nq (fun j => tq (j + aq)) rp fl) + al)))]) ([[(3, false, Blk.cols ml [Col.int IntKind.i64 tl]),
 (2, false, Blk.cols mq [Col.int IntKind.i64 tq]),
 (1, false, Blk.cols mo [Col.bool to]),
 (0, false,
 Blk.cols mr
 [Col.int IntKind.i64 tr, Col.int IntKind.i64 vr, Col.int IntKind.i64 gr])]]) (16))
 (test (decide
 (0 +
 List.length
 (Prod.fst
 (Prod.snd
 (S.histS nr (fun j => tr (j + ar)) (fun j => vr (j + ar))
 (fun j => gr (j + ar)) no (fun j => to (j + ao))
 (List.length (S.stpL nq (fun j => tq (j + aq)) rp fl) + nl) fun j =>
 bif Nat.blt j (List.length (S.stpL nq (fun j => tq (j + aq)) rp fl)) then
 S.at' (S.stpL nq (fun j => tq (j + aq)) rp fl) j
 else tl (j - List.length (S.stpL nq (fun j => tq (j + aq)) rp fl) + al)))) ≤
 List.length
 (Prod.fst
 (Prod.snd
 (S.histS nr (fun j => tr (j + ar)) (fun j => vr (j + ar))
 (fun j => gr (j + ar)) no (fun j => to (j + ao))
 (List.length (S.stpL nq (fun j => tq (j + aq)) rp fl) + nl) fun j =>
 bif Nat.blt j (List.length (S.stpL nq (fun j => tq (j + aq)) rp fl)) then
 S.at' (S.stpL nq (fun j => tq (j + aq)) rp fl) j
 else tl (j - List.length (S.stpL nq (fun j => tq (j + aq)) rp fl) + al)))) ∧
 List.length
 (Prod.fst
 (Prod.snd
 (S.histS nr (fun j => tr (j + ar)) (fun j => vr (j + ar))
 (fun j => gr (j + ar)) no (fun j => to (j + ao))
 (List.length (S.stpL nq (fun j => tq (j + aq)) rp fl) + nl) fun j =>
 bif Nat.blt j (List.length (S.stpL nq (fun j => tq (j + aq)) rp fl)) then
 S.at' (S.stpL nq (fun j => tq (j + aq)) rp fl) j
 else tl (j - List.length (S.stpL nq (fun j => tq (j + aq)) rp fl) + al)))) ≤
 1000000 ∧
 0 +
 List.length
 (Prod.snd
 (Prod.snd
 (S.histS nr (fun j => tr (j + ar)) (fun j => vr (j + ar))
 (fun j => gr (j + ar)) no (fun j => to (j + ao))
 (List.length (S.stpL nq (fun j => tq (j + aq)) rp fl) + nl) fun j =>
 bif Nat.blt j (List.length (S.stpL nq (fun j => tq (j + aq)) rp fl)) then
 S.at' (S.stpL nq (fun j => tq (j + aq)) rp fl) j
 else tl (j - List.length (S.stpL nq (fun j => tq (j + aq)) rp fl) + al)))) ≤
 List.length
 (Prod.snd
 (Prod.snd
 (S.histS nr (fun j => tr (j + ar)) (fun j => vr (j + ar))
 (fun j => gr (j + ar)) no (fun j => to (j + ao))
 (List.length (S.stpL nq (fun j => tq (j + aq)) rp fl) + nl) fun j =>
 bif Nat.blt j (List.length (S.stpL nq (fun j => tq (j + aq)) rp fl)) then
 S.at' (S.stpL nq (fun j => tq (j + aq)) rp fl) j
 else tl (j - List.length (S.stpL nq (fun j => tq (j + aq)) rp fl) + al)))) ∧
 List.length
 (Prod.snd
 (Prod.snd
 (S.histS nr (fun j => tr (j + ar)) (fun j => vr (j + ar))
 (fun j => gr (j + ar)) no (fun j => to (j + ao))
 (List.length (S.stpL nq (fun j => tq (j + aq)) rp fl) + nl) fun j =>
 bif Nat.blt j (List.length (S.stpL nq (fun j => tq (j + aq)) rp fl)) then
 S.at' (S.stpL nq (fun j => tq (j + aq)) rp fl) j
 else tl (j - List.length (S.stpL nq (fun j => tq (j + aq)) rp fl) + al)))) ≤
 1000000))
 (Kret (PV.tup
 [PV.int IntKind.i64
 (Prod.fst
 (S.fieldS
 (List.length
 (Prod.fst
 (Prod.snd
 (S.histS nr (fun j => tr (j + ar)) (fun j => vr (j + ar))
 (fun j => gr (j + ar)) no (fun j => to (j + ao))
 (List.length (S.stpL nq (fun j => tq (j + aq)) rp fl) + nl) fun j =>
 bif Nat.blt j (List.length (S.stpL nq (fun j => tq (j + aq)) rp fl)) then
 S.at' (S.stpL nq (fun j => tq (j + aq)) rp fl) j
 else tl (j - List.length (S.stpL nq (fun j => tq (j + aq)) rp fl) + al)))))
 (fun j =>
 Prod.fst
 (S.at'
 (Prod.fst
 (Prod.snd
 (S.histS nr (fun j => tr (j + ar)) (fun j => vr (j + ar))
 (fun j => gr (j + ar)) no (fun j => to (j + ao))
 (List.length (S.stpL nq (fun j => tq (j + aq)) rp fl) + nl) fun j =>
 bif Nat.blt j (List.length (S.stpL nq (fun j => tq (j + aq)) rp fl)) then
 S.at' (S.stpL nq (fun j => tq (j + aq)) rp fl) j
 else tl (j - List.length (S.stpL nq (fun j => tq (j + aq)) rp fl) + al))))
 j))
 (fun j =>
 Prod.fst
 (Prod.snd
 (S.at'
 (Prod.fst
 (Prod.snd
 (S.histS nr (fun j => tr (j + ar)) (fun j => vr (j + ar))
 (fun j => gr (j + ar)) no (fun j => to (j + ao))
 (List.length (S.stpL nq (fun j => tq (j + aq)) rp fl) + nl) fun j =>
 bif Nat.blt j (List.length (S.stpL nq (fun j => tq (j + aq)) rp fl)) then
 S.at' (S.stpL nq (fun j => tq (j + aq)) rp fl) j
 else tl (j - List.length (S.stpL nq (fun j => tq (j + aq)) rp fl) + al))))
 j)))
 (fun j =>
 Prod.snd
 (Prod.snd
 (S.at'
 (Prod.fst
 (Prod.snd
 (S.histS nr (fun j => tr (j + ar)) (fun j => vr (j + ar))
 (fun j => gr (j + ar)) no (fun j => to (j + ao))
 (List.length (S.stpL nq (fun j => tq (j + aq)) rp fl) + nl) fun j =>
 bif Nat.blt j (List.length (S.stpL nq (fun j => tq (j + aq)) rp fl)) then
 S.at' (S.stpL nq (fun j => tq (j + aq)) rp fl) j
 else tl (j - List.length (S.stpL nq (fun j => tq (j + aq)) rp fl) + al))))
 j)))
 (List.length
 (Prod.snd
 (Prod.snd
 (S.histS nr (fun j => tr (j + ar)) (fun j => vr (j + ar))
 (fun j => gr (j + ar)) no (fun j => to (j + ao))
 (List.length (S.stpL nq (fun j => tq (j + aq)) rp fl) + nl) fun j =>
 bif Nat.blt j (List.length (S.stpL nq (fun j => tq (j + aq)) rp fl)) then
 S.at' (S.stpL nq (fun j => tq (j + aq)) rp fl) j
 else tl (j - List.length (S.stpL nq (fun j => tq (j + aq)) rp fl) + al)))))
 fun j =>
 S.at'
 (Prod.snd
 (Prod.snd
 (S.histS nr (fun j => tr (j + ar)) (fun j => vr (j + ar))
 (fun j => gr (j + ar)) no (fun j => to (j + ao))
 (List.length (S.stpL nq (fun j => tq (j + aq)) rp fl) + nl) fun j =>
 bif Nat.blt j (List.length (S.stpL nq (fun j => tq (j + aq)) rp fl)) then
 S.at' (S.stpL nq (fun j => tq (j + aq)) rp fl) j
 else tl (j - List.length (S.stpL nq (fun j => tq (j + aq)) rp fl) + al))))
 j)),
 PV.int IntKind.i64
 (Prod.snd
 (S.fieldS
 (List.length
 (Prod.fst
 (Prod.snd
 (S.histS nr (fun j => tr (j + ar)) (fun j => vr (j + ar))
 (fun j => gr (j + ar)) no (fun j => to (j + ao))
 (List.length (S.stpL nq (fun j => tq (j + aq)) rp fl) + nl) fun j =>
 bif Nat.blt j (List.length (S.stpL nq (fun j => tq (j + aq)) rp fl)) then
 S.at' (S.stpL nq (fun j => tq (j + aq)) rp fl) j
 else tl (j - List.length (S.stpL nq (fun j => tq (j + aq)) rp fl) + al)))))
 (fun j =>
 Prod.fst
 (S.at'
 (Prod.fst
 (Prod.snd
 (S.histS nr (fun j => tr (j + ar)) (fun j => vr (j + ar))
 (fun j => gr (j + ar)) no (fun j => to (j + ao))
 (List.length (S.stpL nq (fun j => tq (j + aq)) rp fl) + nl) fun j =>
 bif Nat.blt j (List.length (S.stpL nq (fun j => tq (j + aq)) rp fl)) then
 S.at' (S.stpL nq (fun j => tq (j + aq)) rp fl) j
 else tl (j - List.length (S.stpL nq (fun j => tq (j + aq)) rp fl) + al))))
 j))
 (fun j =>
 Prod.fst
 (Prod.snd
 (S.at'
 (Prod.fst
 (Prod.snd
 (S.histS nr (fun j => tr (j + ar)) (fun j => vr (j + ar))
 (fun j => gr (j + ar)) no (fun j => to (j + ao))
 (List.length (S.stpL nq (fun j => tq (j + aq)) rp fl) + nl) fun j =>
 bif Nat.blt j (List.length (S.stpL nq (fun j => tq (j + aq)) rp fl)) then
 S.at' (S.stpL nq (fun j => tq (j + aq)) rp fl) j
 else tl (j - List.length (S.stpL nq (fun j => tq (j + aq)) rp fl) + al))))
 j)))
 (fun j =>
 Prod.snd
 (Prod.snd
 (S.at'
 (Prod.fst
 (Prod.snd
 (S.histS nr (fun j => tr (j + ar)) (fun j => vr (j + ar))
 (fun j => gr (j + ar)) no (fun j => to (j + ao))
 (List.length (S.stpL nq (fun j => tq (j + aq)) rp fl) + nl) fun j =>
 bif Nat.blt j (List.length (S.stpL nq (fun j => tq (j + aq)) rp fl)) then
 S.at' (S.stpL nq (fun j => tq (j + aq)) rp fl) j
 else tl (j - List.length (S.stpL nq (fun j => tq (j + aq)) rp fl) + al))))
 j)))
 (List.length
 (Prod.snd
 (Prod.snd
 (S.histS nr (fun j => tr (j + ar)) (fun j => vr (j + ar))
 (fun j => gr (j + ar)) no (fun j => to (j + ao))
 (List.length (S.stpL nq (fun j => tq (j + aq)) rp fl) + nl) fun j =>
 bif Nat.blt j (List.length (S.stpL nq (fun j => tq (j + aq)) rp fl)) then
 S.at' (S.stpL nq (fun j => tq (j + aq)) rp fl) j
 else tl (j - List.length (S.stpL nq (fun j => tq (j + aq)) rp fl) + al)))))
 fun j =>
 S.at'
 (Prod.snd
 (Prod.snd
 (S.histS nr (fun j => tr (j + ar)) (fun j => vr (j + ar))
 (fun j => gr (j + ar)) no (fun j => to (j + ao))
 (List.length (S.stpL nq (fun j => tq (j + aq)) rp fl) + nl) fun j =>
 bif Nat.blt j (List.length (S.stpL nq (fun j => tq (j + aq)) rp fl)) then
 S.at' (S.stpL nq (fun j => tq (j + aq)) rp fl) j
 else tl (j - List.length (S.stpL nq (fun j => tq (j + aq)) rp fl) + al))))
 j))]) ([[(3, false, Blk.cols ml [Col.int IntKind.i64 tl]),
 (2, false, Blk.cols mq [Col.int IntKind.i64 tq]),
 (1, false, Blk.cols mo [Col.bool to]),
 (0, false,
 Blk.cols mr
 [Col.int IntKind.i64 tr, Col.int IntKind.i64 vr, Col.int IntKind.i64 gr])]]) (17))
 (False)))
 (False))
 (False))
 (False))
 (False))
 (False)))
 (test (Prod.snd
 (S.suiS
 (S.botE
 (S.magE nr (fun j => tr (j + ar)) (fun j => vr (j + ar)) (fun j => gr (j + ar))
 no)
 (S.cyE cn nq (fun j => tq (j + aq)) rp fl))
 (S.erB (fun j => tr (j + ar)) (fun j => vr (j + ar))
 (List.length (S.stpL nq (fun j => tq (j + aq)) rp fl))
 (fun j => S.at' (S.stpL nq (fun j => tq (j + aq)) rp fl) j) (0) nr)) !=
 (0 : Int))
 (Kret (PV.tup
 [PV.int IntKind.i64 (0 : Int),
 PV.int IntKind.i64
 (Prod.snd
 (S.suiS
 (S.botE
 (S.magE nr (fun j => tr (j + ar)) (fun j => vr (j + ar))
 (fun j => gr (j + ar)) no)
 (S.cyE cn nq (fun j => tq (j + aq)) rp fl))
 (S.erB (fun j => tr (j + ar)) (fun j => vr (j + ar))
 (List.length (S.stpL nq (fun j => tq (j + aq)) rp fl))
 (fun j => S.at' (S.stpL nq (fun j => tq (j + aq)) rp fl) j) (0) nr)))]) ([[(3, false, Blk.cols ml [Col.int IntKind.i64 tl]),
 (2, false, Blk.cols mq [Col.int IntKind.i64 tq]),
 (1, false, Blk.cols mo [Col.bool to]),
 (0, false,
 Blk.cols mr
 [Col.int IntKind.i64 tr, Col.int IntKind.i64 vr, Col.int IntKind.i64 gr])]]) (9))
 (Kret (PV.tup [PV.int IntKind.i64 (0 : Int), PV.int IntKind.i64 (8 : Int)]) ([[(3, false, Blk.cols ml [Col.int IntKind.i64 tl]),
 (2, false, Blk.cols mq [Col.int IntKind.i64 tq]),
 (1, false, Blk.cols mo [Col.bool to]),
 (0, false,
 Blk.cols mr
 [Col.int IntKind.i64 tr, Col.int IntKind.i64 vr, Col.int IntKind.i64 gr])]]) (9))))
 (False)))
 (False)))
 (False)
theorem te129 (test : Bool → Prop → Prop → Prop) (Kst : KS) (Kret : KR) (ar nr mr : Nat) (tr : Nat → Int) (vr : Nat → Int) (gr : Nat → Int) (ao no mo : Nat) (to : Nat → Bool) (cn : ByteArray) (aq nq mq : Nat) (tq : Nat → Int) (rp : Int) (fl : Int) (al nl ml : Nat) (tl : Nat → Int) : run test Try.env true (xFA test) true 400 ⟨16, [.cd (mkFn Try.f16).body], argT 0 [.agg [.loose ⟨0, 3, ar, 0⟩ nr, .loose ⟨1, 1, ao, 0⟩ no], .agg [.str cn, .loose ⟨2, 1, aq, 0⟩ nq, .int .i64 rp, .int .i64 fl], .loose ⟨3, 1, al, 0⟩ nl], [[], [(0, (false, .cols mr [.int .i64 tr, .int .i64 vr, .int .i64 gr])), (1, (false, .cols mo [.bool to])), (2, (false, .cols mq [.int .i64 tq])), (3, (false, .cols ml [.int .i64 tl]))]], 4⟩ (proj 4 [] Kst Kret) =
  Te129 test Kst Kret ar nr mr tr vr gr ao no mo to cn aq nq mq tq rp fl al nl ml tl := by kernel_rfl
theorem be129 (ar nr mr : Nat) (tr : Nat → Int) (vr : Nat → Int) (gr : Nat → Int) (ao no mo : Nat) (to : Nat → Bool) (cn : ByteArray) (aq nq mq : Nat) (tq : Nat → Int) (rp : Int) (fl : Int) (al nl ml : Nat) (tl : Nat → Int) (Kst : KS) (Kret : KR) (x : St129 ⊕ Rt129) (hS : HS 4 400 ((I129 ar nr mr tr vr gr ao no mo to cn aq nq mq tq rp fl al nl ml tl)) Kst x) (hR : HR 4 400 ((V129 ar nr mr tr vr gr ao no mo to cn aq nq mq tq rp fl al nl ml tl)) (fun r => [newL (4 + 1) ((N129 ar nr mr tr vr gr ao no mo to cn aq nq mq tq rp fl al nl ml tl) r) ++ [(0, (false, .cols mr [.int .i64 tr, .int .i64 vr, .int .i64 gr])), (1, (false, .cols mo [.bool to])), (2, (false, .cols mq [.int .i64 tq])), (3, (false, .cols ml [.int .i64 tl]))]]) Kret x) (h : (bif (decide ((ar + nr ≤ mr ∧ nr ≤ 1000000) ∧ aq + nq ≤ mq ∧ nq ≤ 1000000))
 then (bif (S.botE
 (S.magE nr (fun j => tr (j + ar)) (fun j => vr (j + ar)) (fun j => gr (j + ar)) no)
 (S.cyE cn nq (fun j => tq (j + aq)) rp fl) !=
 (0 : Int))
 then (some (.inr ((0 : Int), S.botE
 (S.magE nr (fun j => tr (j + ar)) (fun j => vr (j + ar)) (fun j => gr (j + ar)) no)
 (S.cyE cn nq (fun j => tq (j + aq)) rp fl))))
 else (bif (decide (al + nl ≤ ml ∧ nl ≤ 1000000))
 then (bif ((S.setE nl fun j => tl (j + al)) != (0 : Int))
 then (some (.inr ((0 : Int), S.setE nl fun j => tl (j + al))))
 else (bif (decide
 ((ar + nr ≤ mr ∧ nr ≤ 1000000) ∧ (ao + no ≤ mo ∧ no ≤ 1000000) ∧ aq + nq ≤ mq ∧ nq ≤ 1000000))
 then (bif (Prod.fst
 (S.suiS
 (S.botE
 (S.magE nr (fun j => tr (j + ar)) (fun j => vr (j + ar)) (fun j => gr (j + ar)) no)
 (S.cyE cn nq (fun j => tq (j + aq)) rp fl))
 (S.erB (fun j => tr (j + ar)) (fun j => vr (j + ar))
 (List.length (S.stpL nq (fun j => tq (j + aq)) rp fl))
 (fun j => S.at' (S.stpL nq (fun j => tq (j + aq)) rp fl) j) (0) nr)))
 then (bif (Prod.snd
 (S.suiS
 (S.botE
 (S.magE nr (fun j => tr (j + ar)) (fun j => vr (j + ar)) (fun j => gr (j + ar))
 no)
 (S.cyE cn nq (fun j => tq (j + aq)) rp fl))
 (S.erB (fun j => tr (j + ar)) (fun j => vr (j + ar))
 (List.length (S.stpL nq (fun j => tq (j + aq)) rp fl))
 (fun j => S.at' (S.stpL nq (fun j => tq (j + aq)) rp fl) j) (0) nr)) !=
 (0 : Int))
 then (some (.inr ((0 : Int), Prod.snd
 (S.suiS
 (S.botE
 (S.magE nr (fun j => tr (j + ar)) (fun j => vr (j + ar)) (fun j => gr (j + ar)) no)
 (S.cyE cn nq (fun j => tq (j + aq)) rp fl))
 (S.erB (fun j => tr (j + ar)) (fun j => vr (j + ar))
 (List.length (S.stpL nq (fun j => tq (j + aq)) rp fl))
 (fun j => S.at' (S.stpL nq (fun j => tq (j + aq)) rp fl) j) (0) nr)))))
 else (bif (decide (aq + nq ≤ mq ∧ nq ≤ 20 ∧ (0 : Int) ≤ rp ∧ rp ≤ (9 : Int)))
 then (bif (decide (List.length (S.stpL nq (fun j => tq (j + aq)) rp fl) + nl ≤ 1000000))
 then (bif (decide
 (List.length (S.stpL nq (fun j => tq (j + aq)) rp fl) ≤
 List.length (S.stpL nq (fun j => tq (j + aq)) rp fl)))
 then (bif (decide (al + nl ≤ ml))
 then (bif (decide
 (ar + nr ≤ mr ∧
 nr ≤ 1000000 ∧
 ao + no ≤ mo ∧
 no ≤ 1000000 ∧
 0 + (List.length (S.stpL nq (fun j => tq (j + aq)) rp fl) + nl) ≤
 List.length (S.stpL nq (fun j => tq (j + aq)) rp fl) + nl ∧
 List.length (S.stpL nq (fun j => tq (j + aq)) rp fl) + nl ≤ 1000000))
 then (bif (Prod.fst
 (S.histS nr (fun j => tr (j + ar)) (fun j => vr (j + ar)) (fun j => gr (j + ar)) no
 (fun j => to (j + ao)) (List.length (S.stpL nq (fun j => tq (j + aq)) rp fl) + nl)
 fun j =>
 bif Nat.blt j (List.length (S.stpL nq (fun j => tq (j + aq)) rp fl)) then
 S.at' (S.stpL nq (fun j => tq (j + aq)) rp fl) j
 else tl (j - List.length (S.stpL nq (fun j => tq (j + aq)) rp fl) + al)) !=
 (0 : Int))
 then (some (.inr ((0 : Int), Prod.fst
 (S.histS nr (fun j => tr (j + ar)) (fun j => vr (j + ar)) (fun j => gr (j + ar)) no
 (fun j => to (j + ao)) (List.length (S.stpL nq (fun j => tq (j + aq)) rp fl) + nl)
 fun j =>
 bif Nat.blt j (List.length (S.stpL nq (fun j => tq (j + aq)) rp fl)) then
 S.at' (S.stpL nq (fun j => tq (j + aq)) rp fl) j
 else tl (j - List.length (S.stpL nq (fun j => tq (j + aq)) rp fl) + al)))))
 else (bif (decide
 (0 +
 List.length
 (Prod.fst
 (Prod.snd
 (S.histS nr (fun j => tr (j + ar)) (fun j => vr (j + ar))
 (fun j => gr (j + ar)) no (fun j => to (j + ao))
 (List.length (S.stpL nq (fun j => tq (j + aq)) rp fl) + nl) fun j =>
 bif Nat.blt j (List.length (S.stpL nq (fun j => tq (j + aq)) rp fl)) then
 S.at' (S.stpL nq (fun j => tq (j + aq)) rp fl) j
 else tl (j - List.length (S.stpL nq (fun j => tq (j + aq)) rp fl) + al)))) ≤
 List.length
 (Prod.fst
 (Prod.snd
 (S.histS nr (fun j => tr (j + ar)) (fun j => vr (j + ar))
 (fun j => gr (j + ar)) no (fun j => to (j + ao))
 (List.length (S.stpL nq (fun j => tq (j + aq)) rp fl) + nl) fun j =>
 bif Nat.blt j (List.length (S.stpL nq (fun j => tq (j + aq)) rp fl)) then
 S.at' (S.stpL nq (fun j => tq (j + aq)) rp fl) j
 else tl (j - List.length (S.stpL nq (fun j => tq (j + aq)) rp fl) + al)))) ∧
 List.length
 (Prod.fst
 (Prod.snd
 (S.histS nr (fun j => tr (j + ar)) (fun j => vr (j + ar))
 (fun j => gr (j + ar)) no (fun j => to (j + ao))
 (List.length (S.stpL nq (fun j => tq (j + aq)) rp fl) + nl) fun j =>
 bif Nat.blt j (List.length (S.stpL nq (fun j => tq (j + aq)) rp fl)) then
 S.at' (S.stpL nq (fun j => tq (j + aq)) rp fl) j
 else tl (j - List.length (S.stpL nq (fun j => tq (j + aq)) rp fl) + al)))) ≤
 1000000 ∧
 0 +
 List.length
 (Prod.snd
 (Prod.snd
 (S.histS nr (fun j => tr (j + ar)) (fun j => vr (j + ar))
 (fun j => gr (j + ar)) no (fun j => to (j + ao))
 (List.length (S.stpL nq (fun j => tq (j + aq)) rp fl) + nl) fun j =>
 bif Nat.blt j (List.length (S.stpL nq (fun j => tq (j + aq)) rp fl)) then
 S.at' (S.stpL nq (fun j => tq (j + aq)) rp fl) j
 else tl (j - List.length (S.stpL nq (fun j => tq (j + aq)) rp fl) + al)))) ≤
 List.length
 (Prod.snd
 (Prod.snd
 (S.histS nr (fun j => tr (j + ar)) (fun j => vr (j + ar))
 (fun j => gr (j + ar)) no (fun j => to (j + ao))
 (List.length (S.stpL nq (fun j => tq (j + aq)) rp fl) + nl) fun j =>
 bif Nat.blt j (List.length (S.stpL nq (fun j => tq (j + aq)) rp fl)) then
 S.at' (S.stpL nq (fun j => tq (j + aq)) rp fl) j
 else tl (j - List.length (S.stpL nq (fun j => tq (j + aq)) rp fl) + al)))) ∧
 List.length
 (Prod.snd
 (Prod.snd
 (S.histS nr (fun j => tr (j + ar)) (fun j => vr (j + ar))
 (fun j => gr (j + ar)) no (fun j => to (j + ao))
 (List.length (S.stpL nq (fun j => tq (j + aq)) rp fl) + nl) fun j =>
 bif Nat.blt j (List.length (S.stpL nq (fun j => tq (j + aq)) rp fl)) then
 S.at' (S.stpL nq (fun j => tq (j + aq)) rp fl) j
 else tl (j - List.length (S.stpL nq (fun j => tq (j + aq)) rp fl) + al)))) ≤
 1000000))
 then (some (.inr (Prod.fst
 (S.fieldS
 (List.length
 (Prod.fst
 (Prod.snd
 (S.histS nr (fun j => tr (j + ar)) (fun j => vr (j + ar)) (fun j => gr (j + ar))
 no (fun j => to (j + ao)) (List.length (S.stpL nq (fun j => tq (j + aq)) rp fl) + nl)
 fun j =>
 bif Nat.blt j (List.length (S.stpL nq (fun j => tq (j + aq)) rp fl)) then
 S.at' (S.stpL nq (fun j => tq (j + aq)) rp fl) j
 else tl (j - List.length (S.stpL nq (fun j => tq (j + aq)) rp fl) + al)))))
 (fun j =>
 Prod.fst
 (S.at'
 (Prod.fst
 (Prod.snd
 (S.histS nr (fun j => tr (j + ar)) (fun j => vr (j + ar))
 (fun j => gr (j + ar)) no (fun j => to (j + ao))
 (List.length (S.stpL nq (fun j => tq (j + aq)) rp fl) + nl) fun j =>
 bif Nat.blt j (List.length (S.stpL nq (fun j => tq (j + aq)) rp fl)) then
 S.at' (S.stpL nq (fun j => tq (j + aq)) rp fl) j
 else tl (j - List.length (S.stpL nq (fun j => tq (j + aq)) rp fl) + al))))
 j))
 (fun j =>
 Prod.fst
 (Prod.snd
 (S.at'
 (Prod.fst
 (Prod.snd
 (S.histS nr (fun j => tr (j + ar)) (fun j => vr (j + ar))
 (fun j => gr (j + ar)) no (fun j => to (j + ao))
 (List.length (S.stpL nq (fun j => tq (j + aq)) rp fl) + nl) fun j =>
 bif Nat.blt j (List.length (S.stpL nq (fun j => tq (j + aq)) rp fl)) then
 S.at' (S.stpL nq (fun j => tq (j + aq)) rp fl) j
 else tl (j - List.length (S.stpL nq (fun j => tq (j + aq)) rp fl) + al))))
 j)))
 (fun j =>
 Prod.snd
 (Prod.snd
 (S.at'
 (Prod.fst
 (Prod.snd
 (S.histS nr (fun j => tr (j + ar)) (fun j => vr (j + ar))
 (fun j => gr (j + ar)) no (fun j => to (j + ao))
 (List.length (S.stpL nq (fun j => tq (j + aq)) rp fl) + nl) fun j =>
 bif Nat.blt j (List.length (S.stpL nq (fun j => tq (j + aq)) rp fl)) then
 S.at' (S.stpL nq (fun j => tq (j + aq)) rp fl) j
 else tl (j - List.length (S.stpL nq (fun j => tq (j + aq)) rp fl) + al))))
 j)))
 (List.length
 (Prod.snd
 (Prod.snd
 (S.histS nr (fun j => tr (j + ar)) (fun j => vr (j + ar)) (fun j => gr (j + ar))
 no (fun j => to (j + ao)) (List.length (S.stpL nq (fun j => tq (j + aq)) rp fl) + nl)
 fun j =>
 bif Nat.blt j (List.length (S.stpL nq (fun j => tq (j + aq)) rp fl)) then
 S.at' (S.stpL nq (fun j => tq (j + aq)) rp fl) j
 else tl (j - List.length (S.stpL nq (fun j => tq (j + aq)) rp fl) + al)))))
 fun j =>
 S.at'
 (Prod.snd
 (Prod.snd
 (S.histS nr (fun j => tr (j + ar)) (fun j => vr (j + ar)) (fun j => gr (j + ar))
 no (fun j => to (j + ao)) (List.length (S.stpL nq (fun j => tq (j + aq)) rp fl) + nl)
 fun j =>
 bif Nat.blt j (List.length (S.stpL nq (fun j => tq (j + aq)) rp fl)) then
 S.at' (S.stpL nq (fun j => tq (j + aq)) rp fl) j
 else tl (j - List.length (S.stpL nq (fun j => tq (j + aq)) rp fl) + al))))
 j), Prod.snd
 (S.fieldS
 (List.length
 (Prod.fst
 (Prod.snd
 (S.histS nr (fun j => tr (j + ar)) (fun j => vr (j + ar)) (fun j => gr (j + ar))
 no (fun j => to (j + ao)) (List.length (S.stpL nq (fun j => tq (j + aq)) rp fl) + nl)
 fun j =>
 bif Nat.blt j (List.length (S.stpL nq (fun j => tq (j + aq)) rp fl)) then
 S.at' (S.stpL nq (fun j => tq (j + aq)) rp fl) j
 else tl (j - List.length (S.stpL nq (fun j => tq (j + aq)) rp fl) + al)))))
 (fun j =>
 Prod.fst
 (S.at'
 (Prod.fst
 (Prod.snd
 (S.histS nr (fun j => tr (j + ar)) (fun j => vr (j + ar))
 (fun j => gr (j + ar)) no (fun j => to (j + ao))
 (List.length (S.stpL nq (fun j => tq (j + aq)) rp fl) + nl) fun j =>
 bif Nat.blt j (List.length (S.stpL nq (fun j => tq (j + aq)) rp fl)) then
 S.at' (S.stpL nq (fun j => tq (j + aq)) rp fl) j
 else tl (j - List.length (S.stpL nq (fun j => tq (j + aq)) rp fl) + al))))
 j))
 (fun j =>
 Prod.fst
 (Prod.snd
 (S.at'
 (Prod.fst
 (Prod.snd
 (S.histS nr (fun j => tr (j + ar)) (fun j => vr (j + ar))
 (fun j => gr (j + ar)) no (fun j => to (j + ao))
 (List.length (S.stpL nq (fun j => tq (j + aq)) rp fl) + nl) fun j =>
 bif Nat.blt j (List.length (S.stpL nq (fun j => tq (j + aq)) rp fl)) then
 S.at' (S.stpL nq (fun j => tq (j + aq)) rp fl) j
 else tl (j - List.length (S.stpL nq (fun j => tq (j + aq)) rp fl) + al))))
 j)))
 (fun j =>
 Prod.snd
 (Prod.snd
 (S.at'
 (Prod.fst
 (Prod.snd
 (S.histS nr (fun j => tr (j + ar)) (fun j => vr (j + ar))
 (fun j => gr (j + ar)) no (fun j => to (j + ao))
 (List.length (S.stpL nq (fun j => tq (j + aq)) rp fl) + nl) fun j =>
 bif Nat.blt j (List.length (S.stpL nq (fun j => tq (j + aq)) rp fl)) then
 S.at' (S.stpL nq (fun j => tq (j + aq)) rp fl) j
 else tl (j - List.length (S.stpL nq (fun j => tq (j + aq)) rp fl) + al))))
 j)))
 (List.length
 (Prod.snd
 (Prod.snd
 (S.histS nr (fun j => tr (j + ar)) (fun j => vr (j + ar)) (fun j => gr (j + ar))
 no (fun j => to (j + ao)) (List.length (S.stpL nq (fun j => tq (j + aq)) rp fl) + nl)
 fun j =>
 bif Nat.blt j (List.length (S.stpL nq (fun j => tq (j + aq)) rp fl)) then
 S.at' (S.stpL nq (fun j => tq (j + aq)) rp fl) j
 else tl (j - List.length (S.stpL nq (fun j => tq (j + aq)) rp fl) + al)))))
 fun j =>
 S.at'
 (Prod.snd
 (Prod.snd
 (S.histS nr (fun j => tr (j + ar)) (fun j => vr (j + ar)) (fun j => gr (j + ar))
 no (fun j => to (j + ao)) (List.length (S.stpL nq (fun j => tq (j + aq)) rp fl) + nl)
 fun j =>
 bif Nat.blt j (List.length (S.stpL nq (fun j => tq (j + aq)) rp fl)) then
 S.at' (S.stpL nq (fun j => tq (j + aq)) rp fl) j
 else tl (j - List.length (S.stpL nq (fun j => tq (j + aq)) rp fl) + al))))
 j))))
 else (none)))
 else (none))
 else (none))
 else (none))
 else (none))
 else (none)))
 else (bif (Prod.snd
 (S.suiS
 (S.botE
 (S.magE nr (fun j => tr (j + ar)) (fun j => vr (j + ar)) (fun j => gr (j + ar))
 no)
 (S.cyE cn nq (fun j => tq (j + aq)) rp fl))
 (S.erB (fun j => tr (j + ar)) (fun j => vr (j + ar))
 (List.length (S.stpL nq (fun j => tq (j + aq)) rp fl))
 (fun j => S.at' (S.stpL nq (fun j => tq (j + aq)) rp fl) j) (0) nr)) !=
 (0 : Int))
 then (some (.inr ((0 : Int), Prod.snd
 (S.suiS
 (S.botE
 (S.magE nr (fun j => tr (j + ar)) (fun j => vr (j + ar)) (fun j => gr (j + ar)) no)
 (S.cyE cn nq (fun j => tq (j + aq)) rp fl))
 (S.erB (fun j => tr (j + ar)) (fun j => vr (j + ar))
 (List.length (S.stpL nq (fun j => tq (j + aq)) rp fl))
 (fun j => S.at' (S.stpL nq (fun j => tq (j + aq)) rp fl) j) (0) nr)))))
 else (some (.inr ((0 : Int), (8 : Int))))))
 else (none)))
 else (none)))
 else (none) : Option (St129 ⊕ Rt129)) = some x) : Te129 cond Kst Kret ar nr mr tr vr gr ao no mo to cn aq nq mq tq rp fl al nl ml tl := by
  unfold Te129
  exact bif_split h
   (fun c0 h => bif_split h
   (fun c1 h => ret_at hR _ h (fun n => n) rfl rfl rfl (rn_tup ⟨(rn_int rfl), (rn_int rfl), trivial⟩) rfl (entl_bor (use_lo rfl) rfl rfl (entl_bor (use_lo rfl) rfl rfl (entl_bor (use_lo rfl) rfl rfl (entl_bor (use_lo rfl) rfl rfl entl_nil)))))
   (fun c1 h => bif_split h
   (fun c2 h => bif_split h
   (fun c3 h => ret_at hR _ h (fun n => n) rfl rfl rfl (rn_tup ⟨(rn_int rfl), (rn_int rfl), trivial⟩) rfl (entl_bor (use_lo rfl) rfl rfl (entl_bor (use_lo rfl) rfl rfl (entl_bor (use_lo rfl) rfl rfl (entl_bor (use_lo rfl) rfl rfl entl_nil)))))
   (fun c3 h => bif_split h
   (fun c4 h => bif_split h
   (fun c5 h => bif_split h
   (fun c6 h => ret_at hR _ h (fun n => n) rfl rfl rfl (rn_tup ⟨(rn_int rfl), (rn_int rfl), trivial⟩) rfl (entl_bor (use_lo rfl) rfl rfl (entl_bor (use_lo rfl) rfl rfl (entl_bor (use_lo rfl) rfl rfl (entl_bor (use_lo rfl) rfl rfl entl_nil)))))
   (fun c6 h => bif_split h
   (fun c7 h => bif_split h
   (fun c8 h => bif_split h
   (fun c9 h => bif_split h
   (fun c10 h => bif_split h
   (fun c11 h => bif_split h
   (fun c12 h => ret_at hR _ h (fun n => n) rfl rfl rfl (rn_tup ⟨(rn_int rfl), (rn_int rfl), trivial⟩) rfl (entl_bor (use_lo rfl) rfl rfl (entl_bor (use_lo rfl) rfl rfl (entl_bor (use_lo rfl) rfl rfl (entl_bor (use_lo rfl) rfl rfl entl_nil)))))
   (fun c12 h => bif_split h
   (fun c13 h => ret_at hR _ h (fun n => n) rfl rfl rfl (rn_tup ⟨(rn_int rfl), (rn_int rfl), trivial⟩) rfl (entl_bor (use_lo rfl) rfl rfl (entl_bor (use_lo rfl) rfl rfl (entl_bor (use_lo rfl) rfl rfl (entl_bor (use_lo rfl) rfl rfl entl_nil)))))
   (fun c13 h => no_some h)))
   (fun c11 h => no_some h))
   (fun c10 h => no_some h))
   (fun c9 h => no_some h))
   (fun c8 h => no_some h))
   (fun c7 h => no_some h)))
   (fun c5 h => bif_split h
   (fun c6 h => ret_at hR _ h (fun n => n) rfl rfl rfl (rn_tup ⟨(rn_int rfl), (rn_int rfl), trivial⟩) rfl (entl_bor (use_lo rfl) rfl rfl (entl_bor (use_lo rfl) rfl rfl (entl_bor (use_lo rfl) rfl rfl (entl_bor (use_lo rfl) rfl rfl entl_nil)))))
   (fun c6 h => ret_at hR _ h (fun n => n) rfl rfl rfl (rn_tup ⟨(rn_int rfl), (rn_int rfl), trivial⟩) rfl (entl_bor (use_lo rfl) rfl rfl (entl_bor (use_lo rfl) rfl rfl (entl_bor (use_lo rfl) rfl rfl (entl_bor (use_lo rfl) rfl rfl entl_nil)))))))
   (fun c4 h => no_some h)))
   (fun c2 h => no_some h)))
   (fun c0 h => no_some h)
theorem a129 (ar nr mr : Nat) (tr : Nat → Int) (vr : Nat → Int) (gr : Nat → Int) (ao no mo : Nat) (to : Nat → Bool) (cn : ByteArray) (aq nq mq : Nat) (tq : Nat → Int) (rp : Int) (fl : Int) (al nl ml : Nat) (tl : Nat → Int) {r : Rt129} (h : Goes ((q129 ar nr mr tr vr gr ao no mo to cn aq nq mq tq rp fl al nl ml tl)) ((p129 ar nr mr tr vr gr ao no mo to cn aq nq mq tq rp fl al nl ml tl)) r) : CallR Try.prog 16 [.agg [.loose ⟨0, 3, ar, 0⟩ nr, .loose ⟨1, 1, ao, 0⟩ no], .agg [.str cn, .loose ⟨2, 1, aq, 0⟩ nq, .int .i64 rp, .int .i64 fl], .loose ⟨3, 1, al, 0⟩ nl] [[(0, (false, .cols mr [.int .i64 tr, .int .i64 vr, .int .i64 gr])), (1, (false, .cols mo [.bool to])), (2, (false, .cols mq [.int .i64 tq])), (3, (false, .cols ml [.int .i64 tl]))]] 4 ((V129 ar nr mr tr vr gr ao no mo to cn aq nq mq tq rp fl al nl ml tl) r) ((fun r => [newL (4 + 1) ((N129 ar nr mr tr vr gr ao no mo to cn aq nq mq tq rp fl al nl ml tl) r) ++ [(0, (false, .cols mr [.int .i64 tr, .int .i64 vr, .int .i64 gr])), (1, (false, .cols mo [.bool to])), (2, (false, .cols mq [.int .i64 tq])), (3, (false, .cols ml [.int .i64 tl]))]]) r) 400 ∧ ∃ F, Try.prog.funcs[16]? = some F ∧ F.body.isSome = true ∧ (F.name == "runtime.NumGoroutine") = false := by
  refine dec_calls (f := 16) (lo := 4) (hi := 400) (H := [[(0, (false, .cols mr [.int .i64 tr, .int .i64 vr, .int .i64 gr])), (1, (false, .cols mo [.bool to])), (2, (false, .cols mq [.int .i64 tq])), (3, (false, .cols ml [.int .i64 tl]))]]) (args := [.agg [.loose ⟨0, 3, ar, 0⟩ nr, .loose ⟨1, 1, ao, 0⟩ no], .agg [.str cn, .loose ⟨2, 1, aq, 0⟩ nq, .int .i64 rp, .int .i64 fl], .loose ⟨3, 1, al, 0⟩ nl]) Try.envOk Try.mixed xFA_ok ((I129 ar nr mr tr vr gr ao no mo to cn aq nq mq tq rp fl al nl ml tl)) ((V129 ar nr mr tr vr gr ao no mo to cn aq nq mq tq rp fl al nl ml tl)) (fun r => [newL (4 + 1) ((N129 ar nr mr tr vr gr ao no mo to cn aq nq mq tq rp fl al nl ml tl) r) ++ [(0, (false, .cols mr [.int .i64 tr, .int .i64 vr, .int .i64 gr])), (1, (false, .cols mo [.bool to])), (2, (false, .cols mq [.int .i64 tq])), (3, (false, .cols ml [.int .i64 tl]))]]) (fn := mkFn Try.f16) (ts := []) (n := 400) rfl (by decide) (by simp) (names_of rfl) ?_ ?_ ?_ h
  · intro s; exact s.elim
  · intro Kst Kret x hS hR h
    exact Holds.eq (te129 cond Kst Kret ar nr mr tr vr gr ao no mo to cn aq nq mq tq rp fl al nl ml tl) (be129 ar nr mr tr vr gr ao no mo to cn aq nq mq tq rp fl al nl ml tl Kst Kret x hS hR h)
  · intro Kst Kret x hS hR s h; exact s.elim
noncomputable def k129 : Con := ⟨16, [.agg [.list [.int .i64, .int .i64, .int .i64], .list [.bool]], .agg [.plain (.str), .list [.int .i64], .plain (.int .i64), .plain (.int .i64)], .one (.list [.int .i64])], fun (x : ((Nat × Nat × Nat × (Nat → Int) × (Nat → Int) × (Nat → Int) × Unit) × (Nat × Nat × Nat × (Nat → Bool) × Unit) × Unit) × (ByteArray × (Nat × Nat × Nat × (Nat → Int) × Unit) × Int × Int × Unit) × (Nat × Nat × Nat × (Nat → Int) × Unit) × Unit) => (fun (ar nr mr : Nat) (tr : Nat → Int) (vr : Nat → Int) (gr : Nat → Int) (ao no mo : Nat) (to : Nat → Bool) (cn : ByteArray) (aq nq mq : Nat) (tq : Nat → Int) (rp : Int) (fl : Int) (al nl ml : Nat) (tl : Nat → Int) => decide ((ar + nr ≤ mr ∧ nr ≤ 1000000) ∧ (ao + no ≤ mo ∧ no ≤ 1000000) ∧ (aq + nq ≤ mq ∧ nq ≤ 1000000) ∧ (al + nl ≤ ml ∧ nl ≤ 1000000))) x.1.1.1 x.1.1.2.1 x.1.1.2.2.1 x.1.1.2.2.2.1 x.1.1.2.2.2.2.1 x.1.1.2.2.2.2.2.1 x.1.2.1.1 x.1.2.1.2.1 x.1.2.1.2.2.1 x.1.2.1.2.2.2.1 x.2.1.1 x.2.1.2.1.1 x.2.1.2.1.2.1 x.2.1.2.1.2.2.1 x.2.1.2.1.2.2.2.1 x.2.1.2.2.1 x.2.1.2.2.2.1 x.2.2.1.1 x.2.2.1.2.1 x.2.2.1.2.2.1 x.2.2.1.2.2.2.1, fun (x : ((Nat × Nat × Nat × (Nat → Int) × (Nat → Int) × (Nat → Int) × Unit) × (Nat × Nat × Nat × (Nat → Bool) × Unit) × Unit) × (ByteArray × (Nat × Nat × Nat × (Nat → Int) × Unit) × Int × Int × Unit) × (Nat × Nat × Nat × (Nat → Int) × Unit) × Unit) => (fun (ar nr mr : Nat) (tr : Nat → Int) (vr : Nat → Int) (gr : Nat → Int) (ao no mo : Nat) (to : Nat → Bool) (cn : ByteArray) (aq nq mq : Nat) (tq : Nat → Int) (rp : Int) (fl : Int) (al nl ml : Nat) (tl : Nat → Int) => (V129 ar nr mr tr vr gr ao no mo to cn aq nq mq tq rp fl al nl ml tl) (S.faS (S.botE (S.magE nr (fun j => tr (j + ar)) (fun j => vr (j + ar)) (fun j => gr (j + ar)) no) (S.cyE cn nq (fun j => tq (j + aq)) rp fl)) (S.setE nl (fun j => tl (j + al))) (S.erB (fun j => tr (j + ar)) (fun j => vr (j + ar)) (S.stpL nq (fun j => tq (j + aq)) rp fl).length (fun j => S.at' (S.stpL nq (fun j => tq (j + aq)) rp fl) j) 0 nr) (S.fldH nr (fun j => tr (j + ar)) (fun j => vr (j + ar)) (fun j => gr (j + ar)) (fun j => to (j + ao)) ((S.stpL nq (fun j => tq (j + aq)) rp fl).length + nl) (fun j => bif Nat.blt j (S.stpL nq (fun j => tq (j + aq)) rp fl).length then S.at' (S.stpL nq (fun j => tq (j + aq)) rp fl) j else tl (j - (S.stpL nq (fun j => tq (j + aq)) rp fl).length + al))))) x.1.1.1 x.1.1.2.1 x.1.1.2.2.1 x.1.1.2.2.2.1 x.1.1.2.2.2.2.1 x.1.1.2.2.2.2.2.1 x.1.2.1.1 x.1.2.1.2.1 x.1.2.1.2.2.1 x.1.2.1.2.2.2.1 x.2.1.1 x.2.1.2.1.1 x.2.1.2.1.2.1 x.2.1.2.1.2.2.1 x.2.1.2.1.2.2.2.1 x.2.1.2.2.1 x.2.1.2.2.2.1 x.2.2.1.1 x.2.2.1.2.1 x.2.2.1.2.2.1 x.2.2.1.2.2.2.1, fun (x : ((Nat × Nat × Nat × (Nat → Int) × (Nat → Int) × (Nat → Int) × Unit) × (Nat × Nat × Nat × (Nat → Bool) × Unit) × Unit) × (ByteArray × (Nat × Nat × Nat × (Nat → Int) × Unit) × Int × Int × Unit) × (Nat × Nat × Nat × (Nat → Int) × Unit) × Unit) => (fun (ar nr mr : Nat) (tr : Nat → Int) (vr : Nat → Int) (gr : Nat → Int) (ao no mo : Nat) (to : Nat → Bool) (cn : ByteArray) (aq nq mq : Nat) (tq : Nat → Int) (rp : Int) (fl : Int) (al nl ml : Nat) (tl : Nat → Int) => (N129 ar nr mr tr vr gr ao no mo to cn aq nq mq tq rp fl al nl ml tl) (S.faS (S.botE (S.magE nr (fun j => tr (j + ar)) (fun j => vr (j + ar)) (fun j => gr (j + ar)) no) (S.cyE cn nq (fun j => tq (j + aq)) rp fl)) (S.setE nl (fun j => tl (j + al))) (S.erB (fun j => tr (j + ar)) (fun j => vr (j + ar)) (S.stpL nq (fun j => tq (j + aq)) rp fl).length (fun j => S.at' (S.stpL nq (fun j => tq (j + aq)) rp fl) j) 0 nr) (S.fldH nr (fun j => tr (j + ar)) (fun j => vr (j + ar)) (fun j => gr (j + ar)) (fun j => to (j + ao)) ((S.stpL nq (fun j => tq (j + aq)) rp fl).length + nl) (fun j => bif Nat.blt j (S.stpL nq (fun j => tq (j + aq)) rp fl).length then S.at' (S.stpL nq (fun j => tq (j + aq)) rp fl) j else tl (j - (S.stpL nq (fun j => tq (j + aq)) rp fl).length + al))))) x.1.1.1 x.1.1.2.1 x.1.1.2.2.1 x.1.1.2.2.2.1 x.1.1.2.2.2.2.1 x.1.1.2.2.2.2.2.1 x.1.2.1.1 x.1.2.1.2.1 x.1.2.1.2.2.1 x.1.2.1.2.2.2.1 x.2.1.1 x.2.1.2.1.1 x.2.1.2.1.2.1 x.2.1.2.1.2.2.1 x.2.1.2.1.2.2.2.1 x.2.1.2.2.1 x.2.1.2.2.2.1 x.2.2.1.1 x.2.2.1.2.1 x.2.2.1.2.2.1 x.2.2.1.2.2.2.1, fun _ _ => .dead⟩
theorem s129 (ar nr mr : Nat) (tr : Nat → Int) (vr : Nat → Int) (gr : Nat → Int) (ao no mo : Nat) (to : Nat → Bool) (cn : ByteArray) (aq nq mq : Nat) (tq : Nat → Int) (rp : Int) (fl : Int) (al nl ml : Nat) (tl : Nat → Int) (hp : (ar + nr ≤ mr ∧ nr ≤ 1000000) ∧ (ao + no ≤ mo ∧ no ≤ 1000000) ∧ (aq + nq ≤ mq ∧ nq ≤ 1000000) ∧ (al + nl ≤ ml ∧ nl ≤ 1000000)) : Goes ((q129 ar nr mr tr vr gr ao no mo to cn aq nq mq tq rp fl al nl ml tl)) ((p129 ar nr mr tr vr gr ao no mo to cn aq nq mq tq rp fl al nl ml tl)) (S.faS (S.botE (S.magE nr (fun j => tr (j + ar)) (fun j => vr (j + ar)) (fun j => gr (j + ar)) no) (S.cyE cn nq (fun j => tq (j + aq)) rp fl)) (S.setE nl (fun j => tl (j + al))) (S.erB (fun j => tr (j + ar)) (fun j => vr (j + ar)) (S.stpL nq (fun j => tq (j + aq)) rp fl).length (fun j => S.at' (S.stpL nq (fun j => tq (j + aq)) rp fl) j) 0 nr) (S.fldH nr (fun j => tr (j + ar)) (fun j => vr (j + ar)) (fun j => gr (j + ar)) (fun j => to (j + ao)) ((S.stpL nq (fun j => tq (j + aq)) rp fl).length + nl) (fun j => bif Nat.blt j (S.stpL nq (fun j => tq (j + aq)) rp fl).length then S.at' (S.stpL nq (fun j => tq (j + aq)) rp fl) j else tl (j - (S.stpL nq (fun j => tq (j + aq)) rp fl).length + al)))) := by
  obtain ⟨⟨hp1, hp2⟩, ⟨hp5, hp6⟩, ⟨hp3, hp4⟩, hp7, hp8⟩ := hp
  unfold S.faS
  by_cases hm : (S.magE nr (fun j => tr (j + ar)) (fun j => vr (j + ar)) (fun j => gr (j + ar)) no) = 0
  · by_cases hy : (S.cyE cn nq (fun j => tq (j + aq)) rp fl) = 0
    · have hb : S.botE (S.magE nr (fun j => tr (j + ar)) (fun j => vr (j + ar)) (fun j => gr (j + ar)) no) (S.cyE cn nq (fun j => tq (j + aq)) rp fl) = 0 := by unfold S.botE; rw [if_pos hm]; exact hy
      rw [if_pos hb]
      by_cases hs : (S.setE nl (fun j => tl (j + al))) = 0
      · have hset := set_0.mp hs
        have hst := stp_in hy
        have hc := cy_ok hy
        have hin : ∀ j, j < (S.stpL nq (fun j => tq (j + aq)) rp fl).length + nl → -1099511627776 ≤ (fun j => bif Nat.blt j (S.stpL nq (fun j => tq (j + aq)) rp fl).length then S.at' (S.stpL nq (fun j => tq (j + aq)) rp fl) j else tl (j - (S.stpL nq (fun j => tq (j + aq)) rp fl).length + al)) j ∧ (fun j => bif Nat.blt j (S.stpL nq (fun j => tq (j + aq)) rp fl).length then S.at' (S.stpL nq (fun j => tq (j + aq)) rp fl) j else tl (j - (S.stpL nq (fun j => tq (j + aq)) rp fl).length + al)) j ≤ 1099511627776 := fun j hj => by
          by_cases h1 : j < (S.stpL nq (fun j => tq (j + aq)) rp fl).length
          · dsimp only
            rw [show Nat.blt j (S.stpL nq (fun j => tq (j + aq)) rp fl).length = true by rw [Nat.blt_eq]; exact h1, cond_true]
            exact hst.2.2 j h1
          · dsimp only
            rw [show Nat.blt j (S.stpL nq (fun j => tq (j + aq)) rp fl).length = false by cases hb : Nat.blt j (S.stpL nq (fun j => tq (j + aq)) rp fl).length; rfl; exact absurd (lt_ok hb) h1, cond_false]
            exact hset.2 _ (by omega)
        have hh := hist_in (o := (fun j => to (j + ao))) hm (show (S.stpL nq (fun j => tq (j + aq)) rp fl).length + nl ≤ 1000 by omega) hin
        have hf := field_in (o := (fun j => to (j + ao))) (nl := (S.stpL nq (fun j => tq (j + aq)) rp fl).length + nl) (t := (fun j => bif Nat.blt j (S.stpL nq (fun j => tq (j + aq)) rp fl).length then S.at' (S.stpL nq (fun j => tq (j + aq)) rp fl) j else tl (j - (S.stpL nq (fun j => tq (j + aq)) rp fl).length + al))) hm
        have hbe : (S.behS 0 nq (fun j => tq (j + aq)) rp fl nl (fun j => tl (j + al))).2.2.2.2 = 0 := by unfold S.behS; rw [if_pos rfl, if_pos hs]
        rw [if_pos hs]
        unfold p129
        simp only [hm, hy, hb, hs, hbe, hh, hf, mkl_len]
        have hsu : ∀ A : Bool, S.suiS 0 A = (A, 0) := fun A => rfl
        have hb0 : S.botE 0 0 = 0 := rfl
        simp only [hb0, hsu]
        clear hh hf hin
        generalize S.erB (fun j => tr (j + ar)) (fun j => vr (j + ar)) (S.stpL nq (fun j => tq (j + aq)) rp fl).length (fun j => S.at' (S.stpL nq (fun j => tq (j + aq)) rp fl) j) 0 nr = A at *
        have hl1 : (S.stpL nq (fun j => tq (j + aq)) rp fl).length ≤ 181 := hst.1
        have hv := mag_ok hm
        generalize (S.fldH nr (fun j => tr (j + ar)) (fun j => vr (j + ar)) (fun j => gr (j + ar)) (fun j => to (j + ao)) ((S.stpL nq (fun j => tq (j + aq)) rp fl).length + nl) (fun j => bif Nat.blt j (S.stpL nq (fun j => tq (j + aq)) rp fl).length then S.at' (S.stpL nq (fun j => tq (j + aq)) rp fl) j else tl (j - (S.stpL nq (fun j => tq (j + aq)) rp fl).length + al))) = X at *
        generalize (S.stpL nq (fun j => tq (j + aq)) rp fl) = L at *
        cases A
        all_goals
         show Goes _ _ _
         repeat' first
           | with_reducible refine goes_if (fun h => ?_) (fun h => ?_) <;> (try simp only [lim64, imp_false, decide_eq_true_eq, decide_eq_false_iff_not, Int.toNat_natCast, toNat_pred, toNat_succ, Option.getD_some, Option.getD_none, Bool.not_eq_true', Bool.not_eq_false', Bool.and_eq_true, Bool.or_eq_true, Bool.and_eq_false_iff, Bool.or_eq_false_iff, bne_iff_ne, beq_iff_eq, bne_eq_false_iff_eq, beq_eq_false_iff_ne, ne_eq, not_and, Int.not_le, Int.not_lt, ge_iff_le, gt_iff_lt, Nat.not_lt, Nat.not_le, Bool.not_eq_true, Bool.not_eq_false, Bool.true_eq_false, Bool.false_eq_true, not_false_eq_true, not_true_eq_false] at h)
           | exact goes_none.mpr (by omega)
         all_goals first | (exfalso; omega) | exact goes_inr.mpr rfl | (exfalso; simp_all; done)
      · rw [if_neg hs]
        have hbe : (S.behS 0 nq (fun j => tq (j + aq)) rp fl nl (fun j => tl (j + al))).2.2.2.2 = (S.setE nl (fun j => tl (j + al))) := by unfold S.behS; rw [if_pos rfl, if_neg hs]
        unfold p129
        simp only [hm, hy, hbe]
        have hb0 : S.botE 0 0 = 0 := rfl
        simp only [hb0]
        generalize (S.setE nl (fun j => tl (j + al))) = e at *
        show Goes _ _ _
        repeat' first
          | with_reducible refine goes_if (fun h => ?_) (fun h => ?_) <;> (try simp only [lim64, imp_false, decide_eq_true_eq, decide_eq_false_iff_not, Int.toNat_natCast, toNat_pred, toNat_succ, Option.getD_some, Option.getD_none, Bool.not_eq_true', Bool.not_eq_false', Bool.and_eq_true, Bool.or_eq_true, Bool.and_eq_false_iff, Bool.or_eq_false_iff, bne_iff_ne, beq_iff_eq, bne_eq_false_iff_eq, beq_eq_false_iff_ne, ne_eq, not_and, Int.not_le, Int.not_lt, ge_iff_le, gt_iff_lt, Nat.not_lt, Nat.not_le, Bool.not_eq_true, Bool.not_eq_false, Bool.true_eq_false, Bool.false_eq_true, not_false_eq_true, not_true_eq_false] at h)
          | exact goes_none.mpr (by omega)
        all_goals first | (exfalso; omega) | exact goes_inr.mpr rfl | (exfalso; simp_all; done)
    · have hb : S.botE (S.magE nr (fun j => tr (j + ar)) (fun j => vr (j + ar)) (fun j => gr (j + ar)) no) (S.cyE cn nq (fun j => tq (j + aq)) rp fl) ≠ 0 := by unfold S.botE; rw [if_pos hm]; exact hy
      rw [if_neg hb]
      unfold p129
      generalize S.botE (S.magE nr (fun j => tr (j + ar)) (fun j => vr (j + ar)) (fun j => gr (j + ar)) no) (S.cyE cn nq (fun j => tq (j + aq)) rp fl) = e at *
      show Goes _ _ _
      repeat' first
        | with_reducible refine goes_if (fun h => ?_) (fun h => ?_) <;> (try simp only [lim64, imp_false, decide_eq_true_eq, decide_eq_false_iff_not, Int.toNat_natCast, toNat_pred, toNat_succ, Option.getD_some, Option.getD_none, Bool.not_eq_true', Bool.not_eq_false', Bool.and_eq_true, Bool.or_eq_true, Bool.and_eq_false_iff, Bool.or_eq_false_iff, bne_iff_ne, beq_iff_eq, bne_eq_false_iff_eq, beq_eq_false_iff_ne, ne_eq, not_and, Int.not_le, Int.not_lt, ge_iff_le, gt_iff_lt, Nat.not_lt, Nat.not_le, Bool.not_eq_true, Bool.not_eq_false, Bool.true_eq_false, Bool.false_eq_true, not_false_eq_true, not_true_eq_false] at h)
        | exact goes_none.mpr (by omega)
      all_goals first | (exfalso; omega) | exact goes_inr.mpr rfl | (exfalso; simp_all; done)
  · have hb : S.botE (S.magE nr (fun j => tr (j + ar)) (fun j => vr (j + ar)) (fun j => gr (j + ar)) no) (S.cyE cn nq (fun j => tq (j + aq)) rp fl) ≠ 0 := by unfold S.botE; rw [if_neg hm]; exact hm
    rw [if_neg hb]
    unfold p129
    generalize S.botE (S.magE nr (fun j => tr (j + ar)) (fun j => vr (j + ar)) (fun j => gr (j + ar)) no) (S.cyE cn nq (fun j => tq (j + aq)) rp fl) = e at *
    show Goes _ _ _
    repeat' first
      | with_reducible refine goes_if (fun h => ?_) (fun h => ?_) <;> (try simp only [lim64, imp_false, decide_eq_true_eq, decide_eq_false_iff_not, Int.toNat_natCast, toNat_pred, toNat_succ, Option.getD_some, Option.getD_none, Bool.not_eq_true', Bool.not_eq_false', Bool.and_eq_true, Bool.or_eq_true, Bool.and_eq_false_iff, Bool.or_eq_false_iff, bne_iff_ne, beq_iff_eq, bne_eq_false_iff_eq, beq_eq_false_iff_ne, ne_eq, not_and, Int.not_le, Int.not_lt, ge_iff_le, gt_iff_lt, Nat.not_lt, Nat.not_le, Bool.not_eq_true, Bool.not_eq_false, Bool.true_eq_false, Bool.false_eq_true, not_false_eq_true, not_true_eq_false] at h)
      | exact goes_none.mpr (by omega)
    all_goals first | (exfalso; omega) | exact goes_inr.mpr rfl | (exfalso; simp_all; done)
theorem k129_ok : k129.ok Try.prog := by
  intro x hx
  obtain ⟨⟨⟨ar, nr, mr, tr, vr, gr, _⟩, ⟨ao, no, mo, to, _⟩, _⟩, ⟨cn, ⟨aq, nq, mq, tq, _⟩, rp, fl, _⟩, ⟨al, nl, ml, tl, _⟩, _⟩ := x
  obtain ⟨h1, h2⟩ := a129 ar nr mr tr vr gr ao no mo to cn aq nq mq tq rp fl al nl ml tl (s129 ar nr mr tr vr gr ao no mo to cn aq nq mq tq rp fl al nl ml tl (of_dec hx rfl))
  exact ⟨⟨400, (by decide : 4 + 1 + 0 ≤ 400), h1⟩, h2⟩
namespace S
def bytes (n : Nat) (t : Nat → Int) : Bool := decide (∀ j, j < n → 0 ≤ t j ∧ t j ≤ 255)
def mdN (np : Nat) : Nat := if np = 0 then 1 else min np 12
def mdR (np : Nat) (t v : Nat → Int) (i : Nat) : Int × Int × Int :=
  if i < np then (Int.tmod (t i) 30 + 1 + Int.tmod (v i) 31, Int.tmod (t i) 30, 1 + Int.tdiv (t i) 30 + Int.tdiv (v i) 31) else (9, 3, 1)
def mdB (o : Int) (i : Nat) : Bool := andB .u32 (shrB .u32 o (i : Int)) 1 == 1
end S
theorem bytes_mk {n : Nat} {t : Nat → Int} (h : ∀ j, j < n → 0 ≤ t j ∧ t j ≤ 255) : S.bytes n t = true := decide_eq_true h
theorem byte_div {x : Int} (h : 0 ≤ x ∧ x ≤ 255) : 0 ≤ Int.tmod x 30 ∧ Int.tmod x 30 ≤ 29 ∧ 0 ≤ Int.tdiv x 30 ∧ Int.tdiv x 30 ≤ 8 ∧ 0 ≤ Int.tmod x 31 ∧ Int.tmod x 31 ≤ 30 ∧ 0 ≤ Int.tdiv x 31 ∧ Int.tdiv x 31 ≤ 8 ∧ 0 ≤ Int.tmod x 64 ∧ Int.tmod x 64 ≤ 63 := by
  rw [Int.tmod_eq_emod_of_nonneg h.1, Int.tmod_eq_emod_of_nonneg h.1, Int.tmod_eq_emod_of_nonneg h.1, Int.tdiv_eq_ediv_of_nonneg h.1, Int.tdiv_eq_ediv_of_nonneg h.1]
  omega
theorem mdN_le {np : Nat} : 0 < S.mdN np ∧ S.mdN np ≤ 12 ∧ (np = 0 → S.mdN np = 1) ∧ (0 < np → S.mdN np ≤ np) ∧ ((S.mdN np : Int) < np → S.mdN np = 12) := by
  unfold S.mdN
  split <;> omega
theorem made_mag {np : Nat} {t v : Nat → Int} (h1 : S.bytes np t = true) (h2 : S.bytes np v = true) : S.magE (S.mdN np) (fun j => (S.mdR np t v j).1) (fun j => (S.mdR np t v j).2.1) (fun j => (S.mdR np t v j).2.2) (S.mdN np) = 0 := by
  obtain ⟨n1, n2, -⟩ := mdN_le (np := np)
  have key : ∀ k i, S.relE 0 (fun j => (S.mdR np t v j).1) (fun j => (S.mdR np t v j).2.1) (fun j => (S.mdR np t v j).2.2) i k = 0 := by
    intro k
    induction k with
    | zero => intro i; rfl
    | succ k ih =>
      intro i
      have hr : S.okR (S.mdR np t v i).1 (S.mdR np t v i).2.1 (S.mdR np t v i).2.2 = true ∧ (S.mdR np t v i).2.1 < (S.mdR np t v i).1 := by
        unfold S.mdR S.okR
        by_cases hi : i < np
        · rw [if_pos hi]
          have a := byte_div (of_decide_eq_true h1 i hi)
          have c := byte_div (of_decide_eq_true h2 i hi)
          simp only [decide_eq_true_eq]
          omega
        · rw [if_neg hi]; decide
      simp only [S.relE, hr.1, if_true]
      rw [if_neg (by omega)]
      exact ih (i + 1)
  unfold S.magE
  rw [if_neg (by omega), if_neg (by omega), if_pos rfl]
  exact key _ _
inductive St30 where
  | h0 (x0 : Int) (x1 : List (Int × Int × Int)) (x2 : List Bool)
abbrev Rt30 := List (Int × Int × Int) × List Bool
noncomputable def V30 (ap np mp : Nat) (tp : Nat → Int) (vp : Nat → Int) (o : Int) (r : Rt30) : PV := PV.agg
 [PV.own (2) (3) (List.length r.1), PV.own (3) (1) (List.length r.2)]
noncomputable def N30 (ap np mp : Nat) (tp : Nat → Int) (vp : Nat → Int) (o : Int) (r : Rt30) : List Blk := [Blk.cols (List.length r.1)
 [Col.int IntKind.i64 fun j => (S.at' r.1 j).1,
 Col.int IntKind.i64 fun j => (S.at' r.1 j).2.1,
 Col.int IntKind.i64 fun j => (S.at' r.1 j).2.2], Blk.cols (List.length r.2) [Col.bool fun j => S.at' r.2 j]]
noncomputable def I30 (ap np mp : Nat) (tp : Nat → Int) (vp : Nat → Int) (o : Int) : St30 → Hd
  | .h0 x0 x1 x2 => ⟨hd Try.f8 0, [PV.ptr (PA.mk (1) (0) (0) (0)),
 PV.ptr (PA.mk (2) (0) (0) (0)),
 PV.ptr (PA.mk (3) (0) (0) (0)), PV.int IntKind.i64 x0], [[(1, (true, Blk.cells [PV.loose (PA.mk (0) (2) ap (0)) np, PV.int IntKind.u32 o])), (2, (true, Blk.cells [PV.nils, PV.nils])), (3, (true, Blk.cells
 [PV.own (4) (3) (List.length x1), PV.own (5) (1) (List.length x2)])), (4, (true, Blk.cols (List.length x1)
 [Col.int IntKind.i64 fun j => (S.at' x1 j).1,
 Col.int IntKind.i64 fun j => (S.at' x1 j).2.1,
 Col.int IntKind.i64 fun j => (S.at' x1 j).2.2])), (5, (true, Blk.cols (List.length x2) [Col.bool fun j => S.at' x2 j]))], [(0, (false, .cols mp [.int .u8 tp, .int .u8 vp]))]], 6⟩
noncomputable def q30 (ap np mp : Nat) (tp : Nat → Int) (vp : Nat → Int) (o : Int) : St30 → Option (St30 ⊕ Rt30)
  | .h0 x0 x1 x2 => bif (x0 == (0 : Int))
 then (bif (decide (x0 < (↑np : Int)))
 then (bif (decide ((0 : Int) ≤ x0 ∧ x0 < (↑np : Int)))
 then (bif (decide (Int.toNat x0 + ap < mp))
 then (bif (lim IntKind.i64 (tp (Int.toNat x0 + ap)))
 then (bif (lim IntKind.i64 (Int.tmod (tp (Int.toNat x0 + ap)) (30 : Int) + (1 : Int)))
 then (bif (lim IntKind.i64 (vp (Int.toNat x0 + ap)))
 then (bif (lim IntKind.i64
 (Int.tmod (tp (Int.toNat x0 + ap)) (30 : Int) + (1 : Int) + Int.tmod (vp (Int.toNat x0 + ap)) (31 : Int)))
 then (bif (lim IntKind.i64 (Int.tdiv (tp (Int.toNat x0 + ap)) (30 : Int)))
 then (bif (lim IntKind.i64 ((1 : Int) + Int.tdiv (tp (Int.toNat x0 + ap)) (30 : Int)))
 then (bif (lim IntKind.i64 (Int.tdiv (vp (Int.toNat x0 + ap)) (31 : Int)))
 then (bif (lim IntKind.i64
 ((1 : Int) + Int.tdiv (tp (Int.toNat x0 + ap)) (30 : Int) + Int.tdiv (vp (Int.toNat x0 + ap)) (31 : Int)))
 then (bif (decide (List.length x1 + 1 ≤ 1000000))
 then (bif (decide (List.length x1 ≤ List.length x1))
 then (bif (decide (x0 < (0 : Int)))
 then (none)
 else (bif (S.andB IntKind.u32 (S.shrB IntKind.u32 o x0) (1 : Int) == (1 : Int))
 then (bif (decide (List.length x2 + 1 ≤ 1000000))
 then (bif (decide (List.length x2 ≤ List.length x2))
 then (bif (lim IntKind.i64 (x0 + (1 : Int)))
 then (some (.inl (.h0 (x0 + (1 : Int)) (S.snoc x1
 (Int.tmod (tp (Int.toNat x0 + ap)) (30 : Int) + (1 : Int) + Int.tmod (vp (Int.toNat x0 + ap)) (31 : Int),
 Int.tmod (tp (Int.toNat x0 + ap)) (30 : Int),
 (1 : Int) + Int.tdiv (tp (Int.toNat x0 + ap)) (30 : Int) + Int.tdiv (vp (Int.toNat x0 + ap)) (31 : Int))) (S.snoc x2 true))))
 else (none))
 else (none))
 else (none))
 else (bif (decide (List.length x2 + 1 ≤ 1000000))
 then (bif (decide (List.length x2 ≤ List.length x2))
 then (bif (lim IntKind.i64 (x0 + (1 : Int)))
 then (some (.inl (.h0 (x0 + (1 : Int)) (S.snoc x1
 (Int.tmod (tp (Int.toNat x0 + ap)) (30 : Int) + (1 : Int) + Int.tmod (vp (Int.toNat x0 + ap)) (31 : Int),
 Int.tmod (tp (Int.toNat x0 + ap)) (30 : Int),
 (1 : Int) + Int.tdiv (tp (Int.toNat x0 + ap)) (30 : Int) + Int.tdiv (vp (Int.toNat x0 + ap)) (31 : Int))) (S.snoc x2 false))))
 else (none))
 else (none))
 else (none))))
 else (none))
 else (none))
 else (none))
 else (none))
 else (none))
 else (none))
 else (none))
 else (none))
 else (none))
 else (none))
 else (none))
 else (none))
 else (bif (decide (List.length x1 + 1 ≤ 1000000))
 then (bif (decide (List.length x1 ≤ List.length x1))
 then (bif (decide (x0 < (0 : Int)))
 then (none)
 else (bif (S.andB IntKind.u32 (S.shrB IntKind.u32 o x0) (1 : Int) == (1 : Int))
 then (bif (decide (List.length x2 + 1 ≤ 1000000))
 then (bif (decide (List.length x2 ≤ List.length x2))
 then (bif (lim IntKind.i64 (x0 + (1 : Int)))
 then (some (.inl (.h0 (x0 + (1 : Int)) (S.snoc x1 ((9 : Int), (3 : Int), (1 : Int))) (S.snoc x2 true))))
 else (none))
 else (none))
 else (none))
 else (bif (decide (List.length x2 + 1 ≤ 1000000))
 then (bif (decide (List.length x2 ≤ List.length x2))
 then (bif (lim IntKind.i64 (x0 + (1 : Int)))
 then (some (.inl (.h0 (x0 + (1 : Int)) (S.snoc x1 ((9 : Int), (3 : Int), (1 : Int))) (S.snoc x2 false))))
 else (none))
 else (none))
 else (none))))
 else (none))
 else (none)))
 else (bif (decide (x0 < (↑np : Int)))
 then (bif (decide (x0 < (12 : Int)))
 then (bif (decide ((0 : Int) ≤ x0 ∧ x0 < (↑np : Int)))
 then (bif (decide (Int.toNat x0 + ap < mp))
 then (bif (lim IntKind.i64 (tp (Int.toNat x0 + ap)))
 then (bif (lim IntKind.i64 (Int.tmod (tp (Int.toNat x0 + ap)) (30 : Int) + (1 : Int)))
 then (bif (lim IntKind.i64 (vp (Int.toNat x0 + ap)))
 then (bif (lim IntKind.i64
 (Int.tmod (tp (Int.toNat x0 + ap)) (30 : Int) + (1 : Int) + Int.tmod (vp (Int.toNat x0 + ap)) (31 : Int)))
 then (bif (lim IntKind.i64 (Int.tdiv (tp (Int.toNat x0 + ap)) (30 : Int)))
 then (bif (lim IntKind.i64 ((1 : Int) + Int.tdiv (tp (Int.toNat x0 + ap)) (30 : Int)))
 then (bif (lim IntKind.i64 (Int.tdiv (vp (Int.toNat x0 + ap)) (31 : Int)))
 then (bif (lim IntKind.i64
 ((1 : Int) + Int.tdiv (tp (Int.toNat x0 + ap)) (30 : Int) + Int.tdiv (vp (Int.toNat x0 + ap)) (31 : Int)))
 then (bif (decide (List.length x1 + 1 ≤ 1000000))
 then (bif (decide (List.length x1 ≤ List.length x1))
 then (bif (decide (x0 < (0 : Int)))
 then (none)
 else (bif (S.andB IntKind.u32 (S.shrB IntKind.u32 o x0) (1 : Int) == (1 : Int))
 then (bif (decide (List.length x2 + 1 ≤ 1000000))
 then (bif (decide (List.length x2 ≤ List.length x2))
 then (bif (lim IntKind.i64 (x0 + (1 : Int)))
 then (some (.inl (.h0 (x0 + (1 : Int)) (S.snoc x1
 (Int.tmod (tp (Int.toNat x0 + ap)) (30 : Int) + (1 : Int) + Int.tmod (vp (Int.toNat x0 + ap)) (31 : Int),
 Int.tmod (tp (Int.toNat x0 + ap)) (30 : Int),
 (1 : Int) + Int.tdiv (tp (Int.toNat x0 + ap)) (30 : Int) + Int.tdiv (vp (Int.toNat x0 + ap)) (31 : Int))) (S.snoc x2 true))))
 else (none))
 else (none))
 else (none))
 else (bif (decide (List.length x2 + 1 ≤ 1000000))
 then (bif (decide (List.length x2 ≤ List.length x2))
 then (bif (lim IntKind.i64 (x0 + (1 : Int)))
 then (some (.inl (.h0 (x0 + (1 : Int)) (S.snoc x1
 (Int.tmod (tp (Int.toNat x0 + ap)) (30 : Int) + (1 : Int) + Int.tmod (vp (Int.toNat x0 + ap)) (31 : Int),
 Int.tmod (tp (Int.toNat x0 + ap)) (30 : Int),
 (1 : Int) + Int.tdiv (tp (Int.toNat x0 + ap)) (30 : Int) + Int.tdiv (vp (Int.toNat x0 + ap)) (31 : Int))) (S.snoc x2 false))))
 else (none))
 else (none))
 else (none))))
 else (none))
 else (none))
 else (none))
 else (none))
 else (none))
 else (none))
 else (none))
 else (none))
 else (none))
 else (none))
 else (none))
 else (none))
 else (some (.inr (x1, x2))))
 else (some (.inr (x1, x2))))
noncomputable def p30 (ap np mp : Nat) (tp : Nat → Int) (vp : Nat → Int) (o : Int) : Option (St30 ⊕ Rt30) := some (.inl (.h0 ((0 : Int)) ([]) ([])))
noncomputable def Te30 (test : Bool → Prop → Prop → Prop) (Kst : KS) (Kret : KR) (ap np mp : Nat) (tp : Nat → Int) (vp : Nat → Int) (o : Int) : Prop :=
  Kst (hd Try.f8 0) ([PV.ptr (PA.mk (1) (0) (0) (0)),
 PV.ptr (PA.mk (2) (0) (0) (0)),
 PV.ptr (PA.mk (3) (0) (0) (0)), PV.int IntKind.i64 (0 : Int)]) ([[(0, false, Blk.cols mp [Col.int IntKind.u8 tp, Col.int IntKind.u8 vp]),
 (3, true, Blk.cells [PV.nils, PV.nils]),
 (2, true, Blk.cells [PV.nils, PV.nils]),
 (1, true,
 Blk.cells
 [PV.loose (PA.mk (0) (2) ap (0)) np, PV.int IntKind.u32 o])]]) (4)
theorem te30 (test : Bool → Prop → Prop → Prop) (Kst : KS) (Kret : KR) (ap np mp : Nat) (tp : Nat → Int) (vp : Nat → Int) (o : Int) : run test Try.env true noX true 400 ⟨8, [.cd (mkFn Try.f8).body], argT 0 [.agg [.loose ⟨0, 2, ap, 0⟩ np, .int .u32 o]], [[], [(0, (false, .cols mp [.int .u8 tp, .int .u8 vp]))]], 1⟩ (proj 1 [1, 2, 3, 4] Kst Kret) =
  Te30 test Kst Kret ap np mp tp vp o := by kernel_rfl
noncomputable def T30_0 (test : Bool → Prop → Prop → Prop) (Kst : KS) (Kret : KR) (ap np mp : Nat) (tp : Nat → Int) (vp : Nat → Int) (o : Int) (x0 : Int) (x1 : List (Int × Int × Int)) (x2 : List Bool) : Prop :=
  test (x0 == (0 : Int))
 (test (decide (x0 < (↑np : Int)))
 (test (decide ((0 : Int) ≤ x0 ∧ x0 < (↑np : Int)))
 (test (decide (Int.toNat x0 + ap < mp))
 (test (decide (Int.toNat x0 + ap < mp))
 (test (true)
 (test (lim IntKind.i64 (tp (Int.toNat x0 + ap)))
 (test (false)
 (False)
 (test (lim IntKind.i64 (Int.tmod (tp (Int.toNat x0 + ap)) (30 : Int) + (1 : Int)))
 (test (true)
 (test (lim IntKind.i64 (vp (Int.toNat x0 + ap)))
 (test (false)
 (False)
 (test (lim IntKind.i64
 (Int.tmod (tp (Int.toNat x0 + ap)) (30 : Int) + (1 : Int) + Int.tmod (vp (Int.toNat x0 + ap)) (31 : Int)))
 (test (true)
 (test (lim IntKind.i64 (tp (Int.toNat x0 + ap)))
 (test (false)
 (False)
 (test (lim IntKind.i64 (Int.tdiv (tp (Int.toNat x0 + ap)) (30 : Int)))
 (test (lim IntKind.i64 ((1 : Int) + Int.tdiv (tp (Int.toNat x0 + ap)) (30 : Int)))
 (test (true)
 (test (lim IntKind.i64 (vp (Int.toNat x0 + ap)))
 (test (false)
 (False)
 (test (lim IntKind.i64 (Int.tdiv (vp (Int.toNat x0 + ap)) (31 : Int)))
 (test (lim IntKind.i64
 ((1 : Int) + Int.tdiv (tp (Int.toNat x0 + ap)) (30 : Int) + Int.tdiv (vp (Int.toNat x0 + ap)) (31 : Int)))
 (test (decide (List.length x1 + 1 ≤ 1000000))
 (test (decide (List.length x1 ≤ List.length x1))
 (test (true)
 (test (decide (x0 < (0 : Int)))
 (False)
 (test (S.andB IntKind.u32 (S.shrB IntKind.u32 o x0) (1 : Int) == (1 : Int))
 (test (decide (List.length x2 + 1 ≤ 1000000))
 (test (decide (List.length x2 ≤ List.length x2))
 (test (true)
 (test (lim IntKind.i64 (x0 + (1 : Int)))
 (Kst (hd Try.f8 0) ([PV.ptr (PA.mk (1) (0) (0) (0)),
 PV.ptr (PA.mk (2) (0) (0) (0)),
 PV.ptr (PA.mk (3) (0) (0) (0)),
 PV.int IntKind.i64 (x0 + (1 : Int))]) ([[(0, false, Blk.cols mp [Col.int IntKind.u8 tp, Col.int IntKind.u8 vp]),
 (3, true,
 Blk.cells
 [PV.own (8) (3) (List.length x1 + 1),
 PV.own (10) (1) (List.length x2 + 1)]),
 (2, true, Blk.cells [PV.nils, PV.nils]),
 (1, true,
 Blk.cells
 [PV.loose (PA.mk (0) (2) ap (0)) np, PV.int IntKind.u32 o]),
 (10, true,
 Blk.cols (List.length x2 + 1)
 [Col.bool fun j => bif Nat.blt j (List.length x2) then S.at' x2 j else true]),
 (8, true,
 Blk.cols (List.length x1 + 1)
 [Col.int IntKind.i64 fun j =>
 bif Nat.blt j (List.length x1) then (S.at' x1 j).1
 else
 Int.tmod (tp (Int.toNat x0 + ap)) (30 : Int) + (1 : Int) + Int.tmod (vp (Int.toNat x0 + ap)) (31 : Int),
 Col.int IntKind.i64 fun j =>
 bif Nat.blt j (List.length x1) then (S.at' x1 j).2.1
 else Int.tmod (tp (Int.toNat x0 + ap)) (30 : Int),
 Col.int IntKind.i64 fun j =>
 bif Nat.blt j (List.length x1) then (S.at' x1 j).2.2
 else
 (1 : Int) + Int.tdiv (tp (Int.toNat x0 + ap)) (30 : Int) +
 Int.tdiv (vp (Int.toNat x0 + ap)) (31 : Int)])]]) (11))
 (False))
 (False))
 (False))
 (False))
 (test (decide (List.length x2 + 1 ≤ 1000000))
 (test (decide (List.length x2 ≤ List.length x2))
 (test (true)
 (test (lim IntKind.i64 (x0 + (1 : Int)))
 (Kst (hd Try.f8 0) ([PV.ptr (PA.mk (1) (0) (0) (0)),
 PV.ptr (PA.mk (2) (0) (0) (0)),
 PV.ptr (PA.mk (3) (0) (0) (0)),
 PV.int IntKind.i64 (x0 + (1 : Int))]) ([[(0, false, Blk.cols mp [Col.int IntKind.u8 tp, Col.int IntKind.u8 vp]),
 (3, true,
 Blk.cells
 [PV.own (8) (3) (List.length x1 + 1),
 PV.own (10) (1) (List.length x2 + 1)]),
 (2, true, Blk.cells [PV.nils, PV.nils]),
 (1, true,
 Blk.cells
 [PV.loose (PA.mk (0) (2) ap (0)) np, PV.int IntKind.u32 o]),
 (10, true,
 Blk.cols (List.length x2 + 1)
 [Col.bool fun j => bif Nat.blt j (List.length x2) then S.at' x2 j else false]),
 (8, true,
 Blk.cols (List.length x1 + 1)
 [Col.int IntKind.i64 fun j =>
 bif Nat.blt j (List.length x1) then (S.at' x1 j).1
 else
 Int.tmod (tp (Int.toNat x0 + ap)) (30 : Int) + (1 : Int) + Int.tmod (vp (Int.toNat x0 + ap)) (31 : Int),
 Col.int IntKind.i64 fun j =>
 bif Nat.blt j (List.length x1) then (S.at' x1 j).2.1
 else Int.tmod (tp (Int.toNat x0 + ap)) (30 : Int),
 Col.int IntKind.i64 fun j =>
 bif Nat.blt j (List.length x1) then (S.at' x1 j).2.2
 else
 (1 : Int) + Int.tdiv (tp (Int.toNat x0 + ap)) (30 : Int) +
 Int.tdiv (vp (Int.toNat x0 + ap)) (31 : Int)])]]) (11))
 (False))
 (False))
 (False))
 (False))))
 (False))
 (False))
 (False))
 (False))
 (False)))
 (False))
 (False))
 (False))
 (False)))
 (False))
 (False))
 (False)))
 (False))
 (False))
 (False)))
 (False))
 (False))
 (False))
 (False))
 (False))
 (test (true)
 (test (true)
 (test (false)
 (False)
 (test (true)
 (test (true)
 (test (true)
 (test (false)
 (False)
 (test (true)
 (test (true)
 (test (true)
 (test (false)
 (False)
 (test (true)
 (test (true)
 (test (true)
 (test (true)
 (test (false)
 (False)
 (test (true)
 (test (true)
 (test (decide (List.length x1 + 1 ≤ 1000000))
 (test (decide (List.length x1 ≤ List.length x1))
 (test (true)
 (test (decide (x0 < (0 : Int)))
 (False)
 (test (S.andB IntKind.u32 (S.shrB IntKind.u32 o x0) (1 : Int) == (1 : Int))
 (test (decide (List.length x2 + 1 ≤ 1000000))
 (test (decide (List.length x2 ≤ List.length x2))
 (test (true)
 (test (lim IntKind.i64 (x0 + (1 : Int)))
 (Kst (hd Try.f8 0) ([PV.ptr (PA.mk (1) (0) (0) (0)),
 PV.ptr (PA.mk (2) (0) (0) (0)),
 PV.ptr (PA.mk (3) (0) (0) (0)),
 PV.int IntKind.i64 (x0 + (1 : Int))]) ([[(0, false, Blk.cols mp [Col.int IntKind.u8 tp, Col.int IntKind.u8 vp]),
 (3, true,
 Blk.cells
 [PV.own (8) (3) (List.length x1 + 1),
 PV.own (10) (1) (List.length x2 + 1)]),
 (2, true, Blk.cells [PV.nils, PV.nils]),
 (1, true,
 Blk.cells
 [PV.loose (PA.mk (0) (2) ap (0)) np, PV.int IntKind.u32 o]),
 (10, true,
 Blk.cols (List.length x2 + 1)
 [Col.bool fun j => bif Nat.blt j (List.length x2) then S.at' x2 j else true]),
 (8, true,
 Blk.cols (List.length x1 + 1)
 [Col.int IntKind.i64 fun j =>
 bif Nat.blt j (List.length x1) then (S.at' x1 j).1 else (9 : Int),
 Col.int IntKind.i64 fun j =>
 bif Nat.blt j (List.length x1) then (S.at' x1 j).2.1 else (3 : Int),
 Col.int IntKind.i64 fun j =>
 bif Nat.blt j (List.length x1) then (S.at' x1 j).2.2 else (1 : Int)])]]) (11))
 (False))
 (False))
 (False))
 (False))
 (test (decide (List.length x2 + 1 ≤ 1000000))
 (test (decide (List.length x2 ≤ List.length x2))
 (test (true)
 (test (lim IntKind.i64 (x0 + (1 : Int)))
 (Kst (hd Try.f8 0) ([PV.ptr (PA.mk (1) (0) (0) (0)),
 PV.ptr (PA.mk (2) (0) (0) (0)),
 PV.ptr (PA.mk (3) (0) (0) (0)),
 PV.int IntKind.i64 (x0 + (1 : Int))]) ([[(0, false, Blk.cols mp [Col.int IntKind.u8 tp, Col.int IntKind.u8 vp]),
 (3, true,
 Blk.cells
 [PV.own (8) (3) (List.length x1 + 1),
 PV.own (10) (1) (List.length x2 + 1)]),
 (2, true, Blk.cells [PV.nils, PV.nils]),
 (1, true,
 Blk.cells
 [PV.loose (PA.mk (0) (2) ap (0)) np, PV.int IntKind.u32 o]),
 (10, true,
 Blk.cols (List.length x2 + 1)
 [Col.bool fun j => bif Nat.blt j (List.length x2) then S.at' x2 j else false]),
 (8, true,
 Blk.cols (List.length x1 + 1)
 [Col.int IntKind.i64 fun j =>
 bif Nat.blt j (List.length x1) then (S.at' x1 j).1 else (9 : Int),
 Col.int IntKind.i64 fun j =>
 bif Nat.blt j (List.length x1) then (S.at' x1 j).2.1 else (3 : Int),
 Col.int IntKind.i64 fun j =>
 bif Nat.blt j (List.length x1) then (S.at' x1 j).2.2 else (1 : Int)])]]) (11))
 (False))
 (False))
 (False))
 (False))))
 (False))
 (False))
 (False))
 (False))
 (False)))
 (False))
 (False))
 (False))
 (False)))
 (False))
 (False))
 (False)))
 (False))
 (False))
 (False)))
 (False))
 (False)))
 (test (decide (x0 < (↑np : Int)))
 (test (decide (x0 < (12 : Int)))
 (test (decide (x0 < (↑np : Int)))
 (test (decide ((0 : Int) ≤ x0 ∧ x0 < (↑np : Int)))
 (test (decide (Int.toNat x0 + ap < mp))
 (test (decide (Int.toNat x0 + ap < mp))
 (test (true)
 (test (lim IntKind.i64 (tp (Int.toNat x0 + ap)))
 (test (false)
 (False)
 (test (lim IntKind.i64 (Int.tmod (tp (Int.toNat x0 + ap)) (30 : Int) + (1 : Int)))
 (test (true)
 (test (lim IntKind.i64 (vp (Int.toNat x0 + ap)))
 (test (false)
 (False)
 (test (lim IntKind.i64
 (Int.tmod (tp (Int.toNat x0 + ap)) (30 : Int) + (1 : Int) + Int.tmod (vp (Int.toNat x0 + ap)) (31 : Int)))
 (test (true)
 (test (lim IntKind.i64 (tp (Int.toNat x0 + ap)))
 (test (false)
 (False)
 (test (lim IntKind.i64 (Int.tdiv (tp (Int.toNat x0 + ap)) (30 : Int)))
 (test (lim IntKind.i64 ((1 : Int) + Int.tdiv (tp (Int.toNat x0 + ap)) (30 : Int)))
 (test (true)
 (test (lim IntKind.i64 (vp (Int.toNat x0 + ap)))
 (test (false)
 (False)
 (test (lim IntKind.i64 (Int.tdiv (vp (Int.toNat x0 + ap)) (31 : Int)))
 (test (lim IntKind.i64
 ((1 : Int) + Int.tdiv (tp (Int.toNat x0 + ap)) (30 : Int) + Int.tdiv (vp (Int.toNat x0 + ap)) (31 : Int)))
 (test (decide (List.length x1 + 1 ≤ 1000000))
 (test (decide (List.length x1 ≤ List.length x1))
 (test (true)
 (test (decide (x0 < (0 : Int)))
 (False)
 (test (S.andB IntKind.u32 (S.shrB IntKind.u32 o x0) (1 : Int) == (1 : Int))
 (test (decide (List.length x2 + 1 ≤ 1000000))
 (test (decide (List.length x2 ≤ List.length x2))
 (test (true)
 (test (lim IntKind.i64 (x0 + (1 : Int)))
 (Kst (hd Try.f8 0) ([PV.ptr (PA.mk (1) (0) (0) (0)),
 PV.ptr (PA.mk (2) (0) (0) (0)),
 PV.ptr (PA.mk (3) (0) (0) (0)),
 PV.int IntKind.i64 (x0 + (1 : Int))]) ([[(0, false, Blk.cols mp [Col.int IntKind.u8 tp, Col.int IntKind.u8 vp]),
 (3, true,
 Blk.cells
 [PV.own (8) (3) (List.length x1 + 1),
 PV.own (10) (1) (List.length x2 + 1)]),
 (2, true, Blk.cells [PV.nils, PV.nils]),
 (1, true,
 Blk.cells
 [PV.loose (PA.mk (0) (2) ap (0)) np, PV.int IntKind.u32 o]),
 (10, true,
 Blk.cols (List.length x2 + 1)
 [Col.bool fun j => bif Nat.blt j (List.length x2) then S.at' x2 j else true]),
 (8, true,
 Blk.cols (List.length x1 + 1)
 [Col.int IntKind.i64 fun j =>
 bif Nat.blt j (List.length x1) then (S.at' x1 j).1
 else
 Int.tmod (tp (Int.toNat x0 + ap)) (30 : Int) + (1 : Int) + Int.tmod (vp (Int.toNat x0 + ap)) (31 : Int),
 Col.int IntKind.i64 fun j =>
 bif Nat.blt j (List.length x1) then (S.at' x1 j).2.1
 else Int.tmod (tp (Int.toNat x0 + ap)) (30 : Int),
 Col.int IntKind.i64 fun j =>
 bif Nat.blt j (List.length x1) then (S.at' x1 j).2.2
 else
 (1 : Int) + Int.tdiv (tp (Int.toNat x0 + ap)) (30 : Int) +
 Int.tdiv (vp (Int.toNat x0 + ap)) (31 : Int)])]]) (11))
 (False))
 (False))
 (False))
 (False))
 (test (decide (List.length x2 + 1 ≤ 1000000))
 (test (decide (List.length x2 ≤ List.length x2))
 (test (true)
 (test (lim IntKind.i64 (x0 + (1 : Int)))
 (Kst (hd Try.f8 0) ([PV.ptr (PA.mk (1) (0) (0) (0)),
 PV.ptr (PA.mk (2) (0) (0) (0)),
 PV.ptr (PA.mk (3) (0) (0) (0)),
 PV.int IntKind.i64 (x0 + (1 : Int))]) ([[(0, false, Blk.cols mp [Col.int IntKind.u8 tp, Col.int IntKind.u8 vp]),
 (3, true,
 Blk.cells
 [PV.own (8) (3) (List.length x1 + 1),
 PV.own (10) (1) (List.length x2 + 1)]),
 (2, true, Blk.cells [PV.nils, PV.nils]),
 (1, true,
 Blk.cells
 [PV.loose (PA.mk (0) (2) ap (0)) np, PV.int IntKind.u32 o]),
 (10, true,
 Blk.cols (List.length x2 + 1)
 [Col.bool fun j => bif Nat.blt j (List.length x2) then S.at' x2 j else false]),
 (8, true,
 Blk.cols (List.length x1 + 1)
 [Col.int IntKind.i64 fun j =>
 bif Nat.blt j (List.length x1) then (S.at' x1 j).1
 else
 Int.tmod (tp (Int.toNat x0 + ap)) (30 : Int) + (1 : Int) + Int.tmod (vp (Int.toNat x0 + ap)) (31 : Int),
 Col.int IntKind.i64 fun j =>
 bif Nat.blt j (List.length x1) then (S.at' x1 j).2.1
 else Int.tmod (tp (Int.toNat x0 + ap)) (30 : Int),
 Col.int IntKind.i64 fun j =>
 bif Nat.blt j (List.length x1) then (S.at' x1 j).2.2
 else
 (1 : Int) + Int.tdiv (tp (Int.toNat x0 + ap)) (30 : Int) +
 Int.tdiv (vp (Int.toNat x0 + ap)) (31 : Int)])]]) (11))
 (False))
 (False))
 (False))
 (False))))
 (False))
 (False))
 (False))
 (False))
 (False)))
 (False))
 (False))
 (False))
 (False)))
 (False))
 (False))
 (False)))
 (False))
 (False))
 (False)))
 (False))
 (False))
 (False))
 (False))
 (False))
 (test (true)
 (test (true)
 (test (false)
 (False)
 (test (true)
 (test (true)
 (test (true)
 (test (false)
 (False)
 (test (true)
 (test (true)
 (test (true)
 (test (false)
 (False)
 (test (true)
 (test (true)
 (test (true)
 (test (true)
 (test (false)
 (False)
 (test (true)
 (test (true)
 (test (decide (List.length x1 + 1 ≤ 1000000))
 (test (decide (List.length x1 ≤ List.length x1))
 (test (true)
 (test (decide (x0 < (0 : Int)))
 (False)
 (test (S.andB IntKind.u32 (S.shrB IntKind.u32 o x0) (1 : Int) == (1 : Int))
 (test (decide (List.length x2 + 1 ≤ 1000000))
 (test (decide (List.length x2 ≤ List.length x2))
 (test (true)
 (test (lim IntKind.i64 (x0 + (1 : Int)))
 (Kst (hd Try.f8 0) ([PV.ptr (PA.mk (1) (0) (0) (0)),
 PV.ptr (PA.mk (2) (0) (0) (0)),
 PV.ptr (PA.mk (3) (0) (0) (0)),
 PV.int IntKind.i64 (x0 + (1 : Int))]) ([[(0, false, Blk.cols mp [Col.int IntKind.u8 tp, Col.int IntKind.u8 vp]),
 (3, true,
 Blk.cells
 [PV.own (8) (3) (List.length x1 + 1),
 PV.own (10) (1) (List.length x2 + 1)]),
 (2, true, Blk.cells [PV.nils, PV.nils]),
 (1, true,
 Blk.cells
 [PV.loose (PA.mk (0) (2) ap (0)) np, PV.int IntKind.u32 o]),
 (10, true,
 Blk.cols (List.length x2 + 1)
 [Col.bool fun j => bif Nat.blt j (List.length x2) then S.at' x2 j else true]),
 (8, true,
 Blk.cols (List.length x1 + 1)
 [Col.int IntKind.i64 fun j =>
 bif Nat.blt j (List.length x1) then (S.at' x1 j).1 else (9 : Int),
 Col.int IntKind.i64 fun j =>
 bif Nat.blt j (List.length x1) then (S.at' x1 j).2.1 else (3 : Int),
 Col.int IntKind.i64 fun j =>
 bif Nat.blt j (List.length x1) then (S.at' x1 j).2.2 else (1 : Int)])]]) (11))
 (False))
 (False))
 (False))
 (False))
 (test (decide (List.length x2 + 1 ≤ 1000000))
 (test (decide (List.length x2 ≤ List.length x2))
 (test (true)
 (test (lim IntKind.i64 (x0 + (1 : Int)))
 (Kst (hd Try.f8 0) ([PV.ptr (PA.mk (1) (0) (0) (0)),
 PV.ptr (PA.mk (2) (0) (0) (0)),
 PV.ptr (PA.mk (3) (0) (0) (0)),
 PV.int IntKind.i64 (x0 + (1 : Int))]) ([[(0, false, Blk.cols mp [Col.int IntKind.u8 tp, Col.int IntKind.u8 vp]),
 (3, true,
 Blk.cells
 [PV.own (8) (3) (List.length x1 + 1),
 PV.own (10) (1) (List.length x2 + 1)]),
 (2, true, Blk.cells [PV.nils, PV.nils]),
 (1, true,
 Blk.cells
 [PV.loose (PA.mk (0) (2) ap (0)) np, PV.int IntKind.u32 o]),
 (10, true,
 Blk.cols (List.length x2 + 1)
 [Col.bool fun j => bif Nat.blt j (List.length x2) then S.at' x2 j else false]),
 (8, true,
 Blk.cols (List.length x1 + 1)
 [Col.int IntKind.i64 fun j =>
 bif Nat.blt j (List.length x1) then (S.at' x1 j).1 else (9 : Int),
 Col.int IntKind.i64 fun j =>
 bif Nat.blt j (List.length x1) then (S.at' x1 j).2.1 else (3 : Int),
 Col.int IntKind.i64 fun j =>
 bif Nat.blt j (List.length x1) then (S.at' x1 j).2.2 else (1 : Int)])]]) (11))
 (False))
 (False))
 (False))
 (False))))
 (False))
 (False))
 (False))
 (False))
 (False)))
 (False))
 (False))
 (False))
 (False)))
 (False))
 (False))
 (False)))
 (False))
 (False))
 (False)))
 (False))
 (False)))
 (Kret (PV.agg
 [PV.own (4) (3) (List.length x1), PV.own (5) (1) (List.length x2)]) ([[(0, false, Blk.cols mp [Col.int IntKind.u8 tp, Col.int IntKind.u8 vp]),
 (5, true, Blk.cols (List.length x2) [Col.bool fun j => S.at' x2 j]),
 (4, true,
 Blk.cols (List.length x1)
 [Col.int IntKind.i64 fun j => (S.at' x1 j).1,
 Col.int IntKind.i64 fun j => (S.at' x1 j).2.1,
 Col.int IntKind.i64 fun j => (S.at' x1 j).2.2])]]) (6)))
 (Kret (PV.agg
 [PV.own (4) (3) (List.length x1), PV.own (5) (1) (List.length x2)]) ([[(0, false, Blk.cols mp [Col.int IntKind.u8 tp, Col.int IntKind.u8 vp]),
 (5, true, Blk.cols (List.length x2) [Col.bool fun j => S.at' x2 j]),
 (4, true,
 Blk.cols (List.length x1)
 [Col.int IntKind.i64 fun j => (S.at' x1 j).1,
 Col.int IntKind.i64 fun j => (S.at' x1 j).2.1,
 Col.int IntKind.i64 fun j => (S.at' x1 j).2.2])]]) (6)))
theorem t30_0 (test : Bool → Prop → Prop → Prop) (Kst : KS) (Kret : KR) (ap np mp : Nat) (tp : Nat → Int) (vp : Nat → Int) (o : Int) (x0 : Int) (x1 : List (Int × Int × Int)) (x2 : List Bool) : run test Try.env true noX true 400 ⟨8, hd Try.f8 0, zipT [1, 2, 3, 4] [PV.ptr (PA.mk (1) (0) (0) (0)),
 PV.ptr (PA.mk (2) (0) (0) (0)),
 PV.ptr (PA.mk (3) (0) (0) (0)), PV.int IntKind.i64 x0], [[(1, (true, Blk.cells [PV.loose (PA.mk (0) (2) ap (0)) np, PV.int IntKind.u32 o])), (2, (true, Blk.cells [PV.nils, PV.nils])), (3, (true, Blk.cells
 [PV.own (4) (3) (List.length x1), PV.own (5) (1) (List.length x2)])), (4, (true, Blk.cols (List.length x1)
 [Col.int IntKind.i64 fun j => (S.at' x1 j).1,
 Col.int IntKind.i64 fun j => (S.at' x1 j).2.1,
 Col.int IntKind.i64 fun j => (S.at' x1 j).2.2])), (5, (true, Blk.cols (List.length x2) [Col.bool fun j => S.at' x2 j]))], [(0, (false, .cols mp [.int .u8 tp, .int .u8 vp]))]], 6⟩ (proj 1 [1, 2, 3, 4] Kst Kret) =
  T30_0 test Kst Kret ap np mp tp vp o x0 x1 x2 := by kernel_rfl
theorem be30 (ap np mp : Nat) (tp : Nat → Int) (vp : Nat → Int) (o : Int) (Kst : KS) (Kret : KR) (x : St30 ⊕ Rt30) (hS : HS 1 400 ((I30 ap np mp tp vp o)) Kst x) (hR : HR 1 400 ((V30 ap np mp tp vp o)) (fun r => [newL (1 + 1) ((N30 ap np mp tp vp o) r) ++ [(0, (false, .cols mp [.int .u8 tp, .int .u8 vp]))]]) Kret x) (h : (some (.inl (.h0 ((0 : Int)) ([]) ([]))) : Option (St30 ⊕ Rt30)) = some x) : Te30 cond Kst Kret ap np mp tp vp o := by
  unfold Te30
  exact stop_at hS _ h (fun n => bif Nat.beq n 1 then 1 else bif Nat.beq n 2 then 2 else bif Nat.beq n 3 then 3 else bif Nat.beq n 4 then 399 else bif Nat.beq n 5 then 398 else n) rfl rfl rfl ⟨(rn_ptr (use_own rfl) rfl rfl), ⟨(rn_ptr (use_own rfl) rfl rfl), ⟨(rn_ptr (use_own rfl) rfl rfl), ⟨(rn_int rfl), trivial⟩⟩⟩⟩ rfl (entl_b (use_own rfl) rfl (by simp) (rb_cells ⟨(rn_loose (use_lo rfl) rfl rfl rfl), (rn_int rfl), trivial⟩) (entl_b (use_own rfl) rfl (by simp) (rb_cells ⟨rn_nils, rn_nils, trivial⟩) (entl_b (use_own rfl) rfl (by simp) (rb_cells ⟨(rn_own_nils rfl), (rn_own_nils rfl), trivial⟩) (entl_fresh (use_own rfl) (fresh_ok rfl) (entl_fresh (use_own rfl) (fresh_ok rfl) (entl_bor (use_lo rfl) rfl rfl entl_nil))))))
theorem b30_0 (ap np mp : Nat) (tp : Nat → Int) (vp : Nat → Int) (o : Int) (Kst : KS) (Kret : KR) (x : St30 ⊕ Rt30) (hS : HS 1 400 ((I30 ap np mp tp vp o)) Kst x) (hR : HR 1 400 ((V30 ap np mp tp vp o)) (fun r => [newL (1 + 1) ((N30 ap np mp tp vp o) r) ++ [(0, (false, .cols mp [.int .u8 tp, .int .u8 vp]))]]) Kret x) (x0 : Int) (x1 : List (Int × Int × Int)) (x2 : List Bool) (h : (bif (x0 == (0 : Int))
 then (bif (decide (x0 < (↑np : Int)))
 then (bif (decide ((0 : Int) ≤ x0 ∧ x0 < (↑np : Int)))
 then (bif (decide (Int.toNat x0 + ap < mp))
 then (bif (lim IntKind.i64 (tp (Int.toNat x0 + ap)))
 then (bif (lim IntKind.i64 (Int.tmod (tp (Int.toNat x0 + ap)) (30 : Int) + (1 : Int)))
 then (bif (lim IntKind.i64 (vp (Int.toNat x0 + ap)))
 then (bif (lim IntKind.i64
 (Int.tmod (tp (Int.toNat x0 + ap)) (30 : Int) + (1 : Int) + Int.tmod (vp (Int.toNat x0 + ap)) (31 : Int)))
 then (bif (lim IntKind.i64 (Int.tdiv (tp (Int.toNat x0 + ap)) (30 : Int)))
 then (bif (lim IntKind.i64 ((1 : Int) + Int.tdiv (tp (Int.toNat x0 + ap)) (30 : Int)))
 then (bif (lim IntKind.i64 (Int.tdiv (vp (Int.toNat x0 + ap)) (31 : Int)))
 then (bif (lim IntKind.i64
 ((1 : Int) + Int.tdiv (tp (Int.toNat x0 + ap)) (30 : Int) + Int.tdiv (vp (Int.toNat x0 + ap)) (31 : Int)))
 then (bif (decide (List.length x1 + 1 ≤ 1000000))
 then (bif (decide (List.length x1 ≤ List.length x1))
 then (bif (decide (x0 < (0 : Int)))
 then (none)
 else (bif (S.andB IntKind.u32 (S.shrB IntKind.u32 o x0) (1 : Int) == (1 : Int))
 then (bif (decide (List.length x2 + 1 ≤ 1000000))
 then (bif (decide (List.length x2 ≤ List.length x2))
 then (bif (lim IntKind.i64 (x0 + (1 : Int)))
 then (some (.inl (.h0 (x0 + (1 : Int)) (S.snoc x1
 (Int.tmod (tp (Int.toNat x0 + ap)) (30 : Int) + (1 : Int) + Int.tmod (vp (Int.toNat x0 + ap)) (31 : Int),
 Int.tmod (tp (Int.toNat x0 + ap)) (30 : Int),
 (1 : Int) + Int.tdiv (tp (Int.toNat x0 + ap)) (30 : Int) + Int.tdiv (vp (Int.toNat x0 + ap)) (31 : Int))) (S.snoc x2 true))))
 else (none))
 else (none))
 else (none))
 else (bif (decide (List.length x2 + 1 ≤ 1000000))
 then (bif (decide (List.length x2 ≤ List.length x2))
 then (bif (lim IntKind.i64 (x0 + (1 : Int)))
 then (some (.inl (.h0 (x0 + (1 : Int)) (S.snoc x1
 (Int.tmod (tp (Int.toNat x0 + ap)) (30 : Int) + (1 : Int) + Int.tmod (vp (Int.toNat x0 + ap)) (31 : Int),
 Int.tmod (tp (Int.toNat x0 + ap)) (30 : Int),
 (1 : Int) + Int.tdiv (tp (Int.toNat x0 + ap)) (30 : Int) + Int.tdiv (vp (Int.toNat x0 + ap)) (31 : Int))) (S.snoc x2 false))))
 else (none))
 else (none))
 else (none))))
 else (none))
 else (none))
 else (none))
 else (none))
 else (none))
 else (none))
 else (none))
 else (none))
 else (none))
 else (none))
 else (none))
 else (none))
 else (bif (decide (List.length x1 + 1 ≤ 1000000))
 then (bif (decide (List.length x1 ≤ List.length x1))
 then (bif (decide (x0 < (0 : Int)))
 then (none)
 else (bif (S.andB IntKind.u32 (S.shrB IntKind.u32 o x0) (1 : Int) == (1 : Int))
 then (bif (decide (List.length x2 + 1 ≤ 1000000))
 then (bif (decide (List.length x2 ≤ List.length x2))
 then (bif (lim IntKind.i64 (x0 + (1 : Int)))
 then (some (.inl (.h0 (x0 + (1 : Int)) (S.snoc x1 ((9 : Int), (3 : Int), (1 : Int))) (S.snoc x2 true))))
 else (none))
 else (none))
 else (none))
 else (bif (decide (List.length x2 + 1 ≤ 1000000))
 then (bif (decide (List.length x2 ≤ List.length x2))
 then (bif (lim IntKind.i64 (x0 + (1 : Int)))
 then (some (.inl (.h0 (x0 + (1 : Int)) (S.snoc x1 ((9 : Int), (3 : Int), (1 : Int))) (S.snoc x2 false))))
 else (none))
 else (none))
 else (none))))
 else (none))
 else (none)))
 else (bif (decide (x0 < (↑np : Int)))
 then (bif (decide (x0 < (12 : Int)))
 then (bif (decide ((0 : Int) ≤ x0 ∧ x0 < (↑np : Int)))
 then (bif (decide (Int.toNat x0 + ap < mp))
 then (bif (lim IntKind.i64 (tp (Int.toNat x0 + ap)))
 then (bif (lim IntKind.i64 (Int.tmod (tp (Int.toNat x0 + ap)) (30 : Int) + (1 : Int)))
 then (bif (lim IntKind.i64 (vp (Int.toNat x0 + ap)))
 then (bif (lim IntKind.i64
 (Int.tmod (tp (Int.toNat x0 + ap)) (30 : Int) + (1 : Int) + Int.tmod (vp (Int.toNat x0 + ap)) (31 : Int)))
 then (bif (lim IntKind.i64 (Int.tdiv (tp (Int.toNat x0 + ap)) (30 : Int)))
 then (bif (lim IntKind.i64 ((1 : Int) + Int.tdiv (tp (Int.toNat x0 + ap)) (30 : Int)))
 then (bif (lim IntKind.i64 (Int.tdiv (vp (Int.toNat x0 + ap)) (31 : Int)))
 then (bif (lim IntKind.i64
 ((1 : Int) + Int.tdiv (tp (Int.toNat x0 + ap)) (30 : Int) + Int.tdiv (vp (Int.toNat x0 + ap)) (31 : Int)))
 then (bif (decide (List.length x1 + 1 ≤ 1000000))
 then (bif (decide (List.length x1 ≤ List.length x1))
 then (bif (decide (x0 < (0 : Int)))
 then (none)
 else (bif (S.andB IntKind.u32 (S.shrB IntKind.u32 o x0) (1 : Int) == (1 : Int))
 then (bif (decide (List.length x2 + 1 ≤ 1000000))
 then (bif (decide (List.length x2 ≤ List.length x2))
 then (bif (lim IntKind.i64 (x0 + (1 : Int)))
 then (some (.inl (.h0 (x0 + (1 : Int)) (S.snoc x1
 (Int.tmod (tp (Int.toNat x0 + ap)) (30 : Int) + (1 : Int) + Int.tmod (vp (Int.toNat x0 + ap)) (31 : Int),
 Int.tmod (tp (Int.toNat x0 + ap)) (30 : Int),
 (1 : Int) + Int.tdiv (tp (Int.toNat x0 + ap)) (30 : Int) + Int.tdiv (vp (Int.toNat x0 + ap)) (31 : Int))) (S.snoc x2 true))))
 else (none))
 else (none))
 else (none))
 else (bif (decide (List.length x2 + 1 ≤ 1000000))
 then (bif (decide (List.length x2 ≤ List.length x2))
 then (bif (lim IntKind.i64 (x0 + (1 : Int)))
 then (some (.inl (.h0 (x0 + (1 : Int)) (S.snoc x1
 (Int.tmod (tp (Int.toNat x0 + ap)) (30 : Int) + (1 : Int) + Int.tmod (vp (Int.toNat x0 + ap)) (31 : Int),
 Int.tmod (tp (Int.toNat x0 + ap)) (30 : Int),
 (1 : Int) + Int.tdiv (tp (Int.toNat x0 + ap)) (30 : Int) + Int.tdiv (vp (Int.toNat x0 + ap)) (31 : Int))) (S.snoc x2 false))))
 else (none))
 else (none))
 else (none))))
 else (none))
 else (none))
 else (none))
 else (none))
 else (none))
 else (none))
 else (none))
 else (none))
 else (none))
 else (none))
 else (none))
 else (none))
 else (some (.inr (x1, x2))))
 else (some (.inr (x1, x2)))) : Option (St30 ⊕ Rt30)) = some x) : T30_0 cond Kst Kret ap np mp tp vp o x0 x1 x2 := by
  unfold T30_0
  exact bif_split h
   (fun c0 h => bif_split h
   (fun c1 h => bif_split h
   (fun c2 h => bif_split h
   (fun c3 h => cond_yes c3 (cond_yes rfl (bif_split h
   (fun c4 h => cond_no rfl (bif_split h
   (fun c5 h => cond_yes rfl (bif_split h
   (fun c6 h => cond_no rfl (bif_split h
   (fun c7 h => cond_yes rfl (cond_yes c4 (cond_no rfl (bif_split h
   (fun c8 h => bif_split h
   (fun c9 h => cond_yes rfl (cond_yes c6 (cond_no rfl (bif_split h
   (fun c10 h => bif_split h
   (fun c11 h => bif_split h
   (fun c12 h => bif_split h
   (fun c13 h => cond_yes rfl (bif_split h
   (fun c14 h => no_some h)
   (fun c14 h => bif_split h
   (fun c15 h => bif_split h
   (fun c16 h => bif_split h
   (fun c17 h => cond_yes rfl (bif_split h
   (fun c18 h => stop_at hS _ h (fun n => bif Nat.beq n 1 then 1 else bif Nat.beq n 2 then 2 else bif Nat.beq n 3 then 3 else bif Nat.beq n 4 then 8 else bif Nat.beq n 5 then 10 else n) rfl rfl rfl ⟨(rn_ptr (use_own rfl) rfl rfl), ⟨(rn_ptr (use_own rfl) rfl rfl), ⟨(rn_ptr (use_own rfl) rfl rfl), ⟨(rn_int rfl), trivial⟩⟩⟩⟩ rfl (entl_b (use_own rfl) rfl (by simp) (rb_cells ⟨(rn_loose (use_lo rfl) rfl rfl rfl), (rn_int rfl), trivial⟩) (entl_b (use_own rfl) rfl (by simp) (rb_cells ⟨rn_nils, rn_nils, trivial⟩) (entl_b (use_own rfl) rfl (by simp) (rb_cells ⟨(rn_own (use_own rfl) rfl (snoc_len' rfl)), (rn_own (use_own rfl) rfl (snoc_len' rfl)), trivial⟩) (entl_new (use_own rfl) rfl (Nat.le_of_eq (snoc_len' rfl)) (rcs_int (col_snoc' (fun (t : Int × Int × Int) => t.1) rfl (fun _ _ => rfl)) (rcs_int (col_snoc' (fun (t : Int × Int × Int) => t.2.1) rfl (fun _ _ => rfl)) (rcs_int (col_snoc' (fun (t : Int × Int × Int) => t.2.2) rfl (fun _ _ => rfl)) rcs_nil))) (entl_new (use_own rfl) rfl (Nat.le_of_eq (snoc_len' rfl)) (rcs_bool (col_snoc' (fun (t : Bool) => t) rfl (fun _ _ => rfl)) rcs_nil) (entl_bor (use_lo rfl) rfl rfl entl_nil)))))))
   (fun c18 h => no_some h)))
   (fun c17 h => no_some h))
   (fun c16 h => no_some h))
   (fun c15 h => bif_split h
   (fun c16 h => bif_split h
   (fun c17 h => cond_yes rfl (bif_split h
   (fun c18 h => stop_at hS _ h (fun n => bif Nat.beq n 1 then 1 else bif Nat.beq n 2 then 2 else bif Nat.beq n 3 then 3 else bif Nat.beq n 4 then 8 else bif Nat.beq n 5 then 10 else n) rfl rfl rfl ⟨(rn_ptr (use_own rfl) rfl rfl), ⟨(rn_ptr (use_own rfl) rfl rfl), ⟨(rn_ptr (use_own rfl) rfl rfl), ⟨(rn_int rfl), trivial⟩⟩⟩⟩ rfl (entl_b (use_own rfl) rfl (by simp) (rb_cells ⟨(rn_loose (use_lo rfl) rfl rfl rfl), (rn_int rfl), trivial⟩) (entl_b (use_own rfl) rfl (by simp) (rb_cells ⟨rn_nils, rn_nils, trivial⟩) (entl_b (use_own rfl) rfl (by simp) (rb_cells ⟨(rn_own (use_own rfl) rfl (snoc_len' rfl)), (rn_own (use_own rfl) rfl (snoc_len' rfl)), trivial⟩) (entl_new (use_own rfl) rfl (Nat.le_of_eq (snoc_len' rfl)) (rcs_int (col_snoc' (fun (t : Int × Int × Int) => t.1) rfl (fun _ _ => rfl)) (rcs_int (col_snoc' (fun (t : Int × Int × Int) => t.2.1) rfl (fun _ _ => rfl)) (rcs_int (col_snoc' (fun (t : Int × Int × Int) => t.2.2) rfl (fun _ _ => rfl)) rcs_nil))) (entl_new (use_own rfl) rfl (Nat.le_of_eq (snoc_len' rfl)) (rcs_bool (col_snoc' (fun (t : Bool) => t) rfl (fun _ _ => rfl)) rcs_nil) (entl_bor (use_lo rfl) rfl rfl entl_nil)))))))
   (fun c18 h => no_some h)))
   (fun c17 h => no_some h))
   (fun c16 h => no_some h)))))
   (fun c13 h => no_some h))
   (fun c12 h => no_some h))
   (fun c11 h => no_some h))
   (fun c10 h => no_some h)))))
   (fun c9 h => no_some h))
   (fun c8 h => no_some h)))))
   (fun c7 h => no_some h)))
   (fun c6 h => no_some h)))
   (fun c5 h => no_some h)))
   (fun c4 h => no_some h))))
   (fun c3 h => no_some h))
   (fun c2 h => no_some h))
   (fun c1 h => cond_yes rfl (cond_yes rfl (cond_no rfl (cond_yes rfl (cond_yes rfl (cond_yes rfl (cond_no rfl (cond_yes rfl (cond_yes rfl (cond_yes rfl (cond_no rfl (cond_yes rfl (cond_yes rfl (cond_yes rfl (cond_yes rfl (cond_no rfl (cond_yes rfl (cond_yes rfl (bif_split h
   (fun c2 h => bif_split h
   (fun c3 h => cond_yes rfl (bif_split h
   (fun c4 h => no_some h)
   (fun c4 h => bif_split h
   (fun c5 h => bif_split h
   (fun c6 h => bif_split h
   (fun c7 h => cond_yes rfl (bif_split h
   (fun c8 h => stop_at hS _ h (fun n => bif Nat.beq n 1 then 1 else bif Nat.beq n 2 then 2 else bif Nat.beq n 3 then 3 else bif Nat.beq n 4 then 8 else bif Nat.beq n 5 then 10 else n) rfl rfl rfl ⟨(rn_ptr (use_own rfl) rfl rfl), ⟨(rn_ptr (use_own rfl) rfl rfl), ⟨(rn_ptr (use_own rfl) rfl rfl), ⟨(rn_int rfl), trivial⟩⟩⟩⟩ rfl (entl_b (use_own rfl) rfl (by simp) (rb_cells ⟨(rn_loose (use_lo rfl) rfl rfl rfl), (rn_int rfl), trivial⟩) (entl_b (use_own rfl) rfl (by simp) (rb_cells ⟨rn_nils, rn_nils, trivial⟩) (entl_b (use_own rfl) rfl (by simp) (rb_cells ⟨(rn_own (use_own rfl) rfl (snoc_len' rfl)), (rn_own (use_own rfl) rfl (snoc_len' rfl)), trivial⟩) (entl_new (use_own rfl) rfl (Nat.le_of_eq (snoc_len' rfl)) (rcs_int (col_snoc' (fun (t : Int × Int × Int) => t.1) rfl (fun _ _ => rfl)) (rcs_int (col_snoc' (fun (t : Int × Int × Int) => t.2.1) rfl (fun _ _ => rfl)) (rcs_int (col_snoc' (fun (t : Int × Int × Int) => t.2.2) rfl (fun _ _ => rfl)) rcs_nil))) (entl_new (use_own rfl) rfl (Nat.le_of_eq (snoc_len' rfl)) (rcs_bool (col_snoc' (fun (t : Bool) => t) rfl (fun _ _ => rfl)) rcs_nil) (entl_bor (use_lo rfl) rfl rfl entl_nil)))))))
   (fun c8 h => no_some h)))
   (fun c7 h => no_some h))
   (fun c6 h => no_some h))
   (fun c5 h => bif_split h
   (fun c6 h => bif_split h
   (fun c7 h => cond_yes rfl (bif_split h
   (fun c8 h => stop_at hS _ h (fun n => bif Nat.beq n 1 then 1 else bif Nat.beq n 2 then 2 else bif Nat.beq n 3 then 3 else bif Nat.beq n 4 then 8 else bif Nat.beq n 5 then 10 else n) rfl rfl rfl ⟨(rn_ptr (use_own rfl) rfl rfl), ⟨(rn_ptr (use_own rfl) rfl rfl), ⟨(rn_ptr (use_own rfl) rfl rfl), ⟨(rn_int rfl), trivial⟩⟩⟩⟩ rfl (entl_b (use_own rfl) rfl (by simp) (rb_cells ⟨(rn_loose (use_lo rfl) rfl rfl rfl), (rn_int rfl), trivial⟩) (entl_b (use_own rfl) rfl (by simp) (rb_cells ⟨rn_nils, rn_nils, trivial⟩) (entl_b (use_own rfl) rfl (by simp) (rb_cells ⟨(rn_own (use_own rfl) rfl (snoc_len' rfl)), (rn_own (use_own rfl) rfl (snoc_len' rfl)), trivial⟩) (entl_new (use_own rfl) rfl (Nat.le_of_eq (snoc_len' rfl)) (rcs_int (col_snoc' (fun (t : Int × Int × Int) => t.1) rfl (fun _ _ => rfl)) (rcs_int (col_snoc' (fun (t : Int × Int × Int) => t.2.1) rfl (fun _ _ => rfl)) (rcs_int (col_snoc' (fun (t : Int × Int × Int) => t.2.2) rfl (fun _ _ => rfl)) rcs_nil))) (entl_new (use_own rfl) rfl (Nat.le_of_eq (snoc_len' rfl)) (rcs_bool (col_snoc' (fun (t : Bool) => t) rfl (fun _ _ => rfl)) rcs_nil) (entl_bor (use_lo rfl) rfl rfl entl_nil)))))))
   (fun c8 h => no_some h)))
   (fun c7 h => no_some h))
   (fun c6 h => no_some h)))))
   (fun c3 h => no_some h))
   (fun c2 h => no_some h)))))))))))))))))))))
   (fun c0 h => bif_split h
   (fun c1 h => bif_split h
   (fun c2 h => cond_yes c1 (bif_split h
   (fun c3 h => bif_split h
   (fun c4 h => cond_yes c4 (cond_yes rfl (bif_split h
   (fun c5 h => cond_no rfl (bif_split h
   (fun c6 h => cond_yes rfl (bif_split h
   (fun c7 h => cond_no rfl (bif_split h
   (fun c8 h => cond_yes rfl (cond_yes c5 (cond_no rfl (bif_split h
   (fun c9 h => bif_split h
   (fun c10 h => cond_yes rfl (cond_yes c7 (cond_no rfl (bif_split h
   (fun c11 h => bif_split h
   (fun c12 h => bif_split h
   (fun c13 h => bif_split h
   (fun c14 h => cond_yes rfl (bif_split h
   (fun c15 h => no_some h)
   (fun c15 h => bif_split h
   (fun c16 h => bif_split h
   (fun c17 h => bif_split h
   (fun c18 h => cond_yes rfl (bif_split h
   (fun c19 h => stop_at hS _ h (fun n => bif Nat.beq n 1 then 1 else bif Nat.beq n 2 then 2 else bif Nat.beq n 3 then 3 else bif Nat.beq n 4 then 8 else bif Nat.beq n 5 then 10 else n) rfl rfl rfl ⟨(rn_ptr (use_own rfl) rfl rfl), ⟨(rn_ptr (use_own rfl) rfl rfl), ⟨(rn_ptr (use_own rfl) rfl rfl), ⟨(rn_int rfl), trivial⟩⟩⟩⟩ rfl (entl_b (use_own rfl) rfl (by simp) (rb_cells ⟨(rn_loose (use_lo rfl) rfl rfl rfl), (rn_int rfl), trivial⟩) (entl_b (use_own rfl) rfl (by simp) (rb_cells ⟨rn_nils, rn_nils, trivial⟩) (entl_b (use_own rfl) rfl (by simp) (rb_cells ⟨(rn_own (use_own rfl) rfl (snoc_len' rfl)), (rn_own (use_own rfl) rfl (snoc_len' rfl)), trivial⟩) (entl_new (use_own rfl) rfl (Nat.le_of_eq (snoc_len' rfl)) (rcs_int (col_snoc' (fun (t : Int × Int × Int) => t.1) rfl (fun _ _ => rfl)) (rcs_int (col_snoc' (fun (t : Int × Int × Int) => t.2.1) rfl (fun _ _ => rfl)) (rcs_int (col_snoc' (fun (t : Int × Int × Int) => t.2.2) rfl (fun _ _ => rfl)) rcs_nil))) (entl_new (use_own rfl) rfl (Nat.le_of_eq (snoc_len' rfl)) (rcs_bool (col_snoc' (fun (t : Bool) => t) rfl (fun _ _ => rfl)) rcs_nil) (entl_bor (use_lo rfl) rfl rfl entl_nil)))))))
   (fun c19 h => no_some h)))
   (fun c18 h => no_some h))
   (fun c17 h => no_some h))
   (fun c16 h => bif_split h
   (fun c17 h => bif_split h
   (fun c18 h => cond_yes rfl (bif_split h
   (fun c19 h => stop_at hS _ h (fun n => bif Nat.beq n 1 then 1 else bif Nat.beq n 2 then 2 else bif Nat.beq n 3 then 3 else bif Nat.beq n 4 then 8 else bif Nat.beq n 5 then 10 else n) rfl rfl rfl ⟨(rn_ptr (use_own rfl) rfl rfl), ⟨(rn_ptr (use_own rfl) rfl rfl), ⟨(rn_ptr (use_own rfl) rfl rfl), ⟨(rn_int rfl), trivial⟩⟩⟩⟩ rfl (entl_b (use_own rfl) rfl (by simp) (rb_cells ⟨(rn_loose (use_lo rfl) rfl rfl rfl), (rn_int rfl), trivial⟩) (entl_b (use_own rfl) rfl (by simp) (rb_cells ⟨rn_nils, rn_nils, trivial⟩) (entl_b (use_own rfl) rfl (by simp) (rb_cells ⟨(rn_own (use_own rfl) rfl (snoc_len' rfl)), (rn_own (use_own rfl) rfl (snoc_len' rfl)), trivial⟩) (entl_new (use_own rfl) rfl (Nat.le_of_eq (snoc_len' rfl)) (rcs_int (col_snoc' (fun (t : Int × Int × Int) => t.1) rfl (fun _ _ => rfl)) (rcs_int (col_snoc' (fun (t : Int × Int × Int) => t.2.1) rfl (fun _ _ => rfl)) (rcs_int (col_snoc' (fun (t : Int × Int × Int) => t.2.2) rfl (fun _ _ => rfl)) rcs_nil))) (entl_new (use_own rfl) rfl (Nat.le_of_eq (snoc_len' rfl)) (rcs_bool (col_snoc' (fun (t : Bool) => t) rfl (fun _ _ => rfl)) rcs_nil) (entl_bor (use_lo rfl) rfl rfl entl_nil)))))))
   (fun c19 h => no_some h)))
   (fun c18 h => no_some h))
   (fun c17 h => no_some h)))))
   (fun c14 h => no_some h))
   (fun c13 h => no_some h))
   (fun c12 h => no_some h))
   (fun c11 h => no_some h)))))
   (fun c10 h => no_some h))
   (fun c9 h => no_some h)))))
   (fun c8 h => no_some h)))
   (fun c7 h => no_some h)))
   (fun c6 h => no_some h)))
   (fun c5 h => no_some h))))
   (fun c4 h => no_some h))
   (fun c3 h => no_some h)))
   (fun c2 h => ret_at hR _ h (fun n => bif Nat.beq n 2 then 4 else bif Nat.beq n 3 then 5 else n) rfl rfl rfl (rn_agg ⟨(rn_own (use_own rfl) rfl rfl), (rn_own (use_own rfl) rfl rfl), trivial⟩) rfl (entl_new (use_own rfl) rfl (Nat.le_of_eq rfl) (rcs_int (fun _ _ => rfl) (rcs_int (fun _ _ => rfl) (rcs_int (fun _ _ => rfl) rcs_nil))) (entl_new (use_own rfl) rfl (Nat.le_of_eq rfl) (rcs_bool (fun _ _ => rfl) rcs_nil) (entl_bor (use_lo rfl) rfl rfl entl_nil)))))
   (fun c1 h => ret_at hR _ h (fun n => bif Nat.beq n 2 then 4 else bif Nat.beq n 3 then 5 else n) rfl rfl rfl (rn_agg ⟨(rn_own (use_own rfl) rfl rfl), (rn_own (use_own rfl) rfl rfl), trivial⟩) rfl (entl_new (use_own rfl) rfl (Nat.le_of_eq rfl) (rcs_int (fun _ _ => rfl) (rcs_int (fun _ _ => rfl) (rcs_int (fun _ _ => rfl) rcs_nil))) (entl_new (use_own rfl) rfl (Nat.le_of_eq rfl) (rcs_bool (fun _ _ => rfl) rcs_nil) (entl_bor (use_lo rfl) rfl rfl entl_nil)))))
theorem a30 (ap np mp : Nat) (tp : Nat → Int) (vp : Nat → Int) (o : Int) {r : Rt30} (h : Goes ((q30 ap np mp tp vp o)) ((p30 ap np mp tp vp o)) r) : CallR Try.prog 8 [.agg [.loose ⟨0, 2, ap, 0⟩ np, .int .u32 o]] [[(0, (false, .cols mp [.int .u8 tp, .int .u8 vp]))]] 1 ((V30 ap np mp tp vp o) r) ((fun r => [newL (1 + 1) ((N30 ap np mp tp vp o) r) ++ [(0, (false, .cols mp [.int .u8 tp, .int .u8 vp]))]]) r) 400 ∧ ∃ F, Try.prog.funcs[8]? = some F ∧ F.body.isSome = true ∧ (F.name == "runtime.NumGoroutine") = false := by
  refine dec_calls (f := 8) (lo := 1) (hi := 400) (H := [[(0, (false, .cols mp [.int .u8 tp, .int .u8 vp]))]]) (args := [.agg [.loose ⟨0, 2, ap, 0⟩ np, .int .u32 o]]) Try.envOk Try.mixed noX_ok ((I30 ap np mp tp vp o)) ((V30 ap np mp tp vp o)) (fun r => [newL (1 + 1) ((N30 ap np mp tp vp o) r) ++ [(0, (false, .cols mp [.int .u8 tp, .int .u8 vp]))]]) (fn := mkFn Try.f8) (ts := [1, 2, 3, 4]) (n := 400) rfl (by decide) (by simp) (names_of rfl) ?_ ?_ ?_ h
  · intro s; cases s <;> exact ⟨hd_ok _ _, by simp [I30], names_of rfl, Nat.le_of_ble_eq_true rfl⟩
  · intro Kst Kret x hS hR h
    exact Holds.eq (te30 cond Kst Kret ap np mp tp vp o) (be30 ap np mp tp vp o Kst Kret x hS hR h)
  · intro Kst Kret x hS hR s h
    cases s with
    | h0 x0 x1 x2 => exact Holds.eq (t30_0 cond Kst Kret ap np mp tp vp o x0 x1 x2) (b30_0 ap np mp tp vp o Kst Kret x hS hR x0 x1 x2 h)
noncomputable def k30 : Con := ⟨8, [.agg [.list [.int .u8, .int .u8], .plain (.int .u32)]], fun (x : ((Nat × Nat × Nat × (Nat → Int) × (Nat → Int) × Unit) × Int × Unit) × Unit) => (fun (ap np mp : Nat) (tp : Nat → Int) (vp : Nat → Int) (o : Int) => decide (ap + np ≤ mp ∧ S.bytes np (fun j => tp (j + ap)) = true ∧ S.bytes np (fun j => vp (j + ap)) = true)) x.1.1.1 x.1.1.2.1 x.1.1.2.2.1 x.1.1.2.2.2.1 x.1.1.2.2.2.2.1 x.1.2.1, fun (x : ((Nat × Nat × Nat × (Nat → Int) × (Nat → Int) × Unit) × Int × Unit) × Unit) => (fun (ap np mp : Nat) (tp : Nat → Int) (vp : Nat → Int) (o : Int) => (V30 ap np mp tp vp o) ((S.mkl (S.mdN np) fun j => S.mdR np (fun j => tp (j + ap)) (fun j => vp (j + ap)) j, S.mkl (S.mdN np) fun j => S.mdB o j))) x.1.1.1 x.1.1.2.1 x.1.1.2.2.1 x.1.1.2.2.2.1 x.1.1.2.2.2.2.1 x.1.2.1, fun (x : ((Nat × Nat × Nat × (Nat → Int) × (Nat → Int) × Unit) × Int × Unit) × Unit) => (fun (ap np mp : Nat) (tp : Nat → Int) (vp : Nat → Int) (o : Int) => (N30 ap np mp tp vp o) ((S.mkl (S.mdN np) fun j => S.mdR np (fun j => tp (j + ap)) (fun j => vp (j + ap)) j, S.mkl (S.mdN np) fun j => S.mdB o j))) x.1.1.1 x.1.1.2.1 x.1.1.2.2.1 x.1.1.2.2.2.1 x.1.1.2.2.2.2.1 x.1.2.1, fun _ _ => .dead⟩
theorem s30' (ap np mp : Nat) (tp : Nat → Int) (vp : Nat → Int) (o : Int) (hp : ap + np ≤ mp ∧ S.bytes np (fun j => tp (j + ap)) = true ∧ S.bytes np (fun j => vp (j + ap)) = true) : ∀ (k i : Nat) (lr : List (Int × Int × Int)) (lo : List Bool), i + k = S.mdN np → Holds (lr = S.mkl i fun j => S.mdR np (fun j => tp (j + ap)) (fun j => vp (j + ap)) j) → Holds (lo = S.mkl i fun j => S.mdB o j) → Comes (q30 ap np mp tp vp o) (.h0 (i : Int) lr lo) ((S.mkl (S.mdN np) fun j => S.mdR np (fun j => tp (j + ap)) (fun j => vp (j + ap)) j, S.mkl (S.mdN np) fun j => S.mdB o j)) := by
  obtain ⟨hp1, hp2, hp3⟩ := hp
  intro k
  induction k with
  | zero =>
    intro i lr lo hi elr elo
    obtain ⟨n1, n2, n3, n4, n5⟩ := mdN_le (np := np)
    have hlr : lr.length = i := by rw [elr.get]; exact mkl_len
    have hlo : lo.length = i := by rw [elo.get]; exact mkl_len
    generalize hN : S.mdN np = n at *
    apply Comes.of
    show Goes _ _ _
    (first | rw [q30] | unfold q30)
    repeat' first
      | with_reducible refine goes_if (fun h => ?_) (fun h => ?_) <;> (try simp only [lim64, imp_false, decide_eq_true_eq, decide_eq_false_iff_not, Int.toNat_natCast, toNat_pred, toNat_succ, Option.getD_some, Option.getD_none, Bool.not_eq_true', Bool.not_eq_false', Bool.and_eq_true, Bool.or_eq_true, Bool.and_eq_false_iff, Bool.or_eq_false_iff, bne_iff_ne, beq_iff_eq, bne_eq_false_iff_eq, beq_eq_false_iff_ne, ne_eq, not_and, Int.not_le, Int.not_lt, ge_iff_le, gt_iff_lt, Nat.not_lt, Nat.not_le, Bool.not_eq_true, Bool.not_eq_false, Bool.true_eq_false, Bool.false_eq_true, not_false_eq_true, not_true_eq_false] at h)
      | exact goes_none.mpr (by omega)
    all_goals first | (exfalso; omega) | (obtain rfl : S.mdN np = i := (by omega);  refine goes_inr.mpr ?_; rw [elr.get, elo.get, hN])
  | succ k ih =>
    intro i lr lo hi elr elo
    obtain ⟨n1, n2, n3, n4, n5⟩ := mdN_le (np := np)
    have hlr : lr.length = i := by rw [elr.get]; exact mkl_len
    have hlo : lo.length = i := by rw [elo.get]; exact mkl_len
    generalize hN : S.mdN np = n at *
    have b1 : i < np → _ := fun h => of_decide_eq_true hp2 i h
    have b2 : i < np → _ := fun h => of_decide_eq_true hp3 i h
    simp only at b1 b2
    have c1 : i < np → _ := fun h => byte_div (b1 h)
    have c2 : i < np → _ := fun h => byte_div (b2 h)
    apply Comes.of
    show Goes _ _ _
    (first | rw [q30] | unfold q30)
    repeat' first
      | with_reducible refine goes_if (fun h => ?_) (fun h => ?_) <;> (try simp only [lim64, imp_false, decide_eq_true_eq, decide_eq_false_iff_not, Int.toNat_natCast, toNat_pred, toNat_succ, Option.getD_some, Option.getD_none, Bool.not_eq_true', Bool.not_eq_false', Bool.and_eq_true, Bool.or_eq_true, Bool.and_eq_false_iff, Bool.or_eq_false_iff, bne_iff_ne, beq_iff_eq, bne_eq_false_iff_eq, beq_eq_false_iff_ne, ne_eq, not_and, Int.not_le, Int.not_lt, ge_iff_le, gt_iff_lt, Nat.not_lt, Nat.not_le, Bool.not_eq_true, Bool.not_eq_false, Bool.true_eq_false, Bool.false_eq_true, not_false_eq_true, not_true_eq_false] at h)
      | exact goes_none.mpr (by omega)
    all_goals first
      | (exfalso; omega)
      | (refine ih (i + 1) _ _ (by omega) ⟨?_⟩ ⟨?_⟩ <;> first | (rw [elr.get, mkl_succ]; refine congrArg (S.snoc _) ?_; unfold S.mdR; first | (rw [if_pos (by omega)]; rfl) | (rw [if_neg (by omega)])) | (rw [elo.get, mkl_succ]; refine congrArg (S.snoc _) ?_; unfold S.mdB; symm; first | (rw [beq_iff_eq]; assumption) | (rw [beq_eq_false_iff_ne]; assumption)))
      | (refine ih (i + 1) _ _ (by omega) ⟨?_⟩ ⟨?_⟩ <;> (skip))
theorem s30 (ap np mp : Nat) (tp : Nat → Int) (vp : Nat → Int) (o : Int) (hp : ap + np ≤ mp ∧ S.bytes np (fun j => tp (j + ap)) = true ∧ S.bytes np (fun j => vp (j + ap)) = true) : Goes ((q30 ap np mp tp vp o)) ((p30 ap np mp tp vp o)) ((S.mkl (S.mdN np) fun j => S.mdR np (fun j => tp (j + ap)) (fun j => vp (j + ap)) j, S.mkl (S.mdN np) fun j => S.mdB o j)) := by
  exact s30' ap np mp tp vp o hp (S.mdN np) 0 [] [] (by omega) ⟨rfl⟩ ⟨rfl⟩
theorem k30_ok : k30.ok Try.prog := by
  intro x hx
  obtain ⟨⟨⟨ap, np, mp, tp, vp, _⟩, o, _⟩, _⟩ := x
  obtain ⟨h1, h2⟩ := a30 ap np mp tp vp o (s30 ap np mp tp vp o (of_dec hx rfl))
  exact ⟨⟨400, (by decide : 1 + 1 + 2 ≤ 400), h1⟩, h2⟩
namespace S
def crN (t : Nat → Int) : Nat → List Int
  | 0 => []
  | i + 1 => if (crN t i).length = 0 then snoc (crN t i) (Int.tmod (t i) 20) else if at' (crN t i) ((crN t i).length - 1) ≠ Int.tmod (t i) 20 then snoc (crN t i) (Int.tmod (t i) 20) else crN t i
def crP (L : List Int) : List Int := if L.length = 0 then [20, 21] else if L.length = 1 then snoc L 21 else L
def crL (n : Nat) (t : Nat → Int) : List Int := crP (crN t (min n 8))
def crF (fi : Int) (L : List Int) : Int := if Int.tmod fi 20 = at' L (L.length - 1) then Int.tmod fi 20 + 1 else Int.tmod fi 20
def good (L : List Int) (m : Int) : Prop := ∀ j, j < L.length → (0 ≤ at' L j ∧ at' L j < m) ∧ (0 < j → at' L j ≠ at' L (j - 1))
end S
theorem good_snoc {L : List Int} {m x : Int} (h : S.good L m) (hx : 0 ≤ x ∧ x < m) (hn : 0 < L.length → S.at' L (L.length - 1) ≠ x) : S.good (S.snoc L x) m := by
  intro j hj
  rw [snoc_len] at hj
  rcases Nat.lt_or_eq_of_le (Nat.le_of_lt_succ hj) with h1 | h1
  · rw [at_snoc_lt h1, at_snoc_lt (show j - 1 < L.length by omega)]
    exact h j h1
  · subst h1
    rw [at_snoc_eq]
    refine ⟨hx, fun h0 => ?_⟩
    rw [at_snoc_lt (by omega)]
    exact (hn h0).symm
theorem crN_ok {t : Nat → Int} : ∀ {i : Nat}, (∀ j, j < i → 0 ≤ t j) → S.good (S.crN t i) 20 ∧ (S.crN t i).length ≤ i
  | 0, _ => ⟨fun j hj => absurd hj (Nat.not_lt_zero j), Nat.le_refl _⟩
  | i + 1, h => by
    obtain ⟨h1, h2⟩ := crN_ok (i := i) fun j hj => h j (by omega)
    have hx : 0 ≤ Int.tmod (t i) 20 ∧ Int.tmod (t i) 20 < 20 := ⟨Int.tmod_nonneg _ (h i (by omega)), Int.tmod_lt_of_pos _ (by decide)⟩
    simp only [S.crN]
    split
    · exact ⟨good_snoc h1 hx (fun h0 => by omega), by rw [snoc_len]; omega⟩
    · split
      · rename_i h3
        exact ⟨good_snoc h1 hx (fun h0 => h3), by rw [snoc_len]; omega⟩
      · exact ⟨h1, by omega⟩
theorem good_le {L : List Int} {m m' : Int} (h : S.good L m) (hm : m ≤ m') : S.good L m' := fun j hj => by
  have := h j hj
  exact ⟨by omega, this.2⟩
theorem crL_ok {n : Nat} {t : Nat → Int} (h : S.bytes n t = true) : S.good (S.crL n t) 22 ∧ 2 ≤ (S.crL n t).length ∧ (S.crL n t).length ≤ 8 := by
  have h0 := of_decide_eq_true h
  obtain ⟨h1, h2⟩ := crN_ok (t := t) (i := min n 8) fun j hj => (h0 j (by omega)).1
  unfold S.crL S.crP
  split
  · refine ⟨fun j hj => ?_, Nat.le_refl _, by decide⟩
    have hj : j < 2 := hj
    rcases Nat.lt_or_eq_of_le (Nat.le_of_lt_succ hj) with h3 | h3
    · rw [show j = 0 by omega]; exact ⟨by decide, fun h => absurd h (Nat.lt_irrefl 0)⟩
    · subst h3; exact ⟨by decide, fun _ => by decide⟩
  · split
    · rename_i h3 h4
      refine ⟨good_snoc (good_le h1 (by decide)) (by decide) (fun h5 => ?_), by rw [snoc_len]; omega, by rw [snoc_len]; omega⟩
      have := (h1 _ (show (S.crN t (min n 8)).length - 1 < _ by omega)).1
      omega
    · exact ⟨good_le h1 (by decide), by omega, by omega⟩
theorem name_c : S.isNam (ByteArray.mk #[99]) = true := by decide +kernel
theorem crF_ok {fi : Int} {L : List Int} (h : 0 ≤ fi) : (0 ≤ S.crF fi L ∧ S.crF fi L ≤ 20) ∧ S.crF fi L ≠ S.at' L (L.length - 1) := by
  have hx : 0 ≤ Int.tmod fi 20 ∧ Int.tmod fi 20 < 20 := ⟨Int.tmod_nonneg _ h, Int.tmod_lt_of_pos _ (by decide)⟩
  unfold S.crF
  split <;> omega
theorem curE_yes {e : Int} {t : Nat → Int} : ∀ {k i : Nat}, (∀ j, i ≤ j → j < i + k → (-1099511627776 ≤ t j ∧ t j ≤ 1099511627776) ∧ (0 < j → t j ≠ t (j - 1))) → S.curE e t i k = e
  | 0, _, _ => rfl
  | k + 1, i, h => by
    obtain ⟨h1, h2⟩ := h i (Nat.le_refl _) (by omega)
    simp only [S.curE]
    rw [if_pos h1, if_neg (fun h3 => h2 h3.1 h3.2)]
    exact curE_yes fun j a c => h j (by omega) (by omega)
end Go.Ev
