/-
  Saturation, in the program and in the reference.
-/
import Derived.Test.YtccojphjkaikeaaMA4
namespace Go.Ev
open Go.Proofs
set_option linter.unusedVariables false
set_option linter.unusedSimpArgs false
set_option maxRecDepth 100000
noncomputable def yA6 (test : Bool → Prop → Prop → Prop) : Ext := consX test [k21, k22]
theorem yA6_ok : ExtOk Try.prog (yA6 cond) := consX_ok (l := [k21, k22]) ⟨k21_ok, k22_ok, trivial⟩
inductive St19 where
  | h0 (x0 : Int) (x1 : Int) (x2 : Int)
abbrev Rt19 := Int × Int × Int
noncomputable def V19 (ar nr mr : Nat) (tr : Nat → Int) (vr : Nat → Int) (gr : Nat → Int) (ao no mo : Nat) (to : Nat → Bool) (r : Rt19) : PV := PV.tup [PV.int IntKind.i64 r.1, PV.int IntKind.i64 r.2.1, PV.int IntKind.i64 r.2.2]
noncomputable def N19 (ar nr mr : Nat) (tr : Nat → Int) (vr : Nat → Int) (gr : Nat → Int) (ao no mo : Nat) (to : Nat → Bool) (r : Rt19) : List Blk := []
noncomputable def I19 (ar nr mr : Nat) (tr : Nat → Int) (vr : Nat → Int) (gr : Nat → Int) (ao no mo : Nat) (to : Nat → Bool) : St19 → Hd
  | .h0 x0 x1 x2 => ⟨hd Try.f19 0, [PV.int IntKind.i64 x0, PV.int IntKind.i64 x1,
 PV.loose (PA.mk (0) (3) ar (0)) nr, PV.int IntKind.i64 (↑nr : Int),
 PV.int IntKind.i64 x2], [[], [(0, (false, .cols mr [.int .i64 tr, .int .i64 vr, .int .i64 gr])), (1, (false, .cols mo [.bool to]))]], 2⟩
noncomputable def q19 (ar nr mr : Nat) (tr : Nat → Int) (vr : Nat → Int) (gr : Nat → Int) (ao no mo : Nat) (to : Nat → Bool) : St19 → Option (St19 ⊕ Rt19)
  | .h0 x0 x1 x2 => bif (decide (x2 < (↑nr : Int)))
 then (bif (decide ((0 : Int) ≤ x2 ∧ x2 < (↑nr : Int)))
 then (bif (decide (Int.toNat x2 + ar < mr))
 then (bif (lim IntKind.i64 (x2 + (1 : Int)))
 then (some (.inl (.h0 (Min.min x0 (vr (Int.toNat x2 + ar))) (Max.max x1 (tr (Int.toNat x2 + ar))) (x2 + (1 : Int)))))
 else (none))
 else (none))
 else (none))
 else (some (.inr (x0, x1, (0 : Int))))
noncomputable def p19 (ar nr mr : Nat) (tr : Nat → Int) (vr : Nat → Int) (gr : Nat → Int) (ao no mo : Nat) (to : Nat → Bool) : Option (St19 ⊕ Rt19) := bif (decide (ar + nr ≤ mr ∧ nr ≤ 1000000))
 then (bif (S.magE nr (fun (j : Nat) => tr (j + ar)) (fun (j : Nat) => vr (j + ar)) (fun (j : Nat) => gr (j + ar)) no !=
 (0 : Int))
 then (some (.inr ((0 : Int), (0 : Int), S.magE nr (fun (j : Nat) => tr (j + ar)) (fun (j : Nat) => vr (j + ar)) (fun (j : Nat) => gr (j + ar)) no)))
 else (bif (decide ((0 : Int) ≤ (0 : Int) ∧ (0 : Int) < (↑nr : Int)))
 then (bif (decide (0 + ar < mr))
 then (some (.inl (.h0 (vr (0 + ar)) (tr (0 + ar)) ((0 : Int)))))
 else (none))
 else (none)))
 else (none)
noncomputable def Te19 (test : Bool → Prop → Prop → Prop) (Kst : KS) (Kret : KR) (ar nr mr : Nat) (tr : Nat → Int) (vr : Nat → Int) (gr : Nat → Int) (ao no mo : Nat) (to : Nat → Bool) : Prop :=
  test (decide (ar + nr ≤ mr ∧ nr ≤ 1000000))
 (test (S.magE nr (fun (j : Nat) => tr (j + ar)) (fun (j : Nat) => vr (j + ar)) (fun (j : Nat) => gr (j + ar)) no !=
 (0 : Int))
 (Kret (PV.tup
 [PV.int IntKind.i64 (0 : Int), PV.int IntKind.i64 (0 : Int),
 PV.int IntKind.i64
 (S.magE nr (fun (j : Nat) => tr (j + ar)) (fun (j : Nat) => vr (j + ar)) (fun (j : Nat) => gr (j + ar)) no)]) ([[(1, false, Blk.cols mo [Col.bool to]),
 (0, false,
 Blk.cols mr
 [Col.int IntKind.i64 tr, Col.int IntKind.i64 vr, Col.int IntKind.i64 gr])]]) (4))
 (test (decide ((0 : Int) ≤ (0 : Int) ∧ (0 : Int) < (↑nr : Int)))
 (test (decide (0 + ar < mr))
 (test (decide ((0 : Int) ≤ (0 : Int) ∧ (0 : Int) < (↑nr : Int)))
 (test (decide (0 + ar < mr))
 (Kst (hd Try.f19 0) ([PV.int IntKind.i64 (vr (0 + ar)), PV.int IntKind.i64 (tr (0 + ar)),
 PV.loose (PA.mk (0) (3) ar (0)) nr, PV.int IntKind.i64 (↑nr : Int),
 PV.int IntKind.i64 (0 : Int)]) ([[(1, false, Blk.cols mo [Col.bool to]),
 (0, false,
 Blk.cols mr
 [Col.int IntKind.i64 tr, Col.int IntKind.i64 vr, Col.int IntKind.i64 gr])]]) (4))
 (False))
 (False))
 (False))
 (False)))
 (False)
set_option maxRecDepth 100000 in
theorem te19 (test : Bool → Prop → Prop → Prop) (Kst : KS) (Kret : KR) (ar nr mr : Nat) (tr : Nat → Int) (vr : Nat → Int) (gr : Nat → Int) (ao no mo : Nat) (to : Nat → Bool) : run test Try.env true (yA6 test) true 400 ⟨19, [.cd (mkFn Try.f19).body], argT 0 [.agg [.loose ⟨0, 3, ar, 0⟩ nr, .loose ⟨1, 1, ao, 0⟩ no]], [[], [(0, (false, .cols mr [.int .i64 tr, .int .i64 vr, .int .i64 gr])), (1, (false, .cols mo [.bool to]))]], 2⟩ (proj 2 [6, 7, 26, 27, 28] Kst Kret) =
  Te19 test Kst Kret ar nr mr tr vr gr ao no mo to := by kernel_rfl
noncomputable def T19_0 (test : Bool → Prop → Prop → Prop) (Kst : KS) (Kret : KR) (ar nr mr : Nat) (tr : Nat → Int) (vr : Nat → Int) (gr : Nat → Int) (ao no mo : Nat) (to : Nat → Bool) (x0 : Int) (x1 : Int) (x2 : Int) : Prop :=
  test (decide (x2 < (↑nr : Int)))
 (test (decide ((0 : Int) ≤ x2 ∧ x2 < (↑nr : Int)))
 (test (decide (Int.toNat x2 + ar < mr))
 (test (decide (Int.toNat x2 + ar < mr))
 (test (decide (Int.toNat x2 + ar < mr))
 (test (lim IntKind.i64 (x2 + (1 : Int)))
 (Kst (hd Try.f19 0) ([PV.int IntKind.i64 (Min.min x0 (vr (Int.toNat x2 + ar))),
 PV.int IntKind.i64 (Max.max x1 (tr (Int.toNat x2 + ar))),
 PV.loose (PA.mk (0) (3) ar (0)) nr, PV.int IntKind.i64 (↑nr : Int),
 PV.int IntKind.i64 (x2 + (1 : Int))]) ([[(1, false, Blk.cols mo [Col.bool to]),
 (0, false,
 Blk.cols mr
 [Col.int IntKind.i64 tr, Col.int IntKind.i64 vr, Col.int IntKind.i64 gr])]]) (3))
 (False))
 (False))
 (False))
 (False))
 (False))
 (Kret (PV.tup [PV.int IntKind.i64 x0, PV.int IntKind.i64 x1, PV.int IntKind.i64 (0 : Int)]) ([[(1, false, Blk.cols mo [Col.bool to]),
 (0, false,
 Blk.cols mr
 [Col.int IntKind.i64 tr, Col.int IntKind.i64 vr, Col.int IntKind.i64 gr])]]) (2))
set_option maxRecDepth 100000 in
theorem t19_0 (test : Bool → Prop → Prop → Prop) (Kst : KS) (Kret : KR) (ar nr mr : Nat) (tr : Nat → Int) (vr : Nat → Int) (gr : Nat → Int) (ao no mo : Nat) (to : Nat → Bool) (x0 : Int) (x1 : Int) (x2 : Int) : run test Try.env true (yA6 test) true 400 ⟨19, hd Try.f19 0, zipT [6, 7, 26, 27, 28] [PV.int IntKind.i64 x0, PV.int IntKind.i64 x1,
 PV.loose (PA.mk (0) (3) ar (0)) nr, PV.int IntKind.i64 (↑nr : Int),
 PV.int IntKind.i64 x2], [[], [(0, (false, .cols mr [.int .i64 tr, .int .i64 vr, .int .i64 gr])), (1, (false, .cols mo [.bool to]))]], 2⟩ (proj 2 [6, 7, 26, 27, 28] Kst Kret) =
  T19_0 test Kst Kret ar nr mr tr vr gr ao no mo to x0 x1 x2 := by kernel_rfl
set_option maxRecDepth 100000 in
theorem be19 (ar nr mr : Nat) (tr : Nat → Int) (vr : Nat → Int) (gr : Nat → Int) (ao no mo : Nat) (to : Nat → Bool) (Kst : KS) (Kret : KR) (x : St19 ⊕ Rt19) (hS : HS 2 400 ((I19 ar nr mr tr vr gr ao no mo to)) Kst x) (hR : HR 2 400 ((V19 ar nr mr tr vr gr ao no mo to)) (fun r => [newL (2 + 1) ((N19 ar nr mr tr vr gr ao no mo to) r) ++ [(0, (false, .cols mr [.int .i64 tr, .int .i64 vr, .int .i64 gr])), (1, (false, .cols mo [.bool to]))]]) Kret x) (h : (bif (decide (ar + nr ≤ mr ∧ nr ≤ 1000000))
 then (bif (S.magE nr (fun (j : Nat) => tr (j + ar)) (fun (j : Nat) => vr (j + ar)) (fun (j : Nat) => gr (j + ar)) no !=
 (0 : Int))
 then (some (.inr ((0 : Int), (0 : Int), S.magE nr (fun (j : Nat) => tr (j + ar)) (fun (j : Nat) => vr (j + ar)) (fun (j : Nat) => gr (j + ar)) no)))
 else (bif (decide ((0 : Int) ≤ (0 : Int) ∧ (0 : Int) < (↑nr : Int)))
 then (bif (decide (0 + ar < mr))
 then (some (.inl (.h0 (vr (0 + ar)) (tr (0 + ar)) ((0 : Int)))))
 else (none))
 else (none)))
 else (none) : Option (St19 ⊕ Rt19)) = some x) : Te19 cond Kst Kret ar nr mr tr vr gr ao no mo to := by
  unfold Te19
  exact bif_split h
   (fun c0 h => bif_split h
   (fun c1 h => ret_at hR _ h (fun n => n) rfl rfl rfl (rn_tup ⟨(rn_int rfl), (rn_int rfl), (rn_int rfl), trivial⟩) rfl (entl_bor (use_lo rfl) rfl rfl (entl_bor (use_lo rfl) rfl rfl entl_nil)))
   (fun c1 h => bif_split h
   (fun c2 h => bif_split h
   (fun c3 h => cond_yes c2 (cond_yes c3 (stop_at hS _ h (fun n => n) rfl rfl rfl ⟨(rn_int rfl), ⟨(rn_int rfl), ⟨(rn_loose (use_lo rfl) rfl rfl rfl), ⟨(rn_int rfl), ⟨(rn_int rfl), trivial⟩⟩⟩⟩⟩ rfl (entl_bor (use_lo rfl) rfl rfl (entl_bor (use_lo rfl) rfl rfl entl_nil)))))
   (fun c3 h => no_some h))
   (fun c2 h => no_some h)))
   (fun c0 h => no_some h)
set_option maxRecDepth 100000 in
theorem b19_0 (ar nr mr : Nat) (tr : Nat → Int) (vr : Nat → Int) (gr : Nat → Int) (ao no mo : Nat) (to : Nat → Bool) (Kst : KS) (Kret : KR) (x : St19 ⊕ Rt19) (hS : HS 2 400 ((I19 ar nr mr tr vr gr ao no mo to)) Kst x) (hR : HR 2 400 ((V19 ar nr mr tr vr gr ao no mo to)) (fun r => [newL (2 + 1) ((N19 ar nr mr tr vr gr ao no mo to) r) ++ [(0, (false, .cols mr [.int .i64 tr, .int .i64 vr, .int .i64 gr])), (1, (false, .cols mo [.bool to]))]]) Kret x) (x0 : Int) (x1 : Int) (x2 : Int) (h : (bif (decide (x2 < (↑nr : Int)))
 then (bif (decide ((0 : Int) ≤ x2 ∧ x2 < (↑nr : Int)))
 then (bif (decide (Int.toNat x2 + ar < mr))
 then (bif (lim IntKind.i64 (x2 + (1 : Int)))
 then (some (.inl (.h0 (Min.min x0 (vr (Int.toNat x2 + ar))) (Max.max x1 (tr (Int.toNat x2 + ar))) (x2 + (1 : Int)))))
 else (none))
 else (none))
 else (none))
 else (some (.inr (x0, x1, (0 : Int)))) : Option (St19 ⊕ Rt19)) = some x) : T19_0 cond Kst Kret ar nr mr tr vr gr ao no mo to x0 x1 x2 := by
  unfold T19_0
  exact bif_split h
   (fun c0 h => bif_split h
   (fun c1 h => bif_split h
   (fun c2 h => cond_yes c2 (cond_yes c2 (bif_split h
   (fun c3 h => stop_at hS _ h (fun n => n) rfl rfl rfl ⟨(rn_int rfl), ⟨(rn_int rfl), ⟨(rn_loose (use_lo rfl) rfl rfl rfl), ⟨(rn_int rfl), ⟨(rn_int rfl), trivial⟩⟩⟩⟩⟩ rfl (entl_bor (use_lo rfl) rfl rfl (entl_bor (use_lo rfl) rfl rfl entl_nil)))
   (fun c3 h => no_some h))))
   (fun c2 h => no_some h))
   (fun c1 h => no_some h))
   (fun c0 h => ret_at hR _ h (fun n => n) rfl rfl rfl (rn_tup ⟨(rn_int rfl), (rn_int rfl), (rn_int rfl), trivial⟩) rfl (entl_bor (use_lo rfl) rfl rfl (entl_bor (use_lo rfl) rfl rfl entl_nil)))
theorem a19 (ar nr mr : Nat) (tr : Nat → Int) (vr : Nat → Int) (gr : Nat → Int) (ao no mo : Nat) (to : Nat → Bool) {r : Rt19} (h : Goes ((q19 ar nr mr tr vr gr ao no mo to)) ((p19 ar nr mr tr vr gr ao no mo to)) r) : CallR Try.prog 19 [.agg [.loose ⟨0, 3, ar, 0⟩ nr, .loose ⟨1, 1, ao, 0⟩ no]] [[(0, (false, .cols mr [.int .i64 tr, .int .i64 vr, .int .i64 gr])), (1, (false, .cols mo [.bool to]))]] 2 ((V19 ar nr mr tr vr gr ao no mo to) r) ((fun r => [newL (2 + 1) ((N19 ar nr mr tr vr gr ao no mo to) r) ++ [(0, (false, .cols mr [.int .i64 tr, .int .i64 vr, .int .i64 gr])), (1, (false, .cols mo [.bool to]))]]) r) 400 ∧ ∃ F, Try.prog.funcs[19]? = some F ∧ F.body.isSome = true ∧ (F.name == "runtime.NumGoroutine") = false := by
  refine dec_calls (f := 19) (lo := 2) (hi := 400) (H := [[(0, (false, .cols mr [.int .i64 tr, .int .i64 vr, .int .i64 gr])), (1, (false, .cols mo [.bool to]))]]) (args := [.agg [.loose ⟨0, 3, ar, 0⟩ nr, .loose ⟨1, 1, ao, 0⟩ no]]) Try.envOk Try.mixed yA6_ok ((I19 ar nr mr tr vr gr ao no mo to)) ((V19 ar nr mr tr vr gr ao no mo to)) (fun r => [newL (2 + 1) ((N19 ar nr mr tr vr gr ao no mo to) r) ++ [(0, (false, .cols mr [.int .i64 tr, .int .i64 vr, .int .i64 gr])), (1, (false, .cols mo [.bool to]))]]) (fn := mkFn Try.f19) (ts := [6, 7, 26, 27, 28]) (n := 400) rfl (by decide) (by simp) (names_of rfl) ?_ ?_ ?_ h
  · intro s; cases s <;> exact ⟨hd_ok _ _, by simp [I19], names_of rfl, Nat.le_of_ble_eq_true rfl⟩
  · intro Kst Kret x hS hR h
    exact Holds.eq (te19 cond Kst Kret ar nr mr tr vr gr ao no mo to) (be19 ar nr mr tr vr gr ao no mo to Kst Kret x hS hR h)
  · intro Kst Kret x hS hR s h
    cases s with
    | h0 x0 x1 x2 => exact Holds.eq (t19_0 cond Kst Kret ar nr mr tr vr gr ao no mo to x0 x1 x2) (b19_0 ar nr mr tr vr gr ao no mo to Kst Kret x hS hR x0 x1 x2 h)
noncomputable def k19 : Con := ⟨19, [.agg [.list [.int .i64, .int .i64, .int .i64], .list [.bool]]], fun (x : ((Nat × Nat × Nat × (Nat → Int) × (Nat → Int) × (Nat → Int) × Unit) × (Nat × Nat × Nat × (Nat → Bool) × Unit) × Unit) × Unit) => (fun (ar nr mr : Nat) (tr : Nat → Int) (vr : Nat → Int) (gr : Nat → Int) (ao no mo : Nat) (to : Nat → Bool) => decide (ar + nr ≤ mr ∧ nr ≤ 1000000 ∧ ao + no ≤ mo ∧ no ≤ 1000000)) x.1.1.1 x.1.1.2.1 x.1.1.2.2.1 x.1.1.2.2.2.1 x.1.1.2.2.2.2.1 x.1.1.2.2.2.2.2.1 x.1.2.1.1 x.1.2.1.2.1 x.1.2.1.2.2.1 x.1.2.1.2.2.2.1, fun (x : ((Nat × Nat × Nat × (Nat → Int) × (Nat → Int) × (Nat → Int) × Unit) × (Nat × Nat × Nat × (Nat → Bool) × Unit) × Unit) × Unit) => (fun (ar nr mr : Nat) (tr : Nat → Int) (vr : Nat → Int) (gr : Nat → Int) (ao no mo : Nat) (to : Nat → Bool) => (V19 ar nr mr tr vr gr ao no mo to) (S.satS nr (fun j => tr (j + ar)) (fun j => vr (j + ar)) (fun j => gr (j + ar)) no)) x.1.1.1 x.1.1.2.1 x.1.1.2.2.1 x.1.1.2.2.2.1 x.1.1.2.2.2.2.1 x.1.1.2.2.2.2.2.1 x.1.2.1.1 x.1.2.1.2.1 x.1.2.1.2.2.1 x.1.2.1.2.2.2.1, fun (x : ((Nat × Nat × Nat × (Nat → Int) × (Nat → Int) × (Nat → Int) × Unit) × (Nat × Nat × Nat × (Nat → Bool) × Unit) × Unit) × Unit) => (fun (ar nr mr : Nat) (tr : Nat → Int) (vr : Nat → Int) (gr : Nat → Int) (ao no mo : Nat) (to : Nat → Bool) => (N19 ar nr mr tr vr gr ao no mo to) (S.satS nr (fun j => tr (j + ar)) (fun j => vr (j + ar)) (fun j => gr (j + ar)) no)) x.1.1.1 x.1.1.2.1 x.1.1.2.2.1 x.1.1.2.2.2.1 x.1.1.2.2.2.2.1 x.1.1.2.2.2.2.2.1 x.1.2.1.1 x.1.2.1.2.1 x.1.2.1.2.2.1 x.1.2.1.2.2.2.1, fun _ _ => .dead⟩
theorem s19' (ar nr mr : Nat) (tr : Nat → Int) (vr : Nat → Int) (gr : Nat → Int) (ao no mo : Nat) (to : Nat → Bool) (hp : ar + nr ≤ mr ∧ nr ≤ 1000000 ∧ ao + no ≤ mo ∧ no ≤ 1000000) (hv : S.magE nr (fun j => tr (j + ar)) (fun j => vr (j + ar)) (fun j => gr (j + ar)) no = 0) : ∀ k i : Nat, i + k = nr → Comes (q19 ar nr mr tr vr gr ao no mo to) (.h0 (S.minN (fun j => vr (j + ar)) (i - 1)) (S.maxN (fun j => tr (j + ar)) (i - 1)) (i : Int)) ((S.minN (fun j => vr (j + ar)) (nr - 1), S.maxN (fun j => tr (j + ar)) (nr - 1), 0)) := by
  obtain ⟨hp1, hp2, hp3, hp4⟩ := hp
  intro k
  induction k with
  | zero =>
    intro i hi
    obtain ⟨v1, v2, v3, v4⟩ := mag_ok hv
    apply Comes.of
    show Goes _ _ _
    unfold q19
    repeat' first
      | with_reducible refine goes_if (fun h => ?_) (fun h => ?_) <;> (try simp only [lim64, decide_eq_true_eq, decide_eq_false_iff_not, Int.toNat_natCast, toNat_pred, toNat_succ, Option.getD_some, Option.getD_none, Bool.not_eq_true', Bool.not_eq_false', Bool.and_eq_true, Bool.or_eq_true, Bool.and_eq_false_iff, Bool.or_eq_false_iff, bne_iff_ne, beq_iff_eq, bne_eq_false_iff_eq, beq_eq_false_iff_ne, ne_eq, not_and, Int.not_le, Int.not_lt, ge_iff_le, gt_iff_lt, Nat.not_lt, Nat.not_le, Bool.not_eq_true, Bool.not_eq_false, Bool.true_eq_false, Bool.false_eq_true, not_false_eq_true, not_true_eq_false] at h)
      | exact goes_none.mpr (by omega)
    all_goals first | (exfalso; omega) | (obtain rfl : nr = i := (by omega); rfl)
  | succ k ih =>
    intro i hi
    have ih := ih (i + 1) (by omega)
    obtain ⟨v1, v2, v3, v4⟩ := mag_ok hv
    apply Comes.of
    show Goes _ _ _
    unfold q19
    repeat' first
      | with_reducible refine goes_if (fun h => ?_) (fun h => ?_) <;> (try simp only [lim64, decide_eq_true_eq, decide_eq_false_iff_not, Int.toNat_natCast, toNat_pred, toNat_succ, Option.getD_some, Option.getD_none, Bool.not_eq_true', Bool.not_eq_false', Bool.and_eq_true, Bool.or_eq_true, Bool.and_eq_false_iff, Bool.or_eq_false_iff, bne_iff_ne, beq_iff_eq, bne_eq_false_iff_eq, beq_eq_false_iff_ne, ne_eq, not_and, Int.not_le, Int.not_lt, ge_iff_le, gt_iff_lt, Nat.not_lt, Nat.not_le, Bool.not_eq_true, Bool.not_eq_false, Bool.true_eq_false, Bool.false_eq_true, not_false_eq_true, not_true_eq_false] at h)
      | exact goes_none.mpr (by omega)
    all_goals first | (exfalso; omega) | (rw [show S.minN (fun j => vr (j + ar)) (i + 1 - 1) = min (S.minN (fun j => vr (j + ar)) (i - 1)) (vr (i + ar)) from min_step.symm, show S.maxN (fun j => tr (j + ar)) (i + 1 - 1) = max (S.maxN (fun j => tr (j + ar)) (i - 1)) (tr (i + ar)) from max_step.symm] at ih; exact ih)
theorem s19 (ar nr mr : Nat) (tr : Nat → Int) (vr : Nat → Int) (gr : Nat → Int) (ao no mo : Nat) (to : Nat → Bool) (hp : ar + nr ≤ mr ∧ nr ≤ 1000000 ∧ ao + no ≤ mo ∧ no ≤ 1000000) : Goes ((q19 ar nr mr tr vr gr ao no mo to)) ((p19 ar nr mr tr vr gr ao no mo to)) (S.satS nr (fun j => tr (j + ar)) (fun j => vr (j + ar)) (fun j => gr (j + ar)) no) := by
  by_cases hv : S.magE nr (fun j => tr (j + ar)) (fun j => vr (j + ar)) (fun j => gr (j + ar)) no = 0
  · have hm := s19' ar nr mr tr vr gr ao no mo to hp hv nr 0 (by omega)
    obtain ⟨v1, v2, v3, v4⟩ := mag_ok hv
    obtain ⟨hp1, hp2, hp3, hp4⟩ := hp
    unfold S.satS
    rw [if_pos hv]
    show Goes _ _ _
    unfold p19
    repeat' first
      | with_reducible refine goes_if (fun h => ?_) (fun h => ?_) <;> (try simp only [lim64, decide_eq_true_eq, decide_eq_false_iff_not, Int.toNat_natCast, toNat_pred, toNat_succ, Option.getD_some, Option.getD_none, Bool.not_eq_true', Bool.not_eq_false', Bool.and_eq_true, Bool.or_eq_true, Bool.and_eq_false_iff, Bool.or_eq_false_iff, bne_iff_ne, beq_iff_eq, bne_eq_false_iff_eq, beq_eq_false_iff_ne, ne_eq, not_and, Int.not_le, Int.not_lt, ge_iff_le, gt_iff_lt, Nat.not_lt, Nat.not_le, Bool.not_eq_true, Bool.not_eq_false, Bool.true_eq_false, Bool.false_eq_true, not_false_eq_true, not_true_eq_false] at h)
      | exact goes_none.mpr (by omega)
    all_goals first | (exfalso; omega) | (exfalso; exact absurd hv (by assumption)) | exact hm | rfl
  · obtain ⟨hp1, hp2, hp3, hp4⟩ := hp
    unfold S.satS
    rw [if_neg hv]
    show Goes _ _ _
    unfold p19
    repeat' first
      | with_reducible refine goes_if (fun h => ?_) (fun h => ?_) <;> (try simp only [lim64, decide_eq_true_eq, decide_eq_false_iff_not, Int.toNat_natCast, toNat_pred, toNat_succ, Option.getD_some, Option.getD_none, Bool.not_eq_true', Bool.not_eq_false', Bool.and_eq_true, Bool.or_eq_true, Bool.and_eq_false_iff, Bool.or_eq_false_iff, bne_iff_ne, beq_iff_eq, bne_eq_false_iff_eq, beq_eq_false_iff_ne, ne_eq, not_and, Int.not_le, Int.not_lt, ge_iff_le, gt_iff_lt, Nat.not_lt, Nat.not_le, Bool.not_eq_true, Bool.not_eq_false, Bool.true_eq_false, Bool.false_eq_true, not_false_eq_true, not_true_eq_false] at h)
      | exact goes_none.mpr (by omega)
    all_goals first | (exfalso; omega) | (exfalso; exact hv (by assumption)) | rfl

theorem k19_ok : k19.ok Try.prog := by
  intro x hx
  obtain ⟨⟨⟨ar, nr, mr, tr, vr, gr, _⟩, ⟨ao, no, mo, to, _⟩, _⟩, _⟩ := x
  obtain ⟨h1, h2⟩ := a19 ar nr mr tr vr gr ao no mo to (s19 ar nr mr tr vr gr ao no mo to (of_decide_eq_true hx))
  exact ⟨⟨400, (by decide : 2 + 1 + 0 ≤ 400), h1⟩, h2⟩
inductive St20 where
  | h0 (x0 : Int) (x1 : Int) (x2 : Int)
abbrev Rt20 := Int × Int × Int
noncomputable def V20 (ar nr mr : Nat) (tr : Nat → Int) (vr : Nat → Int) (gr : Nat → Int) (ao no mo : Nat) (to : Nat → Bool) (r : Rt20) : PV := PV.tup [PV.int IntKind.i64 r.1, PV.int IntKind.i64 r.2.1, PV.int IntKind.i64 r.2.2]
noncomputable def N20 (ar nr mr : Nat) (tr : Nat → Int) (vr : Nat → Int) (gr : Nat → Int) (ao no mo : Nat) (to : Nat → Bool) (r : Rt20) : List Blk := []
noncomputable def I20 (ar nr mr : Nat) (tr : Nat → Int) (vr : Nat → Int) (gr : Nat → Int) (ao no mo : Nat) (to : Nat → Bool) : St20 → Hd
  | .h0 x0 x1 x2 => ⟨hd Try.f20 0, [PV.ptr (PA.mk (2) (0) (0) (0)), PV.int IntKind.i64 x0,
 PV.int IntKind.i64 x1, PV.int IntKind.i64 x2], [[(2, (true, Blk.cells
 [PV.loose (PA.mk (0) (3) ar (0)) nr,
 PV.loose (PA.mk (1) (1) ao (0)) no]))], [(0, (false, .cols mr [.int .i64 tr, .int .i64 vr, .int .i64 gr])), (1, (false, .cols mo [.bool to]))]], 3⟩
noncomputable def q20 (ar nr mr : Nat) (tr : Nat → Int) (vr : Nat → Int) (gr : Nat → Int) (ao no mo : Nat) (to : Nat → Bool) : St20 → Option (St20 ⊕ Rt20)
  | .h0 x0 x1 x2 => bif (decide (x2 < (↑nr : Int)))
 then (bif (decide ((0 : Int) ≤ x2 ∧ x2 < (↑nr : Int)))
 then (bif (decide (Int.toNat x2 + ar < mr))
 then (bif (lim IntKind.i64 (x2 + (1 : Int)))
 then (some (.inl (.h0 (Min.min x0 (vr (Int.toNat x2 + ar))) (Max.max x1 (tr (Int.toNat x2 + ar))) (x2 + (1 : Int)))))
 else (none))
 else (none))
 else (none))
 else (some (.inr (x0, x1, (0 : Int))))
noncomputable def p20 (ar nr mr : Nat) (tr : Nat → Int) (vr : Nat → Int) (gr : Nat → Int) (ao no mo : Nat) (to : Nat → Bool) : Option (St20 ⊕ Rt20) := bif (decide (ar + nr ≤ mr ∧ nr ≤ 1000000))
 then (bif (S.magE nr (fun (j : Nat) => tr (j + ar)) (fun (j : Nat) => vr (j + ar)) (fun (j : Nat) => gr (j + ar)) no !=
 (0 : Int))
 then (some (.inr ((0 : Int), (0 : Int), S.magE nr (fun (j : Nat) => tr (j + ar)) (fun (j : Nat) => vr (j + ar)) (fun (j : Nat) => gr (j + ar)) no)))
 else (bif (decide ((0 : Int) ≤ (0 : Int) ∧ (0 : Int) < (↑nr : Int)))
 then (bif (decide (0 + ar < mr))
 then (some (.inl (.h0 (vr (0 + ar)) (tr (0 + ar)) ((0 : Int)))))
 else (none))
 else (none)))
 else (none)
noncomputable def Te20 (test : Bool → Prop → Prop → Prop) (Kst : KS) (Kret : KR) (ar nr mr : Nat) (tr : Nat → Int) (vr : Nat → Int) (gr : Nat → Int) (ao no mo : Nat) (to : Nat → Bool) : Prop :=
  test (decide (ar + nr ≤ mr ∧ nr ≤ 1000000))
 (test (S.magE nr (fun (j : Nat) => tr (j + ar)) (fun (j : Nat) => vr (j + ar)) (fun (j : Nat) => gr (j + ar)) no !=
 (0 : Int))
 (Kret (PV.tup
 [PV.int IntKind.i64 (0 : Int), PV.int IntKind.i64 (0 : Int),
 PV.int IntKind.i64
 (S.magE nr (fun (j : Nat) => tr (j + ar)) (fun (j : Nat) => vr (j + ar)) (fun (j : Nat) => gr (j + ar)) no)]) ([[(1, false, Blk.cols mo [Col.bool to]),
 (0, false,
 Blk.cols mr
 [Col.int IntKind.i64 tr, Col.int IntKind.i64 vr, Col.int IntKind.i64 gr])]]) (4))
 (test (decide ((0 : Int) ≤ (0 : Int) ∧ (0 : Int) < (↑nr : Int)))
 (test (decide (0 + ar < mr))
 (test (decide ((0 : Int) ≤ (0 : Int) ∧ (0 : Int) < (↑nr : Int)))
 (test (decide (0 + ar < mr))
 (Kst (hd Try.f20 0) ([PV.ptr (PA.mk (2) (0) (0) (0)),
 PV.int IntKind.i64 (vr (0 + ar)), PV.int IntKind.i64 (tr (0 + ar)),
 PV.int IntKind.i64 (0 : Int)]) ([[(1, false, Blk.cols mo [Col.bool to]),
 (0, false,
 Blk.cols mr
 [Col.int IntKind.i64 tr, Col.int IntKind.i64 vr, Col.int IntKind.i64 gr]),
 (2, true,
 Blk.cells
 [PV.loose (PA.mk (0) (3) ar (0)) nr,
 PV.loose (PA.mk (1) (1) ao (0)) no])]]) (4))
 (False))
 (False))
 (False))
 (False)))
 (False)
set_option maxRecDepth 100000 in
theorem te20 (test : Bool → Prop → Prop → Prop) (Kst : KS) (Kret : KR) (ar nr mr : Nat) (tr : Nat → Int) (vr : Nat → Int) (gr : Nat → Int) (ao no mo : Nat) (to : Nat → Bool) : run test Try.env true (yA6 test) true 400 ⟨20, [.cd (mkFn Try.f20).body], argT 0 [.agg [.loose ⟨0, 3, ar, 0⟩ nr, .loose ⟨1, 1, ao, 0⟩ no]], [[], [(0, (false, .cols mr [.int .i64 tr, .int .i64 vr, .int .i64 gr])), (1, (false, .cols mo [.bool to]))]], 2⟩ (proj 2 [1, 6, 7, 8] Kst Kret) =
  Te20 test Kst Kret ar nr mr tr vr gr ao no mo to := by kernel_rfl
noncomputable def T20_0 (test : Bool → Prop → Prop → Prop) (Kst : KS) (Kret : KR) (ar nr mr : Nat) (tr : Nat → Int) (vr : Nat → Int) (gr : Nat → Int) (ao no mo : Nat) (to : Nat → Bool) (x0 : Int) (x1 : Int) (x2 : Int) : Prop :=
  test (decide (x2 < (↑nr : Int)))
 (test (decide ((0 : Int) ≤ x2 ∧ x2 < (↑nr : Int)))
 (test (decide (Int.toNat x2 + ar < mr))
 (test (decide ((0 : Int) ≤ x2 ∧ x2 < (↑nr : Int)))
 (test (decide (Int.toNat x2 + ar < mr))
 (test (lim IntKind.i64 (x2 + (1 : Int)))
 (Kst (hd Try.f20 0) ([PV.ptr (PA.mk (2) (0) (0) (0)),
 PV.int IntKind.i64 (Min.min x0 (vr (Int.toNat x2 + ar))),
 PV.int IntKind.i64 (Max.max x1 (tr (Int.toNat x2 + ar))), PV.int IntKind.i64 (x2 + (1 : Int))]) ([[(1, false, Blk.cols mo [Col.bool to]),
 (0, false,
 Blk.cols mr
 [Col.int IntKind.i64 tr, Col.int IntKind.i64 vr, Col.int IntKind.i64 gr]),
 (2, true,
 Blk.cells
 [PV.loose (PA.mk (0) (3) ar (0)) nr,
 PV.loose (PA.mk (1) (1) ao (0)) no])]]) (3))
 (False))
 (False))
 (False))
 (False))
 (False))
 (Kret (PV.tup [PV.int IntKind.i64 x0, PV.int IntKind.i64 x1, PV.int IntKind.i64 (0 : Int)]) ([[(1, false, Blk.cols mo [Col.bool to]),
 (0, false,
 Blk.cols mr
 [Col.int IntKind.i64 tr, Col.int IntKind.i64 vr, Col.int IntKind.i64 gr])]]) (3))
set_option maxRecDepth 100000 in
theorem t20_0 (test : Bool → Prop → Prop → Prop) (Kst : KS) (Kret : KR) (ar nr mr : Nat) (tr : Nat → Int) (vr : Nat → Int) (gr : Nat → Int) (ao no mo : Nat) (to : Nat → Bool) (x0 : Int) (x1 : Int) (x2 : Int) : run test Try.env true (yA6 test) true 400 ⟨20, hd Try.f20 0, zipT [1, 6, 7, 8] [PV.ptr (PA.mk (2) (0) (0) (0)), PV.int IntKind.i64 x0,
 PV.int IntKind.i64 x1, PV.int IntKind.i64 x2], [[(2, (true, Blk.cells
 [PV.loose (PA.mk (0) (3) ar (0)) nr,
 PV.loose (PA.mk (1) (1) ao (0)) no]))], [(0, (false, .cols mr [.int .i64 tr, .int .i64 vr, .int .i64 gr])), (1, (false, .cols mo [.bool to]))]], 3⟩ (proj 2 [1, 6, 7, 8] Kst Kret) =
  T20_0 test Kst Kret ar nr mr tr vr gr ao no mo to x0 x1 x2 := by kernel_rfl
set_option maxRecDepth 100000 in
theorem be20 (ar nr mr : Nat) (tr : Nat → Int) (vr : Nat → Int) (gr : Nat → Int) (ao no mo : Nat) (to : Nat → Bool) (Kst : KS) (Kret : KR) (x : St20 ⊕ Rt20) (hS : HS 2 400 ((I20 ar nr mr tr vr gr ao no mo to)) Kst x) (hR : HR 2 400 ((V20 ar nr mr tr vr gr ao no mo to)) (fun r => [newL (2 + 1) ((N20 ar nr mr tr vr gr ao no mo to) r) ++ [(0, (false, .cols mr [.int .i64 tr, .int .i64 vr, .int .i64 gr])), (1, (false, .cols mo [.bool to]))]]) Kret x) (h : (bif (decide (ar + nr ≤ mr ∧ nr ≤ 1000000))
 then (bif (S.magE nr (fun (j : Nat) => tr (j + ar)) (fun (j : Nat) => vr (j + ar)) (fun (j : Nat) => gr (j + ar)) no !=
 (0 : Int))
 then (some (.inr ((0 : Int), (0 : Int), S.magE nr (fun (j : Nat) => tr (j + ar)) (fun (j : Nat) => vr (j + ar)) (fun (j : Nat) => gr (j + ar)) no)))
 else (bif (decide ((0 : Int) ≤ (0 : Int) ∧ (0 : Int) < (↑nr : Int)))
 then (bif (decide (0 + ar < mr))
 then (some (.inl (.h0 (vr (0 + ar)) (tr (0 + ar)) ((0 : Int)))))
 else (none))
 else (none)))
 else (none) : Option (St20 ⊕ Rt20)) = some x) : Te20 cond Kst Kret ar nr mr tr vr gr ao no mo to := by
  unfold Te20
  exact bif_split h
   (fun c0 h => bif_split h
   (fun c1 h => ret_at hR _ h (fun n => n) rfl rfl rfl (rn_tup ⟨(rn_int rfl), (rn_int rfl), (rn_int rfl), trivial⟩) rfl (entl_bor (use_lo rfl) rfl rfl (entl_bor (use_lo rfl) rfl rfl entl_nil)))
   (fun c1 h => bif_split h
   (fun c2 h => bif_split h
   (fun c3 h => cond_yes c2 (cond_yes c3 (stop_at hS _ h (fun n => bif Nat.beq n 2 then 2 else n) rfl rfl rfl ⟨(rn_ptr (use_own rfl) rfl rfl), ⟨(rn_int rfl), ⟨(rn_int rfl), ⟨(rn_int rfl), trivial⟩⟩⟩⟩ rfl (entl_b (use_own rfl) rfl (by simp) (rb_cells ⟨(rn_loose (use_lo rfl) rfl rfl rfl), (rn_loose (use_lo rfl) rfl rfl rfl), trivial⟩) (entl_bor (use_lo rfl) rfl rfl (entl_bor (use_lo rfl) rfl rfl entl_nil))))))
   (fun c3 h => no_some h))
   (fun c2 h => no_some h)))
   (fun c0 h => no_some h)
set_option maxRecDepth 100000 in
theorem b20_0 (ar nr mr : Nat) (tr : Nat → Int) (vr : Nat → Int) (gr : Nat → Int) (ao no mo : Nat) (to : Nat → Bool) (Kst : KS) (Kret : KR) (x : St20 ⊕ Rt20) (hS : HS 2 400 ((I20 ar nr mr tr vr gr ao no mo to)) Kst x) (hR : HR 2 400 ((V20 ar nr mr tr vr gr ao no mo to)) (fun r => [newL (2 + 1) ((N20 ar nr mr tr vr gr ao no mo to) r) ++ [(0, (false, .cols mr [.int .i64 tr, .int .i64 vr, .int .i64 gr])), (1, (false, .cols mo [.bool to]))]]) Kret x) (x0 : Int) (x1 : Int) (x2 : Int) (h : (bif (decide (x2 < (↑nr : Int)))
 then (bif (decide ((0 : Int) ≤ x2 ∧ x2 < (↑nr : Int)))
 then (bif (decide (Int.toNat x2 + ar < mr))
 then (bif (lim IntKind.i64 (x2 + (1 : Int)))
 then (some (.inl (.h0 (Min.min x0 (vr (Int.toNat x2 + ar))) (Max.max x1 (tr (Int.toNat x2 + ar))) (x2 + (1 : Int)))))
 else (none))
 else (none))
 else (none))
 else (some (.inr (x0, x1, (0 : Int)))) : Option (St20 ⊕ Rt20)) = some x) : T20_0 cond Kst Kret ar nr mr tr vr gr ao no mo to x0 x1 x2 := by
  unfold T20_0
  exact bif_split h
   (fun c0 h => bif_split h
   (fun c1 h => bif_split h
   (fun c2 h => cond_yes c1 (cond_yes c2 (bif_split h
   (fun c3 h => stop_at hS _ h (fun n => bif Nat.beq n 2 then 2 else n) rfl rfl rfl ⟨(rn_ptr (use_own rfl) rfl rfl), ⟨(rn_int rfl), ⟨(rn_int rfl), ⟨(rn_int rfl), trivial⟩⟩⟩⟩ rfl (entl_b (use_own rfl) rfl (by simp) (rb_cells ⟨(rn_loose (use_lo rfl) rfl rfl rfl), (rn_loose (use_lo rfl) rfl rfl rfl), trivial⟩) (entl_bor (use_lo rfl) rfl rfl (entl_bor (use_lo rfl) rfl rfl entl_nil))))
   (fun c3 h => no_some h))))
   (fun c2 h => no_some h))
   (fun c1 h => no_some h))
   (fun c0 h => ret_at hR _ h (fun n => n) rfl rfl rfl (rn_tup ⟨(rn_int rfl), (rn_int rfl), (rn_int rfl), trivial⟩) rfl (entl_bor (use_lo rfl) rfl rfl (entl_bor (use_lo rfl) rfl rfl entl_nil)))
theorem a20 (ar nr mr : Nat) (tr : Nat → Int) (vr : Nat → Int) (gr : Nat → Int) (ao no mo : Nat) (to : Nat → Bool) {r : Rt20} (h : Goes ((q20 ar nr mr tr vr gr ao no mo to)) ((p20 ar nr mr tr vr gr ao no mo to)) r) : CallR Try.prog 20 [.agg [.loose ⟨0, 3, ar, 0⟩ nr, .loose ⟨1, 1, ao, 0⟩ no]] [[(0, (false, .cols mr [.int .i64 tr, .int .i64 vr, .int .i64 gr])), (1, (false, .cols mo [.bool to]))]] 2 ((V20 ar nr mr tr vr gr ao no mo to) r) ((fun r => [newL (2 + 1) ((N20 ar nr mr tr vr gr ao no mo to) r) ++ [(0, (false, .cols mr [.int .i64 tr, .int .i64 vr, .int .i64 gr])), (1, (false, .cols mo [.bool to]))]]) r) 400 ∧ ∃ F, Try.prog.funcs[20]? = some F ∧ F.body.isSome = true ∧ (F.name == "runtime.NumGoroutine") = false := by
  refine dec_calls (f := 20) (lo := 2) (hi := 400) (H := [[(0, (false, .cols mr [.int .i64 tr, .int .i64 vr, .int .i64 gr])), (1, (false, .cols mo [.bool to]))]]) (args := [.agg [.loose ⟨0, 3, ar, 0⟩ nr, .loose ⟨1, 1, ao, 0⟩ no]]) Try.envOk Try.mixed yA6_ok ((I20 ar nr mr tr vr gr ao no mo to)) ((V20 ar nr mr tr vr gr ao no mo to)) (fun r => [newL (2 + 1) ((N20 ar nr mr tr vr gr ao no mo to) r) ++ [(0, (false, .cols mr [.int .i64 tr, .int .i64 vr, .int .i64 gr])), (1, (false, .cols mo [.bool to]))]]) (fn := mkFn Try.f20) (ts := [1, 6, 7, 8]) (n := 400) rfl (by decide) (by simp) (names_of rfl) ?_ ?_ ?_ h
  · intro s; cases s <;> exact ⟨hd_ok _ _, by simp [I20], names_of rfl, Nat.le_of_ble_eq_true rfl⟩
  · intro Kst Kret x hS hR h
    exact Holds.eq (te20 cond Kst Kret ar nr mr tr vr gr ao no mo to) (be20 ar nr mr tr vr gr ao no mo to Kst Kret x hS hR h)
  · intro Kst Kret x hS hR s h
    cases s with
    | h0 x0 x1 x2 => exact Holds.eq (t20_0 cond Kst Kret ar nr mr tr vr gr ao no mo to x0 x1 x2) (b20_0 ar nr mr tr vr gr ao no mo to Kst Kret x hS hR x0 x1 x2 h)
noncomputable def k20 : Con := ⟨20, [.agg [.list [.int .i64, .int .i64, .int .i64], .list [.bool]]], fun (x : ((Nat × Nat × Nat × (Nat → Int) × (Nat → Int) × (Nat → Int) × Unit) × (Nat × Nat × Nat × (Nat → Bool) × Unit) × Unit) × Unit) => (fun (ar nr mr : Nat) (tr : Nat → Int) (vr : Nat → Int) (gr : Nat → Int) (ao no mo : Nat) (to : Nat → Bool) => decide (ar + nr ≤ mr ∧ nr ≤ 1000000 ∧ ao + no ≤ mo ∧ no ≤ 1000000)) x.1.1.1 x.1.1.2.1 x.1.1.2.2.1 x.1.1.2.2.2.1 x.1.1.2.2.2.2.1 x.1.1.2.2.2.2.2.1 x.1.2.1.1 x.1.2.1.2.1 x.1.2.1.2.2.1 x.1.2.1.2.2.2.1, fun (x : ((Nat × Nat × Nat × (Nat → Int) × (Nat → Int) × (Nat → Int) × Unit) × (Nat × Nat × Nat × (Nat → Bool) × Unit) × Unit) × Unit) => (fun (ar nr mr : Nat) (tr : Nat → Int) (vr : Nat → Int) (gr : Nat → Int) (ao no mo : Nat) (to : Nat → Bool) => (V20 ar nr mr tr vr gr ao no mo to) (S.satS nr (fun j => tr (j + ar)) (fun j => vr (j + ar)) (fun j => gr (j + ar)) no)) x.1.1.1 x.1.1.2.1 x.1.1.2.2.1 x.1.1.2.2.2.1 x.1.1.2.2.2.2.1 x.1.1.2.2.2.2.2.1 x.1.2.1.1 x.1.2.1.2.1 x.1.2.1.2.2.1 x.1.2.1.2.2.2.1, fun (x : ((Nat × Nat × Nat × (Nat → Int) × (Nat → Int) × (Nat → Int) × Unit) × (Nat × Nat × Nat × (Nat → Bool) × Unit) × Unit) × Unit) => (fun (ar nr mr : Nat) (tr : Nat → Int) (vr : Nat → Int) (gr : Nat → Int) (ao no mo : Nat) (to : Nat → Bool) => (N20 ar nr mr tr vr gr ao no mo to) (S.satS nr (fun j => tr (j + ar)) (fun j => vr (j + ar)) (fun j => gr (j + ar)) no)) x.1.1.1 x.1.1.2.1 x.1.1.2.2.1 x.1.1.2.2.2.1 x.1.1.2.2.2.2.1 x.1.1.2.2.2.2.2.1 x.1.2.1.1 x.1.2.1.2.1 x.1.2.1.2.2.1 x.1.2.1.2.2.2.1, fun _ _ => .dead⟩
theorem s20' (ar nr mr : Nat) (tr : Nat → Int) (vr : Nat → Int) (gr : Nat → Int) (ao no mo : Nat) (to : Nat → Bool) (hp : ar + nr ≤ mr ∧ nr ≤ 1000000 ∧ ao + no ≤ mo ∧ no ≤ 1000000) (hv : S.magE nr (fun j => tr (j + ar)) (fun j => vr (j + ar)) (fun j => gr (j + ar)) no = 0) : ∀ k i : Nat, i + k = nr → Comes (q20 ar nr mr tr vr gr ao no mo to) (.h0 (S.minN (fun j => vr (j + ar)) (i - 1)) (S.maxN (fun j => tr (j + ar)) (i - 1)) (i : Int)) ((S.minN (fun j => vr (j + ar)) (nr - 1), S.maxN (fun j => tr (j + ar)) (nr - 1), 0)) := by
  obtain ⟨hp1, hp2, hp3, hp4⟩ := hp
  intro k
  induction k with
  | zero =>
    intro i hi
    obtain ⟨v1, v2, v3, v4⟩ := mag_ok hv
    apply Comes.of
    show Goes _ _ _
    unfold q20
    repeat' first
      | with_reducible refine goes_if (fun h => ?_) (fun h => ?_) <;> (try simp only [lim64, decide_eq_true_eq, decide_eq_false_iff_not, Int.toNat_natCast, toNat_pred, toNat_succ, Option.getD_some, Option.getD_none, Bool.not_eq_true', Bool.not_eq_false', Bool.and_eq_true, Bool.or_eq_true, Bool.and_eq_false_iff, Bool.or_eq_false_iff, bne_iff_ne, beq_iff_eq, bne_eq_false_iff_eq, beq_eq_false_iff_ne, ne_eq, not_and, Int.not_le, Int.not_lt, ge_iff_le, gt_iff_lt, Nat.not_lt, Nat.not_le, Bool.not_eq_true, Bool.not_eq_false, Bool.true_eq_false, Bool.false_eq_true, not_false_eq_true, not_true_eq_false] at h)
      | exact goes_none.mpr (by omega)
    all_goals first | (exfalso; omega) | (obtain rfl : nr = i := (by omega); rfl)
  | succ k ih =>
    intro i hi
    have ih := ih (i + 1) (by omega)
    obtain ⟨v1, v2, v3, v4⟩ := mag_ok hv
    apply Comes.of
    show Goes _ _ _
    unfold q20
    repeat' first
      | with_reducible refine goes_if (fun h => ?_) (fun h => ?_) <;> (try simp only [lim64, decide_eq_true_eq, decide_eq_false_iff_not, Int.toNat_natCast, toNat_pred, toNat_succ, Option.getD_some, Option.getD_none, Bool.not_eq_true', Bool.not_eq_false', Bool.and_eq_true, Bool.or_eq_true, Bool.and_eq_false_iff, Bool.or_eq_false_iff, bne_iff_ne, beq_iff_eq, bne_eq_false_iff_eq, beq_eq_false_iff_ne, ne_eq, not_and, Int.not_le, Int.not_lt, ge_iff_le, gt_iff_lt, Nat.not_lt, Nat.not_le, Bool.not_eq_true, Bool.not_eq_false, Bool.true_eq_false, Bool.false_eq_true, not_false_eq_true, not_true_eq_false] at h)
      | exact goes_none.mpr (by omega)
    all_goals first | (exfalso; omega) | (rw [show S.minN (fun j => vr (j + ar)) (i + 1 - 1) = min (S.minN (fun j => vr (j + ar)) (i - 1)) (vr (i + ar)) from min_step.symm, show S.maxN (fun j => tr (j + ar)) (i + 1 - 1) = max (S.maxN (fun j => tr (j + ar)) (i - 1)) (tr (i + ar)) from max_step.symm] at ih; exact ih)
theorem s20 (ar nr mr : Nat) (tr : Nat → Int) (vr : Nat → Int) (gr : Nat → Int) (ao no mo : Nat) (to : Nat → Bool) (hp : ar + nr ≤ mr ∧ nr ≤ 1000000 ∧ ao + no ≤ mo ∧ no ≤ 1000000) : Goes ((q20 ar nr mr tr vr gr ao no mo to)) ((p20 ar nr mr tr vr gr ao no mo to)) (S.satS nr (fun j => tr (j + ar)) (fun j => vr (j + ar)) (fun j => gr (j + ar)) no) := by
  by_cases hv : S.magE nr (fun j => tr (j + ar)) (fun j => vr (j + ar)) (fun j => gr (j + ar)) no = 0
  · have hm := s20' ar nr mr tr vr gr ao no mo to hp hv nr 0 (by omega)
    obtain ⟨v1, v2, v3, v4⟩ := mag_ok hv
    obtain ⟨hp1, hp2, hp3, hp4⟩ := hp
    unfold S.satS
    rw [if_pos hv]
    show Goes _ _ _
    unfold p20
    repeat' first
      | with_reducible refine goes_if (fun h => ?_) (fun h => ?_) <;> (try simp only [lim64, decide_eq_true_eq, decide_eq_false_iff_not, Int.toNat_natCast, toNat_pred, toNat_succ, Option.getD_some, Option.getD_none, Bool.not_eq_true', Bool.not_eq_false', Bool.and_eq_true, Bool.or_eq_true, Bool.and_eq_false_iff, Bool.or_eq_false_iff, bne_iff_ne, beq_iff_eq, bne_eq_false_iff_eq, beq_eq_false_iff_ne, ne_eq, not_and, Int.not_le, Int.not_lt, ge_iff_le, gt_iff_lt, Nat.not_lt, Nat.not_le, Bool.not_eq_true, Bool.not_eq_false, Bool.true_eq_false, Bool.false_eq_true, not_false_eq_true, not_true_eq_false] at h)
      | exact goes_none.mpr (by omega)
    all_goals first | (exfalso; omega) | (exfalso; exact absurd hv (by assumption)) | exact hm | rfl
  · obtain ⟨hp1, hp2, hp3, hp4⟩ := hp
    unfold S.satS
    rw [if_neg hv]
    show Goes _ _ _
    unfold p20
    repeat' first
      | with_reducible refine goes_if (fun h => ?_) (fun h => ?_) <;> (try simp only [lim64, decide_eq_true_eq, decide_eq_false_iff_not, Int.toNat_natCast, toNat_pred, toNat_succ, Option.getD_some, Option.getD_none, Bool.not_eq_true', Bool.not_eq_false', Bool.and_eq_true, Bool.or_eq_true, Bool.and_eq_false_iff, Bool.or_eq_false_iff, bne_iff_ne, beq_iff_eq, bne_eq_false_iff_eq, beq_eq_false_iff_ne, ne_eq, not_and, Int.not_le, Int.not_lt, ge_iff_le, gt_iff_lt, Nat.not_lt, Nat.not_le, Bool.not_eq_true, Bool.not_eq_false, Bool.true_eq_false, Bool.false_eq_true, not_false_eq_true, not_true_eq_false] at h)
      | exact goes_none.mpr (by omega)
    all_goals first | (exfalso; omega) | (exfalso; exact hv (by assumption)) | rfl

theorem k20_ok : k20.ok Try.prog := by
  intro x hx
  obtain ⟨⟨⟨ar, nr, mr, tr, vr, gr, _⟩, ⟨ao, no, mo, to, _⟩, _⟩, _⟩ := x
  obtain ⟨h1, h2⟩ := a20 ar nr mr tr vr gr ao no mo to (s20 ar nr mr tr vr gr ao no mo to (of_decide_eq_true hx))
  exact ⟨⟨400, (by decide : 2 + 1 + 0 ≤ 400), h1⟩, h2⟩


end Go.Ev
