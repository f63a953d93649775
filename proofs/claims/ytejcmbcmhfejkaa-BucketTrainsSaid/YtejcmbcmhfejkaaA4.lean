/-
  Facing, in the program and in the reference.
-/
import Derived.Test.YtejcmbcmhfejkaaA3
namespace Go.Ev
open Go.Proofs
set_option linter.unusedVariables false
set_option linter.unusedSimpArgs false
set_option maxRecDepth 100000
abbrev St16 := Empty
abbrev Rt16 := Int × Int
noncomputable def V16 (h1 : Int) (bi : Int) (h2 : Int) (t : Int) (r : Rt16) : PV := PV.tup [PV.int IntKind.i64 r.1, PV.int IntKind.i64 r.2]
noncomputable def N16 (h1 : Int) (bi : Int) (h2 : Int) (t : Int) (r : Rt16) : List Blk := []
noncomputable def I16 (h1 : Int) (bi : Int) (h2 : Int) (t : Int) : St16 → Hd := fun s => s.elim
noncomputable def q16 (h1 : Int) (bi : Int) (h2 : Int) (t : Int) : St16 → Option (St16 ⊕ Rt16) := fun s => s.elim
noncomputable def p16 (h1 : Int) (bi : Int) (h2 : Int) (t : Int) : Option (St16 ⊕ Rt16) := bif (decide (h1 ≥ (1 : Int)))
 then (bif (decide (h1 ≤ (2000 : Int)))
 then (bif (decide (h2 ≥ (1 : Int)))
 then (bif (decide (h2 ≤ (2000 : Int)))
 then (bif (decide (bi ≥ (0 : Int)))
 then (bif (decide (bi < h1))
 then (bif (decide (t ≥ (0 : Int)))
 then (bif (decide (t ≤ (1099511627776 : Int)))
 then (bif (lim IntKind.i64 (bi - t))
 then (bif (decide (h1 = (0 : Int)))
 then (none)
 else (bif (lim IntKind.i64 (Int.tmod (bi - t) h1 + h1))
 then (bif (lim IntKind.i64 (t + Int.tmod (Int.tmod (bi - t) h1 + h1) h1))
 then (bif (decide (h2 = (0 : Int)))
 then (none)
 else (some (.inr (Int.tmod (t + Int.tmod (Int.tmod (bi - t) h1 + h1) h1) h2, (0 : Int)))))
 else (none))
 else (none)))
 else (none))
 else (some (.inr ((0 : Int), (6 : Int)))))
 else (some (.inr ((0 : Int), (6 : Int)))))
 else (some (.inr ((0 : Int), (6 : Int)))))
 else (some (.inr ((0 : Int), (6 : Int)))))
 else (some (.inr ((0 : Int), (6 : Int)))))
 else (some (.inr ((0 : Int), (6 : Int)))))
 else (some (.inr ((0 : Int), (6 : Int)))))
 else (some (.inr ((0 : Int), (6 : Int))))
noncomputable def Te16 (test : Bool → Prop → Prop → Prop) (Kst : KS) (Kret : KR) (h1 : Int) (bi : Int) (h2 : Int) (t : Int) : Prop :=
  test (decide (h1 ≥ (1 : Int)))
 (test (decide (h1 ≤ (2000 : Int)))
 (test (decide (h2 ≥ (1 : Int)))
 (test (decide (h2 ≤ (2000 : Int)))
 (test (decide (bi ≥ (0 : Int)))
 (test (decide (bi < h1))
 (test (decide (t ≥ (0 : Int)))
 (test (decide (t ≤ (1099511627776 : Int)))
 (test (lim IntKind.i64 (bi - t))
 (test (decide (h1 = (0 : Int)))
 (False)
 (test (lim IntKind.i64 (Int.tmod (bi - t) h1 + h1))
 (test (decide (h1 = (0 : Int)))
 (False)
 (test (lim IntKind.i64 (t + Int.tmod (Int.tmod (bi - t) h1 + h1) h1))
 (test (decide (h2 = (0 : Int)))
 (False)
 (Kret (PV.tup
 [PV.int IntKind.i64 (Int.tmod (t + Int.tmod (Int.tmod (bi - t) h1 + h1) h1) h2),
 PV.int IntKind.i64 (0 : Int)]) ([[]]) (0)))
 (False)))
 (False)))
 (False))
 (Kret (PV.tup [PV.int IntKind.i64 (0 : Int), PV.int IntKind.i64 (6 : Int)]) ([[]]) (0)))
 (Kret (PV.tup [PV.int IntKind.i64 (0 : Int), PV.int IntKind.i64 (6 : Int)]) ([[]]) (0)))
 (Kret (PV.tup [PV.int IntKind.i64 (0 : Int), PV.int IntKind.i64 (6 : Int)]) ([[]]) (0)))
 (Kret (PV.tup [PV.int IntKind.i64 (0 : Int), PV.int IntKind.i64 (6 : Int)]) ([[]]) (0)))
 (Kret (PV.tup [PV.int IntKind.i64 (0 : Int), PV.int IntKind.i64 (6 : Int)]) ([[]]) (0)))
 (Kret (PV.tup [PV.int IntKind.i64 (0 : Int), PV.int IntKind.i64 (6 : Int)]) ([[]]) (0)))
 (Kret (PV.tup [PV.int IntKind.i64 (0 : Int), PV.int IntKind.i64 (6 : Int)]) ([[]]) (0)))
 (Kret (PV.tup [PV.int IntKind.i64 (0 : Int), PV.int IntKind.i64 (6 : Int)]) ([[]]) (0))
set_option maxRecDepth 100000 in
theorem te16 (test : Bool → Prop → Prop → Prop) (Kst : KS) (Kret : KR) (h1 : Int) (bi : Int) (h2 : Int) (t : Int) : run test Try.env true noX true 400 ⟨16, [.cd (mkFn Try.f16).body], argT 0 [.int .i64 h1, .int .i64 bi, .int .i64 h2, .int .i64 t], [[], []], 0⟩ (proj 0 [] Kst Kret) =
  Te16 test Kst Kret h1 bi h2 t := by kernel_rfl
attribute [local irreducible] Int.subNatNat in
set_option maxRecDepth 100000 in
theorem be16 (h1 : Int) (bi : Int) (h2 : Int) (t : Int) (Kst : KS) (Kret : KR) (x : St16 ⊕ Rt16) (hS : HS 0 400 ((I16 h1 bi h2 t)) Kst x) (hR : HR 0 400 ((V16 h1 bi h2 t)) (fun r => [newL (0 + 1) ((N16 h1 bi h2 t) r) ++ []]) Kret x) (h : (bif (decide (h1 ≥ (1 : Int)))
 then (bif (decide (h1 ≤ (2000 : Int)))
 then (bif (decide (h2 ≥ (1 : Int)))
 then (bif (decide (h2 ≤ (2000 : Int)))
 then (bif (decide (bi ≥ (0 : Int)))
 then (bif (decide (bi < h1))
 then (bif (decide (t ≥ (0 : Int)))
 then (bif (decide (t ≤ (1099511627776 : Int)))
 then (bif (lim IntKind.i64 (bi - t))
 then (bif (decide (h1 = (0 : Int)))
 then (none)
 else (bif (lim IntKind.i64 (Int.tmod (bi - t) h1 + h1))
 then (bif (lim IntKind.i64 (t + Int.tmod (Int.tmod (bi - t) h1 + h1) h1))
 then (bif (decide (h2 = (0 : Int)))
 then (none)
 else (some (.inr (Int.tmod (t + Int.tmod (Int.tmod (bi - t) h1 + h1) h1) h2, (0 : Int)))))
 else (none))
 else (none)))
 else (none))
 else (some (.inr ((0 : Int), (6 : Int)))))
 else (some (.inr ((0 : Int), (6 : Int)))))
 else (some (.inr ((0 : Int), (6 : Int)))))
 else (some (.inr ((0 : Int), (6 : Int)))))
 else (some (.inr ((0 : Int), (6 : Int)))))
 else (some (.inr ((0 : Int), (6 : Int)))))
 else (some (.inr ((0 : Int), (6 : Int)))))
 else (some (.inr ((0 : Int), (6 : Int)))) : Option (St16 ⊕ Rt16)) = some x) : Te16 cond Kst Kret h1 bi h2 t := by
  unfold Te16
  exact bif_split h
   (fun c0 h => bif_split h
   (fun c1 h => bif_split h
   (fun c2 h => bif_split h
   (fun c3 h => bif_split h
   (fun c4 h => bif_split h
   (fun c5 h => bif_split h
   (fun c6 h => bif_split h
   (fun c7 h => bif_split h
   (fun c8 h => bif_split h
   (fun c9 h => no_some h)
   (fun c9 h => bif_split h
   (fun c10 h => cond_no c9 (bif_split h
   (fun c11 h => bif_split h
   (fun c12 h => no_some h)
   (fun c12 h => ret_at hR _ h (fun n => n) rfl rfl rfl (rn_tup ⟨(rn_int rfl), (rn_int rfl), trivial⟩) rfl entl_nil))
   (fun c11 h => no_some h)))
   (fun c10 h => no_some h)))
   (fun c8 h => no_some h))
   (fun c7 h => ret_at hR _ h (fun n => n) rfl rfl rfl (rn_tup ⟨(rn_int rfl), (rn_int rfl), trivial⟩) rfl entl_nil))
   (fun c6 h => ret_at hR _ h (fun n => n) rfl rfl rfl (rn_tup ⟨(rn_int rfl), (rn_int rfl), trivial⟩) rfl entl_nil))
   (fun c5 h => ret_at hR _ h (fun n => n) rfl rfl rfl (rn_tup ⟨(rn_int rfl), (rn_int rfl), trivial⟩) rfl entl_nil))
   (fun c4 h => ret_at hR _ h (fun n => n) rfl rfl rfl (rn_tup ⟨(rn_int rfl), (rn_int rfl), trivial⟩) rfl entl_nil))
   (fun c3 h => ret_at hR _ h (fun n => n) rfl rfl rfl (rn_tup ⟨(rn_int rfl), (rn_int rfl), trivial⟩) rfl entl_nil))
   (fun c2 h => ret_at hR _ h (fun n => n) rfl rfl rfl (rn_tup ⟨(rn_int rfl), (rn_int rfl), trivial⟩) rfl entl_nil))
   (fun c1 h => ret_at hR _ h (fun n => n) rfl rfl rfl (rn_tup ⟨(rn_int rfl), (rn_int rfl), trivial⟩) rfl entl_nil))
   (fun c0 h => ret_at hR _ h (fun n => n) rfl rfl rfl (rn_tup ⟨(rn_int rfl), (rn_int rfl), trivial⟩) rfl entl_nil)
theorem a16 (h1 : Int) (bi : Int) (h2 : Int) (t : Int) {r : Rt16} (h : Goes ((q16 h1 bi h2 t)) ((p16 h1 bi h2 t)) r) : CallR Try.prog 16 [.int .i64 h1, .int .i64 bi, .int .i64 h2, .int .i64 t] [[]] 0 ((V16 h1 bi h2 t) r) ((fun r => [newL (0 + 1) ((N16 h1 bi h2 t) r) ++ []]) r) 400 ∧ ∃ F, Try.prog.funcs[16]? = some F ∧ F.body.isSome = true ∧ (F.name == "runtime.NumGoroutine") = false := by
  refine dec_calls (f := 16) (lo := 0) (hi := 400) (H := [[]]) (args := [.int .i64 h1, .int .i64 bi, .int .i64 h2, .int .i64 t]) Try.envOk Try.mixed noX_ok ((I16 h1 bi h2 t)) ((V16 h1 bi h2 t)) (fun r => [newL (0 + 1) ((N16 h1 bi h2 t) r) ++ []]) (fn := mkFn Try.f16) (ts := []) (n := 400) rfl (by decide) (by simp) (names_of rfl) ?_ ?_ ?_ h
  · intro s; exact s.elim
  · intro Kst Kret x hS hR h
    exact Holds.eq (te16 cond Kst Kret h1 bi h2 t) (be16 h1 bi h2 t Kst Kret x hS hR h)
  · intro Kst Kret x hS hR s h; exact s.elim
noncomputable def k16 : Con := ⟨16, [.one (.plain (.int .i64)), .one (.plain (.int .i64)), .one (.plain (.int .i64)), .one (.plain (.int .i64))], fun (x : Int × Int × Int × Int × Unit) => (fun (h1 : Int) (bi : Int) (h2 : Int) (t : Int) => decide (True)) x.1 x.2.1 x.2.2.1 x.2.2.2.1, fun (x : Int × Int × Int × Int × Unit) => (fun (h1 : Int) (bi : Int) (h2 : Int) (t : Int) => (V16 h1 bi h2 t) (S.facS h1 bi h2 t)) x.1 x.2.1 x.2.2.1 x.2.2.2.1, fun (x : Int × Int × Int × Int × Unit) => (fun (h1 : Int) (bi : Int) (h2 : Int) (t : Int) => (N16 h1 bi h2 t) (S.facS h1 bi h2 t)) x.1 x.2.1 x.2.2.1 x.2.2.2.1, fun _ _ => .dead⟩
theorem s16 (h1 : Int) (bi : Int) (h2 : Int) (t : Int) (hp : True) : Goes ((q16 h1 bi h2 t)) ((p16 h1 bi h2 t)) (S.facS h1 bi h2 t) := by
  unfold S.facS
  have hmd : 1 ≤ h1 → _ := fun h => mdl_ok (n := bi - t) (h := h1) (by omega)
  have htm : 1 ≤ h1 → _ := fun h => tmod_lt (n := bi - t) (h := h1) (by omega)
  unfold S.mdl at hmd
  by_cases hr : S.rgB h1 bi = true ∧ S.rgB h2 0 = true ∧ 0 ≤ t ∧ t ≤ 1099511627776
  · rw [if_pos hr]
    rw [rg_ok, rg_ok] at hr
    show Goes _ _ _
    unfold p16
    repeat' first
      | with_reducible refine goes_if (fun h => ?_) (fun h => ?_) <;> (try simp only [lim64, imp_false, decide_eq_true_eq, decide_eq_false_iff_not, Int.toNat_natCast, toNat_pred, toNat_succ, Option.getD_some, Option.getD_none, Bool.not_eq_true', Bool.not_eq_false', Bool.and_eq_true, Bool.or_eq_true, Bool.and_eq_false_iff, Bool.or_eq_false_iff, bne_iff_ne, beq_iff_eq, bne_eq_false_iff_eq, beq_eq_false_iff_ne, ne_eq, not_and, Int.not_le, Int.not_lt, ge_iff_le, gt_iff_lt, Nat.not_lt, Nat.not_le, Bool.not_eq_true, Bool.not_eq_false, Bool.true_eq_false, Bool.false_eq_true, not_false_eq_true, not_true_eq_false] at h)
      | exact goes_none.mpr (by omega)
    all_goals first | (exfalso; omega) | rfl
  · rw [if_neg hr]
    rw [rg_ok, rg_ok] at hr
    show Goes _ _ _
    unfold p16
    repeat' first
      | with_reducible refine goes_if (fun h => ?_) (fun h => ?_) <;> (try simp only [lim64, imp_false, decide_eq_true_eq, decide_eq_false_iff_not, Int.toNat_natCast, toNat_pred, toNat_succ, Option.getD_some, Option.getD_none, Bool.not_eq_true', Bool.not_eq_false', Bool.and_eq_true, Bool.or_eq_true, Bool.and_eq_false_iff, Bool.or_eq_false_iff, bne_iff_ne, beq_iff_eq, bne_eq_false_iff_eq, beq_eq_false_iff_ne, ne_eq, not_and, Int.not_le, Int.not_lt, ge_iff_le, gt_iff_lt, Nat.not_lt, Nat.not_le, Bool.not_eq_true, Bool.not_eq_false, Bool.true_eq_false, Bool.false_eq_true, not_false_eq_true, not_true_eq_false] at h)
      | exact goes_none.mpr (by omega)
    all_goals first | (exfalso; omega) | rfl

theorem k16_ok : k16.ok Try.prog := by
  intro x hx
  obtain ⟨h1, bi, h2, t, _⟩ := x
  obtain ⟨h1, h2⟩ := a16 h1 bi h2 t (s16 h1 bi h2 t (of_dec hx rfl))
  exact ⟨⟨400, (by decide : 0 + 1 + 0 ≤ 400), h1⟩, h2⟩
abbrev St17 := Empty
abbrev Rt17 := Int × Int
noncomputable def V17 (h1 : Int) (bi : Int) (h2 : Int) (t : Int) (r : Rt17) : PV := PV.tup [PV.int IntKind.i64 r.1, PV.int IntKind.i64 r.2]
noncomputable def N17 (h1 : Int) (bi : Int) (h2 : Int) (t : Int) (r : Rt17) : List Blk := []
noncomputable def I17 (h1 : Int) (bi : Int) (h2 : Int) (t : Int) : St17 → Hd := fun s => s.elim
noncomputable def q17 (h1 : Int) (bi : Int) (h2 : Int) (t : Int) : St17 → Option (St17 ⊕ Rt17) := fun s => s.elim
noncomputable def p17 (h1 : Int) (bi : Int) (h2 : Int) (t : Int) : Option (St17 ⊕ Rt17) := bif (decide (h1 ≥ (1 : Int)))
 then (bif (decide (h1 ≤ (2000 : Int)))
 then (bif (decide (bi ≥ (0 : Int)))
 then (bif (decide (bi < h1))
 then (bif (decide (h2 ≥ (1 : Int)))
 then (bif (decide (h2 ≤ (2000 : Int)))
 then (bif (decide ((0 : Int) < h2))
 then (bif (decide (t < (0 : Int)))
 then (some (.inr ((0 : Int), (6 : Int))))
 else (bif (decide (t > (1099511627776 : Int)))
 then (some (.inr ((0 : Int), (6 : Int))))
 else (bif (lim IntKind.i64 (bi - t))
 then (bif (decide (h1 = (0 : Int)))
 then (none)
 else (bif (lim IntKind.i64 (Int.tmod (bi - t) h1 + h1))
 then (bif (lim IntKind.i64 (t + Int.tmod (Int.tmod (bi - t) h1 + h1) h1))
 then (bif (decide (h2 = (0 : Int)))
 then (none)
 else (some (.inr (Int.tmod (t + Int.tmod (Int.tmod (bi - t) h1 + h1) h1) h2, (0 : Int)))))
 else (none))
 else (none)))
 else (none))))
 else (some (.inr ((0 : Int), (6 : Int)))))
 else (some (.inr ((0 : Int), (6 : Int)))))
 else (some (.inr ((0 : Int), (6 : Int)))))
 else (some (.inr ((0 : Int), (6 : Int)))))
 else (some (.inr ((0 : Int), (6 : Int)))))
 else (some (.inr ((0 : Int), (6 : Int)))))
 else (some (.inr ((0 : Int), (6 : Int))))
noncomputable def Te17 (test : Bool → Prop → Prop → Prop) (Kst : KS) (Kret : KR) (h1 : Int) (bi : Int) (h2 : Int) (t : Int) : Prop :=
  test (decide (h1 ≥ (1 : Int)))
 (test (decide (h1 ≤ (2000 : Int)))
 (test (decide (bi ≥ (0 : Int)))
 (test (decide (bi < h1))
 (test (decide (h2 ≥ (1 : Int)))
 (test (decide (h2 ≤ (2000 : Int)))
 (test (true)
 (test (decide ((0 : Int) < h2))
 (test (decide (t < (0 : Int)))
 (Kret (PV.tup [PV.int IntKind.i64 (0 : Int), PV.int IntKind.i64 (6 : Int)]) ([[]]) (0))
 (test (decide (t > (1099511627776 : Int)))
 (Kret (PV.tup [PV.int IntKind.i64 (0 : Int), PV.int IntKind.i64 (6 : Int)]) ([[]]) (0))
 (test (lim IntKind.i64 (bi - t))
 (test (decide (h1 = (0 : Int)))
 (False)
 (test (lim IntKind.i64 (Int.tmod (bi - t) h1 + h1))
 (test (decide (h1 = (0 : Int)))
 (False)
 (test (lim IntKind.i64 (t + Int.tmod (Int.tmod (bi - t) h1 + h1) h1))
 (test (decide (h2 = (0 : Int)))
 (False)
 (Kret (PV.tup
 [PV.int IntKind.i64 (Int.tmod (t + Int.tmod (Int.tmod (bi - t) h1 + h1) h1) h2),
 PV.int IntKind.i64 (0 : Int)]) ([[]]) (0)))
 (False)))
 (False)))
 (False))))
 (Kret (PV.tup [PV.int IntKind.i64 (0 : Int), PV.int IntKind.i64 (6 : Int)]) ([[]]) (0)))
 (Kret (PV.tup [PV.int IntKind.i64 (0 : Int), PV.int IntKind.i64 (6 : Int)]) ([[]]) (0)))
 (Kret (PV.tup [PV.int IntKind.i64 (0 : Int), PV.int IntKind.i64 (6 : Int)]) ([[]]) (0)))
 (Kret (PV.tup [PV.int IntKind.i64 (0 : Int), PV.int IntKind.i64 (6 : Int)]) ([[]]) (0)))
 (Kret (PV.tup [PV.int IntKind.i64 (0 : Int), PV.int IntKind.i64 (6 : Int)]) ([[]]) (0)))
 (Kret (PV.tup [PV.int IntKind.i64 (0 : Int), PV.int IntKind.i64 (6 : Int)]) ([[]]) (0)))
 (Kret (PV.tup [PV.int IntKind.i64 (0 : Int), PV.int IntKind.i64 (6 : Int)]) ([[]]) (0)))
 (Kret (PV.tup [PV.int IntKind.i64 (0 : Int), PV.int IntKind.i64 (6 : Int)]) ([[]]) (0))
set_option maxRecDepth 100000 in
theorem te17 (test : Bool → Prop → Prop → Prop) (Kst : KS) (Kret : KR) (h1 : Int) (bi : Int) (h2 : Int) (t : Int) : run test Try.env true noX true 400 ⟨17, [.cd (mkFn Try.f17).body], argT 0 [.int .i64 h1, .int .i64 bi, .int .i64 h2, .int .i64 t], [[], []], 0⟩ (proj 0 [] Kst Kret) =
  Te17 test Kst Kret h1 bi h2 t := by kernel_rfl
attribute [local irreducible] Int.subNatNat in
set_option maxRecDepth 100000 in
theorem be17 (h1 : Int) (bi : Int) (h2 : Int) (t : Int) (Kst : KS) (Kret : KR) (x : St17 ⊕ Rt17) (hS : HS 0 400 ((I17 h1 bi h2 t)) Kst x) (hR : HR 0 400 ((V17 h1 bi h2 t)) (fun r => [newL (0 + 1) ((N17 h1 bi h2 t) r) ++ []]) Kret x) (h : (bif (decide (h1 ≥ (1 : Int)))
 then (bif (decide (h1 ≤ (2000 : Int)))
 then (bif (decide (bi ≥ (0 : Int)))
 then (bif (decide (bi < h1))
 then (bif (decide (h2 ≥ (1 : Int)))
 then (bif (decide (h2 ≤ (2000 : Int)))
 then (bif (decide ((0 : Int) < h2))
 then (bif (decide (t < (0 : Int)))
 then (some (.inr ((0 : Int), (6 : Int))))
 else (bif (decide (t > (1099511627776 : Int)))
 then (some (.inr ((0 : Int), (6 : Int))))
 else (bif (lim IntKind.i64 (bi - t))
 then (bif (decide (h1 = (0 : Int)))
 then (none)
 else (bif (lim IntKind.i64 (Int.tmod (bi - t) h1 + h1))
 then (bif (lim IntKind.i64 (t + Int.tmod (Int.tmod (bi - t) h1 + h1) h1))
 then (bif (decide (h2 = (0 : Int)))
 then (none)
 else (some (.inr (Int.tmod (t + Int.tmod (Int.tmod (bi - t) h1 + h1) h1) h2, (0 : Int)))))
 else (none))
 else (none)))
 else (none))))
 else (some (.inr ((0 : Int), (6 : Int)))))
 else (some (.inr ((0 : Int), (6 : Int)))))
 else (some (.inr ((0 : Int), (6 : Int)))))
 else (some (.inr ((0 : Int), (6 : Int)))))
 else (some (.inr ((0 : Int), (6 : Int)))))
 else (some (.inr ((0 : Int), (6 : Int)))))
 else (some (.inr ((0 : Int), (6 : Int)))) : Option (St17 ⊕ Rt17)) = some x) : Te17 cond Kst Kret h1 bi h2 t := by
  unfold Te17
  exact bif_split h
   (fun c0 h => bif_split h
   (fun c1 h => bif_split h
   (fun c2 h => bif_split h
   (fun c3 h => bif_split h
   (fun c4 h => bif_split h
   (fun c5 h => cond_yes rfl (bif_split h
   (fun c6 h => bif_split h
   (fun c7 h => ret_at hR _ h (fun n => n) rfl rfl rfl (rn_tup ⟨(rn_int rfl), (rn_int rfl), trivial⟩) rfl entl_nil)
   (fun c7 h => bif_split h
   (fun c8 h => ret_at hR _ h (fun n => n) rfl rfl rfl (rn_tup ⟨(rn_int rfl), (rn_int rfl), trivial⟩) rfl entl_nil)
   (fun c8 h => bif_split h
   (fun c9 h => bif_split h
   (fun c10 h => no_some h)
   (fun c10 h => bif_split h
   (fun c11 h => cond_no c10 (bif_split h
   (fun c12 h => bif_split h
   (fun c13 h => no_some h)
   (fun c13 h => ret_at hR _ h (fun n => n) rfl rfl rfl (rn_tup ⟨(rn_int rfl), (rn_int rfl), trivial⟩) rfl entl_nil))
   (fun c12 h => no_some h)))
   (fun c11 h => no_some h)))
   (fun c9 h => no_some h))))
   (fun c6 h => ret_at hR _ h (fun n => n) rfl rfl rfl (rn_tup ⟨(rn_int rfl), (rn_int rfl), trivial⟩) rfl entl_nil)))
   (fun c5 h => ret_at hR _ h (fun n => n) rfl rfl rfl (rn_tup ⟨(rn_int rfl), (rn_int rfl), trivial⟩) rfl entl_nil))
   (fun c4 h => ret_at hR _ h (fun n => n) rfl rfl rfl (rn_tup ⟨(rn_int rfl), (rn_int rfl), trivial⟩) rfl entl_nil))
   (fun c3 h => ret_at hR _ h (fun n => n) rfl rfl rfl (rn_tup ⟨(rn_int rfl), (rn_int rfl), trivial⟩) rfl entl_nil))
   (fun c2 h => ret_at hR _ h (fun n => n) rfl rfl rfl (rn_tup ⟨(rn_int rfl), (rn_int rfl), trivial⟩) rfl entl_nil))
   (fun c1 h => ret_at hR _ h (fun n => n) rfl rfl rfl (rn_tup ⟨(rn_int rfl), (rn_int rfl), trivial⟩) rfl entl_nil))
   (fun c0 h => ret_at hR _ h (fun n => n) rfl rfl rfl (rn_tup ⟨(rn_int rfl), (rn_int rfl), trivial⟩) rfl entl_nil)
theorem a17 (h1 : Int) (bi : Int) (h2 : Int) (t : Int) {r : Rt17} (h : Goes ((q17 h1 bi h2 t)) ((p17 h1 bi h2 t)) r) : CallR Try.prog 17 [.int .i64 h1, .int .i64 bi, .int .i64 h2, .int .i64 t] [[]] 0 ((V17 h1 bi h2 t) r) ((fun r => [newL (0 + 1) ((N17 h1 bi h2 t) r) ++ []]) r) 400 ∧ ∃ F, Try.prog.funcs[17]? = some F ∧ F.body.isSome = true ∧ (F.name == "runtime.NumGoroutine") = false := by
  refine dec_calls (f := 17) (lo := 0) (hi := 400) (H := [[]]) (args := [.int .i64 h1, .int .i64 bi, .int .i64 h2, .int .i64 t]) Try.envOk Try.mixed noX_ok ((I17 h1 bi h2 t)) ((V17 h1 bi h2 t)) (fun r => [newL (0 + 1) ((N17 h1 bi h2 t) r) ++ []]) (fn := mkFn Try.f17) (ts := []) (n := 400) rfl (by decide) (by simp) (names_of rfl) ?_ ?_ ?_ h
  · intro s; exact s.elim
  · intro Kst Kret x hS hR h
    exact Holds.eq (te17 cond Kst Kret h1 bi h2 t) (be17 h1 bi h2 t Kst Kret x hS hR h)
  · intro Kst Kret x hS hR s h; exact s.elim
noncomputable def k17 : Con := ⟨17, [.one (.plain (.int .i64)), .one (.plain (.int .i64)), .one (.plain (.int .i64)), .one (.plain (.int .i64))], fun (x : Int × Int × Int × Int × Unit) => (fun (h1 : Int) (bi : Int) (h2 : Int) (t : Int) => decide (True)) x.1 x.2.1 x.2.2.1 x.2.2.2.1, fun (x : Int × Int × Int × Int × Unit) => (fun (h1 : Int) (bi : Int) (h2 : Int) (t : Int) => (V17 h1 bi h2 t) (S.facS h1 bi h2 t)) x.1 x.2.1 x.2.2.1 x.2.2.2.1, fun (x : Int × Int × Int × Int × Unit) => (fun (h1 : Int) (bi : Int) (h2 : Int) (t : Int) => (N17 h1 bi h2 t) (S.facS h1 bi h2 t)) x.1 x.2.1 x.2.2.1 x.2.2.2.1, fun _ _ => .dead⟩
theorem s17 (h1 : Int) (bi : Int) (h2 : Int) (t : Int) (hp : True) : Goes ((q17 h1 bi h2 t)) ((p17 h1 bi h2 t)) (S.facS h1 bi h2 t) := by
  unfold S.facS
  have hmd : 1 ≤ h1 → _ := fun h => mdl_ok (n := bi - t) (h := h1) (by omega)
  have htm : 1 ≤ h1 → _ := fun h => tmod_lt (n := bi - t) (h := h1) (by omega)
  unfold S.mdl at hmd
  by_cases hr : S.rgB h1 bi = true ∧ S.rgB h2 0 = true ∧ 0 ≤ t ∧ t ≤ 1099511627776
  · rw [if_pos hr]
    rw [rg_ok, rg_ok] at hr
    show Goes _ _ _
    unfold p17
    repeat' first
      | with_reducible refine goes_if (fun h => ?_) (fun h => ?_) <;> (try simp only [lim64, imp_false, decide_eq_true_eq, decide_eq_false_iff_not, Int.toNat_natCast, toNat_pred, toNat_succ, Option.getD_some, Option.getD_none, Bool.not_eq_true', Bool.not_eq_false', Bool.and_eq_true, Bool.or_eq_true, Bool.and_eq_false_iff, Bool.or_eq_false_iff, bne_iff_ne, beq_iff_eq, bne_eq_false_iff_eq, beq_eq_false_iff_ne, ne_eq, not_and, Int.not_le, Int.not_lt, ge_iff_le, gt_iff_lt, Nat.not_lt, Nat.not_le, Bool.not_eq_true, Bool.not_eq_false, Bool.true_eq_false, Bool.false_eq_true, not_false_eq_true, not_true_eq_false] at h)
      | exact goes_none.mpr (by omega)
    all_goals first | (exfalso; omega) | rfl
  · rw [if_neg hr]
    rw [rg_ok, rg_ok] at hr
    show Goes _ _ _
    unfold p17
    repeat' first
      | with_reducible refine goes_if (fun h => ?_) (fun h => ?_) <;> (try simp only [lim64, imp_false, decide_eq_true_eq, decide_eq_false_iff_not, Int.toNat_natCast, toNat_pred, toNat_succ, Option.getD_some, Option.getD_none, Bool.not_eq_true', Bool.not_eq_false', Bool.and_eq_true, Bool.or_eq_true, Bool.and_eq_false_iff, Bool.or_eq_false_iff, bne_iff_ne, beq_iff_eq, bne_eq_false_iff_eq, beq_eq_false_iff_ne, ne_eq, not_and, Int.not_le, Int.not_lt, ge_iff_le, gt_iff_lt, Nat.not_lt, Nat.not_le, Bool.not_eq_true, Bool.not_eq_false, Bool.true_eq_false, Bool.false_eq_true, not_false_eq_true, not_true_eq_false] at h)
      | exact goes_none.mpr (by omega)
    all_goals first | (exfalso; omega) | rfl

theorem k17_ok : k17.ok Try.prog := by
  intro x hx
  obtain ⟨h1, bi, h2, t, _⟩ := x
  obtain ⟨h1, h2⟩ := a17 h1 bi h2 t (s17 h1 bi h2 t (of_dec hx rfl))
  exact ⟨⟨400, (by decide : 0 + 1 + 0 ≤ 400), h1⟩, h2⟩

end Go.Ev
