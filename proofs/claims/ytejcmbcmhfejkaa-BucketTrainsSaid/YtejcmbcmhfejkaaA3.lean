/-
  Meet, in the program and in the reference.
-/
import Derived.Test.YtejcmbcmhfejkaaA2
namespace Go.Ev
open Go.Proofs
set_option linter.unusedVariables false
set_option linter.unusedSimpArgs false
set_option maxRecDepth 100000

theorem pas_eq {h i t : Int} : S.pas h i t = t + Int.tmod (Int.tmod (i - t) h + h) h := rfl
theorem pas_ok {h i t : Int} (hh : 1 ≤ h) : t ≤ S.pas h i t ∧ S.pas h i t < t + h := by
  have := mdl_ok (n := i - t) (h := h) (by omega)
  unfold S.pas; omega
inductive St12 where
  | h0 (x0 : Int)
abbrev Rt12 := Int × Int
noncomputable def V12 (h1 : Int) (bi : Int) (h2 : Int) (bj : Int) (t : Int) (r : Rt12) : PV := PV.tup [PV.int IntKind.i64 r.1, PV.int IntKind.i64 r.2]
noncomputable def N12 (h1 : Int) (bi : Int) (h2 : Int) (bj : Int) (t : Int) (r : Rt12) : List Blk := []
noncomputable def I12 (h1 : Int) (bi : Int) (h2 : Int) (bj : Int) (t : Int) : St12 → Hd
  | .h0 x0 => ⟨hd Try.f12 0, [PV.int IntKind.i64 h1, PV.int IntKind.i64 h2, PV.int IntKind.i64 bj,
 PV.int IntKind.i64 (t + Int.tmod (Int.tmod (bi - t) h1 + h1) h1), PV.int IntKind.i64 h2,
 PV.int IntKind.i64 x0], [[], []], 0⟩
noncomputable def q12 (h1 : Int) (bi : Int) (h2 : Int) (bj : Int) (t : Int) : St12 → Option (St12 ⊕ Rt12)
  | .h0 x0 => bif (decide (x0 < h2))
 then (bif (lim IntKind.i64 (x0 * h1))
 then (bif (lim IntKind.i64 (t + Int.tmod (Int.tmod (bi - t) h1 + h1) h1 + x0 * h1))
 then (bif (decide (h2 = (0 : Int)))
 then (none)
 else (bif (Int.tmod (t + Int.tmod (Int.tmod (bi - t) h1 + h1) h1 + x0 * h1) h2 == bj)
 then (some (.inr (t + Int.tmod (Int.tmod (bi - t) h1 + h1) h1 + x0 * h1, (0 : Int))))
 else (bif (lim IntKind.i64 (x0 + (1 : Int)))
 then (some (.inl (.h0 (x0 + (1 : Int)))))
 else (none))))
 else (none))
 else (none))
 else (some (.inr ((0 : Int), (10 : Int))))
noncomputable def p12 (h1 : Int) (bi : Int) (h2 : Int) (bj : Int) (t : Int) : Option (St12 ⊕ Rt12) := bif (decide (h1 ≥ (1 : Int)))
 then (bif (decide (h1 ≤ (2000 : Int)))
 then (bif (decide (h2 ≥ (1 : Int)))
 then (bif (decide (h2 ≤ (2000 : Int)))
 then (bif (decide (bi ≥ (0 : Int)))
 then (bif (decide (bi < h1))
 then (bif (decide (bj ≥ (0 : Int)))
 then (bif (decide (bj < h2))
 then (bif (decide (t ≥ (0 : Int)))
 then (bif (decide (t ≤ (1099511627776 : Int)))
 then (bif (lim IntKind.i64 (bi - t))
 then (bif (decide (h1 = (0 : Int)))
 then (none)
 else (bif (lim IntKind.i64 (Int.tmod (bi - t) h1 + h1))
 then (bif (lim IntKind.i64 (t + Int.tmod (Int.tmod (bi - t) h1 + h1) h1))
 then (some (.inl (.h0 ((0 : Int)))))
 else (none))
 else (none)))
 else (none))
 else (some (.inr ((0 : Int), (6 : Int)))))
 else (some (.inr ((0 : Int), (6 : Int)))))
 else (some (.inr ((0 : Int), (6 : Int)))))
 else (some (.inr ((0 : Int), (6 : Int)))))
 else (some (.inr ((0 : Int), (6 : Int)))))
 else (some (.inr ((0 : Int), (6 : Int)))))
 else (some (.inr ((0 : Int), (6 : Int)))))
 else (some (.inr ((0 : Int), (6 : Int)))))
 else (some (.inr ((0 : Int), (6 : Int)))))
 else (some (.inr ((0 : Int), (6 : Int))))
noncomputable def Te12 (test : Bool → Prop → Prop → Prop) (Kst : KS) (Kret : KR) (h1 : Int) (bi : Int) (h2 : Int) (bj : Int) (t : Int) : Prop :=
  test (decide (h1 ≥ (1 : Int)))
 (test (decide (h1 ≤ (2000 : Int)))
 (test (decide (h2 ≥ (1 : Int)))
 (test (decide (h2 ≤ (2000 : Int)))
 (test (decide (bi ≥ (0 : Int)))
 (test (decide (bi < h1))
 (test (decide (bj ≥ (0 : Int)))
 (test (decide (bj < h2))
 (test (decide (t ≥ (0 : Int)))
 (test (decide (t ≤ (1099511627776 : Int)))
 (test (lim IntKind.i64 (bi - t))
 (test (decide (h1 = (0 : Int)))
 (False)
 (test (lim IntKind.i64 (Int.tmod (bi - t) h1 + h1))
 (test (decide (h1 = (0 : Int)))
 (False)
 (test (lim IntKind.i64 (t + Int.tmod (Int.tmod (bi - t) h1 + h1) h1))
 (Kst (hd Try.f12 0) ([PV.int IntKind.i64 h1, PV.int IntKind.i64 h2, PV.int IntKind.i64 bj,
 PV.int IntKind.i64 (t + Int.tmod (Int.tmod (bi - t) h1 + h1) h1), PV.int IntKind.i64 h2,
 PV.int IntKind.i64 (0 : Int)]) ([[]]) (0))
 (False)))
 (False)))
 (False))
 (Kret (PV.tup [PV.int IntKind.i64 (0 : Int), PV.int IntKind.i64 (6 : Int)]) ([[]]) (0)))
 (Kret (PV.tup [PV.int IntKind.i64 (0 : Int), PV.int IntKind.i64 (6 : Int)]) ([[]]) (0)))
 (Kret (PV.tup [PV.int IntKind.i64 (0 : Int), PV.int IntKind.i64 (6 : Int)]) ([[]]) (0)))
 (Kret (PV.tup [PV.int IntKind.i64 (0 : Int), PV.int IntKind.i64 (6 : Int)]) ([[]]) (0)))
 (Kret (PV.tup [PV.int IntKind.i64 (0 : Int), PV.int IntKind.i64 (6 : Int)]) ([[]]) (0)))
 (Kret (PV.tup [PV.int IntKind.i64 (0 : Int), PV.int IntKind.i64 (6 : Int)]) ([[]]) (0)))
 (Kret (PV.tup [PV.int IntKind.i64 (0 : Int), PV.int IntKind.i64 (6 : Int)]) ([[]]) (0)))
 (Kret (PV.tup [PV.int IntKind.i64 (0 : Int), PV.int IntKind.i64 (6 : Int)]) ([[]]) (0)))
 (Kret (PV.tup [PV.int IntKind.i64 (0 : Int), PV.int IntKind.i64 (6 : Int)]) ([[]]) (0)))
 (Kret (PV.tup [PV.int IntKind.i64 (0 : Int), PV.int IntKind.i64 (6 : Int)]) ([[]]) (0))
set_option maxRecDepth 100000 in
theorem te12 (test : Bool → Prop → Prop → Prop) (Kst : KS) (Kret : KR) (h1 : Int) (bi : Int) (h2 : Int) (bj : Int) (t : Int) : run test Try.env true noX true 400 ⟨12, [.cd (mkFn Try.f12).body], argT 0 [.int .i64 h1, .int .i64 bi, .int .i64 h2, .int .i64 bj, .int .i64 t], [[], []], 0⟩ (proj 0 [0, 2, 3, 12, 44, 45] Kst Kret) =
  Te12 test Kst Kret h1 bi h2 bj t := by kernel_rfl
noncomputable def T12_0 (test : Bool → Prop → Prop → Prop) (Kst : KS) (Kret : KR) (h1 : Int) (bi : Int) (h2 : Int) (bj : Int) (t : Int) (x0 : Int) : Prop :=
  test (decide (x0 < h2))
 (test (lim IntKind.i64 (x0 * h1))
 (test (lim IntKind.i64 (t + Int.tmod (Int.tmod (bi - t) h1 + h1) h1 + x0 * h1))
 (test (decide (h2 = (0 : Int)))
 (False)
 (test (Int.tmod (t + Int.tmod (Int.tmod (bi - t) h1 + h1) h1 + x0 * h1) h2 == bj)
 (Kret (PV.tup
 [PV.int IntKind.i64 (t + Int.tmod (Int.tmod (bi - t) h1 + h1) h1 + x0 * h1),
 PV.int IntKind.i64 (0 : Int)]) ([[]]) (0))
 (test (lim IntKind.i64 (x0 + (1 : Int)))
 (Kst (hd Try.f12 0) ([PV.int IntKind.i64 h1, PV.int IntKind.i64 h2, PV.int IntKind.i64 bj,
 PV.int IntKind.i64 (t + Int.tmod (Int.tmod (bi - t) h1 + h1) h1), PV.int IntKind.i64 h2,
 PV.int IntKind.i64 (x0 + (1 : Int))]) ([[]]) (0))
 (False))))
 (False))
 (False))
 (Kret (PV.tup [PV.int IntKind.i64 (0 : Int), PV.int IntKind.i64 (10 : Int)]) ([[]]) (0))
set_option maxRecDepth 100000 in
theorem t12_0 (test : Bool → Prop → Prop → Prop) (Kst : KS) (Kret : KR) (h1 : Int) (bi : Int) (h2 : Int) (bj : Int) (t : Int) (x0 : Int) : run test Try.env true noX true 400 ⟨12, hd Try.f12 0, zipT [0, 2, 3, 12, 44, 45] [PV.int IntKind.i64 h1, PV.int IntKind.i64 h2, PV.int IntKind.i64 bj,
 PV.int IntKind.i64 (t + Int.tmod (Int.tmod (bi - t) h1 + h1) h1), PV.int IntKind.i64 h2,
 PV.int IntKind.i64 x0], [[], []], 0⟩ (proj 0 [0, 2, 3, 12, 44, 45] Kst Kret) =
  T12_0 test Kst Kret h1 bi h2 bj t x0 := by kernel_rfl
attribute [local irreducible] Int.subNatNat in
set_option maxRecDepth 100000 in
theorem be12 (h1 : Int) (bi : Int) (h2 : Int) (bj : Int) (t : Int) (Kst : KS) (Kret : KR) (x : St12 ⊕ Rt12) (hS : HS 0 400 ((I12 h1 bi h2 bj t)) Kst x) (hR : HR 0 400 ((V12 h1 bi h2 bj t)) (fun r => [newL (0 + 1) ((N12 h1 bi h2 bj t) r) ++ []]) Kret x) (h : (bif (decide (h1 ≥ (1 : Int)))
 then (bif (decide (h1 ≤ (2000 : Int)))
 then (bif (decide (h2 ≥ (1 : Int)))
 then (bif (decide (h2 ≤ (2000 : Int)))
 then (bif (decide (bi ≥ (0 : Int)))
 then (bif (decide (bi < h1))
 then (bif (decide (bj ≥ (0 : Int)))
 then (bif (decide (bj < h2))
 then (bif (decide (t ≥ (0 : Int)))
 then (bif (decide (t ≤ (1099511627776 : Int)))
 then (bif (lim IntKind.i64 (bi - t))
 then (bif (decide (h1 = (0 : Int)))
 then (none)
 else (bif (lim IntKind.i64 (Int.tmod (bi - t) h1 + h1))
 then (bif (lim IntKind.i64 (t + Int.tmod (Int.tmod (bi - t) h1 + h1) h1))
 then (some (.inl (.h0 ((0 : Int)))))
 else (none))
 else (none)))
 else (none))
 else (some (.inr ((0 : Int), (6 : Int)))))
 else (some (.inr ((0 : Int), (6 : Int)))))
 else (some (.inr ((0 : Int), (6 : Int)))))
 else (some (.inr ((0 : Int), (6 : Int)))))
 else (some (.inr ((0 : Int), (6 : Int)))))
 else (some (.inr ((0 : Int), (6 : Int)))))
 else (some (.inr ((0 : Int), (6 : Int)))))
 else (some (.inr ((0 : Int), (6 : Int)))))
 else (some (.inr ((0 : Int), (6 : Int)))))
 else (some (.inr ((0 : Int), (6 : Int)))) : Option (St12 ⊕ Rt12)) = some x) : Te12 cond Kst Kret h1 bi h2 bj t := by
  unfold Te12
  exact bif_split h
   (fun c0 h => bif_split h
   (fun c1 h => bif_split h
   (fun c2 h => bif_split h
   (fun c3 h => bif_split h
   (fun c4 h => bif_split h
   (fun c5 h => bif_split h
   (fun c6 h => bif_split h
   (fun c7 h => bif_split h
   (fun c8 h => bif_split h
   (fun c9 h => bif_split h
   (fun c10 h => bif_split h
   (fun c11 h => no_some h)
   (fun c11 h => bif_split h
   (fun c12 h => cond_no c11 (bif_split h
   (fun c13 h => stop_at hS _ h (fun n => n) rfl rfl rfl ⟨(rn_int rfl), ⟨(rn_int rfl), ⟨(rn_int rfl), ⟨(rn_int rfl), ⟨(rn_int rfl), ⟨(rn_int rfl), trivial⟩⟩⟩⟩⟩⟩ rfl entl_nil)
   (fun c13 h => no_some h)))
   (fun c12 h => no_some h)))
   (fun c10 h => no_some h))
   (fun c9 h => ret_at hR _ h (fun n => n) rfl rfl rfl (rn_tup ⟨(rn_int rfl), (rn_int rfl), trivial⟩) rfl entl_nil))
   (fun c8 h => ret_at hR _ h (fun n => n) rfl rfl rfl (rn_tup ⟨(rn_int rfl), (rn_int rfl), trivial⟩) rfl entl_nil))
   (fun c7 h => ret_at hR _ h (fun n => n) rfl rfl rfl (rn_tup ⟨(rn_int rfl), (rn_int rfl), trivial⟩) rfl entl_nil))
   (fun c6 h => ret_at hR _ h (fun n => n) rfl rfl rfl (rn_tup ⟨(rn_int rfl), (rn_int rfl), trivial⟩) rfl entl_nil))
   (fun c5 h => ret_at hR _ h (fun n => n) rfl rfl rfl (rn_tup ⟨(rn_int rfl), (rn_int rfl), trivial⟩) rfl entl_nil))
   (fun c4 h => ret_at hR _ h (fun n => n) rfl rfl rfl (rn_tup ⟨(rn_int rfl), (rn_int rfl), trivial⟩) rfl entl_nil))
   (fun c3 h => ret_at hR _ h (fun n => n) rfl rfl rfl (rn_tup ⟨(rn_int rfl), (rn_int rfl), trivial⟩) rfl entl_nil))
   (fun c2 h => ret_at hR _ h (fun n => n) rfl rfl rfl (rn_tup ⟨(rn_int rfl), (rn_int rfl), trivial⟩) rfl entl_nil))
   (fun c1 h => ret_at hR _ h (fun n => n) rfl rfl rfl (rn_tup ⟨(rn_int rfl), (rn_int rfl), trivial⟩) rfl entl_nil))
   (fun c0 h => ret_at hR _ h (fun n => n) rfl rfl rfl (rn_tup ⟨(rn_int rfl), (rn_int rfl), trivial⟩) rfl entl_nil)
attribute [local irreducible] Int.subNatNat in
set_option maxRecDepth 100000 in
theorem b12_0 (h1 : Int) (bi : Int) (h2 : Int) (bj : Int) (t : Int) (Kst : KS) (Kret : KR) (x : St12 ⊕ Rt12) (hS : HS 0 400 ((I12 h1 bi h2 bj t)) Kst x) (hR : HR 0 400 ((V12 h1 bi h2 bj t)) (fun r => [newL (0 + 1) ((N12 h1 bi h2 bj t) r) ++ []]) Kret x) (x0 : Int) (h : (bif (decide (x0 < h2))
 then (bif (lim IntKind.i64 (x0 * h1))
 then (bif (lim IntKind.i64 (t + Int.tmod (Int.tmod (bi - t) h1 + h1) h1 + x0 * h1))
 then (bif (decide (h2 = (0 : Int)))
 then (none)
 else (bif (Int.tmod (t + Int.tmod (Int.tmod (bi - t) h1 + h1) h1 + x0 * h1) h2 == bj)
 then (some (.inr (t + Int.tmod (Int.tmod (bi - t) h1 + h1) h1 + x0 * h1, (0 : Int))))
 else (bif (lim IntKind.i64 (x0 + (1 : Int)))
 then (some (.inl (.h0 (x0 + (1 : Int)))))
 else (none))))
 else (none))
 else (none))
 else (some (.inr ((0 : Int), (10 : Int)))) : Option (St12 ⊕ Rt12)) = some x) : T12_0 cond Kst Kret h1 bi h2 bj t x0 := by
  unfold T12_0
  exact bif_split h
   (fun c0 h => bif_split h
   (fun c1 h => bif_split h
   (fun c2 h => bif_split h
   (fun c3 h => no_some h)
   (fun c3 h => bif_split h
   (fun c4 h => ret_at hR _ h (fun n => n) rfl rfl rfl (rn_tup ⟨(rn_int rfl), (rn_int rfl), trivial⟩) rfl entl_nil)
   (fun c4 h => bif_split h
   (fun c5 h => stop_at hS _ h (fun n => n) rfl rfl rfl ⟨(rn_int rfl), ⟨(rn_int rfl), ⟨(rn_int rfl), ⟨(rn_int rfl), ⟨(rn_int rfl), ⟨(rn_int rfl), trivial⟩⟩⟩⟩⟩⟩ rfl entl_nil)
   (fun c5 h => no_some h))))
   (fun c2 h => no_some h))
   (fun c1 h => no_some h))
   (fun c0 h => ret_at hR _ h (fun n => n) rfl rfl rfl (rn_tup ⟨(rn_int rfl), (rn_int rfl), trivial⟩) rfl entl_nil)
theorem a12 (h1 : Int) (bi : Int) (h2 : Int) (bj : Int) (t : Int) {r : Rt12} (h : Goes ((q12 h1 bi h2 bj t)) ((p12 h1 bi h2 bj t)) r) : CallR Try.prog 12 [.int .i64 h1, .int .i64 bi, .int .i64 h2, .int .i64 bj, .int .i64 t] [[]] 0 ((V12 h1 bi h2 bj t) r) ((fun r => [newL (0 + 1) ((N12 h1 bi h2 bj t) r) ++ []]) r) 400 ∧ ∃ F, Try.prog.funcs[12]? = some F ∧ F.body.isSome = true ∧ (F.name == "runtime.NumGoroutine") = false := by
  refine dec_calls (f := 12) (lo := 0) (hi := 400) (H := [[]]) (args := [.int .i64 h1, .int .i64 bi, .int .i64 h2, .int .i64 bj, .int .i64 t]) Try.envOk Try.mixed noX_ok ((I12 h1 bi h2 bj t)) ((V12 h1 bi h2 bj t)) (fun r => [newL (0 + 1) ((N12 h1 bi h2 bj t) r) ++ []]) (fn := mkFn Try.f12) (ts := [0, 2, 3, 12, 44, 45]) (n := 400) rfl (by decide) (by simp) (names_of rfl) ?_ ?_ ?_ h
  · intro s; cases s <;> exact ⟨hd_ok _ _, by simp [I12], names_of rfl, Nat.le_of_ble_eq_true rfl⟩
  · intro Kst Kret x hS hR h
    exact Holds.eq (te12 cond Kst Kret h1 bi h2 bj t) (be12 h1 bi h2 bj t Kst Kret x hS hR h)
  · intro Kst Kret x hS hR s h
    cases s with
    | h0 x0 => exact Holds.eq (t12_0 cond Kst Kret h1 bi h2 bj t x0) (b12_0 h1 bi h2 bj t Kst Kret x hS hR x0 h)
noncomputable def k12 : Con := ⟨12, [.one (.plain (.int .i64)), .one (.plain (.int .i64)), .one (.plain (.int .i64)), .one (.plain (.int .i64)), .one (.plain (.int .i64))], fun (x : Int × Int × Int × Int × Int × Unit) => (fun (h1 : Int) (bi : Int) (h2 : Int) (bj : Int) (t : Int) => decide (True)) x.1 x.2.1 x.2.2.1 x.2.2.2.1 x.2.2.2.2.1, fun (x : Int × Int × Int × Int × Int × Unit) => (fun (h1 : Int) (bi : Int) (h2 : Int) (bj : Int) (t : Int) => (V12 h1 bi h2 bj t) (S.meeS h1 bi h2 bj t)) x.1 x.2.1 x.2.2.1 x.2.2.2.1 x.2.2.2.2.1, fun (x : Int × Int × Int × Int × Int × Unit) => (fun (h1 : Int) (bi : Int) (h2 : Int) (bj : Int) (t : Int) => (N12 h1 bi h2 bj t) (S.meeS h1 bi h2 bj t)) x.1 x.2.1 x.2.2.1 x.2.2.2.1 x.2.2.2.2.1, fun _ _ => .dead⟩
theorem s12' (h1 : Int) (bi : Int) (h2 : Int) (bj : Int) (t : Int) (hh1 : 1 ≤ h1 ∧ h1 ≤ 2000) (hh2 : 1 ≤ h2 ∧ h2 ≤ 2000) (ht : 0 ≤ t ∧ t ≤ 1099511627776) : ∀ (k i : Nat), (i : Int) + k = h2 → Comes (q12 h1 bi h2 bj t) (.h0 (i : Int)) (if S.idx (S.hitB h1 bi h2 bj t) i k = -1 then (0, 10) else (S.pas h1 bi t + S.idx (S.hitB h1 bi h2 bj t) i k * h1, 0)) := by
  have hp := pas_ok (h := h1) (i := bi) (t := t) (by omega)
  have e0 := pas_eq (h := h1) (i := bi) (t := t)
  intro k
  induction k with
  | zero =>
    intro i hi
    apply Comes.of
    show Goes _ _ _
    rw [q12]
    simp only [← e0]
    repeat' first
      | with_reducible refine goes_if (fun h => ?_) (fun h => ?_) <;> (try simp only [lim64, imp_false, decide_eq_true_eq, decide_eq_false_iff_not, Int.toNat_natCast, toNat_pred, toNat_succ, Option.getD_some, Option.getD_none, Bool.not_eq_true', Bool.not_eq_false', Bool.and_eq_true, Bool.or_eq_true, Bool.and_eq_false_iff, Bool.or_eq_false_iff, bne_iff_ne, beq_iff_eq, bne_eq_false_iff_eq, beq_eq_false_iff_ne, ne_eq, not_and, Int.not_le, Int.not_lt, ge_iff_le, gt_iff_lt, Nat.not_lt, Nat.not_le, Bool.not_eq_true, Bool.not_eq_false, Bool.true_eq_false, Bool.false_eq_true, not_false_eq_true, not_true_eq_false] at h)
      | exact goes_none.mpr (by omega)
    all_goals first | (exfalso; omega) | rfl
  | succ k ih =>
    intro i hi
    have ih := ih (i + 1) (by omega)
    have hm := mul_bnd (k := (i : Int)) (h := h1) (by omega) (by omega)
    have es : ((i + 1 : Nat) : Int) * h1 = (i : Int) * h1 + h1 := by rw [Int.natCast_add, Int.add_mul]; simp
    have eh : (S.hitB h1 bi h2 bj t) i = decide (Int.tmod (S.pas h1 bi t + (i : Int) * h1) h2 = bj) := rfl
    have ei : S.idx (S.hitB h1 bi h2 bj t) i (k + 1) = if (S.hitB h1 bi h2 bj t) i = true then (i : Int) else S.idx (S.hitB h1 bi h2 bj t) (i + 1) k := rfl
    rw [ei, eh]
    apply Comes.of
    show Goes _ _ _
    rw [q12]
    simp only [← e0]
    generalize S.pas h1 bi t = P at *
    generalize hM : (i : Int) * h1 = M at *
    generalize Int.tmod (P + M) h2 = R at *
    repeat' first
      | with_reducible refine goes_if (fun h => ?_) (fun h => ?_) <;> (try simp only [lim64, imp_false, decide_eq_true_eq, decide_eq_false_iff_not, Int.toNat_natCast, toNat_pred, toNat_succ, Option.getD_some, Option.getD_none, Bool.not_eq_true', Bool.not_eq_false', Bool.and_eq_true, Bool.or_eq_true, Bool.and_eq_false_iff, Bool.or_eq_false_iff, bne_iff_ne, beq_iff_eq, bne_eq_false_iff_eq, beq_eq_false_iff_ne, ne_eq, not_and, Int.not_le, Int.not_lt, ge_iff_le, gt_iff_lt, Nat.not_lt, Nat.not_le, Bool.not_eq_true, Bool.not_eq_false, Bool.true_eq_false, Bool.false_eq_true, not_false_eq_true, not_true_eq_false] at h)
      | exact goes_none.mpr (by omega)
    all_goals first
      | (exfalso; omega)
      | (rw [if_pos (decide_eq_true (by assumption)), if_neg (by omega), hM]; exact goes_inr.mpr rfl)
      | (rw [if_neg (fun hd => absurd (of_decide_eq_true hd) (by assumption))]; exact ih)
theorem s12 (h1 : Int) (bi : Int) (h2 : Int) (bj : Int) (t : Int) (hp : True) : Goes ((q12 h1 bi h2 bj t)) ((p12 h1 bi h2 bj t)) (S.meeS h1 bi h2 bj t) := by
  unfold S.meeS
  by_cases hr : S.rgB h1 bi = true ∧ S.rgB h2 bj = true ∧ 0 ≤ t ∧ t ≤ 1099511627776
  · rw [if_pos hr]
    rw [rg_ok, rg_ok] at hr
    have hm := s12' h1 bi h2 bj t (by omega) (by omega) (by omega) h2.toNat 0 (by omega)
    have hpas := pas_ok (h := h1) (i := bi) (t := t) (by omega)
    have e0 := pas_eq (h := h1) (i := bi) (t := t)
    have hmd := mdl_ok (n := bi - t) (h := h1) (by omega)
    have htm := tmod_lt (n := bi - t) (h := h1) (by omega)
    unfold S.mdl at hmd
    
    show Goes _ _ _
    unfold p12
    repeat' first
      | with_reducible refine goes_if (fun h => ?_) (fun h => ?_) <;> (try simp only [lim64, imp_false, decide_eq_true_eq, decide_eq_false_iff_not, Int.toNat_natCast, toNat_pred, toNat_succ, Option.getD_some, Option.getD_none, Bool.not_eq_true', Bool.not_eq_false', Bool.and_eq_true, Bool.or_eq_true, Bool.and_eq_false_iff, Bool.or_eq_false_iff, bne_iff_ne, beq_iff_eq, bne_eq_false_iff_eq, beq_eq_false_iff_ne, ne_eq, not_and, Int.not_le, Int.not_lt, ge_iff_le, gt_iff_lt, Nat.not_lt, Nat.not_le, Bool.not_eq_true, Bool.not_eq_false, Bool.true_eq_false, Bool.false_eq_true, not_false_eq_true, not_true_eq_false] at h)
      | exact goes_none.mpr (by omega)
    all_goals first | (exfalso; omega) | exact hm
  · rw [if_neg hr]
    rw [rg_ok, rg_ok] at hr
    have hmd : 1 ≤ h1 → _ := fun h => mdl_ok (n := bi - t) (h := h1) (by omega)
    have htm : 1 ≤ h1 → _ := fun h => tmod_lt (n := bi - t) (h := h1) (by omega)
    unfold S.mdl at hmd
    show Goes _ _ _
    unfold p12
    repeat' first
      | with_reducible refine goes_if (fun h => ?_) (fun h => ?_) <;> (try simp only [lim64, imp_false, decide_eq_true_eq, decide_eq_false_iff_not, Int.toNat_natCast, toNat_pred, toNat_succ, Option.getD_some, Option.getD_none, Bool.not_eq_true', Bool.not_eq_false', Bool.and_eq_true, Bool.or_eq_true, Bool.and_eq_false_iff, Bool.or_eq_false_iff, bne_iff_ne, beq_iff_eq, bne_eq_false_iff_eq, beq_eq_false_iff_ne, ne_eq, not_and, Int.not_le, Int.not_lt, ge_iff_le, gt_iff_lt, Nat.not_lt, Nat.not_le, Bool.not_eq_true, Bool.not_eq_false, Bool.true_eq_false, Bool.false_eq_true, not_false_eq_true, not_true_eq_false] at h)
      | exact goes_none.mpr (by omega)
    all_goals first | (exfalso; omega) | rfl

theorem k12_ok : k12.ok Try.prog := by
  intro x hx
  obtain ⟨h1, bi, h2, bj, t, _⟩ := x
  obtain ⟨h1, h2⟩ := a12 h1 bi h2 bj t (s12 h1 bi h2 bj t (of_dec hx rfl))
  exact ⟨⟨400, (by decide : 0 + 1 + 0 ≤ 400), h1⟩, h2⟩
inductive St13 where
  | h0 (x0 : Int) (x1 : Int)
abbrev Rt13 := Int × Int
noncomputable def V13 (h1 : Int) (bi : Int) (h2 : Int) (bj : Int) (t : Int) (r : Rt13) : PV := PV.tup [PV.int IntKind.i64 r.1, PV.int IntKind.i64 r.2]
noncomputable def N13 (h1 : Int) (bi : Int) (h2 : Int) (bj : Int) (t : Int) (r : Rt13) : List Blk := []
noncomputable def I13 (h1 : Int) (bi : Int) (h2 : Int) (bj : Int) (t : Int) : St13 → Hd
  | .h0 x0 x1 => ⟨hd Try.f13 0, [PV.int IntKind.i64 h1, PV.int IntKind.i64 h2, PV.int IntKind.i64 bj,
 PV.int IntKind.i64 x0, PV.int IntKind.i64 x1], [[], []], 0⟩
noncomputable def q13 (h1 : Int) (bi : Int) (h2 : Int) (bj : Int) (t : Int) : St13 → Option (St13 ⊕ Rt13)
  | .h0 x0 x1 => bif (decide (x1 < h2))
 then (bif (decide (h2 = (0 : Int)))
 then (none)
 else (bif (Int.tmod x0 h2 == bj)
 then (some (.inr (x0, (0 : Int))))
 else (bif (lim IntKind.i64 (x0 + h1))
 then (bif (lim IntKind.i64 (x1 + (1 : Int)))
 then (some (.inl (.h0 (x0 + h1) (x1 + (1 : Int)))))
 else (none))
 else (none))))
 else (some (.inr ((0 : Int), (10 : Int))))
noncomputable def p13 (h1 : Int) (bi : Int) (h2 : Int) (bj : Int) (t : Int) : Option (St13 ⊕ Rt13) := bif (decide (h1 ≥ (1 : Int)))
 then (bif (decide (h1 ≤ (2000 : Int)))
 then (bif (decide (bi ≥ (0 : Int)))
 then (bif (decide (bi < h1))
 then (bif (decide (h2 ≥ (1 : Int)))
 then (bif (decide (h2 ≤ (2000 : Int)))
 then (bif (decide (bj ≥ (0 : Int)))
 then (bif (decide (bj < h2))
 then (bif (decide (t < (0 : Int)))
 then (some (.inr ((0 : Int), (6 : Int))))
 else (bif (decide (t > (1099511627776 : Int)))
 then (some (.inr ((0 : Int), (6 : Int))))
 else (bif (lim IntKind.i64 (bi - t))
 then (bif (decide (h1 = (0 : Int)))
 then (none)
 else (bif (lim IntKind.i64 (Int.tmod (bi - t) h1 + h1))
 then (bif (lim IntKind.i64 (t + Int.tmod (Int.tmod (bi - t) h1 + h1) h1))
 then (some (.inl (.h0 (t + Int.tmod (Int.tmod (bi - t) h1 + h1) h1) ((0 : Int)))))
 else (none))
 else (none)))
 else (none))))
 else (some (.inr ((0 : Int), (6 : Int)))))
 else (some (.inr ((0 : Int), (6 : Int)))))
 else (some (.inr ((0 : Int), (6 : Int)))))
 else (some (.inr ((0 : Int), (6 : Int)))))
 else (some (.inr ((0 : Int), (6 : Int)))))
 else (some (.inr ((0 : Int), (6 : Int)))))
 else (some (.inr ((0 : Int), (6 : Int)))))
 else (some (.inr ((0 : Int), (6 : Int))))
noncomputable def Te13 (test : Bool → Prop → Prop → Prop) (Kst : KS) (Kret : KR) (h1 : Int) (bi : Int) (h2 : Int) (bj : Int) (t : Int) : Prop :=
  test (decide (h1 ≥ (1 : Int)))
 (test (decide (h1 ≤ (2000 : Int)))
 (test (decide (bi ≥ (0 : Int)))
 (test (decide (bi < h1))
 (test (decide (h2 ≥ (1 : Int)))
 (test (decide (h2 ≤ (2000 : Int)))
 (test (decide (bj ≥ (0 : Int)))
 (test (decide (bj < h2))
 (test (decide (t < (0 : Int)))
 (Kret (PV.tup [PV.int IntKind.i64 (0 : Int), PV.int IntKind.i64 (6 : Int)]) ([[]]) (0))
 (test (decide (t > (1099511627776 : Int)))
 (Kret (PV.tup [PV.int IntKind.i64 (0 : Int), PV.int IntKind.i64 (6 : Int)]) ([[]]) (0))
 (test (lim IntKind.i64 (bi - t))
 (test (decide (h1 = (0 : Int)))
 (False)
 (test (lim IntKind.i64 (Int.tmod (bi - t) h1 + h1))
 (test (decide (h1 = (0 : Int)))
 (False)
 (test (lim IntKind.i64 (t + Int.tmod (Int.tmod (bi - t) h1 + h1) h1))
 (Kst (hd Try.f13 0) ([PV.int IntKind.i64 h1, PV.int IntKind.i64 h2, PV.int IntKind.i64 bj,
 PV.int IntKind.i64 (t + Int.tmod (Int.tmod (bi - t) h1 + h1) h1), PV.int IntKind.i64 (0 : Int)]) ([[]]) (0))
 (False)))
 (False)))
 (False))))
 (Kret (PV.tup [PV.int IntKind.i64 (0 : Int), PV.int IntKind.i64 (6 : Int)]) ([[]]) (0)))
 (Kret (PV.tup [PV.int IntKind.i64 (0 : Int), PV.int IntKind.i64 (6 : Int)]) ([[]]) (0)))
 (Kret (PV.tup [PV.int IntKind.i64 (0 : Int), PV.int IntKind.i64 (6 : Int)]) ([[]]) (0)))
 (Kret (PV.tup [PV.int IntKind.i64 (0 : Int), PV.int IntKind.i64 (6 : Int)]) ([[]]) (0)))
 (Kret (PV.tup [PV.int IntKind.i64 (0 : Int), PV.int IntKind.i64 (6 : Int)]) ([[]]) (0)))
 (Kret (PV.tup [PV.int IntKind.i64 (0 : Int), PV.int IntKind.i64 (6 : Int)]) ([[]]) (0)))
 (Kret (PV.tup [PV.int IntKind.i64 (0 : Int), PV.int IntKind.i64 (6 : Int)]) ([[]]) (0)))
 (Kret (PV.tup [PV.int IntKind.i64 (0 : Int), PV.int IntKind.i64 (6 : Int)]) ([[]]) (0))
set_option maxRecDepth 100000 in
theorem te13 (test : Bool → Prop → Prop → Prop) (Kst : KS) (Kret : KR) (h1 : Int) (bi : Int) (h2 : Int) (bj : Int) (t : Int) : run test Try.env true noX true 400 ⟨13, [.cd (mkFn Try.f13).body], argT 0 [.int .i64 h1, .int .i64 bi, .int .i64 h2, .int .i64 bj, .int .i64 t], [[], []], 0⟩ (proj 0 [0, 2, 3, 12, 13] Kst Kret) =
  Te13 test Kst Kret h1 bi h2 bj t := by kernel_rfl
noncomputable def T13_0 (test : Bool → Prop → Prop → Prop) (Kst : KS) (Kret : KR) (h1 : Int) (bi : Int) (h2 : Int) (bj : Int) (t : Int) (x0 : Int) (x1 : Int) : Prop :=
  test (decide (x1 < h2))
 (test (decide (h2 = (0 : Int)))
 (False)
 (test (Int.tmod x0 h2 == bj)
 (Kret (PV.tup [PV.int IntKind.i64 x0, PV.int IntKind.i64 (0 : Int)]) ([[]]) (0))
 (test (lim IntKind.i64 (x0 + h1))
 (test (lim IntKind.i64 (x1 + (1 : Int)))
 (Kst (hd Try.f13 0) ([PV.int IntKind.i64 h1, PV.int IntKind.i64 h2, PV.int IntKind.i64 bj,
 PV.int IntKind.i64 (x0 + h1), PV.int IntKind.i64 (x1 + (1 : Int))]) ([[]]) (0))
 (False))
 (False))))
 (Kret (PV.tup [PV.int IntKind.i64 (0 : Int), PV.int IntKind.i64 (10 : Int)]) ([[]]) (0))
set_option maxRecDepth 100000 in
theorem t13_0 (test : Bool → Prop → Prop → Prop) (Kst : KS) (Kret : KR) (h1 : Int) (bi : Int) (h2 : Int) (bj : Int) (t : Int) (x0 : Int) (x1 : Int) : run test Try.env true noX true 400 ⟨13, hd Try.f13 0, zipT [0, 2, 3, 12, 13] [PV.int IntKind.i64 h1, PV.int IntKind.i64 h2, PV.int IntKind.i64 bj,
 PV.int IntKind.i64 x0, PV.int IntKind.i64 x1], [[], []], 0⟩ (proj 0 [0, 2, 3, 12, 13] Kst Kret) =
  T13_0 test Kst Kret h1 bi h2 bj t x0 x1 := by kernel_rfl
attribute [local irreducible] Int.subNatNat in
set_option maxRecDepth 100000 in
theorem be13 (h1 : Int) (bi : Int) (h2 : Int) (bj : Int) (t : Int) (Kst : KS) (Kret : KR) (x : St13 ⊕ Rt13) (hS : HS 0 400 ((I13 h1 bi h2 bj t)) Kst x) (hR : HR 0 400 ((V13 h1 bi h2 bj t)) (fun r => [newL (0 + 1) ((N13 h1 bi h2 bj t) r) ++ []]) Kret x) (h : (bif (decide (h1 ≥ (1 : Int)))
 then (bif (decide (h1 ≤ (2000 : Int)))
 then (bif (decide (bi ≥ (0 : Int)))
 then (bif (decide (bi < h1))
 then (bif (decide (h2 ≥ (1 : Int)))
 then (bif (decide (h2 ≤ (2000 : Int)))
 then (bif (decide (bj ≥ (0 : Int)))
 then (bif (decide (bj < h2))
 then (bif (decide (t < (0 : Int)))
 then (some (.inr ((0 : Int), (6 : Int))))
 else (bif (decide (t > (1099511627776 : Int)))
 then (some (.inr ((0 : Int), (6 : Int))))
 else (bif (lim IntKind.i64 (bi - t))
 then (bif (decide (h1 = (0 : Int)))
 then (none)
 else (bif (lim IntKind.i64 (Int.tmod (bi - t) h1 + h1))
 then (bif (lim IntKind.i64 (t + Int.tmod (Int.tmod (bi - t) h1 + h1) h1))
 then (some (.inl (.h0 (t + Int.tmod (Int.tmod (bi - t) h1 + h1) h1) ((0 : Int)))))
 else (none))
 else (none)))
 else (none))))
 else (some (.inr ((0 : Int), (6 : Int)))))
 else (some (.inr ((0 : Int), (6 : Int)))))
 else (some (.inr ((0 : Int), (6 : Int)))))
 else (some (.inr ((0 : Int), (6 : Int)))))
 else (some (.inr ((0 : Int), (6 : Int)))))
 else (some (.inr ((0 : Int), (6 : Int)))))
 else (some (.inr ((0 : Int), (6 : Int)))))
 else (some (.inr ((0 : Int), (6 : Int)))) : Option (St13 ⊕ Rt13)) = some x) : Te13 cond Kst Kret h1 bi h2 bj t := by
  unfold Te13
  exact bif_split h
   (fun c0 h => bif_split h
   (fun c1 h => bif_split h
   (fun c2 h => bif_split h
   (fun c3 h => bif_split h
   (fun c4 h => bif_split h
   (fun c5 h => bif_split h
   (fun c6 h => bif_split h
   (fun c7 h => bif_split h
   (fun c8 h => ret_at hR _ h (fun n => n) rfl rfl rfl (rn_tup ⟨(rn_int rfl), (rn_int rfl), trivial⟩) rfl entl_nil)
   (fun c8 h => bif_split h
   (fun c9 h => ret_at hR _ h (fun n => n) rfl rfl rfl (rn_tup ⟨(rn_int rfl), (rn_int rfl), trivial⟩) rfl entl_nil)
   (fun c9 h => bif_split h
   (fun c10 h => bif_split h
   (fun c11 h => no_some h)
   (fun c11 h => bif_split h
   (fun c12 h => cond_no c11 (bif_split h
   (fun c13 h => stop_at hS _ h (fun n => n) rfl rfl rfl ⟨(rn_int rfl), ⟨(rn_int rfl), ⟨(rn_int rfl), ⟨(rn_int rfl), ⟨(rn_int rfl), trivial⟩⟩⟩⟩⟩ rfl entl_nil)
   (fun c13 h => no_some h)))
   (fun c12 h => no_some h)))
   (fun c10 h => no_some h))))
   (fun c7 h => ret_at hR _ h (fun n => n) rfl rfl rfl (rn_tup ⟨(rn_int rfl), (rn_int rfl), trivial⟩) rfl entl_nil))
   (fun c6 h => ret_at hR _ h (fun n => n) rfl rfl rfl (rn_tup ⟨(rn_int rfl), (rn_int rfl), trivial⟩) rfl entl_nil))
   (fun c5 h => ret_at hR _ h (fun n => n) rfl rfl rfl (rn_tup ⟨(rn_int rfl), (rn_int rfl), trivial⟩) rfl entl_nil))
   (fun c4 h => ret_at hR _ h (fun n => n) rfl rfl rfl (rn_tup ⟨(rn_int rfl), (rn_int rfl), trivial⟩) rfl entl_nil))
   (fun c3 h => ret_at hR _ h (fun n => n) rfl rfl rfl (rn_tup ⟨(rn_int rfl), (rn_int rfl), trivial⟩) rfl entl_nil))
   (fun c2 h => ret_at hR _ h (fun n => n) rfl rfl rfl (rn_tup ⟨(rn_int rfl), (rn_int rfl), trivial⟩) rfl entl_nil))
   (fun c1 h => ret_at hR _ h (fun n => n) rfl rfl rfl (rn_tup ⟨(rn_int rfl), (rn_int rfl), trivial⟩) rfl entl_nil))
   (fun c0 h => ret_at hR _ h (fun n => n) rfl rfl rfl (rn_tup ⟨(rn_int rfl), (rn_int rfl), trivial⟩) rfl entl_nil)
attribute [local irreducible] Int.subNatNat in
set_option maxRecDepth 100000 in
theorem b13_0 (h1 : Int) (bi : Int) (h2 : Int) (bj : Int) (t : Int) (Kst : KS) (Kret : KR) (x : St13 ⊕ Rt13) (hS : HS 0 400 ((I13 h1 bi h2 bj t)) Kst x) (hR : HR 0 400 ((V13 h1 bi h2 bj t)) (fun r => [newL (0 + 1) ((N13 h1 bi h2 bj t) r) ++ []]) Kret x) (x0 : Int) (x1 : Int) (h : (bif (decide (x1 < h2))
 then (bif (decide (h2 = (0 : Int)))
 then (none)
 else (bif (Int.tmod x0 h2 == bj)
 then (some (.inr (x0, (0 : Int))))
 else (bif (lim IntKind.i64 (x0 + h1))
 then (bif (lim IntKind.i64 (x1 + (1 : Int)))
 then (some (.inl (.h0 (x0 + h1) (x1 + (1 : Int)))))
 else (none))
 else (none))))
 else (some (.inr ((0 : Int), (10 : Int)))) : Option (St13 ⊕ Rt13)) = some x) : T13_0 cond Kst Kret h1 bi h2 bj t x0 x1 := by
  unfold T13_0
  exact bif_split h
   (fun c0 h => bif_split h
   (fun c1 h => no_some h)
   (fun c1 h => bif_split h
   (fun c2 h => ret_at hR _ h (fun n => n) rfl rfl rfl (rn_tup ⟨(rn_int rfl), (rn_int rfl), trivial⟩) rfl entl_nil)
   (fun c2 h => bif_split h
   (fun c3 h => bif_split h
   (fun c4 h => stop_at hS _ h (fun n => n) rfl rfl rfl ⟨(rn_int rfl), ⟨(rn_int rfl), ⟨(rn_int rfl), ⟨(rn_int rfl), ⟨(rn_int rfl), trivial⟩⟩⟩⟩⟩ rfl entl_nil)
   (fun c4 h => no_some h))
   (fun c3 h => no_some h))))
   (fun c0 h => ret_at hR _ h (fun n => n) rfl rfl rfl (rn_tup ⟨(rn_int rfl), (rn_int rfl), trivial⟩) rfl entl_nil)
theorem a13 (h1 : Int) (bi : Int) (h2 : Int) (bj : Int) (t : Int) {r : Rt13} (h : Goes ((q13 h1 bi h2 bj t)) ((p13 h1 bi h2 bj t)) r) : CallR Try.prog 13 [.int .i64 h1, .int .i64 bi, .int .i64 h2, .int .i64 bj, .int .i64 t] [[]] 0 ((V13 h1 bi h2 bj t) r) ((fun r => [newL (0 + 1) ((N13 h1 bi h2 bj t) r) ++ []]) r) 400 ∧ ∃ F, Try.prog.funcs[13]? = some F ∧ F.body.isSome = true ∧ (F.name == "runtime.NumGoroutine") = false := by
  refine dec_calls (f := 13) (lo := 0) (hi := 400) (H := [[]]) (args := [.int .i64 h1, .int .i64 bi, .int .i64 h2, .int .i64 bj, .int .i64 t]) Try.envOk Try.mixed noX_ok ((I13 h1 bi h2 bj t)) ((V13 h1 bi h2 bj t)) (fun r => [newL (0 + 1) ((N13 h1 bi h2 bj t) r) ++ []]) (fn := mkFn Try.f13) (ts := [0, 2, 3, 12, 13]) (n := 400) rfl (by decide) (by simp) (names_of rfl) ?_ ?_ ?_ h
  · intro s; cases s <;> exact ⟨hd_ok _ _, by simp [I13], names_of rfl, Nat.le_of_ble_eq_true rfl⟩
  · intro Kst Kret x hS hR h
    exact Holds.eq (te13 cond Kst Kret h1 bi h2 bj t) (be13 h1 bi h2 bj t Kst Kret x hS hR h)
  · intro Kst Kret x hS hR s h
    cases s with
    | h0 x0 x1 => exact Holds.eq (t13_0 cond Kst Kret h1 bi h2 bj t x0 x1) (b13_0 h1 bi h2 bj t Kst Kret x hS hR x0 x1 h)
noncomputable def k13 : Con := ⟨13, [.one (.plain (.int .i64)), .one (.plain (.int .i64)), .one (.plain (.int .i64)), .one (.plain (.int .i64)), .one (.plain (.int .i64))], fun (x : Int × Int × Int × Int × Int × Unit) => (fun (h1 : Int) (bi : Int) (h2 : Int) (bj : Int) (t : Int) => decide (True)) x.1 x.2.1 x.2.2.1 x.2.2.2.1 x.2.2.2.2.1, fun (x : Int × Int × Int × Int × Int × Unit) => (fun (h1 : Int) (bi : Int) (h2 : Int) (bj : Int) (t : Int) => (V13 h1 bi h2 bj t) (S.meeS h1 bi h2 bj t)) x.1 x.2.1 x.2.2.1 x.2.2.2.1 x.2.2.2.2.1, fun (x : Int × Int × Int × Int × Int × Unit) => (fun (h1 : Int) (bi : Int) (h2 : Int) (bj : Int) (t : Int) => (N13 h1 bi h2 bj t) (S.meeS h1 bi h2 bj t)) x.1 x.2.1 x.2.2.1 x.2.2.2.1 x.2.2.2.2.1, fun _ _ => .dead⟩
theorem s13' (h1 : Int) (bi : Int) (h2 : Int) (bj : Int) (t : Int) (hh1 : 1 ≤ h1 ∧ h1 ≤ 2000) (hh2 : 1 ≤ h2 ∧ h2 ≤ 2000) (ht : 0 ≤ t ∧ t ≤ 1099511627776) : ∀ (k i : Nat), (i : Int) + k = h2 → Comes (q13 h1 bi h2 bj t) (.h0 (S.pas h1 bi t + i * h1) (i : Int)) (if S.idx (S.hitB h1 bi h2 bj t) i k = -1 then (0, 10) else (S.pas h1 bi t + S.idx (S.hitB h1 bi h2 bj t) i k * h1, 0)) := by
  have hp := pas_ok (h := h1) (i := bi) (t := t) (by omega)
  have e0 := pas_eq (h := h1) (i := bi) (t := t)
  intro k
  induction k with
  | zero =>
    intro i hi
    apply Comes.of
    show Goes _ _ _
    rw [q13]
    repeat' first
      | with_reducible refine goes_if (fun h => ?_) (fun h => ?_) <;> (try simp only [lim64, imp_false, decide_eq_true_eq, decide_eq_false_iff_not, Int.toNat_natCast, toNat_pred, toNat_succ, Option.getD_some, Option.getD_none, Bool.not_eq_true', Bool.not_eq_false', Bool.and_eq_true, Bool.or_eq_true, Bool.and_eq_false_iff, Bool.or_eq_false_iff, bne_iff_ne, beq_iff_eq, bne_eq_false_iff_eq, beq_eq_false_iff_ne, ne_eq, not_and, Int.not_le, Int.not_lt, ge_iff_le, gt_iff_lt, Nat.not_lt, Nat.not_le, Bool.not_eq_true, Bool.not_eq_false, Bool.true_eq_false, Bool.false_eq_true, not_false_eq_true, not_true_eq_false] at h)
      | exact goes_none.mpr (by omega)
    all_goals first | (exfalso; omega) | rfl
  | succ k ih =>
    intro i hi
    have ih := ih (i + 1) (by omega)
    have hm := mul_bnd (k := (i : Int)) (h := h1) (by omega) (by omega)
    have es : ((i + 1 : Nat) : Int) * h1 = (i : Int) * h1 + h1 := by rw [Int.natCast_add, Int.add_mul]; simp
    have eh : (S.hitB h1 bi h2 bj t) i = decide (Int.tmod (S.pas h1 bi t + (i : Int) * h1) h2 = bj) := rfl
    have ei : S.idx (S.hitB h1 bi h2 bj t) i (k + 1) = if (S.hitB h1 bi h2 bj t) i = true then (i : Int) else S.idx (S.hitB h1 bi h2 bj t) (i + 1) k := rfl
    rw [ei, eh]
    apply Comes.of
    show Goes _ _ _
    rw [q13]
    generalize S.pas h1 bi t = P at *
    generalize hM : (i : Int) * h1 = M at *
    generalize Int.tmod (P + M) h2 = R at *
    repeat' first
      | with_reducible refine goes_if (fun h => ?_) (fun h => ?_) <;> (try simp only [lim64, imp_false, decide_eq_true_eq, decide_eq_false_iff_not, Int.toNat_natCast, toNat_pred, toNat_succ, Option.getD_some, Option.getD_none, Bool.not_eq_true', Bool.not_eq_false', Bool.and_eq_true, Bool.or_eq_true, Bool.and_eq_false_iff, Bool.or_eq_false_iff, bne_iff_ne, beq_iff_eq, bne_eq_false_iff_eq, beq_eq_false_iff_ne, ne_eq, not_and, Int.not_le, Int.not_lt, ge_iff_le, gt_iff_lt, Nat.not_lt, Nat.not_le, Bool.not_eq_true, Bool.not_eq_false, Bool.true_eq_false, Bool.false_eq_true, not_false_eq_true, not_true_eq_false] at h)
      | exact goes_none.mpr (by omega)
    all_goals first
      | (exfalso; omega)
      | (rw [if_pos (decide_eq_true (by assumption)), if_neg (by omega), hM]; exact goes_inr.mpr rfl)
      | (rw [if_neg (fun hd => absurd (of_decide_eq_true hd) (by assumption))]; rw [es, ← Int.add_assoc] at ih; exact ih)
theorem s13 (h1 : Int) (bi : Int) (h2 : Int) (bj : Int) (t : Int) (hp : True) : Goes ((q13 h1 bi h2 bj t)) ((p13 h1 bi h2 bj t)) (S.meeS h1 bi h2 bj t) := by
  unfold S.meeS
  by_cases hr : S.rgB h1 bi = true ∧ S.rgB h2 bj = true ∧ 0 ≤ t ∧ t ≤ 1099511627776
  · rw [if_pos hr]
    rw [rg_ok, rg_ok] at hr
    have hm := s13' h1 bi h2 bj t (by omega) (by omega) (by omega) h2.toNat 0 (by omega)
    have hpas := pas_ok (h := h1) (i := bi) (t := t) (by omega)
    have e0 := pas_eq (h := h1) (i := bi) (t := t)
    have hmd := mdl_ok (n := bi - t) (h := h1) (by omega)
    have htm := tmod_lt (n := bi - t) (h := h1) (by omega)
    unfold S.mdl at hmd
    rw [show S.pas h1 bi t + ((0 : Nat) : Int) * h1 = S.pas h1 bi t by simp] at hm
    show Goes _ _ _
    unfold p13
    repeat' first
      | with_reducible refine goes_if (fun h => ?_) (fun h => ?_) <;> (try simp only [lim64, imp_false, decide_eq_true_eq, decide_eq_false_iff_not, Int.toNat_natCast, toNat_pred, toNat_succ, Option.getD_some, Option.getD_none, Bool.not_eq_true', Bool.not_eq_false', Bool.and_eq_true, Bool.or_eq_true, Bool.and_eq_false_iff, Bool.or_eq_false_iff, bne_iff_ne, beq_iff_eq, bne_eq_false_iff_eq, beq_eq_false_iff_ne, ne_eq, not_and, Int.not_le, Int.not_lt, ge_iff_le, gt_iff_lt, Nat.not_lt, Nat.not_le, Bool.not_eq_true, Bool.not_eq_false, Bool.true_eq_false, Bool.false_eq_true, not_false_eq_true, not_true_eq_false] at h)
      | exact goes_none.mpr (by omega)
    all_goals first | (exfalso; omega) | exact hm
  · rw [if_neg hr]
    rw [rg_ok, rg_ok] at hr
    have hmd : 1 ≤ h1 → _ := fun h => mdl_ok (n := bi - t) (h := h1) (by omega)
    have htm : 1 ≤ h1 → _ := fun h => tmod_lt (n := bi - t) (h := h1) (by omega)
    unfold S.mdl at hmd
    show Goes _ _ _
    unfold p13
    repeat' first
      | with_reducible refine goes_if (fun h => ?_) (fun h => ?_) <;> (try simp only [lim64, imp_false, decide_eq_true_eq, decide_eq_false_iff_not, Int.toNat_natCast, toNat_pred, toNat_succ, Option.getD_some, Option.getD_none, Bool.not_eq_true', Bool.not_eq_false', Bool.and_eq_true, Bool.or_eq_true, Bool.and_eq_false_iff, Bool.or_eq_false_iff, bne_iff_ne, beq_iff_eq, bne_eq_false_iff_eq, beq_eq_false_iff_ne, ne_eq, not_and, Int.not_le, Int.not_lt, ge_iff_le, gt_iff_lt, Nat.not_lt, Nat.not_le, Bool.not_eq_true, Bool.not_eq_false, Bool.true_eq_false, Bool.false_eq_true, not_false_eq_true, not_true_eq_false] at h)
      | exact goes_none.mpr (by omega)
    all_goals first | (exfalso; omega) | rfl

theorem k13_ok : k13.ok Try.prog := by
  intro x hx
  obtain ⟨h1, bi, h2, bj, t, _⟩ := x
  obtain ⟨h1, h2⟩ := a13 h1 bi h2 bj t (s13 h1 bi h2 bj t (of_dec hx rfl))
  exact ⟨⟨400, (by decide : 0 + 1 + 0 ≤ 400), h1⟩, h2⟩

end Go.Ev
