/-
  The law of Again.
-/
import Derived.Test.YtejcmbcmhfejkaaA9a
namespace Go.Ev
open Go.Proofs
set_option linter.unusedVariables false
set_option linter.unusedSimpArgs false
set_option maxRecDepth 100000
abbrev St4 := Empty
abbrev Rt4 := Bool
noncomputable def V4 (h1 : Int) (bi : Int) (h2 : Int) (bj : Int) (t : Int) (r : Rt4) : PV := PV.bool r
noncomputable def N4 (h1 : Int) (bi : Int) (h2 : Int) (bj : Int) (t : Int) (r : Rt4) : List Blk := []
noncomputable def I4 (h1 : Int) (bi : Int) (h2 : Int) (bj : Int) (t : Int) : St4 → Hd := fun s => s.elim
noncomputable def q4 (h1 : Int) (bi : Int) (h2 : Int) (bj : Int) (t : Int) : St4 → Option (St4 ⊕ Rt4) := fun s => s.elim
noncomputable def p4 (h1 : Int) (bi : Int) (h2 : Int) (bj : Int) (t : Int) : Option (St4 ⊕ Rt4) := bif ((S.perS h1 h2).2 != (0 : Int))
 then (bif ((S.meeS h1 bi h2 bj t).2 == (6 : Int))
 then (some (.inr (true)))
 else (bif ((S.perS h1 h2).2 == (0 : Int))
 then (some (.inr (true)))
 else (some (.inr (false)))))
 else (bif ((S.meeS h1 bi h2 bj t).2 == (6 : Int))
 then (some (.inr (true)))
 else (bif (lim IntKind.i64 (h1 * h2))
 then (bif (decide (Max.max ((S.perS h1 h2).1) (1 : Int) = (0 : Int)))
 then (none)
 else (bif (lim IntKind.i64 (Int.tdiv (h1 * h2) (Max.max ((S.perS h1 h2).1) (1 : Int))))
 then (bif ((S.meeS h1 bi h2 bj t).2 != (0 : Int))
 then (bif ((S.meeS h1 bi h2 bj t).2 == (10 : Int))
 then (bif (decide (Int.tdiv (h1 * h2) (Max.max ((S.perS h1 h2).1) (1 : Int)) > (0 : Int)))
 then (bif (lim IntKind.i64 (bi - bj))
 then (bif (decide (Int.tdiv (h1 * h2) (Max.max ((S.perS h1 h2).1) (1 : Int)) = (0 : Int)))
 then (none)
 else (bif (Int.tmod (bi - bj) (Int.tdiv (h1 * h2) (Max.max ((S.perS h1 h2).1) (1 : Int))) != (0 : Int))
 then (some (.inr (true)))
 else (some (.inr (false)))))
 else (none))
 else (some (.inr (false))))
 else (some (.inr (false))))
 else (bif (decide (Int.tdiv (h1 * h2) (Max.max ((S.perS h1 h2).1) (1 : Int)) < (1 : Int)))
 then (some (.inr (false)))
 else (bif (lim IntKind.i64 (bi - bj))
 then (bif (decide (Int.tdiv (h1 * h2) (Max.max ((S.perS h1 h2).1) (1 : Int)) = (0 : Int)))
 then (none)
 else (bif (Int.tmod (bi - bj) (Int.tdiv (h1 * h2) (Max.max ((S.perS h1 h2).1) (1 : Int))) != (0 : Int))
 then (some (.inr (false)))
 else (bif (decide ((S.meeS h1 bi h2 bj t).1 < t))
 then (some (.inr (false)))
 else (bif (lim IntKind.i64 (t + (S.perS h1 h2).1))
 then (bif (decide ((S.meeS h1 bi h2 bj t).1 ≥ t + (S.perS h1 h2).1))
 then (some (.inr (false)))
 else (bif (decide (h1 = (0 : Int)))
 then (none)
 else (bif (Int.tmod ((S.meeS h1 bi h2 bj t).1) h1 != bi)
 then (some (.inr (false)))
 else (bif (decide (h2 = (0 : Int)))
 then (none)
 else (bif (Int.tmod ((S.meeS h1 bi h2 bj t).1) h2 != bj)
 then (some (.inr (false)))
 else (bif (decide ((S.meeS h1 bi h2 bj t).1 ≥ (1099511627776 : Int)))
 then (some (.inr (true)))
 else (bif (lim IntKind.i64 ((S.meeS h1 bi h2 bj t).1 + (1 : Int)))
 then (bif ((S.facS h1 bi h2 ((S.meeS h1 bi h2 bj t).1)).2 == (0 : Int))
 then (bif ((S.facS h1 bi h2 ((S.meeS h1 bi h2 bj t).1)).1 == bj)
 then (bif ((S.meeS h1 bi h2 bj ((S.meeS h1 bi h2 bj t).1 + (1 : Int))).2 == (0 : Int))
 then (bif (lim IntKind.i64 ((S.meeS h1 bi h2 bj t).1 + (S.perS h1 h2).1))
 then (bif ((S.meeS h1 bi h2 bj ((S.meeS h1 bi h2 bj t).1 + (1 : Int))).1 ==
 (S.meeS h1 bi h2 bj t).1 + (S.perS h1 h2).1)
 then (some (.inr (true)))
 else (some (.inr (false))))
 else (none))
 else (some (.inr (false))))
 else (some (.inr (false))))
 else (some (.inr (false))))
 else (none))))))))
 else (none)))))
 else (none))))
 else (none)))
 else (none)))
noncomputable def Te4 (test : Bool → Prop → Prop → Prop) (Kst : KS) (Kret : KR) (h1 : Int) (bi : Int) (h2 : Int) (bj : Int) (t : Int) : Prop :=
  test (true)
 (test (true)
 (test (true)
 (test (true)
 (test ((S.perS h1 h2).2 != (0 : Int))
 (test ((S.meeS h1 bi h2 bj t).2 == (6 : Int))
 (Kret (PV.tf true) ([[]]) (4))
 (test ((S.perS h1 h2).2 == (0 : Int))
 (Kret (PV.tf true) ([[]]) (4))
 (Kret (PV.tf false) ([[]]) (4))))
 (test ((S.meeS h1 bi h2 bj t).2 == (6 : Int))
 (test ((S.meeS h1 bi h2 bj t).2 == (6 : Int))
 (Kret (PV.tf true) ([[]]) (4))
 (test ((S.perS h1 h2).2 == (0 : Int))
 (Kret (PV.tf true) ([[]]) (4))
 (Kret (PV.tf false) ([[]]) (4))))
 (test (lim IntKind.i64 (h1 * h2))
 (test (decide (Max.max ((S.perS h1 h2).1) (1 : Int) = (0 : Int)))
 (False)
 (test (lim IntKind.i64 (Int.tdiv (h1 * h2) (Max.max ((S.perS h1 h2).1) (1 : Int))))
 (test ((S.meeS h1 bi h2 bj t).2 != (0 : Int))
 (test ((S.meeS h1 bi h2 bj t).2 == (10 : Int))
 (test (decide (Int.tdiv (h1 * h2) (Max.max ((S.perS h1 h2).1) (1 : Int)) > (0 : Int)))
 (test (lim IntKind.i64 (bi - bj))
 (test (decide (Int.tdiv (h1 * h2) (Max.max ((S.perS h1 h2).1) (1 : Int)) = (0 : Int)))
 (False)
 (test (Int.tmod (bi - bj) (Int.tdiv (h1 * h2) (Max.max ((S.perS h1 h2).1) (1 : Int))) != (0 : Int))
 (Kret (PV.tf true) ([[]]) (4))
 (Kret (PV.tf false) ([[]]) (4))))
 (False))
 (Kret (PV.tf false) ([[]]) (4)))
 (Kret (PV.tf false) ([[]]) (4)))
 (test (decide (Int.tdiv (h1 * h2) (Max.max ((S.perS h1 h2).1) (1 : Int)) < (1 : Int)))
 (Kret (PV.tf false) ([[]]) (4))
 (test (lim IntKind.i64 (bi - bj))
 (test (decide (Int.tdiv (h1 * h2) (Max.max ((S.perS h1 h2).1) (1 : Int)) = (0 : Int)))
 (False)
 (test (Int.tmod (bi - bj) (Int.tdiv (h1 * h2) (Max.max ((S.perS h1 h2).1) (1 : Int))) != (0 : Int))
 (Kret (PV.tf false) ([[]]) (4))
 (test (decide ((S.meeS h1 bi h2 bj t).1 < t))
 (Kret (PV.tf false) ([[]]) (4))
 (test (lim IntKind.i64 (t + (S.perS h1 h2).1))
 (test (decide ((S.meeS h1 bi h2 bj t).1 ≥ t + (S.perS h1 h2).1))
 (Kret (PV.tf false) ([[]]) (4))
 (test (decide (h1 = (0 : Int)))
 (False)
 (test (Int.tmod ((S.meeS h1 bi h2 bj t).1) h1 != bi)
 (Kret (PV.tf false) ([[]]) (4))
 (test (decide (h2 = (0 : Int)))
 (False)
 (test (Int.tmod ((S.meeS h1 bi h2 bj t).1) h2 != bj)
 (Kret (PV.tf false) ([[]]) (4))
 (test (decide ((S.meeS h1 bi h2 bj t).1 ≥ (1099511627776 : Int)))
 (Kret (PV.tf true) ([[]]) (4))
 (test (lim IntKind.i64 ((S.meeS h1 bi h2 bj t).1 + (1 : Int)))
 (test (true)
 (test (true)
 (test ((S.facS h1 bi h2 ((S.meeS h1 bi h2 bj t).1)).2 == (0 : Int))
 (test ((S.facS h1 bi h2 ((S.meeS h1 bi h2 bj t).1)).1 == bj)
 (test ((S.meeS h1 bi h2 bj ((S.meeS h1 bi h2 bj t).1 + (1 : Int))).2 == (0 : Int))
 (test (lim IntKind.i64 ((S.meeS h1 bi h2 bj t).1 + (S.perS h1 h2).1))
 (test ((S.meeS h1 bi h2 bj ((S.meeS h1 bi h2 bj t).1 + (1 : Int))).1 ==
 (S.meeS h1 bi h2 bj t).1 + (S.perS h1 h2).1)
 (Kret (PV.tf true) ([[]]) (6))
 (Kret (PV.tf false) ([[]]) (6)))
 (False))
 (Kret (PV.tf false) ([[]]) (6)))
 (Kret (PV.tf false) ([[]]) (6)))
 (Kret (PV.tf false) ([[]]) (6)))
 (False))
 (False))
 (False))))))))
 (False)))))
 (False))))
 (False)))
 (False))))
 (False))
 (False))
 (Kret (PV.tf false) ([[]]) (2)))
 (False)
set_option maxRecDepth 100000 in
theorem te4 (test : Bool → Prop → Prop → Prop) (Kst : KS) (Kret : KR) (h1 : Int) (bi : Int) (h2 : Int) (bj : Int) (t : Int) : run test Try.env true (x10 test) true 400 ⟨4, [.cd (mkFn Try.f4).body], argT 0 [.agg [.int .i64 h1, .int .i64 bi, .int .i64 h2, .int .i64 bj, .int .i64 t]], [[], []], 0⟩ (proj 0 [] Kst Kret) =
  Te4 test Kst Kret h1 bi h2 bj t := by kernel_rfl
set_option maxRecDepth 100000 in
theorem be4 (h1 : Int) (bi : Int) (h2 : Int) (bj : Int) (t : Int) (Kst : KS) (Kret : KR) (x : St4 ⊕ Rt4) (hS : HS 0 400 ((I4 h1 bi h2 bj t)) Kst x) (hR : HR 0 400 ((V4 h1 bi h2 bj t)) (fun r => [newL (0 + 1) ((N4 h1 bi h2 bj t) r) ++ []]) Kret x) (h : (bif ((S.perS h1 h2).2 != (0 : Int))
 then (bif ((S.meeS h1 bi h2 bj t).2 == (6 : Int))
 then (some (.inr (true)))
 else (bif ((S.perS h1 h2).2 == (0 : Int))
 then (some (.inr (true)))
 else (some (.inr (false)))))
 else (bif ((S.meeS h1 bi h2 bj t).2 == (6 : Int))
 then (some (.inr (true)))
 else (bif (lim IntKind.i64 (h1 * h2))
 then (bif (decide (Max.max ((S.perS h1 h2).1) (1 : Int) = (0 : Int)))
 then (none)
 else (bif (lim IntKind.i64 (Int.tdiv (h1 * h2) (Max.max ((S.perS h1 h2).1) (1 : Int))))
 then (bif ((S.meeS h1 bi h2 bj t).2 != (0 : Int))
 then (bif ((S.meeS h1 bi h2 bj t).2 == (10 : Int))
 then (bif (decide (Int.tdiv (h1 * h2) (Max.max ((S.perS h1 h2).1) (1 : Int)) > (0 : Int)))
 then (bif (lim IntKind.i64 (bi - bj))
 then (bif (decide (Int.tdiv (h1 * h2) (Max.max ((S.perS h1 h2).1) (1 : Int)) = (0 : Int)))
 then (none)
 else (bif (Int.tmod (bi - bj) (Int.tdiv (h1 * h2) (Max.max ((S.perS h1 h2).1) (1 : Int))) != (0 : Int))
 then (some (.inr (true)))
 else (some (.inr (false)))))
 else (none))
 else (some (.inr (false))))
 else (some (.inr (false))))
 else (bif (decide (Int.tdiv (h1 * h2) (Max.max ((S.perS h1 h2).1) (1 : Int)) < (1 : Int)))
 then (some (.inr (false)))
 else (bif (lim IntKind.i64 (bi - bj))
 then (bif (decide (Int.tdiv (h1 * h2) (Max.max ((S.perS h1 h2).1) (1 : Int)) = (0 : Int)))
 then (none)
 else (bif (Int.tmod (bi - bj) (Int.tdiv (h1 * h2) (Max.max ((S.perS h1 h2).1) (1 : Int))) != (0 : Int))
 then (some (.inr (false)))
 else (bif (decide ((S.meeS h1 bi h2 bj t).1 < t))
 then (some (.inr (false)))
 else (bif (lim IntKind.i64 (t + (S.perS h1 h2).1))
 then (bif (decide ((S.meeS h1 bi h2 bj t).1 ≥ t + (S.perS h1 h2).1))
 then (some (.inr (false)))
 else (bif (decide (h1 = (0 : Int)))
 then (none)
 else (bif (Int.tmod ((S.meeS h1 bi h2 bj t).1) h1 != bi)
 then (some (.inr (false)))
 else (bif (decide (h2 = (0 : Int)))
 then (none)
 else (bif (Int.tmod ((S.meeS h1 bi h2 bj t).1) h2 != bj)
 then (some (.inr (false)))
 else (bif (decide ((S.meeS h1 bi h2 bj t).1 ≥ (1099511627776 : Int)))
 then (some (.inr (true)))
 else (bif (lim IntKind.i64 ((S.meeS h1 bi h2 bj t).1 + (1 : Int)))
 then (bif ((S.facS h1 bi h2 ((S.meeS h1 bi h2 bj t).1)).2 == (0 : Int))
 then (bif ((S.facS h1 bi h2 ((S.meeS h1 bi h2 bj t).1)).1 == bj)
 then (bif ((S.meeS h1 bi h2 bj ((S.meeS h1 bi h2 bj t).1 + (1 : Int))).2 == (0 : Int))
 then (bif (lim IntKind.i64 ((S.meeS h1 bi h2 bj t).1 + (S.perS h1 h2).1))
 then (bif ((S.meeS h1 bi h2 bj ((S.meeS h1 bi h2 bj t).1 + (1 : Int))).1 ==
 (S.meeS h1 bi h2 bj t).1 + (S.perS h1 h2).1)
 then (some (.inr (true)))
 else (some (.inr (false))))
 else (none))
 else (some (.inr (false))))
 else (some (.inr (false))))
 else (some (.inr (false))))
 else (none))))))))
 else (none)))))
 else (none))))
 else (none)))
 else (none))) : Option (St4 ⊕ Rt4)) = some x) : Te4 cond Kst Kret h1 bi h2 bj t := by
  unfold Te4
  exact cond_yes rfl (cond_yes rfl (cond_yes rfl (cond_yes rfl (bif_split h
   (fun c0 h => bif_split h
   (fun c1 h => ret_at hR _ h (fun n => n) rfl rfl rfl (rn_bool_tf rfl) rfl entl_nil)
   (fun c1 h => bif_split h
   (fun c2 h => ret_at hR _ h (fun n => n) rfl rfl rfl (rn_bool_tf rfl) rfl entl_nil)
   (fun c2 h => ret_at hR _ h (fun n => n) rfl rfl rfl (rn_bool_tf rfl) rfl entl_nil)))
   (fun c0 h => bif_split h
   (fun c1 h => cond_yes c1 (ret_at hR _ h (fun n => n) rfl rfl rfl (rn_bool_tf rfl) rfl entl_nil))
   (fun c1 h => bif_split h
   (fun c2 h => bif_split h
   (fun c3 h => no_some h)
   (fun c3 h => bif_split h
   (fun c4 h => bif_split h
   (fun c5 h => bif_split h
   (fun c6 h => bif_split h
   (fun c7 h => bif_split h
   (fun c8 h => bif_split h
   (fun c9 h => no_some h)
   (fun c9 h => bif_split h
   (fun c10 h => ret_at hR _ h (fun n => n) rfl rfl rfl (rn_bool_tf rfl) rfl entl_nil)
   (fun c10 h => ret_at hR _ h (fun n => n) rfl rfl rfl (rn_bool_tf rfl) rfl entl_nil)))
   (fun c8 h => no_some h))
   (fun c7 h => ret_at hR _ h (fun n => n) rfl rfl rfl (rn_bool_tf rfl) rfl entl_nil))
   (fun c6 h => ret_at hR _ h (fun n => n) rfl rfl rfl (rn_bool_tf rfl) rfl entl_nil))
   (fun c5 h => bif_split h
   (fun c6 h => ret_at hR _ h (fun n => n) rfl rfl rfl (rn_bool_tf rfl) rfl entl_nil)
   (fun c6 h => bif_split h
   (fun c7 h => bif_split h
   (fun c8 h => no_some h)
   (fun c8 h => bif_split h
   (fun c9 h => ret_at hR _ h (fun n => n) rfl rfl rfl (rn_bool_tf rfl) rfl entl_nil)
   (fun c9 h => bif_split h
   (fun c10 h => ret_at hR _ h (fun n => n) rfl rfl rfl (rn_bool_tf rfl) rfl entl_nil)
   (fun c10 h => bif_split h
   (fun c11 h => bif_split h
   (fun c12 h => ret_at hR _ h (fun n => n) rfl rfl rfl (rn_bool_tf rfl) rfl entl_nil)
   (fun c12 h => bif_split h
   (fun c13 h => no_some h)
   (fun c13 h => bif_split h
   (fun c14 h => ret_at hR _ h (fun n => n) rfl rfl rfl (rn_bool_tf rfl) rfl entl_nil)
   (fun c14 h => bif_split h
   (fun c15 h => no_some h)
   (fun c15 h => bif_split h
   (fun c16 h => ret_at hR _ h (fun n => n) rfl rfl rfl (rn_bool_tf rfl) rfl entl_nil)
   (fun c16 h => bif_split h
   (fun c17 h => ret_at hR _ h (fun n => n) rfl rfl rfl (rn_bool_tf rfl) rfl entl_nil)
   (fun c17 h => bif_split h
   (fun c18 h => cond_yes rfl (cond_yes rfl (bif_split h
   (fun c19 h => bif_split h
   (fun c20 h => bif_split h
   (fun c21 h => bif_split h
   (fun c22 h => bif_split h
   (fun c23 h => ret_at hR _ h (fun n => n) rfl rfl rfl (rn_bool_tf rfl) rfl entl_nil)
   (fun c23 h => ret_at hR _ h (fun n => n) rfl rfl rfl (rn_bool_tf rfl) rfl entl_nil))
   (fun c22 h => no_some h))
   (fun c21 h => ret_at hR _ h (fun n => n) rfl rfl rfl (rn_bool_tf rfl) rfl entl_nil))
   (fun c20 h => ret_at hR _ h (fun n => n) rfl rfl rfl (rn_bool_tf rfl) rfl entl_nil))
   (fun c19 h => ret_at hR _ h (fun n => n) rfl rfl rfl (rn_bool_tf rfl) rfl entl_nil))))
   (fun c18 h => no_some h))))))))
   (fun c11 h => no_some h)))))
   (fun c7 h => no_some h))))
   (fun c4 h => no_some h)))
   (fun c2 h => no_some h)))))))
theorem a4 (h1 : Int) (bi : Int) (h2 : Int) (bj : Int) (t : Int) {r : Rt4} (h : Goes ((q4 h1 bi h2 bj t)) ((p4 h1 bi h2 bj t)) r) : CallR Try.prog 4 [.agg [.int .i64 h1, .int .i64 bi, .int .i64 h2, .int .i64 bj, .int .i64 t]] [[]] 0 ((V4 h1 bi h2 bj t) r) ((fun r => [newL (0 + 1) ((N4 h1 bi h2 bj t) r) ++ []]) r) 400 ∧ ∃ F, Try.prog.funcs[4]? = some F ∧ F.body.isSome = true ∧ (F.name == "runtime.NumGoroutine") = false := by
  refine dec_calls (f := 4) (lo := 0) (hi := 400) (H := [[]]) (args := [.agg [.int .i64 h1, .int .i64 bi, .int .i64 h2, .int .i64 bj, .int .i64 t]]) Try.envOk Try.mixed x10_ok ((I4 h1 bi h2 bj t)) ((V4 h1 bi h2 bj t)) (fun r => [newL (0 + 1) ((N4 h1 bi h2 bj t) r) ++ []]) (fn := mkFn Try.f4) (ts := []) (n := 400) rfl (by decide) (by simp) (names_of rfl) ?_ ?_ ?_ h
  · intro s; exact s.elim
  · intro Kst Kret x hS hR h
    exact Holds.eq (te4 cond Kst Kret h1 bi h2 bj t) (be4 h1 bi h2 bj t Kst Kret x hS hR h)
  · intro Kst Kret x hS hR s h; exact s.elim
noncomputable def k4 : Con := ⟨4, [.agg [.plain (.int .i64), .plain (.int .i64), .plain (.int .i64), .plain (.int .i64), .plain (.int .i64)]], fun (x : (Int × Int × Int × Int × Int × Unit) × Unit) => (fun (h1 : Int) (bi : Int) (h2 : Int) (bj : Int) (t : Int) => decide (True)) x.1.1 x.1.2.1 x.1.2.2.1 x.1.2.2.2.1 x.1.2.2.2.2.1, fun (x : (Int × Int × Int × Int × Int × Unit) × Unit) => (fun (h1 : Int) (bi : Int) (h2 : Int) (bj : Int) (t : Int) => (V4 h1 bi h2 bj t) (true)) x.1.1 x.1.2.1 x.1.2.2.1 x.1.2.2.2.1 x.1.2.2.2.2.1, fun (x : (Int × Int × Int × Int × Int × Unit) × Unit) => (fun (h1 : Int) (bi : Int) (h2 : Int) (bj : Int) (t : Int) => (N4 h1 bi h2 bj t) (true)) x.1.1 x.1.2.1 x.1.2.2.1 x.1.2.2.2.1 x.1.2.2.2.2.1, fun _ _ => .dead⟩

theorem per_eq {g u v : Int} (hg : 0 < g) (hu : 0 < u) (hv : 0 < v) (eg : g = (Int.gcd (g * u) (g * v) : Int)) (h1 : g * u ≤ 2000) (h2 : g * v ≤ 2000) : S.perS (g * u) (g * v) = (u * (g * v), 0) := by
  have p1 : 0 < g * u := Int.mul_pos hg hu
  have p2 : 0 < g * v := Int.mul_pos hg hv
  unfold S.perS
  rw [if_pos ⟨rg_ok.mpr (by omega), rg_ok.mpr (by omega)⟩]
  unfold S.gcdI
  rw [← eg, Int.mul_tdiv_cancel_left _ (by omega)]
theorem again (h1 : Int) (bi : Int) (h2 : Int) (bj : Int) (t : Int) (hM : S.rgB h1 bi = true ∧ S.rgB h2 bj = true ∧ 0 ≤ t ∧ t ≤ 1099511627776) : Goes (q4 h1 bi h2 bj t) (p4 h1 bi h2 bj t) true := by
  obtain ⟨r1, r2, t0, t1⟩ := hM
  have r1' := rg_ok.mp r1
  have r2' := rg_ok.mp r2
  have hprod := mul_bnd (k := h1) (h := h2) (by omega) (by omega)
  obtain ⟨g, u, v, x, y, eg, hg, hu, hv, rfl, rfl, hb⟩ := gcd_parts (h1 := h1) (h2 := h2) (by omega) (by omega)
  unfold p4
  generalize q4 (g * u) bi (g * v) bj t = Q
  have ep := per_eq hg hu hv eg (by omega) (by omega)
  have gu : g ≤ g * u := by have := Int.mul_le_mul_of_nonneg_left (show 1 ≤ u by omega) (show 0 ≤ g by omega); omega
  have ug : u ≤ g * u := by have := Int.mul_le_mul_of_nonneg_right (show 1 ≤ g by omega) (show 0 ≤ u by omega); omega
  have vg : v ≤ g * v := by have := Int.mul_le_mul_of_nonneg_right (show 1 ≤ g by omega) (show 0 ≤ v by omega); omega
  have hP := mul_bnd (k := u) (h := g * v) (by omega) (by omega)
  have P1 : 0 < u * (g * v) := Int.mul_pos hu (Int.mul_pos hg hv)
  have eP : g * u * (g * v) = g * (u * (g * v)) := Int.mul_assoc _ _ _
  have em : Max.max (u * (g * v)) 1 = u * (g * v) := by omega
  have ed : Int.tdiv (g * u * (g * v)) (u * (g * v)) = g := by rw [eP, Int.mul_tdiv_cancel _ (by omega)]
  have vP : v * (g * u) = u * (g * v) := by rw [Int.mul_left_comm, Int.mul_comm v u, Int.mul_left_comm]
  rw [ep]
  simp only [em, ed]
  have hpas := pas_ok (h := g * u) (i := bi) (t := t) (by omega)
  rcases meet_idx hg hu hv hb (I := bi) (J := bj) (t := t) ⟨r2'.2.2.1, r2'.2.2.2⟩ t0 (g * v).toNat (by omega) with ⟨ei, hnd⟩ | ⟨k, ei, kv, hd, hk, -⟩
  · have e1 : S.meeS (g * u) bi (g * v) bj t = (0, 10) := by unfold S.meeS; rw [if_pos ⟨r1, r2, t0, t1⟩, if_pos ei]
    have hne : (Int.tmod (bi - bj) g != 0) = true := by rw [bne_iff_ne]; exact fun h => hnd (Int.dvd_of_tmod_eq_zero h)
    simp only [e1]
    generalize Int.tmod (bi - bj) g = R at *
    generalize g * u * (g * v) = W at *
    generalize u * (g * v) = P at *
    repeat' first
      | with_reducible exact goes_inr.mpr rfl
      | (refine goes_ok ?_ ?_; focus (first | with_reducible exact beq_self_eq_true _ | (simp only [Bool.and_eq_true, decide_eq_true_eq, and_self, eq_self]; done) | with_reducible exact decide_eq_true trivial | with_reducible exact decide_eq_true rfl | (simp only [eq_self, decide_true, Bool.and_self, Bool.and_true, Bool.true_and]; done) | (apply decide_eq_true; omega) | (rw [lim64]; apply decide_eq_true; omega) | (apply decide_eq_true; simp only [mkl_len, mkl_zero, List.length_nil, true_and, and_true, and_self, Nat.zero_add, Nat.add_zero, Nat.le_refl]; done) | (apply decide_eq_true; simp only [mkl_len, mkl_zero, List.length_nil, true_and, and_true, and_self, Nat.zero_add, Nat.add_zero, Nat.le_refl]; omega) | decide | exact hne))
      | (refine goes_no ?_ ?_; focus (first | with_reducible exact bne_self_eq_false _ | (apply decide_eq_false; omega) | decide))

  · have hkm := mul_bnd (k := (k : Int)) (h := g * u) (by omega) (by omega)
    have e1 : S.meeS (g * u) bi (g * v) bj t = (S.pas (g * u) bi t + (k : Int) * (g * u), 0) := by unfold S.meeS; rw [if_pos ⟨r1, r2, t0, t1⟩, ei, if_neg (by omega)]
    have kb : (k : Int) * (g * u) + g * u ≤ u * (g * v) := by
      have h5 := Int.mul_le_mul_of_nonneg_right (show (k : Int) + 1 ≤ v by omega) (show 0 ≤ g * u by omega)
      rw [Int.add_mul, Int.one_mul, vP] at h5
      exact h5
    obtain ⟨c, hc⟩ := pas_dvd (h := g * u) (i := bi) (t := t) (by omega)
    have ha1 : g * u ∣ S.pas (g * u) bi t + (k : Int) * (g * u) - bi := ⟨c + k, by rw [Int.mul_add, Int.mul_comm (g * u) (k : Int)]; omega⟩
    generalize hA : S.pas (g * u) bi t + (k : Int) * (g * u) = a at *
    have m1 : Int.tmod a (g * u) = bi := by rw [Int.tmod_eq_emod_of_nonneg (by omega)]; exact (emod_iff ⟨r1'.2.2.1, r1'.2.2.2⟩).mpr ha1
    have m2 : Int.tmod a (g * v) = bj := by rw [Int.tmod_eq_emod_of_nonneg (by omega)]; exact (emod_iff ⟨r2'.2.2.1, r2'.2.2.2⟩).mpr hk
    have m3 : Int.tmod (bi - bj) g = 0 := Int.tmod_eq_zero_of_dvd hd
    have fin : a < 1099511627776 → S.facS (g * u) bi (g * v) a = (bj, 0) ∧ S.meeS (g * u) bi (g * v) bj (a + 1) = (a + u * (g * v), 0) := fun ha => by
      have ep1 : S.pas (g * u) bi a = a := by
        unfold S.pas
        rw [mdl_emod (by omega), (emod_iff (J := 0) (by omega)).mpr (by obtain ⟨c', hc'⟩ := ha1; exact ⟨-c', by rw [Int.mul_neg]; omega⟩), Int.add_zero]
      have ep2 : S.pas (g * u) bi (a + 1) = a + g * u := by
        unfold S.pas
        rw [mdl_emod (by omega), (emod_iff (J := g * u - 1) (by omega)).mpr (by obtain ⟨c', hc'⟩ := ha1; exact ⟨-c' - 1, by rw [Int.mul_sub, Int.mul_neg]; omega⟩)]
        omega
      refine ⟨?_, ?_⟩
      · unfold S.facS
        rw [if_pos ⟨r1, rg_ok.mpr (by omega), by omega, by omega⟩, ep1, m2]
      · rcases meet_idx hg hu hv hb (I := bi) (J := bj) (t := a + 1) ⟨r2'.2.2.1, r2'.2.2.2⟩ (by omega) (g * v).toNat (by omega) with ⟨_, hnd⟩ | ⟨k', ei', kv', _, hk', -⟩
        · exact absurd hd hnd
        · rw [ep2] at hk'
          have hv' : v ∣ (k' : Int) + 1 := by
            refine (step_dvd hg hb (x := x) (y := y) (m := (k' : Int) + 1)).mp ?_
            obtain ⟨w1, hw1⟩ := hk'
            obtain ⟨w2, hw2⟩ := hk
            exact ⟨w1 - w2, by rw [Int.mul_sub, Int.add_mul, Int.one_mul]; omega⟩
          have hle := Int.le_of_dvd (by omega) hv'
          have ek : (k' : Int) = v - 1 := by omega
          unfold S.meeS
          rw [if_pos ⟨r1, r2, by omega, by omega⟩, ei', if_neg (by omega), ep2, ek, Int.sub_mul, Int.one_mul, vP]
          exact congrArg (fun z => (z, (0 : Int))) (by omega)
    simp only [e1, m1, m2, m3]
    by_cases ha : a < 1099511627776
    · obtain ⟨f1, f2⟩ := fin ha
      simp only [f1, f2]
      clear fin ep eP em ed vP hb eg e1 m1 m2 m3 f1 f2 ei hk ha1 hd
      generalize g * u * (g * v) = W at *
      generalize u * (g * v) = P at *
      repeat' first
        | with_reducible exact goes_inr.mpr rfl
        | (refine goes_ok ?_ ?_; focus (first | with_reducible exact beq_self_eq_true _ | (simp only [Bool.and_eq_true, decide_eq_true_eq, and_self, eq_self]; done) | with_reducible exact decide_eq_true trivial | with_reducible exact decide_eq_true rfl | (simp only [eq_self, decide_true, Bool.and_self, Bool.and_true, Bool.true_and]; done) | (apply decide_eq_true; omega) | (rw [lim64]; apply decide_eq_true; omega) | (apply decide_eq_true; simp only [mkl_len, mkl_zero, List.length_nil, true_and, and_true, and_self, Nat.zero_add, Nat.add_zero, Nat.le_refl]; done) | (apply decide_eq_true; simp only [mkl_len, mkl_zero, List.length_nil, true_and, and_true, and_self, Nat.zero_add, Nat.add_zero, Nat.le_refl]; omega) | decide))
        | (refine goes_no ?_ ?_; focus (first | with_reducible exact bne_self_eq_false _ | (apply decide_eq_false; omega) | decide))

    · clear fin ep eP em ed vP hb eg e1 m1 m2 m3 ei hk ha1 hd
      generalize g * u * (g * v) = W at *
      generalize u * (g * v) = P at *
      repeat' first
        | with_reducible exact goes_inr.mpr rfl
        | (refine goes_ok ?_ ?_; focus (first | with_reducible exact beq_self_eq_true _ | (simp only [Bool.and_eq_true, decide_eq_true_eq, and_self, eq_self]; done) | with_reducible exact decide_eq_true trivial | with_reducible exact decide_eq_true rfl | (simp only [eq_self, decide_true, Bool.and_self, Bool.and_true, Bool.true_and]; done) | (apply decide_eq_true; omega) | (rw [lim64]; apply decide_eq_true; omega) | (apply decide_eq_true; simp only [mkl_len, mkl_zero, List.length_nil, true_and, and_true, and_self, Nat.zero_add, Nat.add_zero, Nat.le_refl]; done) | (apply decide_eq_true; simp only [mkl_len, mkl_zero, List.length_nil, true_and, and_true, and_self, Nat.zero_add, Nat.add_zero, Nat.le_refl]; omega) | decide))
        | (refine goes_no ?_ ?_; focus (first | with_reducible exact bne_self_eq_false _ | (apply decide_eq_false; omega) | decide))

theorem s4 (h1 : Int) (bi : Int) (h2 : Int) (bj : Int) (t : Int) (hp : True) : Goes ((q4 h1 bi h2 bj t)) ((p4 h1 bi h2 bj t)) (true) := by
  by_cases hM : S.rgB h1 bi = true ∧ S.rgB h2 bj = true ∧ 0 ≤ t ∧ t ≤ 1099511627776
  · exact again h1 bi h2 bj t hM
  · have e1 : S.meeS h1 bi h2 bj t = (0, 6) := by unfold S.meeS; rw [if_neg hM]
    unfold p4
    rw [e1]
    by_cases hP : S.rgB h1 0 = true ∧ S.rgB h2 0 = true
    · have e2 : (S.perS h1 h2).2 = 0 := by unfold S.perS; rw [if_pos hP]
      simp only [e2]
      refine goes_no (by decide) (goes_ok (by decide) rfl)
    · have e2 : S.perS h1 h2 = (0, 6) := by unfold S.perS; rw [if_neg hP]
      simp only [e2]
      refine goes_ok (by decide) (goes_ok (by decide) rfl)

theorem k4_ok : k4.ok Try.prog := by
  intro x hx
  obtain ⟨⟨h1, bi, h2, bj, t, _⟩, _⟩ := x
  obtain ⟨h1, h2⟩ := a4 h1 bi h2 bj t (s4 h1 bi h2 bj t (of_dec hx rfl))
  exact ⟨⟨400, (by decide : 0 + 1 + 0 ≤ 400), h1⟩, h2⟩

end Go.Ev
