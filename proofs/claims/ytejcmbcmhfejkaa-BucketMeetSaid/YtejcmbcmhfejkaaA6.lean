/-
  The law of Meet.
-/
import Derived.Test.YtejcmbcmhfejkaaA6x
namespace Go.Ev
open Go.Proofs
set_option linter.unusedVariables false
set_option linter.unusedSimpArgs false
set_option maxRecDepth 100000
abbrev St3 := Empty
abbrev Rt3 := Bool
noncomputable def V3 (h1 : Int) (bi : Int) (h2 : Int) (bj : Int) (t : Int) (r : Rt3) : PV := PV.bool r
noncomputable def N3 (h1 : Int) (bi : Int) (h2 : Int) (bj : Int) (t : Int) (r : Rt3) : List Blk := []
noncomputable def I3 (h1 : Int) (bi : Int) (h2 : Int) (bj : Int) (t : Int) : St3 → Hd := fun s => s.elim
noncomputable def q3 (h1 : Int) (bi : Int) (h2 : Int) (bj : Int) (t : Int) : St3 → Option (St3 ⊕ Rt3) := fun s => s.elim
noncomputable def p3 (h1 : Int) (bi : Int) (h2 : Int) (bj : Int) (t : Int) : Option (St3 ⊕ Rt3) := bif ((S.meeS h1 bi h2 bj t).1 == (S.meeS h1 bi h2 bj t).1)
 then (bif ((S.meeS h1 bi h2 bj t).2 == (S.meeS h1 bi h2 bj t).2)
 then (bif ((S.perS h1 h2).1 == (S.perS h1 h2).1)
 then (bif ((S.perS h1 h2).2 == (S.perS h1 h2).2)
 then (bif ((S.facS h1 bi h2 t).1 == (S.facS h1 bi h2 t).1)
 then (bif ((S.facS h1 bi h2 t).2 == (S.facS h1 bi h2 t).2)
 then (some (.inr (true)))
 else (some (.inr (false))))
 else (some (.inr (false))))
 else (some (.inr (false))))
 else (some (.inr (false))))
 else (some (.inr (false))))
 else (some (.inr (false)))
noncomputable def Te3 (test : Bool → Prop → Prop → Prop) (Kst : KS) (Kret : KR) (h1 : Int) (bi : Int) (h2 : Int) (bj : Int) (t : Int) : Prop :=
  test (true)
 (test (true)
 (test (true)
 (test (true)
 (test (true)
 (test (true)
 (test (true)
 (test (true)
 (test ((S.meeS h1 bi h2 bj t).1 == (S.meeS h1 bi h2 bj t).1)
 (test ((S.meeS h1 bi h2 bj t).2 == (S.meeS h1 bi h2 bj t).2)
 (test ((S.perS h1 h2).1 == (S.perS h1 h2).1)
 (test ((S.perS h1 h2).2 == (S.perS h1 h2).2)
 (test ((S.facS h1 bi h2 t).1 == (S.facS h1 bi h2 t).1)
 (test ((S.facS h1 bi h2 t).2 == (S.facS h1 bi h2 t).2)
 (Kret (PV.tf true) ([[]]) (8))
 (Kret (PV.tf false) ([[]]) (8)))
 (Kret (PV.tf false) ([[]]) (8)))
 (Kret (PV.tf false) ([[]]) (8)))
 (Kret (PV.tf false) ([[]]) (8)))
 (Kret (PV.tf false) ([[]]) (8)))
 (Kret (PV.tf false) ([[]]) (8)))
 (False))
 (False))
 (False))
 (False))
 (False))
 (False))
 (Kret (PV.tf false) ([[]]) (2)))
 (False)
set_option maxRecDepth 100000 in
theorem te3 (test : Bool → Prop → Prop → Prop) (Kst : KS) (Kret : KR) (h1 : Int) (bi : Int) (h2 : Int) (bj : Int) (t : Int) : run test Try.env true (x3 test) true 400 ⟨3, [.cd (mkFn Try.f3).body], argT 0 [.agg [.int .i64 h1, .int .i64 bi, .int .i64 h2, .int .i64 bj, .int .i64 t]], [[], []], 0⟩ (proj 0 [] Kst Kret) =
  Te3 test Kst Kret h1 bi h2 bj t := by kernel_rfl
set_option maxRecDepth 100000 in
theorem be3 (h1 : Int) (bi : Int) (h2 : Int) (bj : Int) (t : Int) (Kst : KS) (Kret : KR) (x : St3 ⊕ Rt3) (hS : HS 0 400 ((I3 h1 bi h2 bj t)) Kst x) (hR : HR 0 400 ((V3 h1 bi h2 bj t)) (fun r => [newL (0 + 1) ((N3 h1 bi h2 bj t) r) ++ []]) Kret x) (h : (bif ((S.meeS h1 bi h2 bj t).1 == (S.meeS h1 bi h2 bj t).1)
 then (bif ((S.meeS h1 bi h2 bj t).2 == (S.meeS h1 bi h2 bj t).2)
 then (bif ((S.perS h1 h2).1 == (S.perS h1 h2).1)
 then (bif ((S.perS h1 h2).2 == (S.perS h1 h2).2)
 then (bif ((S.facS h1 bi h2 t).1 == (S.facS h1 bi h2 t).1)
 then (bif ((S.facS h1 bi h2 t).2 == (S.facS h1 bi h2 t).2)
 then (some (.inr (true)))
 else (some (.inr (false))))
 else (some (.inr (false))))
 else (some (.inr (false))))
 else (some (.inr (false))))
 else (some (.inr (false))))
 else (some (.inr (false))) : Option (St3 ⊕ Rt3)) = some x) : Te3 cond Kst Kret h1 bi h2 bj t := by
  unfold Te3
  exact cond_yes rfl (cond_yes rfl (cond_yes rfl (cond_yes rfl (cond_yes rfl (cond_yes rfl (cond_yes rfl (cond_yes rfl (bif_split h
   (fun c0 h => bif_split h
   (fun c1 h => bif_split h
   (fun c2 h => bif_split h
   (fun c3 h => bif_split h
   (fun c4 h => bif_split h
   (fun c5 h => ret_at hR _ h (fun n => n) rfl rfl rfl (rn_bool_tf rfl) rfl entl_nil)
   (fun c5 h => ret_at hR _ h (fun n => n) rfl rfl rfl (rn_bool_tf rfl) rfl entl_nil))
   (fun c4 h => ret_at hR _ h (fun n => n) rfl rfl rfl (rn_bool_tf rfl) rfl entl_nil))
   (fun c3 h => ret_at hR _ h (fun n => n) rfl rfl rfl (rn_bool_tf rfl) rfl entl_nil))
   (fun c2 h => ret_at hR _ h (fun n => n) rfl rfl rfl (rn_bool_tf rfl) rfl entl_nil))
   (fun c1 h => ret_at hR _ h (fun n => n) rfl rfl rfl (rn_bool_tf rfl) rfl entl_nil))
   (fun c0 h => ret_at hR _ h (fun n => n) rfl rfl rfl (rn_bool_tf rfl) rfl entl_nil)))))))))
theorem a3 (h1 : Int) (bi : Int) (h2 : Int) (bj : Int) (t : Int) {r : Rt3} (h : Goes ((q3 h1 bi h2 bj t)) ((p3 h1 bi h2 bj t)) r) : CallR Try.prog 3 [.agg [.int .i64 h1, .int .i64 bi, .int .i64 h2, .int .i64 bj, .int .i64 t]] [[]] 0 ((V3 h1 bi h2 bj t) r) ((fun r => [newL (0 + 1) ((N3 h1 bi h2 bj t) r) ++ []]) r) 400 ∧ ∃ F, Try.prog.funcs[3]? = some F ∧ F.body.isSome = true ∧ (F.name == "runtime.NumGoroutine") = false := by
  refine dec_calls (f := 3) (lo := 0) (hi := 400) (H := [[]]) (args := [.agg [.int .i64 h1, .int .i64 bi, .int .i64 h2, .int .i64 bj, .int .i64 t]]) Try.envOk Try.mixed x3_ok ((I3 h1 bi h2 bj t)) ((V3 h1 bi h2 bj t)) (fun r => [newL (0 + 1) ((N3 h1 bi h2 bj t) r) ++ []]) (fn := mkFn Try.f3) (ts := []) (n := 400) rfl (by decide) (by simp) (names_of rfl) ?_ ?_ ?_ h
  · intro s; exact s.elim
  · intro Kst Kret x hS hR h
    exact Holds.eq (te3 cond Kst Kret h1 bi h2 bj t) (be3 h1 bi h2 bj t Kst Kret x hS hR h)
  · intro Kst Kret x hS hR s h; exact s.elim
noncomputable def k3 : Con := ⟨3, [.agg [.plain (.int .i64), .plain (.int .i64), .plain (.int .i64), .plain (.int .i64), .plain (.int .i64)]], fun (x : (Int × Int × Int × Int × Int × Unit) × Unit) => (fun (h1 : Int) (bi : Int) (h2 : Int) (bj : Int) (t : Int) => decide (True)) x.1.1 x.1.2.1 x.1.2.2.1 x.1.2.2.2.1 x.1.2.2.2.2.1, fun (x : (Int × Int × Int × Int × Int × Unit) × Unit) => (fun (h1 : Int) (bi : Int) (h2 : Int) (bj : Int) (t : Int) => (V3 h1 bi h2 bj t) (true)) x.1.1 x.1.2.1 x.1.2.2.1 x.1.2.2.2.1 x.1.2.2.2.2.1, fun (x : (Int × Int × Int × Int × Int × Unit) × Unit) => (fun (h1 : Int) (bi : Int) (h2 : Int) (bj : Int) (t : Int) => (N3 h1 bi h2 bj t) (true)) x.1.1 x.1.2.1 x.1.2.2.1 x.1.2.2.2.1 x.1.2.2.2.2.1, fun _ _ => .dead⟩
theorem s3 (h1 : Int) (bi : Int) (h2 : Int) (bj : Int) (t : Int) (hp : True) : Goes ((q3 h1 bi h2 bj t)) ((p3 h1 bi h2 bj t)) (true) := by
  unfold p3
  generalize S.meeS h1 bi h2 bj t = P
  generalize S.perS h1 h2 = P2
  generalize S.facS h1 bi h2 t = P3
  repeat' first
    | with_reducible exact goes_inr.mpr rfl
    | (refine goes_ok ?_ ?_; focus (first | with_reducible exact beq_self_eq_true _ | (simp only [Bool.and_eq_true, decide_eq_true_eq, and_self, eq_self]; done) | with_reducible exact decide_eq_true trivial | with_reducible exact decide_eq_true rfl | (simp only [eq_self, decide_true, Bool.and_self, Bool.and_true, Bool.true_and]; done) | (apply decide_eq_true; omega) | (rw [lim64]; apply decide_eq_true; omega) | (apply decide_eq_true; simp only [mkl_len, mkl_zero, List.length_nil, true_and, and_true, and_self, Nat.zero_add, Nat.add_zero, Nat.le_refl]; done) | (apply decide_eq_true; simp only [mkl_len, mkl_zero, List.length_nil, true_and, and_true, and_self, Nat.zero_add, Nat.add_zero, Nat.le_refl]; omega) | decide))
    | (refine goes_no ?_ ?_; focus (first | with_reducible exact bne_self_eq_false _ | (apply decide_eq_false; omega) | decide))

theorem k3_ok : k3.ok Try.prog := by
  intro x hx
  obtain ⟨⟨h1, bi, h2, bj, t, _⟩, _⟩ := x
  obtain ⟨h1, h2⟩ := a3 h1 bi h2 bj t (s3 h1 bi h2 bj t (of_dec hx rfl))
  exact ⟨⟨400, (by decide : 0 + 1 + 0 ≤ 400), h1⟩, h2⟩

end Go.Ev
