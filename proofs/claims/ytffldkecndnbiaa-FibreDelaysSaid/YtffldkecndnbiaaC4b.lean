/-
  Contains.
-/
import Derived.Test.YtffldkecndnbiaaC4a
namespace Go.Ev
open Go.Proofs
set_option linter.unusedVariables false
set_option linter.unusedSimpArgs false
set_option maxRecDepth 100000
abbrev St39 := Empty
abbrev Rt39 := Bool
noncomputable def V39 (aa na ma : Nat) (ta : Nat → Int) (c0 : Int) (r : Rt39) : PV := PV.bool r
noncomputable def N39 (aa na ma : Nat) (ta : Nat → Int) (c0 : Int) (r : Rt39) : List Blk := []
noncomputable def I39 (aa na ma : Nat) (ta : Nat → Int) (c0 : Int) : St39 → Hd := fun s => s.elim
noncomputable def q39 (aa na ma : Nat) (ta : Nat → Int) (c0 : Int) : St39 → Option (St39 ⊕ Rt39) := fun s => s.elim
noncomputable def p39 (aa na ma : Nat) (ta : Nat → Int) (c0 : Int) : Option (St39 ⊕ Rt39) := bif (decide (aa + na ≤ ma ∧ na ≤ 1000000))
 then (bif (decide (S.idx (fun (j : Nat) => decide (ta (j + aa) = c0)) (0) na ≥ (0 : Int)))
 then (some (.inr (true)))
 else (some (.inr (false))))
 else (none)
noncomputable def Te39 (test : Bool → Prop → Prop → Prop) (Kst : KS) (Kret : KR) (aa na ma : Nat) (ta : Nat → Int) (c0 : Int) : Prop :=
  test (decide (aa + na ≤ ma ∧ na ≤ 1000000))
 (test (decide (S.idx (fun (j : Nat) => decide (ta (j + aa) = c0)) (0) na ≥ (0 : Int)))
 (Kret (PV.tf true) ([[(0, false, Blk.cols ma [Col.int IntKind.i64 ta])]]) (2))
 (Kret (PV.tf false) ([[(0, false, Blk.cols ma [Col.int IntKind.i64 ta])]]) (2)))
 (False)
set_option maxRecDepth 100000 in
theorem te39 (test : Bool → Prop → Prop → Prop) (Kst : KS) (Kret : KR) (aa na ma : Nat) (ta : Nat → Int) (c0 : Int) : run test Try.env true (xI0 test) true 400 ⟨39, [.cd (mkFn Try.f39).body], argT 0 [.loose ⟨0, 1, aa, 0⟩ na, .int .i64 c0], [[], [(0, (false, .cols ma [.int .i64 ta]))]], 1⟩ (proj 1 [] Kst Kret) =
  Te39 test Kst Kret aa na ma ta c0 := by kernel_rfl
set_option maxRecDepth 100000 in
theorem be39 (aa na ma : Nat) (ta : Nat → Int) (c0 : Int) (Kst : KS) (Kret : KR) (x : St39 ⊕ Rt39) (hS : HS 1 400 ((I39 aa na ma ta c0)) Kst x) (hR : HR 1 400 ((V39 aa na ma ta c0)) (fun r => [newL (1 + 1) ((N39 aa na ma ta c0) r) ++ [(0, (false, .cols ma [.int .i64 ta]))]]) Kret x) (h : (bif (decide (aa + na ≤ ma ∧ na ≤ 1000000))
 then (bif (decide (S.idx (fun (j : Nat) => decide (ta (j + aa) = c0)) (0) na ≥ (0 : Int)))
 then (some (.inr (true)))
 else (some (.inr (false))))
 else (none) : Option (St39 ⊕ Rt39)) = some x) : Te39 cond Kst Kret aa na ma ta c0 := by
  unfold Te39
  exact bif_split h
   (fun c0 h => bif_split h
   (fun c1 h => ret_at hR _ h (fun n => n) rfl rfl rfl (rn_bool_tf rfl) rfl (entl_bor (use_lo rfl) rfl rfl entl_nil))
   (fun c1 h => ret_at hR _ h (fun n => n) rfl rfl rfl (rn_bool_tf rfl) rfl (entl_bor (use_lo rfl) rfl rfl entl_nil)))
   (fun c0 h => no_some h)
theorem a39 (aa na ma : Nat) (ta : Nat → Int) (c0 : Int) {r : Rt39} (h : Goes ((q39 aa na ma ta c0)) ((p39 aa na ma ta c0)) r) : CallR Try.prog 39 [.loose ⟨0, 1, aa, 0⟩ na, .int .i64 c0] [[(0, (false, .cols ma [.int .i64 ta]))]] 1 ((V39 aa na ma ta c0) r) ((fun r => [newL (1 + 1) ((N39 aa na ma ta c0) r) ++ [(0, (false, .cols ma [.int .i64 ta]))]]) r) 400 ∧ ∃ F, Try.prog.funcs[39]? = some F ∧ F.body.isSome = true ∧ (F.name == "runtime.NumGoroutine") = false := by
  refine dec_calls (f := 39) (lo := 1) (hi := 400) (H := [[(0, (false, .cols ma [.int .i64 ta]))]]) (args := [.loose ⟨0, 1, aa, 0⟩ na, .int .i64 c0]) Try.envOk Try.mixed xI0_ok ((I39 aa na ma ta c0)) ((V39 aa na ma ta c0)) (fun r => [newL (1 + 1) ((N39 aa na ma ta c0) r) ++ [(0, (false, .cols ma [.int .i64 ta]))]]) (fn := mkFn Try.f39) (ts := []) (n := 400) rfl (by decide) (by simp) (names_of rfl) ?_ ?_ ?_ h
  · intro s; exact s.elim
  · intro Kst Kret x hS hR h
    exact Holds.eq (te39 cond Kst Kret aa na ma ta c0) (be39 aa na ma ta c0 Kst Kret x hS hR h)
  · intro Kst Kret x hS hR s h; exact s.elim
noncomputable def k39 : Con := ⟨39, [.one (.list [.int .i64]), .one (.plain (.int .i64))], fun (x : (Nat × Nat × Nat × (Nat → Int) × Unit) × Int × Unit) => (fun (aa na ma : Nat) (ta : Nat → Int) (c0 : Int) => decide (aa + na ≤ ma ∧ na ≤ 1000000)) x.1.1 x.1.2.1 x.1.2.2.1 x.1.2.2.2.1 x.2.1, fun (x : (Nat × Nat × Nat × (Nat → Int) × Unit) × Int × Unit) => (fun (aa na ma : Nat) (ta : Nat → Int) (c0 : Int) => (V39 aa na ma ta c0) (S.any (fun j => decide (ta (j + aa) = c0)) na)) x.1.1 x.1.2.1 x.1.2.2.1 x.1.2.2.2.1 x.2.1, fun (x : (Nat × Nat × Nat × (Nat → Int) × Unit) × Int × Unit) => (fun (aa na ma : Nat) (ta : Nat → Int) (c0 : Int) => (N39 aa na ma ta c0) (S.any (fun j => decide (ta (j + aa) = c0)) na)) x.1.1 x.1.2.1 x.1.2.2.1 x.1.2.2.2.1 x.2.1, fun _ _ => .dead⟩
theorem s39 (aa na ma : Nat) (ta : Nat → Int) (c0 : Int) (hp : aa + na ≤ ma ∧ na ≤ 1000000) : Goes ((q39 aa na ma ta c0)) ((p39 aa na ma ta c0)) (S.any (fun j => decide (ta (j + aa) = c0)) na) := by
  have hp' := hp
  obtain ⟨hp1, hp2⟩ := hp
  rw [← idx_any (p := (fun j => decide (ta (j + aa) = c0))) (n := na)]
  show Goes _ _ _
  unfold p39
  repeat' first
    | with_reducible refine goes_if (fun h => ?_) (fun h => ?_) <;> (try simp only [lim64, decide_eq_true_eq, decide_eq_false_iff_not, Int.toNat_natCast, toNat_pred, toNat_succ, Option.getD_some, Option.getD_none, Bool.not_eq_true', Bool.not_eq_false', Bool.and_eq_true, Bool.or_eq_true, Bool.and_eq_false_iff, Bool.or_eq_false_iff, bne_iff_ne, beq_iff_eq, bne_eq_false_iff_eq, beq_eq_false_iff_ne, ne_eq, not_and, Int.not_le, Int.not_lt, ge_iff_le, gt_iff_lt, Nat.not_lt, Nat.not_le, Bool.not_eq_true, Bool.not_eq_false, Bool.true_eq_false, Bool.false_eq_true, not_false_eq_true, not_true_eq_false] at h)
    | exact goes_none.mpr (by omega)
  all_goals first | (exfalso; omega) | (exfalso; simp_all; done) | (refine goes_inr.mpr ?_; first | rfl | (symm; simp_all; done) | (symm; simp_all; omega))

theorem k39_ok : k39.ok Try.prog := by
  intro x hx
  obtain ⟨⟨aa, na, ma, ta, _⟩, c0, _⟩ := x
  obtain ⟨h1, h2⟩ := a39 aa na ma ta c0 (s39 aa na ma ta c0 (of_dec hx rfl))
  exact ⟨⟨400, (by decide : 1 + 1 + 0 ≤ 400), h1⟩, h2⟩

end Go.Ev
