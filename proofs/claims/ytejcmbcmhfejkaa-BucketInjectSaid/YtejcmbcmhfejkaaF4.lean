/-
  Contains.
-/
import Derived.Test.YtejcmbcmhfejkaaF3
namespace Go.Ev
open Go.Proofs
set_option linter.unusedVariables false
set_option linter.unusedSimpArgs false
set_option maxRecDepth 100000
abbrev St30 := Empty
abbrev Rt30 := Bool
noncomputable def V30 (aa na ma : Nat) (ta : Nat → Int) (c0 : Int) (r : Rt30) : PV := PV.bool r
noncomputable def N30 (aa na ma : Nat) (ta : Nat → Int) (c0 : Int) (r : Rt30) : List Blk := []
noncomputable def I30 (aa na ma : Nat) (ta : Nat → Int) (c0 : Int) : St30 → Hd := fun s => s.elim
noncomputable def q30 (aa na ma : Nat) (ta : Nat → Int) (c0 : Int) : St30 → Option (St30 ⊕ Rt30) := fun s => s.elim
noncomputable def p30 (aa na ma : Nat) (ta : Nat → Int) (c0 : Int) : Option (St30 ⊕ Rt30) := bif (decide (aa + na ≤ ma ∧ na ≤ 1000000))
 then (bif (decide (S.idx (fun (j : Nat) => decide (ta (j + aa) = c0)) (0) na ≥ (0 : Int)))
 then (some (.inr (true)))
 else (some (.inr (false))))
 else (none)
noncomputable def Te30 (test : Bool → Prop → Prop → Prop) (Kst : KS) (Kret : KR) (aa na ma : Nat) (ta : Nat → Int) (c0 : Int) : Prop :=
  test (decide (aa + na ≤ ma ∧ na ≤ 1000000))
 (test (decide (S.idx (fun (j : Nat) => decide (ta (j + aa) = c0)) (0) na ≥ (0 : Int)))
 (Kret (PV.tf true) ([[(0, false, Blk.cols ma [Col.int IntKind.i64 ta])]]) (2))
 (Kret (PV.tf false) ([[(0, false, Blk.cols ma [Col.int IntKind.i64 ta])]]) (2)))
 (False)
set_option maxRecDepth 100000 in
theorem te30 (test : Bool → Prop → Prop → Prop) (Kst : KS) (Kret : KR) (aa na ma : Nat) (ta : Nat → Int) (c0 : Int) : run test Try.env true (xZ0 test) true 400 ⟨30, [.cd (mkFn Try.f30).body], argT 0 [.loose ⟨0, 1, aa, 0⟩ na, .int .i64 c0], [[], [(0, (false, .cols ma [.int .i64 ta]))]], 1⟩ (proj 1 [] Kst Kret) =
  Te30 test Kst Kret aa na ma ta c0 := by kernel_rfl
set_option maxRecDepth 100000 in
theorem be30 (aa na ma : Nat) (ta : Nat → Int) (c0 : Int) (Kst : KS) (Kret : KR) (x : St30 ⊕ Rt30) (hS : HS 1 400 ((I30 aa na ma ta c0)) Kst x) (hR : HR 1 400 ((V30 aa na ma ta c0)) (fun r => [newL (1 + 1) ((N30 aa na ma ta c0) r) ++ [(0, (false, .cols ma [.int .i64 ta]))]]) Kret x) (h : (bif (decide (aa + na ≤ ma ∧ na ≤ 1000000))
 then (bif (decide (S.idx (fun (j : Nat) => decide (ta (j + aa) = c0)) (0) na ≥ (0 : Int)))
 then (some (.inr (true)))
 else (some (.inr (false))))
 else (none) : Option (St30 ⊕ Rt30)) = some x) : Te30 cond Kst Kret aa na ma ta c0 := by
  unfold Te30
  exact bif_split h
   (fun c0 h => bif_split h
   (fun c1 h => ret_at hR _ h (fun n => n) rfl rfl rfl (rn_bool_tf rfl) rfl (entl_bor (use_lo rfl) rfl rfl entl_nil))
   (fun c1 h => ret_at hR _ h (fun n => n) rfl rfl rfl (rn_bool_tf rfl) rfl (entl_bor (use_lo rfl) rfl rfl entl_nil)))
   (fun c0 h => no_some h)
theorem a30 (aa na ma : Nat) (ta : Nat → Int) (c0 : Int) {r : Rt30} (h : Goes ((q30 aa na ma ta c0)) ((p30 aa na ma ta c0)) r) : CallR Try.prog 30 [.loose ⟨0, 1, aa, 0⟩ na, .int .i64 c0] [[(0, (false, .cols ma [.int .i64 ta]))]] 1 ((V30 aa na ma ta c0) r) ((fun r => [newL (1 + 1) ((N30 aa na ma ta c0) r) ++ [(0, (false, .cols ma [.int .i64 ta]))]]) r) 400 ∧ ∃ F, Try.prog.funcs[30]? = some F ∧ F.body.isSome = true ∧ (F.name == "runtime.NumGoroutine") = false := by
  refine dec_calls (f := 30) (lo := 1) (hi := 400) (H := [[(0, (false, .cols ma [.int .i64 ta]))]]) (args := [.loose ⟨0, 1, aa, 0⟩ na, .int .i64 c0]) Try.envOk Try.mixed xZ0_ok ((I30 aa na ma ta c0)) ((V30 aa na ma ta c0)) (fun r => [newL (1 + 1) ((N30 aa na ma ta c0) r) ++ [(0, (false, .cols ma [.int .i64 ta]))]]) (fn := mkFn Try.f30) (ts := []) (n := 400) rfl (by decide) (by simp) (names_of rfl) ?_ ?_ ?_ h
  · intro s; exact s.elim
  · intro Kst Kret x hS hR h
    exact Holds.eq (te30 cond Kst Kret aa na ma ta c0) (be30 aa na ma ta c0 Kst Kret x hS hR h)
  · intro Kst Kret x hS hR s h; exact s.elim
noncomputable def k30 : Con := ⟨30, [.one (.list [.int .i64]), .one (.plain (.int .i64))], fun (x : (Nat × Nat × Nat × (Nat → Int) × Unit) × Int × Unit) => (fun (aa na ma : Nat) (ta : Nat → Int) (c0 : Int) => decide (aa + na ≤ ma ∧ na ≤ 1000000)) x.1.1 x.1.2.1 x.1.2.2.1 x.1.2.2.2.1 x.2.1, fun (x : (Nat × Nat × Nat × (Nat → Int) × Unit) × Int × Unit) => (fun (aa na ma : Nat) (ta : Nat → Int) (c0 : Int) => (V30 aa na ma ta c0) (S.any (fun j => decide (ta (j + aa) = c0)) na)) x.1.1 x.1.2.1 x.1.2.2.1 x.1.2.2.2.1 x.2.1, fun (x : (Nat × Nat × Nat × (Nat → Int) × Unit) × Int × Unit) => (fun (aa na ma : Nat) (ta : Nat → Int) (c0 : Int) => (N30 aa na ma ta c0) (S.any (fun j => decide (ta (j + aa) = c0)) na)) x.1.1 x.1.2.1 x.1.2.2.1 x.1.2.2.2.1 x.2.1, fun _ _ => .dead⟩
theorem s30 (aa na ma : Nat) (ta : Nat → Int) (c0 : Int) (hp : aa + na ≤ ma ∧ na ≤ 1000000) : Goes ((q30 aa na ma ta c0)) ((p30 aa na ma ta c0)) (S.any (fun j => decide (ta (j + aa) = c0)) na) := by
  have hp' := hp
  obtain ⟨hp1, hp2⟩ := hp
  rw [← idx_any (p := (fun j => decide (ta (j + aa) = c0))) (n := na)]
  show Goes _ _ _
  unfold p30
  repeat' first
    | with_reducible refine goes_if (fun h => ?_) (fun h => ?_) <;> (try simp only [lim64, decide_eq_true_eq, decide_eq_false_iff_not, Int.toNat_natCast, toNat_pred, toNat_succ, Option.getD_some, Option.getD_none, Bool.not_eq_true', Bool.not_eq_false', Bool.and_eq_true, Bool.or_eq_true, Bool.and_eq_false_iff, Bool.or_eq_false_iff, bne_iff_ne, beq_iff_eq, bne_eq_false_iff_eq, beq_eq_false_iff_ne, ne_eq, not_and, Int.not_le, Int.not_lt, ge_iff_le, gt_iff_lt, Nat.not_lt, Nat.not_le, Bool.not_eq_true, Bool.not_eq_false, Bool.true_eq_false, Bool.false_eq_true, not_false_eq_true, not_true_eq_false] at h)
    | exact goes_none.mpr (by omega)
  all_goals first | (exfalso; omega) | (exfalso; simp_all; done) | (refine goes_inr.mpr ?_; first | rfl | (symm; simp_all; done) | (symm; simp_all; omega))

theorem k30_ok : k30.ok Try.prog := by
  intro x hx
  obtain ⟨⟨aa, na, ma, ta, _⟩, c0, _⟩ := x
  obtain ⟨h1, h2⟩ := a30 aa na ma ta c0 (s30 aa na ma ta c0 (of_dec hx rfl))
  exact ⟨⟨400, (by decide : 1 + 1 + 0 ≤ 400), h1⟩, h2⟩

end Go.Ev
