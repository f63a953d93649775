/-
  ContainsFunc.
-/
import Derived.Test.YtffldkecndnbiaaTA5a
namespace Go.Ev
open Go.Proofs
set_option linter.unusedVariables false
set_option linter.unusedSimpArgs false
set_option maxRecDepth 100000
abbrev St56 := Empty
abbrev Rt56 := Bool
noncomputable def V56 (al nl ml : Nat) (tl : Nat → Int) (vl : Nat → Int) (gl : Nat → Int) (wl : Nat → Int) (tg : Int) (r : Rt56) : PV := PV.bool r
noncomputable def N56 (al nl ml : Nat) (tl : Nat → Int) (vl : Nat → Int) (gl : Nat → Int) (wl : Nat → Int) (tg : Int) (r : Rt56) : List Blk := []
noncomputable def I56 (al nl ml : Nat) (tl : Nat → Int) (vl : Nat → Int) (gl : Nat → Int) (wl : Nat → Int) (tg : Int) : St56 → Hd := fun s => s.elim
noncomputable def q56 (al nl ml : Nat) (tl : Nat → Int) (vl : Nat → Int) (gl : Nat → Int) (wl : Nat → Int) (tg : Int) : St56 → Option (St56 ⊕ Rt56) := fun s => s.elim
noncomputable def p56 (al nl ml : Nat) (tl : Nat → Int) (vl : Nat → Int) (gl : Nat → Int) (wl : Nat → Int) (tg : Int) : Option (St56 ⊕ Rt56) := bif (decide (al + nl ≤ ml ∧ nl ≤ 1000000))
 then (bif (decide (S.idx (fun (j : Nat) => decide (tl (j + al) = tg)) (0) nl ≥ (0 : Int)))
 then (some (.inr (true)))
 else (some (.inr (false))))
 else (none)
noncomputable def Te56 (test : Bool → Prop → Prop → Prop) (Kst : KS) (Kret : KR) (al nl ml : Nat) (tl : Nat → Int) (vl : Nat → Int) (gl : Nat → Int) (wl : Nat → Int) (tg : Int) : Prop :=
  test (decide (al + nl ≤ ml ∧ nl ≤ 1000000))
 (test (decide (S.idx (fun (j : Nat) => decide (tl (j + al) = tg)) (0) nl ≥ (0 : Int)))
 (Kret (PV.tf true) ([[(1, false, Blk.cells [PV.int IntKind.i64 tg]),
 (0, false,
 Blk.cols ml
 [Col.int IntKind.i64 tl, Col.int IntKind.i64 vl, Col.int IntKind.i64 gl,
 Col.int IntKind.i64 wl])]]) (3))
 (Kret (PV.tf false) ([[(1, false, Blk.cells [PV.int IntKind.i64 tg]),
 (0, false,
 Blk.cols ml
 [Col.int IntKind.i64 tl, Col.int IntKind.i64 vl, Col.int IntKind.i64 gl,
 Col.int IntKind.i64 wl])]]) (3)))
 (False)
set_option maxRecDepth 100000 in
theorem te56 (test : Bool → Prop → Prop → Prop) (Kst : KS) (Kret : KR) (al nl ml : Nat) (tl : Nat → Int) (vl : Nat → Int) (gl : Nat → Int) (wl : Nat → Int) (tg : Int) : run test Try.env true (xC0 test) true 400 ⟨56, [.cd (mkFn Try.f56).body], argT 0 [.loose ⟨0, 4, al, 0⟩ nl, .fn (.func 57) [] [.ptr ⟨1, 0, 0, 0⟩]], [[], [(0, (false, .cols ml [.int .i64 tl, .int .i64 vl, .int .i64 gl, .int .i64 wl])), (1, (false, .cells [.int .i64 tg]))]], 2⟩ (proj 2 [] Kst Kret) =
  Te56 test Kst Kret al nl ml tl vl gl wl tg := by kernel_rfl
set_option maxRecDepth 100000 in
theorem be56 (al nl ml : Nat) (tl : Nat → Int) (vl : Nat → Int) (gl : Nat → Int) (wl : Nat → Int) (tg : Int) (Kst : KS) (Kret : KR) (x : St56 ⊕ Rt56) (hS : HS 2 400 ((I56 al nl ml tl vl gl wl tg)) Kst x) (hR : HR 2 400 ((V56 al nl ml tl vl gl wl tg)) (fun r => [newL (2 + 1) ((N56 al nl ml tl vl gl wl tg) r) ++ [(0, (false, .cols ml [.int .i64 tl, .int .i64 vl, .int .i64 gl, .int .i64 wl])), (1, (false, .cells [.int .i64 tg]))]]) Kret x) (h : (bif (decide (al + nl ≤ ml ∧ nl ≤ 1000000))
 then (bif (decide (S.idx (fun (j : Nat) => decide (tl (j + al) = tg)) (0) nl ≥ (0 : Int)))
 then (some (.inr (true)))
 else (some (.inr (false))))
 else (none) : Option (St56 ⊕ Rt56)) = some x) : Te56 cond Kst Kret al nl ml tl vl gl wl tg := by
  unfold Te56
  exact bif_split h
   (fun c0 h => bif_split h
   (fun c1 h => ret_at hR _ h (fun n => n) rfl rfl rfl (rn_bool_tf rfl) rfl (entl_bor (use_lo rfl) rfl rfl (entl_borc (use_lo rfl) rfl rfl entl_nil)))
   (fun c1 h => ret_at hR _ h (fun n => n) rfl rfl rfl (rn_bool_tf rfl) rfl (entl_bor (use_lo rfl) rfl rfl (entl_borc (use_lo rfl) rfl rfl entl_nil))))
   (fun c0 h => no_some h)
theorem a56 (al nl ml : Nat) (tl : Nat → Int) (vl : Nat → Int) (gl : Nat → Int) (wl : Nat → Int) (tg : Int) {r : Rt56} (h : Goes ((q56 al nl ml tl vl gl wl tg)) ((p56 al nl ml tl vl gl wl tg)) r) : CallR Try.prog 56 [.loose ⟨0, 4, al, 0⟩ nl, .fn (.func 57) [] [.ptr ⟨1, 0, 0, 0⟩]] [[(0, (false, .cols ml [.int .i64 tl, .int .i64 vl, .int .i64 gl, .int .i64 wl])), (1, (false, .cells [.int .i64 tg]))]] 2 ((V56 al nl ml tl vl gl wl tg) r) ((fun r => [newL (2 + 1) ((N56 al nl ml tl vl gl wl tg) r) ++ [(0, (false, .cols ml [.int .i64 tl, .int .i64 vl, .int .i64 gl, .int .i64 wl])), (1, (false, .cells [.int .i64 tg]))]]) r) 400 ∧ ∃ F, Try.prog.funcs[56]? = some F ∧ F.body.isSome = true ∧ (F.name == "runtime.NumGoroutine") = false := by
  refine dec_calls (f := 56) (lo := 2) (hi := 400) (H := [[(0, (false, .cols ml [.int .i64 tl, .int .i64 vl, .int .i64 gl, .int .i64 wl])), (1, (false, .cells [.int .i64 tg]))]]) (args := [.loose ⟨0, 4, al, 0⟩ nl, .fn (.func 57) [] [.ptr ⟨1, 0, 0, 0⟩]]) Try.envOk Try.mixed xC0_ok ((I56 al nl ml tl vl gl wl tg)) ((V56 al nl ml tl vl gl wl tg)) (fun r => [newL (2 + 1) ((N56 al nl ml tl vl gl wl tg) r) ++ [(0, (false, .cols ml [.int .i64 tl, .int .i64 vl, .int .i64 gl, .int .i64 wl])), (1, (false, .cells [.int .i64 tg]))]]) (fn := mkFn Try.f56) (ts := []) (n := 400) rfl (by decide) (by simp) (names_of rfl) ?_ ?_ ?_ h
  · intro s; exact s.elim
  · intro Kst Kret x hS hR h
    exact Holds.eq (te56 cond Kst Kret al nl ml tl vl gl wl tg) (be56 al nl ml tl vl gl wl tg Kst Kret x hS hR h)
  · intro Kst Kret x hS hR s h; exact s.elim
noncomputable def k56 : Con := ⟨56, [.one (.list [.int .i64, .int .i64, .int .i64, .int .i64]), .fn 57 [.cell [.int .i64]]], fun (x : (Nat × Nat × Nat × (Nat → Int) × (Nat → Int) × (Nat → Int) × (Nat → Int) × Unit) × ((Int × Unit) × Unit) × Unit) => (fun (al nl ml : Nat) (tl : Nat → Int) (vl : Nat → Int) (gl : Nat → Int) (wl : Nat → Int) (tg : Int) => decide (al + nl ≤ ml ∧ nl ≤ 1000000)) x.1.1 x.1.2.1 x.1.2.2.1 x.1.2.2.2.1 x.1.2.2.2.2.1 x.1.2.2.2.2.2.1 x.1.2.2.2.2.2.2.1 x.2.1.1.1, fun (x : (Nat × Nat × Nat × (Nat → Int) × (Nat → Int) × (Nat → Int) × (Nat → Int) × Unit) × ((Int × Unit) × Unit) × Unit) => (fun (al nl ml : Nat) (tl : Nat → Int) (vl : Nat → Int) (gl : Nat → Int) (wl : Nat → Int) (tg : Int) => (V56 al nl ml tl vl gl wl tg) (S.any (fun j => decide (tl (j + al) = tg)) nl)) x.1.1 x.1.2.1 x.1.2.2.1 x.1.2.2.2.1 x.1.2.2.2.2.1 x.1.2.2.2.2.2.1 x.1.2.2.2.2.2.2.1 x.2.1.1.1, fun (x : (Nat × Nat × Nat × (Nat → Int) × (Nat → Int) × (Nat → Int) × (Nat → Int) × Unit) × ((Int × Unit) × Unit) × Unit) => (fun (al nl ml : Nat) (tl : Nat → Int) (vl : Nat → Int) (gl : Nat → Int) (wl : Nat → Int) (tg : Int) => (N56 al nl ml tl vl gl wl tg) (S.any (fun j => decide (tl (j + al) = tg)) nl)) x.1.1 x.1.2.1 x.1.2.2.1 x.1.2.2.2.1 x.1.2.2.2.2.1 x.1.2.2.2.2.2.1 x.1.2.2.2.2.2.2.1 x.2.1.1.1, fun _ _ => .dead⟩
theorem s56 (al nl ml : Nat) (tl : Nat → Int) (vl : Nat → Int) (gl : Nat → Int) (wl : Nat → Int) (tg : Int) (hp : al + nl ≤ ml ∧ nl ≤ 1000000) : Goes ((q56 al nl ml tl vl gl wl tg)) ((p56 al nl ml tl vl gl wl tg)) (S.any (fun j => decide (tl (j + al) = tg)) nl) := by
  have hp' := hp
  obtain ⟨hp1, hp2⟩ := hp
  rw [← idx_any (p := (fun j => decide (tl (j + al) = tg))) (n := nl)]
  show Goes _ _ _
  unfold p56
  repeat' first
    | with_reducible refine goes_if (fun h => ?_) (fun h => ?_) <;> (try simp only [lim64, decide_eq_true_eq, decide_eq_false_iff_not, Int.toNat_natCast, toNat_pred, toNat_succ, Option.getD_some, Option.getD_none, Bool.not_eq_true', Bool.not_eq_false', Bool.and_eq_true, Bool.or_eq_true, Bool.and_eq_false_iff, Bool.or_eq_false_iff, bne_iff_ne, beq_iff_eq, bne_eq_false_iff_eq, beq_eq_false_iff_ne, ne_eq, not_and, Int.not_le, Int.not_lt, ge_iff_le, gt_iff_lt, Nat.not_lt, Nat.not_le, Bool.not_eq_true, Bool.not_eq_false, Bool.true_eq_false, Bool.false_eq_true, not_false_eq_true, not_true_eq_false] at h)
    | exact goes_none.mpr (by omega)
  all_goals first | (exfalso; omega) | (exfalso; simp_all; done) | (refine goes_inr.mpr ?_; first | rfl | (symm; simp_all; done) | (symm; simp_all; omega))

theorem k56_ok : k56.ok Try.prog := by
  intro x hx
  obtain ⟨⟨al, nl, ml, tl, vl, gl, wl, _⟩, ⟨⟨tg, _⟩, _⟩, _⟩ := x
  obtain ⟨h1, h2⟩ := a56 al nl ml tl vl gl wl tg (s56 al nl ml tl vl gl wl tg (of_dec hx rfl))
  exact ⟨⟨400, (by decide : 2 + 1 + 0 ≤ 400), h1⟩, h2⟩
noncomputable def xC1 (test : Bool → Prop → Prop → Prop) : Ext := consX test [k56]
theorem xC1_ok : ExtOk Try.prog (xC1 cond) := consX_ok ⟨k56_ok, trivial⟩

end Go.Ev
