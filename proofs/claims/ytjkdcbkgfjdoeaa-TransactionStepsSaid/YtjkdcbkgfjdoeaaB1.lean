/-
  ContainsFunc.
-/
import Derived.Test.YtjkdcbkgfjdoeaaB0
import Derived.Test.YtjkdcbkgfjdoeaaA1
namespace Go.Ev
open Go.Proofs
set_option linter.unusedVariables false
set_option linter.unusedSimpArgs false
set_option maxRecDepth 100000
abbrev St41 := Empty
abbrev Rt41 := Bool
noncomputable def V41 (al nl ml : Nat) (tl : Nat → Int) (vl : Nat → Int) (gl : Nat → Int) (tg : Int) (r : Rt41) : PV := PV.bool r
noncomputable def N41 (al nl ml : Nat) (tl : Nat → Int) (vl : Nat → Int) (gl : Nat → Int) (tg : Int) (r : Rt41) : List Blk := []
noncomputable def I41 (al nl ml : Nat) (tl : Nat → Int) (vl : Nat → Int) (gl : Nat → Int) (tg : Int) : St41 → Hd := fun s => s.elim
noncomputable def q41 (al nl ml : Nat) (tl : Nat → Int) (vl : Nat → Int) (gl : Nat → Int) (tg : Int) : St41 → Option (St41 ⊕ Rt41) := fun s => s.elim
noncomputable def p41 (al nl ml : Nat) (tl : Nat → Int) (vl : Nat → Int) (gl : Nat → Int) (tg : Int) : Option (St41 ⊕ Rt41) := bif (decide (al + nl ≤ ml ∧ nl ≤ 1000000))
 then (bif (decide (S.idx (fun (j : Nat) => decide (tl (j + al) = tg)) (0) nl ≥ (0 : Int)))
 then (some (.inr (true)))
 else (some (.inr (false))))
 else (none)
noncomputable def Te41 (test : Bool → Prop → Prop → Prop) (Kst : KS) (Kret : KR) (al nl ml : Nat) (tl : Nat → Int) (vl : Nat → Int) (gl : Nat → Int) (tg : Int) : Prop :=
  test (decide (al + nl ≤ ml ∧ nl ≤ 1000000))
 (test (decide (S.idx (fun (j : Nat) => decide (tl (j + al) = tg)) (0) nl ≥ (0 : Int)))
 (Kret (PV.tf true) ([[(1, false, Blk.cells [PV.int IntKind.i64 tg]),
 (0, false,
 Blk.cols ml
 [Col.int IntKind.i64 tl, Col.int IntKind.i64 vl, Col.int IntKind.i64 gl])]]) (3))
 (Kret (PV.tf false) ([[(1, false, Blk.cells [PV.int IntKind.i64 tg]),
 (0, false,
 Blk.cols ml
 [Col.int IntKind.i64 tl, Col.int IntKind.i64 vl, Col.int IntKind.i64 gl])]]) (3)))
 (False)
set_option maxRecDepth 100000 in
theorem te41 (test : Bool → Prop → Prop → Prop) (Kst : KS) (Kret : KR) (al nl ml : Nat) (tl : Nat → Int) (vl : Nat → Int) (gl : Nat → Int) (tg : Int) : run test Try.env true (xC0 test) true 400 ⟨41, [.cd (mkFn Try.f41).body], argT 0 [.loose ⟨0, 3, al, 0⟩ nl, .fn (.func 50) [] [.ptr ⟨1, 0, 0, 0⟩]], [[], [(0, (false, .cols ml [.int .i64 tl, .int .i64 vl, .int .i64 gl])), (1, (false, .cells [.int .i64 tg]))]], 2⟩ (proj 2 [] Kst Kret) =
  Te41 test Kst Kret al nl ml tl vl gl tg := by kernel_rfl
set_option maxRecDepth 100000 in
theorem be41 (al nl ml : Nat) (tl : Nat → Int) (vl : Nat → Int) (gl : Nat → Int) (tg : Int) (Kst : KS) (Kret : KR) (x : St41 ⊕ Rt41) (hS : HS 2 400 ((I41 al nl ml tl vl gl tg)) Kst x) (hR : HR 2 400 ((V41 al nl ml tl vl gl tg)) (fun r => [newL (2 + 1) ((N41 al nl ml tl vl gl tg) r) ++ [(0, (false, .cols ml [.int .i64 tl, .int .i64 vl, .int .i64 gl])), (1, (false, .cells [.int .i64 tg]))]]) Kret x) (h : (bif (decide (al + nl ≤ ml ∧ nl ≤ 1000000))
 then (bif (decide (S.idx (fun (j : Nat) => decide (tl (j + al) = tg)) (0) nl ≥ (0 : Int)))
 then (some (.inr (true)))
 else (some (.inr (false))))
 else (none) : Option (St41 ⊕ Rt41)) = some x) : Te41 cond Kst Kret al nl ml tl vl gl tg := by
  unfold Te41
  exact bif_split h
   (fun c0 h => bif_split h
   (fun c1 h => ret_at hR _ h (fun n => n) rfl rfl rfl (rn_bool_tf rfl) rfl (entl_bor (use_lo rfl) rfl rfl (entl_borc (use_lo rfl) rfl rfl entl_nil)))
   (fun c1 h => ret_at hR _ h (fun n => n) rfl rfl rfl (rn_bool_tf rfl) rfl (entl_bor (use_lo rfl) rfl rfl (entl_borc (use_lo rfl) rfl rfl entl_nil))))
   (fun c0 h => no_some h)
theorem a41 (al nl ml : Nat) (tl : Nat → Int) (vl : Nat → Int) (gl : Nat → Int) (tg : Int) {r : Rt41} (h : Goes ((q41 al nl ml tl vl gl tg)) ((p41 al nl ml tl vl gl tg)) r) : CallR Try.prog 41 [.loose ⟨0, 3, al, 0⟩ nl, .fn (.func 50) [] [.ptr ⟨1, 0, 0, 0⟩]] [[(0, (false, .cols ml [.int .i64 tl, .int .i64 vl, .int .i64 gl])), (1, (false, .cells [.int .i64 tg]))]] 2 ((V41 al nl ml tl vl gl tg) r) ((fun r => [newL (2 + 1) ((N41 al nl ml tl vl gl tg) r) ++ [(0, (false, .cols ml [.int .i64 tl, .int .i64 vl, .int .i64 gl])), (1, (false, .cells [.int .i64 tg]))]]) r) 400 ∧ ∃ F, Try.prog.funcs[41]? = some F ∧ F.body.isSome = true ∧ (F.name == "runtime.NumGoroutine") = false := by
  refine dec_calls (f := 41) (lo := 2) (hi := 400) (H := [[(0, (false, .cols ml [.int .i64 tl, .int .i64 vl, .int .i64 gl])), (1, (false, .cells [.int .i64 tg]))]]) (args := [.loose ⟨0, 3, al, 0⟩ nl, .fn (.func 50) [] [.ptr ⟨1, 0, 0, 0⟩]]) Try.envOk Try.mixed xC0_ok ((I41 al nl ml tl vl gl tg)) ((V41 al nl ml tl vl gl tg)) (fun r => [newL (2 + 1) ((N41 al nl ml tl vl gl tg) r) ++ [(0, (false, .cols ml [.int .i64 tl, .int .i64 vl, .int .i64 gl])), (1, (false, .cells [.int .i64 tg]))]]) (fn := mkFn Try.f41) (ts := []) (n := 400) rfl (by decide) (by simp) (names_of rfl) ?_ ?_ ?_ h
  · intro s; exact s.elim
  · intro Kst Kret x hS hR h
    exact Holds.eq (te41 cond Kst Kret al nl ml tl vl gl tg) (be41 al nl ml tl vl gl tg Kst Kret x hS hR h)
  · intro Kst Kret x hS hR s h; exact s.elim
noncomputable def k41 : Con := ⟨41, [.one (.list [.int .i64, .int .i64, .int .i64]), .fn 50 [.cell [.int .i64]]], fun (x : (Nat × Nat × Nat × (Nat → Int) × (Nat → Int) × (Nat → Int) × Unit) × ((Int × Unit) × Unit) × Unit) => (fun (al nl ml : Nat) (tl : Nat → Int) (vl : Nat → Int) (gl : Nat → Int) (tg : Int) => decide (al + nl ≤ ml ∧ nl ≤ 1000000)) x.1.1 x.1.2.1 x.1.2.2.1 x.1.2.2.2.1 x.1.2.2.2.2.1 x.1.2.2.2.2.2.1 x.2.1.1.1, fun (x : (Nat × Nat × Nat × (Nat → Int) × (Nat → Int) × (Nat → Int) × Unit) × ((Int × Unit) × Unit) × Unit) => (fun (al nl ml : Nat) (tl : Nat → Int) (vl : Nat → Int) (gl : Nat → Int) (tg : Int) => (V41 al nl ml tl vl gl tg) (S.any (fun j => decide (tl (j + al) = tg)) nl)) x.1.1 x.1.2.1 x.1.2.2.1 x.1.2.2.2.1 x.1.2.2.2.2.1 x.1.2.2.2.2.2.1 x.2.1.1.1, fun (x : (Nat × Nat × Nat × (Nat → Int) × (Nat → Int) × (Nat → Int) × Unit) × ((Int × Unit) × Unit) × Unit) => (fun (al nl ml : Nat) (tl : Nat → Int) (vl : Nat → Int) (gl : Nat → Int) (tg : Int) => (N41 al nl ml tl vl gl tg) (S.any (fun j => decide (tl (j + al) = tg)) nl)) x.1.1 x.1.2.1 x.1.2.2.1 x.1.2.2.2.1 x.1.2.2.2.2.1 x.1.2.2.2.2.2.1 x.2.1.1.1, fun _ _ => .dead⟩
theorem s41 (al nl ml : Nat) (tl : Nat → Int) (vl : Nat → Int) (gl : Nat → Int) (tg : Int) (hp : al + nl ≤ ml ∧ nl ≤ 1000000) : Goes ((q41 al nl ml tl vl gl tg)) ((p41 al nl ml tl vl gl tg)) (S.any (fun j => decide (tl (j + al) = tg)) nl) := by
  have hp' := hp
  obtain ⟨hp1, hp2⟩ := hp
  rw [← idx_any (p := (fun j => decide (tl (j + al) = tg))) (n := nl)]
  show Goes _ _ _
  unfold p41
  repeat' first
    | with_reducible refine goes_if (fun h => ?_) (fun h => ?_) <;> (try simp only [lim64, decide_eq_true_eq, decide_eq_false_iff_not, Int.toNat_natCast, toNat_pred, toNat_succ, Option.getD_some, Option.getD_none, Bool.not_eq_true', Bool.not_eq_false', Bool.and_eq_true, Bool.or_eq_true, Bool.and_eq_false_iff, Bool.or_eq_false_iff, bne_iff_ne, beq_iff_eq, bne_eq_false_iff_eq, beq_eq_false_iff_ne, ne_eq, not_and, Int.not_le, Int.not_lt, ge_iff_le, gt_iff_lt, Nat.not_lt, Nat.not_le, Bool.not_eq_true, Bool.not_eq_false, Bool.true_eq_false, Bool.false_eq_true, not_false_eq_true, not_true_eq_false] at h)
    | exact goes_none.mpr (by omega)
  all_goals first | (exfalso; omega) | (exfalso; simp_all; done) | (refine goes_inr.mpr ?_; first | rfl | (symm; simp_all; done) | (symm; simp_all; omega))

theorem k41_ok : k41.ok Try.prog := by
  intro x hx
  obtain ⟨⟨al, nl, ml, tl, vl, gl, _⟩, ⟨⟨tg, _⟩, _⟩, _⟩ := x
  obtain ⟨h1, h2⟩ := a41 al nl ml tl vl gl tg (s41 al nl ml tl vl gl tg (of_dec hx rfl))
  exact ⟨⟨400, (by decide : 2 + 1 + 0 ≤ 400), h1⟩, h2⟩
noncomputable def xC (test : Bool → Prop → Prop → Prop) : Ext := consX test [k13, k15, k41]
theorem xC_ok : ExtOk Try.prog (xC cond) := consX_ok ⟨k13_ok, k15_ok, k41_ok, trivial⟩

end Go.Ev
