/-
  Lists: contains.
-/
import Derived.Test.YtccojphjkaikeaaML1
namespace Go.Ev
open Go.Proofs
set_option linter.unusedVariables false
set_option linter.unusedSimpArgs false
set_option maxRecDepth 100000
noncomputable def yL4 (test : Bool → Prop → Prop → Prop) : Ext := consX test [k52, k53]
theorem yL4_ok : ExtOk Try.prog (yL4 cond) := consX_ok (l := [k52, k53]) ⟨k52_ok, k53_ok, trivial⟩
abbrev St36 := Empty
abbrev Rt36 := Bool
noncomputable def V36 (aa na ma : Nat) (ta : Nat → Bool) (c0 : Bool) (r : Rt36) : PV := PV.bool r
noncomputable def N36 (aa na ma : Nat) (ta : Nat → Bool) (c0 : Bool) (r : Rt36) : List Blk := []
noncomputable def I36 (aa na ma : Nat) (ta : Nat → Bool) (c0 : Bool) : St36 → Hd := fun s => s.elim
noncomputable def q36 (aa na ma : Nat) (ta : Nat → Bool) (c0 : Bool) : St36 → Option (St36 ⊕ Rt36) := fun s => s.elim
noncomputable def p36 (aa na ma : Nat) (ta : Nat → Bool) (c0 : Bool) : Option (St36 ⊕ Rt36) := bif (c0)
 then (bif (decide (aa + na ≤ ma ∧ na ≤ 1000000))
 then (bif (decide (S.idx (fun (j : Nat) => decide (ta (j + aa) = true)) (0) na ≥ (0 : Int)))
 then (some (.inr (true)))
 else (some (.inr (false))))
 else (none))
 else (bif (decide (aa + na ≤ ma ∧ na ≤ 1000000))
 then (bif (decide (S.idx (fun (j : Nat) => decide (ta (j + aa) = false)) (0) na ≥ (0 : Int)))
 then (some (.inr (true)))
 else (some (.inr (false))))
 else (none))
noncomputable def Te36 (test : Bool → Prop → Prop → Prop) (Kst : KS) (Kret : KR) (aa na ma : Nat) (ta : Nat → Bool) (c0 : Bool) : Prop :=
  test (c0)
 (test (decide (aa + na ≤ ma ∧ na ≤ 1000000))
 (test (decide (S.idx (fun (j : Nat) => decide (ta (j + aa) = true)) (0) na ≥ (0 : Int)))
 (Kret (PV.tf true) ([[(0, false, Blk.cols ma [Col.bool ta])]]) (2))
 (Kret (PV.tf false) ([[(0, false, Blk.cols ma [Col.bool ta])]]) (2)))
 (False))
 (test (decide (aa + na ≤ ma ∧ na ≤ 1000000))
 (test (decide (S.idx (fun (j : Nat) => decide (ta (j + aa) = false)) (0) na ≥ (0 : Int)))
 (Kret (PV.tf true) ([[(0, false, Blk.cols ma [Col.bool ta])]]) (2))
 (Kret (PV.tf false) ([[(0, false, Blk.cols ma [Col.bool ta])]]) (2)))
 (False))
set_option maxRecDepth 100000 in
theorem te36 (test : Bool → Prop → Prop → Prop) (Kst : KS) (Kret : KR) (aa na ma : Nat) (ta : Nat → Bool) (c0 : Bool) : run test Try.env true (yL4 test) true 400 ⟨36, [.cd (mkFn Try.f36).body], argT 0 [.loose ⟨0, 1, aa, 0⟩ na, .bool c0], [[], [(0, (false, .cols ma [.bool ta]))]], 1⟩ (proj 1 [] Kst Kret) =
  Te36 test Kst Kret aa na ma ta c0 := by kernel_rfl
set_option maxRecDepth 100000 in
theorem be36 (aa na ma : Nat) (ta : Nat → Bool) (c0 : Bool) (Kst : KS) (Kret : KR) (x : St36 ⊕ Rt36) (hS : HS 1 400 ((I36 aa na ma ta c0)) Kst x) (hR : HR 1 400 ((V36 aa na ma ta c0)) (fun r => [newL (1 + 1) ((N36 aa na ma ta c0) r) ++ [(0, (false, .cols ma [.bool ta]))]]) Kret x) (h : (bif (c0)
 then (bif (decide (aa + na ≤ ma ∧ na ≤ 1000000))
 then (bif (decide (S.idx (fun (j : Nat) => decide (ta (j + aa) = true)) (0) na ≥ (0 : Int)))
 then (some (.inr (true)))
 else (some (.inr (false))))
 else (none))
 else (bif (decide (aa + na ≤ ma ∧ na ≤ 1000000))
 then (bif (decide (S.idx (fun (j : Nat) => decide (ta (j + aa) = false)) (0) na ≥ (0 : Int)))
 then (some (.inr (true)))
 else (some (.inr (false))))
 else (none)) : Option (St36 ⊕ Rt36)) = some x) : Te36 cond Kst Kret aa na ma ta c0 := by
  unfold Te36
  exact bif_split h
   (fun c0 h => bif_split h
   (fun c1 h => bif_split h
   (fun c2 h => ret_at hR _ h (fun n => n) rfl rfl rfl (rn_bool_tf rfl) rfl (entl_bor (use_lo rfl) rfl rfl entl_nil))
   (fun c2 h => ret_at hR _ h (fun n => n) rfl rfl rfl (rn_bool_tf rfl) rfl (entl_bor (use_lo rfl) rfl rfl entl_nil)))
   (fun c1 h => no_some h))
   (fun c0 h => bif_split h
   (fun c1 h => bif_split h
   (fun c2 h => ret_at hR _ h (fun n => n) rfl rfl rfl (rn_bool_tf rfl) rfl (entl_bor (use_lo rfl) rfl rfl entl_nil))
   (fun c2 h => ret_at hR _ h (fun n => n) rfl rfl rfl (rn_bool_tf rfl) rfl (entl_bor (use_lo rfl) rfl rfl entl_nil)))
   (fun c1 h => no_some h))
theorem a36 (aa na ma : Nat) (ta : Nat → Bool) (c0 : Bool) {r : Rt36} (h : Goes ((q36 aa na ma ta c0)) ((p36 aa na ma ta c0)) r) : CallR Try.prog 36 [.loose ⟨0, 1, aa, 0⟩ na, .bool c0] [[(0, (false, .cols ma [.bool ta]))]] 1 ((V36 aa na ma ta c0) r) ((fun r => [newL (1 + 1) ((N36 aa na ma ta c0) r) ++ [(0, (false, .cols ma [.bool ta]))]]) r) 400 ∧ ∃ F, Try.prog.funcs[36]? = some F ∧ F.body.isSome = true ∧ (F.name == "runtime.NumGoroutine") = false := by
  refine dec_calls (f := 36) (lo := 1) (hi := 400) (H := [[(0, (false, .cols ma [.bool ta]))]]) (args := [.loose ⟨0, 1, aa, 0⟩ na, .bool c0]) Try.envOk Try.mixed yL4_ok ((I36 aa na ma ta c0)) ((V36 aa na ma ta c0)) (fun r => [newL (1 + 1) ((N36 aa na ma ta c0) r) ++ [(0, (false, .cols ma [.bool ta]))]]) (fn := mkFn Try.f36) (ts := []) (n := 400) rfl (by decide) (by simp) (names_of rfl) ?_ ?_ ?_ h
  · intro s; exact s.elim
  · intro Kst Kret x hS hR h
    exact Holds.eq (te36 cond Kst Kret aa na ma ta c0) (be36 aa na ma ta c0 Kst Kret x hS hR h)
  · intro Kst Kret x hS hR s h; exact s.elim
noncomputable def k36 : Con := ⟨36, [.one (.list [.bool]), .one (.plain (.bool))], fun (x : (Nat × Nat × Nat × (Nat → Bool) × Unit) × Bool × Unit) => (fun (aa na ma : Nat) (ta : Nat → Bool) (c0 : Bool) => decide (aa + na ≤ ma ∧ na ≤ 1000000)) x.1.1 x.1.2.1 x.1.2.2.1 x.1.2.2.2.1 x.2.1, fun (x : (Nat × Nat × Nat × (Nat → Bool) × Unit) × Bool × Unit) => (fun (aa na ma : Nat) (ta : Nat → Bool) (c0 : Bool) => (V36 aa na ma ta c0) (S.any (fun j => decide (ta (j + aa) = c0)) na)) x.1.1 x.1.2.1 x.1.2.2.1 x.1.2.2.2.1 x.2.1, fun (x : (Nat × Nat × Nat × (Nat → Bool) × Unit) × Bool × Unit) => (fun (aa na ma : Nat) (ta : Nat → Bool) (c0 : Bool) => (N36 aa na ma ta c0) (S.any (fun j => decide (ta (j + aa) = c0)) na)) x.1.1 x.1.2.1 x.1.2.2.1 x.1.2.2.2.1 x.2.1, fun _ _ => .dead⟩
theorem s36 (aa na ma : Nat) (ta : Nat → Bool) (c0 : Bool) (hp : aa + na ≤ ma ∧ na ≤ 1000000) : Goes ((q36 aa na ma ta c0)) ((p36 aa na ma ta c0)) (S.any (fun j => decide (ta (j + aa) = c0)) na) := by
  have hp' := hp
  obtain ⟨hp1, hp2⟩ := hp
  rw [← idx_any (p := (fun j => decide (ta (j + aa) = c0))) (n := na)]
  show Goes _ _ _
  unfold p36
  repeat' first
    | with_reducible refine goes_if (fun h => ?_) (fun h => ?_) <;> (try simp only [lim64, decide_eq_true_eq, decide_eq_false_iff_not, Int.toNat_natCast, toNat_pred, toNat_succ, Option.getD_some, Option.getD_none, Bool.not_eq_true', Bool.not_eq_false', Bool.and_eq_true, Bool.or_eq_true, Bool.and_eq_false_iff, Bool.or_eq_false_iff, bne_iff_ne, beq_iff_eq, bne_eq_false_iff_eq, beq_eq_false_iff_ne, ne_eq, not_and, Int.not_le, Int.not_lt, ge_iff_le, gt_iff_lt, Nat.not_lt, Nat.not_le, Bool.not_eq_true, Bool.not_eq_false, Bool.true_eq_false, Bool.false_eq_true, not_false_eq_true, not_true_eq_false] at h)
    | exact goes_none.mpr (by omega)
  all_goals first | (exfalso; omega) | (exfalso; simp_all; done) | (refine goes_inr.mpr ?_; first | rfl | (symm; simp_all; done) | (symm; simp_all; omega))

theorem k36_ok : k36.ok Try.prog := by
  intro x hx
  obtain ⟨⟨aa, na, ma, ta, _⟩, c0, _⟩ := x
  obtain ⟨h1, h2⟩ := a36 aa na ma ta c0 (s36 aa na ma ta c0 (of_decide_eq_true hx))
  exact ⟨⟨400, (by decide : 1 + 1 + 0 ≤ 400), h1⟩, h2⟩
abbrev St49 := Empty
abbrev Rt49 := Bool
noncomputable def V49 (al nl ml : Nat) (tl : Nat → Int) (tr : Int) (vr : Int) (gr : Int) (r : Rt49) : PV := PV.bool r
noncomputable def N49 (al nl ml : Nat) (tl : Nat → Int) (tr : Int) (vr : Int) (gr : Int) (r : Rt49) : List Blk := []
noncomputable def I49 (al nl ml : Nat) (tl : Nat → Int) (tr : Int) (vr : Int) (gr : Int) : St49 → Hd := fun s => s.elim
noncomputable def q49 (al nl ml : Nat) (tl : Nat → Int) (tr : Int) (vr : Int) (gr : Int) : St49 → Option (St49 ⊕ Rt49) := fun s => s.elim
noncomputable def p49 (al nl ml : Nat) (tl : Nat → Int) (tr : Int) (vr : Int) (gr : Int) : Option (St49 ⊕ Rt49) := bif (decide (al + nl ≤ ml ∧ nl ≤ 1000000))
 then (bif (decide
 (S.idx (fun (j : Nat) => decide (tl (j + al) ≥ tr ∨ tl (j + al) ≤ vr)) (0) nl ≥ (0 : Int)))
 then (some (.inr (true)))
 else (some (.inr (false))))
 else (none)
noncomputable def Te49 (test : Bool → Prop → Prop → Prop) (Kst : KS) (Kret : KR) (al nl ml : Nat) (tl : Nat → Int) (tr : Int) (vr : Int) (gr : Int) : Prop :=
  test (decide (al + nl ≤ ml ∧ nl ≤ 1000000))
 (test (decide
 (S.idx (fun (j : Nat) => decide (tl (j + al) ≥ tr ∨ tl (j + al) ≤ vr)) (0) nl ≥ (0 : Int)))
 (Kret (PV.tf true) ([[(1, false,
 Blk.cells [PV.int IntKind.i64 tr, PV.int IntKind.i64 vr, PV.int IntKind.i64 gr]),
 (0, false, Blk.cols ml [Col.int IntKind.i64 tl])]]) (3))
 (Kret (PV.tf false) ([[(1, false,
 Blk.cells [PV.int IntKind.i64 tr, PV.int IntKind.i64 vr, PV.int IntKind.i64 gr]),
 (0, false, Blk.cols ml [Col.int IntKind.i64 tl])]]) (3)))
 (False)
set_option maxRecDepth 100000 in
theorem te49 (test : Bool → Prop → Prop → Prop) (Kst : KS) (Kret : KR) (al nl ml : Nat) (tl : Nat → Int) (tr : Int) (vr : Int) (gr : Int) : run test Try.env true (yL4 test) true 400 ⟨49, [.cd (mkFn Try.f49).body], argT 0 [.loose ⟨0, 1, al, 0⟩ nl, .fn (.func 50) [] [.ptr ⟨1, 0, 0, 0⟩]], [[], [(0, (false, .cols ml [.int .i64 tl])), (1, (false, .cells [.int .i64 tr, .int .i64 vr, .int .i64 gr]))]], 2⟩ (proj 2 [] Kst Kret) =
  Te49 test Kst Kret al nl ml tl tr vr gr := by kernel_rfl
set_option maxRecDepth 100000 in
theorem be49 (al nl ml : Nat) (tl : Nat → Int) (tr : Int) (vr : Int) (gr : Int) (Kst : KS) (Kret : KR) (x : St49 ⊕ Rt49) (hS : HS 2 400 ((I49 al nl ml tl tr vr gr)) Kst x) (hR : HR 2 400 ((V49 al nl ml tl tr vr gr)) (fun r => [newL (2 + 1) ((N49 al nl ml tl tr vr gr) r) ++ [(0, (false, .cols ml [.int .i64 tl])), (1, (false, .cells [.int .i64 tr, .int .i64 vr, .int .i64 gr]))]]) Kret x) (h : (bif (decide (al + nl ≤ ml ∧ nl ≤ 1000000))
 then (bif (decide
 (S.idx (fun (j : Nat) => decide (tl (j + al) ≥ tr ∨ tl (j + al) ≤ vr)) (0) nl ≥ (0 : Int)))
 then (some (.inr (true)))
 else (some (.inr (false))))
 else (none) : Option (St49 ⊕ Rt49)) = some x) : Te49 cond Kst Kret al nl ml tl tr vr gr := by
  unfold Te49
  exact bif_split h
   (fun c0 h => bif_split h
   (fun c1 h => ret_at hR _ h (fun n => n) rfl rfl rfl (rn_bool_tf rfl) rfl (entl_bor (use_lo rfl) rfl rfl (entl_borc (use_lo rfl) rfl rfl entl_nil)))
   (fun c1 h => ret_at hR _ h (fun n => n) rfl rfl rfl (rn_bool_tf rfl) rfl (entl_bor (use_lo rfl) rfl rfl (entl_borc (use_lo rfl) rfl rfl entl_nil))))
   (fun c0 h => no_some h)
theorem a49 (al nl ml : Nat) (tl : Nat → Int) (tr : Int) (vr : Int) (gr : Int) {r : Rt49} (h : Goes ((q49 al nl ml tl tr vr gr)) ((p49 al nl ml tl tr vr gr)) r) : CallR Try.prog 49 [.loose ⟨0, 1, al, 0⟩ nl, .fn (.func 50) [] [.ptr ⟨1, 0, 0, 0⟩]] [[(0, (false, .cols ml [.int .i64 tl])), (1, (false, .cells [.int .i64 tr, .int .i64 vr, .int .i64 gr]))]] 2 ((V49 al nl ml tl tr vr gr) r) ((fun r => [newL (2 + 1) ((N49 al nl ml tl tr vr gr) r) ++ [(0, (false, .cols ml [.int .i64 tl])), (1, (false, .cells [.int .i64 tr, .int .i64 vr, .int .i64 gr]))]]) r) 400 ∧ ∃ F, Try.prog.funcs[49]? = some F ∧ F.body.isSome = true ∧ (F.name == "runtime.NumGoroutine") = false := by
  refine dec_calls (f := 49) (lo := 2) (hi := 400) (H := [[(0, (false, .cols ml [.int .i64 tl])), (1, (false, .cells [.int .i64 tr, .int .i64 vr, .int .i64 gr]))]]) (args := [.loose ⟨0, 1, al, 0⟩ nl, .fn (.func 50) [] [.ptr ⟨1, 0, 0, 0⟩]]) Try.envOk Try.mixed yL4_ok ((I49 al nl ml tl tr vr gr)) ((V49 al nl ml tl tr vr gr)) (fun r => [newL (2 + 1) ((N49 al nl ml tl tr vr gr) r) ++ [(0, (false, .cols ml [.int .i64 tl])), (1, (false, .cells [.int .i64 tr, .int .i64 vr, .int .i64 gr]))]]) (fn := mkFn Try.f49) (ts := []) (n := 400) rfl (by decide) (by simp) (names_of rfl) ?_ ?_ ?_ h
  · intro s; exact s.elim
  · intro Kst Kret x hS hR h
    exact Holds.eq (te49 cond Kst Kret al nl ml tl tr vr gr) (be49 al nl ml tl tr vr gr Kst Kret x hS hR h)
  · intro Kst Kret x hS hR s h; exact s.elim
noncomputable def k49 : Con := ⟨49, [.one (.list [.int .i64]), .fn 50 [.cell [.int .i64, .int .i64, .int .i64]]], fun (x : (Nat × Nat × Nat × (Nat → Int) × Unit) × ((Int × Int × Int × Unit) × Unit) × Unit) => (fun (al nl ml : Nat) (tl : Nat → Int) (tr : Int) (vr : Int) (gr : Int) => decide (al + nl ≤ ml ∧ nl ≤ 1000000)) x.1.1 x.1.2.1 x.1.2.2.1 x.1.2.2.2.1 x.2.1.1.1 x.2.1.1.2.1 x.2.1.1.2.2.1, fun (x : (Nat × Nat × Nat × (Nat → Int) × Unit) × ((Int × Int × Int × Unit) × Unit) × Unit) => (fun (al nl ml : Nat) (tl : Nat → Int) (tr : Int) (vr : Int) (gr : Int) => (V49 al nl ml tl tr vr gr) (S.any (fun j => decide (tl (j + al) ≥ tr ∨ tl (j + al) ≤ vr)) nl)) x.1.1 x.1.2.1 x.1.2.2.1 x.1.2.2.2.1 x.2.1.1.1 x.2.1.1.2.1 x.2.1.1.2.2.1, fun (x : (Nat × Nat × Nat × (Nat → Int) × Unit) × ((Int × Int × Int × Unit) × Unit) × Unit) => (fun (al nl ml : Nat) (tl : Nat → Int) (tr : Int) (vr : Int) (gr : Int) => (N49 al nl ml tl tr vr gr) (S.any (fun j => decide (tl (j + al) ≥ tr ∨ tl (j + al) ≤ vr)) nl)) x.1.1 x.1.2.1 x.1.2.2.1 x.1.2.2.2.1 x.2.1.1.1 x.2.1.1.2.1 x.2.1.1.2.2.1, fun _ _ => .dead⟩
theorem s49 (al nl ml : Nat) (tl : Nat → Int) (tr : Int) (vr : Int) (gr : Int) (hp : al + nl ≤ ml ∧ nl ≤ 1000000) : Goes ((q49 al nl ml tl tr vr gr)) ((p49 al nl ml tl tr vr gr)) (S.any (fun j => decide (tl (j + al) ≥ tr ∨ tl (j + al) ≤ vr)) nl) := by
  have hp' := hp
  obtain ⟨hp1, hp2⟩ := hp
  rw [← idx_any (p := (fun j => decide (tl (j + al) ≥ tr ∨ tl (j + al) ≤ vr))) (n := nl)]
  show Goes _ _ _
  unfold p49
  repeat' first
    | with_reducible refine goes_if (fun h => ?_) (fun h => ?_) <;> (try simp only [lim64, decide_eq_true_eq, decide_eq_false_iff_not, Int.toNat_natCast, toNat_pred, toNat_succ, Option.getD_some, Option.getD_none, Bool.not_eq_true', Bool.not_eq_false', Bool.and_eq_true, Bool.or_eq_true, Bool.and_eq_false_iff, Bool.or_eq_false_iff, bne_iff_ne, beq_iff_eq, bne_eq_false_iff_eq, beq_eq_false_iff_ne, ne_eq, not_and, Int.not_le, Int.not_lt, ge_iff_le, gt_iff_lt, Nat.not_lt, Nat.not_le, Bool.not_eq_true, Bool.not_eq_false, Bool.true_eq_false, Bool.false_eq_true, not_false_eq_true, not_true_eq_false] at h)
    | exact goes_none.mpr (by omega)
  all_goals first | (exfalso; omega) | (exfalso; simp_all; done) | (refine goes_inr.mpr ?_; first | rfl | (symm; simp_all; done) | (symm; simp_all; omega))

theorem k49_ok : k49.ok Try.prog := by
  intro x hx
  obtain ⟨⟨al, nl, ml, tl, _⟩, ⟨⟨tr, vr, gr, _⟩, _⟩, _⟩ := x
  obtain ⟨h1, h2⟩ := a49 al nl ml tl tr vr gr (s49 al nl ml tl tr vr gr (of_decide_eq_true hx))
  exact ⟨⟨400, (by decide : 2 + 1 + 0 ≤ 400), h1⟩, h2⟩


end Go.Ev
