/-
  IndexFunc.
-/
import Derived.Test.YtjkdcbkgfjdoeaaL0
namespace Go.Ev
open Go.Proofs
set_option linter.unusedVariables false
set_option linter.unusedSimpArgs false
set_option maxRecDepth 100000
inductive St64 where
  | h0 (x0 : Int)
abbrev Rt64 := Int
noncomputable def V64 (al nl ml : Nat) (tl : Nat → Int) (vl : Nat → Int) (gl : Nat → Int) (tg : Int) (r : Rt64) : PV := PV.int IntKind.i64 r
noncomputable def N64 (al nl ml : Nat) (tl : Nat → Int) (vl : Nat → Int) (gl : Nat → Int) (tg : Int) (r : Rt64) : List Blk := []
noncomputable def I64 (al nl ml : Nat) (tl : Nat → Int) (vl : Nat → Int) (gl : Nat → Int) (tg : Int) : St64 → Hd
  | .h0 x0 => ⟨hd Try.f64 0, [PV.loose (PA.mk (0) (3) al (0)) nl,
 PV.fn (Go.Fn.func (50)) [] [PV.ptr (PA.mk (1) (0) (0) (0))],
 PV.int IntKind.i64 (↑nl : Int), PV.int IntKind.i64 x0], [[], [(0, (false, .cols ml [.int .i64 tl, .int .i64 vl, .int .i64 gl])), (1, (false, .cells [.int .i64 tg]))]], 2⟩
noncomputable def q64 (al nl ml : Nat) (tl : Nat → Int) (vl : Nat → Int) (gl : Nat → Int) (tg : Int) : St64 → Option (St64 ⊕ Rt64)
  | .h0 x0 => bif (decide (x0 < (↑nl : Int)))
 then (bif (decide ((0 : Int) ≤ x0 ∧ x0 < (↑nl : Int)))
 then (bif (decide (Int.toNat x0 + al < ml))
 then (bif (tl (Int.toNat x0 + al) == tg)
 then (some (.inr (x0)))
 else (bif (lim IntKind.i64 (x0 + (1 : Int)))
 then (some (.inl (.h0 (x0 + (1 : Int)))))
 else (none)))
 else (none))
 else (none))
 else (some (.inr ((-1 : Int))))
noncomputable def p64 (al nl ml : Nat) (tl : Nat → Int) (vl : Nat → Int) (gl : Nat → Int) (tg : Int) : Option (St64 ⊕ Rt64) := some (.inl (.h0 ((0 : Int))))
noncomputable def Te64 (test : Bool → Prop → Prop → Prop) (Kst : KS) (Kret : KR) (al nl ml : Nat) (tl : Nat → Int) (vl : Nat → Int) (gl : Nat → Int) (tg : Int) : Prop :=
  Kst (hd Try.f64 0) ([PV.loose (PA.mk (0) (3) al (0)) nl,
 PV.fn (Go.Fn.func (50)) [] [PV.ptr (PA.mk (1) (0) (0) (0))],
 PV.int IntKind.i64 (↑nl : Int), PV.int IntKind.i64 (0 : Int)]) ([[(1, false, Blk.cells [PV.int IntKind.i64 tg]),
 (0, false,
 Blk.cols ml
 [Col.int IntKind.i64 tl, Col.int IntKind.i64 vl, Col.int IntKind.i64 gl])]]) (2)
set_option maxRecDepth 100000 in
theorem te64 (test : Bool → Prop → Prop → Prop) (Kst : KS) (Kret : KR) (al nl ml : Nat) (tl : Nat → Int) (vl : Nat → Int) (gl : Nat → Int) (tg : Int) : run test Try.env true noX true 400 ⟨64, [.cd (mkFn Try.f64).body], argT 0 [.loose ⟨0, 3, al, 0⟩ nl, .fn (.func 50) [] [.ptr ⟨1, 0, 0, 0⟩]], [[], [(0, (false, .cols ml [.int .i64 tl, .int .i64 vl, .int .i64 gl])), (1, (false, .cells [.int .i64 tg]))]], 2⟩ (proj 2 [0, 1, 7, 8] Kst Kret) =
  Te64 test Kst Kret al nl ml tl vl gl tg := by kernel_rfl
noncomputable def T64_0 (test : Bool → Prop → Prop → Prop) (Kst : KS) (Kret : KR) (al nl ml : Nat) (tl : Nat → Int) (vl : Nat → Int) (gl : Nat → Int) (tg : Int) (x0 : Int) : Prop :=
  test (decide (x0 < (↑nl : Int)))
 (test (decide ((0 : Int) ≤ x0 ∧ x0 < (↑nl : Int)))
 (test (decide (Int.toNat x0 + al < ml))
 (test (decide (Int.toNat x0 + al < ml))
 (test (decide (Int.toNat x0 + al < ml))
 (test (tl (Int.toNat x0 + al) == tg)
 (Kret (PV.int IntKind.i64 x0) ([[(1, false, Blk.cells [PV.int IntKind.i64 tg]),
 (0, false,
 Blk.cols ml
 [Col.int IntKind.i64 tl, Col.int IntKind.i64 vl, Col.int IntKind.i64 gl])]]) (3))
 (test (lim IntKind.i64 (x0 + (1 : Int)))
 (Kst (hd Try.f64 0) ([PV.loose (PA.mk (0) (3) al (0)) nl,
 PV.fn (Go.Fn.func (50)) [] [PV.ptr (PA.mk (1) (0) (0) (0))],
 PV.int IntKind.i64 (↑nl : Int), PV.int IntKind.i64 (x0 + (1 : Int))]) ([[(1, false, Blk.cells [PV.int IntKind.i64 tg]),
 (0, false,
 Blk.cols ml
 [Col.int IntKind.i64 tl, Col.int IntKind.i64 vl, Col.int IntKind.i64 gl])]]) (3))
 (False)))
 (False))
 (False))
 (False))
 (False))
 (Kret (PV.int IntKind.i64 (-1 : Int)) ([[(1, false, Blk.cells [PV.int IntKind.i64 tg]),
 (0, false,
 Blk.cols ml
 [Col.int IntKind.i64 tl, Col.int IntKind.i64 vl, Col.int IntKind.i64 gl])]]) (2))
set_option maxRecDepth 100000 in
theorem t64_0 (test : Bool → Prop → Prop → Prop) (Kst : KS) (Kret : KR) (al nl ml : Nat) (tl : Nat → Int) (vl : Nat → Int) (gl : Nat → Int) (tg : Int) (x0 : Int) : run test Try.env true noX true 400 ⟨64, hd Try.f64 0, zipT [0, 1, 7, 8] [PV.loose (PA.mk (0) (3) al (0)) nl,
 PV.fn (Go.Fn.func (50)) [] [PV.ptr (PA.mk (1) (0) (0) (0))],
 PV.int IntKind.i64 (↑nl : Int), PV.int IntKind.i64 x0], [[], [(0, (false, .cols ml [.int .i64 tl, .int .i64 vl, .int .i64 gl])), (1, (false, .cells [.int .i64 tg]))]], 2⟩ (proj 2 [0, 1, 7, 8] Kst Kret) =
  T64_0 test Kst Kret al nl ml tl vl gl tg x0 := by kernel_rfl
set_option maxRecDepth 100000 in
theorem be64 (al nl ml : Nat) (tl : Nat → Int) (vl : Nat → Int) (gl : Nat → Int) (tg : Int) (Kst : KS) (Kret : KR) (x : St64 ⊕ Rt64) (hS : HS 2 400 ((I64 al nl ml tl vl gl tg)) Kst x) (hR : HR 2 400 ((V64 al nl ml tl vl gl tg)) (fun r => [newL (2 + 1) ((N64 al nl ml tl vl gl tg) r) ++ [(0, (false, .cols ml [.int .i64 tl, .int .i64 vl, .int .i64 gl])), (1, (false, .cells [.int .i64 tg]))]]) Kret x) (h : (some (.inl (.h0 ((0 : Int)))) : Option (St64 ⊕ Rt64)) = some x) : Te64 cond Kst Kret al nl ml tl vl gl tg := by
  unfold Te64
  exact stop_at hS _ h (fun n => n) rfl rfl rfl ⟨(rn_loose (use_lo rfl) rfl rfl rfl), ⟨(rn_fn trivial ⟨(rn_ptr (use_lo rfl) rfl rfl), trivial⟩), ⟨(rn_int rfl), ⟨(rn_int rfl), trivial⟩⟩⟩⟩ rfl (entl_bor (use_lo rfl) rfl rfl (entl_borc (use_lo rfl) rfl rfl entl_nil))
set_option maxRecDepth 100000 in
theorem b64_0 (al nl ml : Nat) (tl : Nat → Int) (vl : Nat → Int) (gl : Nat → Int) (tg : Int) (Kst : KS) (Kret : KR) (x : St64 ⊕ Rt64) (hS : HS 2 400 ((I64 al nl ml tl vl gl tg)) Kst x) (hR : HR 2 400 ((V64 al nl ml tl vl gl tg)) (fun r => [newL (2 + 1) ((N64 al nl ml tl vl gl tg) r) ++ [(0, (false, .cols ml [.int .i64 tl, .int .i64 vl, .int .i64 gl])), (1, (false, .cells [.int .i64 tg]))]]) Kret x) (x0 : Int) (h : (bif (decide (x0 < (↑nl : Int)))
 then (bif (decide ((0 : Int) ≤ x0 ∧ x0 < (↑nl : Int)))
 then (bif (decide (Int.toNat x0 + al < ml))
 then (bif (tl (Int.toNat x0 + al) == tg)
 then (some (.inr (x0)))
 else (bif (lim IntKind.i64 (x0 + (1 : Int)))
 then (some (.inl (.h0 (x0 + (1 : Int)))))
 else (none)))
 else (none))
 else (none))
 else (some (.inr ((-1 : Int)))) : Option (St64 ⊕ Rt64)) = some x) : T64_0 cond Kst Kret al nl ml tl vl gl tg x0 := by
  unfold T64_0
  exact bif_split h
   (fun c0 h => bif_split h
   (fun c1 h => bif_split h
   (fun c2 h => cond_yes c2 (cond_yes c2 (bif_split h
   (fun c3 h => ret_at hR _ h (fun n => n) rfl rfl rfl (rn_int rfl) rfl (entl_bor (use_lo rfl) rfl rfl (entl_borc (use_lo rfl) rfl rfl entl_nil)))
   (fun c3 h => bif_split h
   (fun c4 h => stop_at hS _ h (fun n => n) rfl rfl rfl ⟨(rn_loose (use_lo rfl) rfl rfl rfl), ⟨(rn_fn trivial ⟨(rn_ptr (use_lo rfl) rfl rfl), trivial⟩), ⟨(rn_int rfl), ⟨(rn_int rfl), trivial⟩⟩⟩⟩ rfl (entl_bor (use_lo rfl) rfl rfl (entl_borc (use_lo rfl) rfl rfl entl_nil)))
   (fun c4 h => no_some h)))))
   (fun c2 h => no_some h))
   (fun c1 h => no_some h))
   (fun c0 h => ret_at hR _ h (fun n => n) rfl rfl rfl (rn_int rfl) rfl (entl_bor (use_lo rfl) rfl rfl (entl_borc (use_lo rfl) rfl rfl entl_nil)))
theorem a64 (al nl ml : Nat) (tl : Nat → Int) (vl : Nat → Int) (gl : Nat → Int) (tg : Int) {r : Rt64} (h : Goes ((q64 al nl ml tl vl gl tg)) ((p64 al nl ml tl vl gl tg)) r) : CallR Try.prog 64 [.loose ⟨0, 3, al, 0⟩ nl, .fn (.func 50) [] [.ptr ⟨1, 0, 0, 0⟩]] [[(0, (false, .cols ml [.int .i64 tl, .int .i64 vl, .int .i64 gl])), (1, (false, .cells [.int .i64 tg]))]] 2 ((V64 al nl ml tl vl gl tg) r) ((fun r => [newL (2 + 1) ((N64 al nl ml tl vl gl tg) r) ++ [(0, (false, .cols ml [.int .i64 tl, .int .i64 vl, .int .i64 gl])), (1, (false, .cells [.int .i64 tg]))]]) r) 400 ∧ ∃ F, Try.prog.funcs[64]? = some F ∧ F.body.isSome = true ∧ (F.name == "runtime.NumGoroutine") = false := by
  refine dec_calls (f := 64) (lo := 2) (hi := 400) (H := [[(0, (false, .cols ml [.int .i64 tl, .int .i64 vl, .int .i64 gl])), (1, (false, .cells [.int .i64 tg]))]]) (args := [.loose ⟨0, 3, al, 0⟩ nl, .fn (.func 50) [] [.ptr ⟨1, 0, 0, 0⟩]]) Try.envOk Try.mixed noX_ok ((I64 al nl ml tl vl gl tg)) ((V64 al nl ml tl vl gl tg)) (fun r => [newL (2 + 1) ((N64 al nl ml tl vl gl tg) r) ++ [(0, (false, .cols ml [.int .i64 tl, .int .i64 vl, .int .i64 gl])), (1, (false, .cells [.int .i64 tg]))]]) (fn := mkFn Try.f64) (ts := [0, 1, 7, 8]) (n := 400) rfl (by decide) (by simp) (names_of rfl) ?_ ?_ ?_ h
  · intro s; cases s <;> exact ⟨hd_ok _ _, by simp [I64], names_of rfl, Nat.le_of_ble_eq_true rfl⟩
  · intro Kst Kret x hS hR h
    exact Holds.eq (te64 cond Kst Kret al nl ml tl vl gl tg) (be64 al nl ml tl vl gl tg Kst Kret x hS hR h)
  · intro Kst Kret x hS hR s h
    cases s with
    | h0 x0 => exact Holds.eq (t64_0 cond Kst Kret al nl ml tl vl gl tg x0) (b64_0 al nl ml tl vl gl tg Kst Kret x hS hR x0 h)
noncomputable def k64 : Con := ⟨64, [.one (.list [.int .i64, .int .i64, .int .i64]), .fn 50 [.cell [.int .i64]]], fun (x : (Nat × Nat × Nat × (Nat → Int) × (Nat → Int) × (Nat → Int) × Unit) × ((Int × Unit) × Unit) × Unit) => (fun (al nl ml : Nat) (tl : Nat → Int) (vl : Nat → Int) (gl : Nat → Int) (tg : Int) => decide (al + nl ≤ ml ∧ nl ≤ 1000000)) x.1.1 x.1.2.1 x.1.2.2.1 x.1.2.2.2.1 x.1.2.2.2.2.1 x.1.2.2.2.2.2.1 x.2.1.1.1, fun (x : (Nat × Nat × Nat × (Nat → Int) × (Nat → Int) × (Nat → Int) × Unit) × ((Int × Unit) × Unit) × Unit) => (fun (al nl ml : Nat) (tl : Nat → Int) (vl : Nat → Int) (gl : Nat → Int) (tg : Int) => (V64 al nl ml tl vl gl tg) (S.idx (fun j => decide (tl (j + al) = tg)) 0 nl)) x.1.1 x.1.2.1 x.1.2.2.1 x.1.2.2.2.1 x.1.2.2.2.2.1 x.1.2.2.2.2.2.1 x.2.1.1.1, fun (x : (Nat × Nat × Nat × (Nat → Int) × (Nat → Int) × (Nat → Int) × Unit) × ((Int × Unit) × Unit) × Unit) => (fun (al nl ml : Nat) (tl : Nat → Int) (vl : Nat → Int) (gl : Nat → Int) (tg : Int) => (N64 al nl ml tl vl gl tg) (S.idx (fun j => decide (tl (j + al) = tg)) 0 nl)) x.1.1 x.1.2.1 x.1.2.2.1 x.1.2.2.2.1 x.1.2.2.2.2.1 x.1.2.2.2.2.2.1 x.2.1.1.1, fun _ _ => .dead⟩
theorem s64' (al nl ml : Nat) (tl : Nat → Int) (vl : Nat → Int) (gl : Nat → Int) (tg : Int) (hp : al + nl ≤ ml ∧ nl ≤ 1000000) : ∀ k i : Nat, i + k = nl → Comes (q64 al nl ml tl vl gl tg) (.h0 (i : Int)) (S.idx (fun j => decide (tl (j + al) = tg)) i k) := by
  obtain ⟨hp1, hp2⟩ := hp
  intro k
  induction k with
  | zero =>
    intro i hi
    apply Comes.of
    show Goes _ _ _
    (first | rw [q64] | unfold q64)
    repeat' first
      | with_reducible refine goes_if (fun h => ?_) (fun h => ?_) <;> (try simp only [lim64, decide_eq_true_eq, decide_eq_false_iff_not, Int.toNat_natCast, toNat_pred, toNat_succ, Option.getD_some, Option.getD_none, Bool.not_eq_true', Bool.not_eq_false', Bool.and_eq_true, Bool.or_eq_true, Bool.and_eq_false_iff, Bool.or_eq_false_iff, bne_iff_ne, beq_iff_eq, bne_eq_false_iff_eq, beq_eq_false_iff_ne, ne_eq, not_and, Int.not_le, Int.not_lt, ge_iff_le, gt_iff_lt, Nat.not_lt, Nat.not_le, Bool.not_eq_true, Bool.not_eq_false, Bool.true_eq_false, Bool.false_eq_true, not_false_eq_true, not_true_eq_false] at h)
      | exact goes_none.mpr (by omega)
    all_goals first | (exfalso; omega) | rfl | (refine Eq.mpr (congrArg (Comes _ _) ?_) True; simp only [S.idx, Bool.and_eq_true, Bool.or_eq_true, decide_eq_true_eq]; (repeat' split) <;> first | rfl | omega | (exfalso; omega) | (exfalso; simp_all; done) | (exfalso; simp_all; omega) | simp_all) | (refine goes_inr.mpr ?_; simp only [S.idx, Bool.and_eq_true, Bool.or_eq_true, decide_eq_true_eq]; (repeat' split) <;> first | rfl | omega | (exfalso; omega) | (exfalso; simp_all; done) | (exfalso; simp_all; omega) | simp_all)
  | succ k ih =>
    intro i hi
    have ih := ih (i + 1) (by omega)
    apply Comes.of
    show Goes _ _ _
    (first | rw [q64] | unfold q64)
    repeat' first
      | with_reducible refine goes_if (fun h => ?_) (fun h => ?_) <;> (try simp only [lim64, decide_eq_true_eq, decide_eq_false_iff_not, Int.toNat_natCast, toNat_pred, toNat_succ, Option.getD_some, Option.getD_none, Bool.not_eq_true', Bool.not_eq_false', Bool.and_eq_true, Bool.or_eq_true, Bool.and_eq_false_iff, Bool.or_eq_false_iff, bne_iff_ne, beq_iff_eq, bne_eq_false_iff_eq, beq_eq_false_iff_ne, ne_eq, not_and, Int.not_le, Int.not_lt, ge_iff_le, gt_iff_lt, Nat.not_lt, Nat.not_le, Bool.not_eq_true, Bool.not_eq_false, Bool.true_eq_false, Bool.false_eq_true, not_false_eq_true, not_true_eq_false] at h)
      | exact goes_none.mpr (by omega)
    all_goals first | (exfalso; omega) | rfl | (refine Eq.mpr (congrArg (Comes _ _) ?_) ih; simp only [S.idx, Bool.and_eq_true, Bool.or_eq_true, decide_eq_true_eq]; (repeat' split) <;> first | rfl | omega | (exfalso; omega) | (exfalso; simp_all; done) | (exfalso; simp_all; omega) | simp_all) | (refine goes_inr.mpr ?_; simp only [S.idx, Bool.and_eq_true, Bool.or_eq_true, decide_eq_true_eq]; (repeat' split) <;> first | rfl | omega | (exfalso; omega) | (exfalso; simp_all; done) | (exfalso; simp_all; omega) | simp_all)
theorem s64 (al nl ml : Nat) (tl : Nat → Int) (vl : Nat → Int) (gl : Nat → Int) (tg : Int) (hp : al + nl ≤ ml ∧ nl ≤ 1000000) : Goes ((q64 al nl ml tl vl gl tg)) ((p64 al nl ml tl vl gl tg)) (S.idx (fun j => decide (tl (j + al) = tg)) 0 nl) := by
  exact s64' al nl ml tl vl gl tg hp nl 0 (by omega)
theorem k64_ok : k64.ok Try.prog := by
  intro x hx
  obtain ⟨⟨al, nl, ml, tl, vl, gl, _⟩, ⟨⟨tg, _⟩, _⟩, _⟩ := x
  obtain ⟨h1, h2⟩ := a64 al nl ml tl vl gl tg (s64 al nl ml tl vl gl tg (of_dec hx rfl))
  exact ⟨⟨400, (by decide : 2 + 1 + 0 ≤ 400), h1⟩, h2⟩
noncomputable def xC0 (test : Bool → Prop → Prop → Prop) : Ext := consX test [k64]
theorem xC0_ok : ExtOk Try.prog (xC0 cond) := consX_ok ⟨k64_ok, trivial⟩

end Go.Ev
