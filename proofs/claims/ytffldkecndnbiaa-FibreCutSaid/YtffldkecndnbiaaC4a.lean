/-
  Index.
-/
import Derived.Test.YtffldkecndnbiaaL0
namespace Go.Ev
open Go.Proofs
set_option linter.unusedVariables false
set_option linter.unusedSimpArgs false
set_option maxRecDepth 100000
inductive St55 where
  | h0 (x0 : Int)
abbrev Rt55 := Int
noncomputable def V55 (aa na ma : Nat) (ta : Nat → Int) (c0 : Int) (r : Rt55) : PV := PV.int IntKind.i64 r
noncomputable def N55 (aa na ma : Nat) (ta : Nat → Int) (c0 : Int) (r : Rt55) : List Blk := []
noncomputable def I55 (aa na ma : Nat) (ta : Nat → Int) (c0 : Int) : St55 → Hd
  | .h0 x0 => ⟨hd Try.f55 0, [PV.loose (PA.mk (0) (1) aa (0)) na, PV.int IntKind.i64 c0,
 PV.int IntKind.i64 (↑na : Int), PV.int IntKind.i64 x0], [[], [(0, (false, .cols ma [.int .i64 ta]))]], 1⟩
noncomputable def q55 (aa na ma : Nat) (ta : Nat → Int) (c0 : Int) : St55 → Option (St55 ⊕ Rt55)
  | .h0 x0 => bif (decide (x0 < (↑na : Int)))
 then (bif (decide ((0 : Int) ≤ x0 ∧ x0 < (↑na : Int)))
 then (bif (decide (Int.toNat x0 + aa < ma))
 then (bif (c0 == ta (Int.toNat x0 + aa))
 then (some (.inr (x0)))
 else (bif (lim IntKind.i64 (x0 + (1 : Int)))
 then (some (.inl (.h0 (x0 + (1 : Int)))))
 else (none)))
 else (none))
 else (none))
 else (some (.inr ((-1 : Int))))
noncomputable def p55 (aa na ma : Nat) (ta : Nat → Int) (c0 : Int) : Option (St55 ⊕ Rt55) := some (.inl (.h0 ((0 : Int))))
noncomputable def Te55 (test : Bool → Prop → Prop → Prop) (Kst : KS) (Kret : KR) (aa na ma : Nat) (ta : Nat → Int) (c0 : Int) : Prop :=
  Kst (hd Try.f55 0) ([PV.loose (PA.mk (0) (1) aa (0)) na, PV.int IntKind.i64 c0,
 PV.int IntKind.i64 (↑na : Int), PV.int IntKind.i64 (0 : Int)]) ([[(0, false, Blk.cols ma [Col.int IntKind.i64 ta])]]) (1)
set_option maxRecDepth 100000 in
theorem te55 (test : Bool → Prop → Prop → Prop) (Kst : KS) (Kret : KR) (aa na ma : Nat) (ta : Nat → Int) (c0 : Int) : run test Try.env true noX true 400 ⟨55, [.cd (mkFn Try.f55).body], argT 0 [.loose ⟨0, 1, aa, 0⟩ na, .int .i64 c0], [[], [(0, (false, .cols ma [.int .i64 ta]))]], 1⟩ (proj 1 [0, 1, 7, 8] Kst Kret) =
  Te55 test Kst Kret aa na ma ta c0 := by kernel_rfl
noncomputable def T55_0 (test : Bool → Prop → Prop → Prop) (Kst : KS) (Kret : KR) (aa na ma : Nat) (ta : Nat → Int) (c0 : Int) (x0 : Int) : Prop :=
  test (decide (x0 < (↑na : Int)))
 (test (decide ((0 : Int) ≤ x0 ∧ x0 < (↑na : Int)))
 (test (decide (Int.toNat x0 + aa < ma))
 (test (c0 == ta (Int.toNat x0 + aa))
 (Kret (PV.int IntKind.i64 x0) ([[(0, false, Blk.cols ma [Col.int IntKind.i64 ta])]]) (1))
 (test (lim IntKind.i64 (x0 + (1 : Int)))
 (Kst (hd Try.f55 0) ([PV.loose (PA.mk (0) (1) aa (0)) na, PV.int IntKind.i64 c0,
 PV.int IntKind.i64 (↑na : Int), PV.int IntKind.i64 (x0 + (1 : Int))]) ([[(0, false, Blk.cols ma [Col.int IntKind.i64 ta])]]) (1))
 (False)))
 (False))
 (False))
 (Kret (PV.int IntKind.i64 (-1 : Int)) ([[(0, false, Blk.cols ma [Col.int IntKind.i64 ta])]]) (1))
set_option maxRecDepth 100000 in
theorem t55_0 (test : Bool → Prop → Prop → Prop) (Kst : KS) (Kret : KR) (aa na ma : Nat) (ta : Nat → Int) (c0 : Int) (x0 : Int) : run test Try.env true noX true 400 ⟨55, hd Try.f55 0, zipT [0, 1, 7, 8] [PV.loose (PA.mk (0) (1) aa (0)) na, PV.int IntKind.i64 c0,
 PV.int IntKind.i64 (↑na : Int), PV.int IntKind.i64 x0], [[], [(0, (false, .cols ma [.int .i64 ta]))]], 1⟩ (proj 1 [0, 1, 7, 8] Kst Kret) =
  T55_0 test Kst Kret aa na ma ta c0 x0 := by kernel_rfl
set_option maxRecDepth 100000 in
theorem be55 (aa na ma : Nat) (ta : Nat → Int) (c0 : Int) (Kst : KS) (Kret : KR) (x : St55 ⊕ Rt55) (hS : HS 1 400 ((I55 aa na ma ta c0)) Kst x) (hR : HR 1 400 ((V55 aa na ma ta c0)) (fun r => [newL (1 + 1) ((N55 aa na ma ta c0) r) ++ [(0, (false, .cols ma [.int .i64 ta]))]]) Kret x) (h : (some (.inl (.h0 ((0 : Int)))) : Option (St55 ⊕ Rt55)) = some x) : Te55 cond Kst Kret aa na ma ta c0 := by
  unfold Te55
  exact stop_at hS _ h (fun n => n) rfl rfl rfl ⟨(rn_loose (use_lo rfl) rfl rfl rfl), ⟨(rn_int rfl), ⟨(rn_int rfl), ⟨(rn_int rfl), trivial⟩⟩⟩⟩ rfl (entl_bor (use_lo rfl) rfl rfl entl_nil)
set_option maxRecDepth 100000 in
theorem b55_0 (aa na ma : Nat) (ta : Nat → Int) (c0 : Int) (Kst : KS) (Kret : KR) (x : St55 ⊕ Rt55) (hS : HS 1 400 ((I55 aa na ma ta c0)) Kst x) (hR : HR 1 400 ((V55 aa na ma ta c0)) (fun r => [newL (1 + 1) ((N55 aa na ma ta c0) r) ++ [(0, (false, .cols ma [.int .i64 ta]))]]) Kret x) (x0 : Int) (h : (bif (decide (x0 < (↑na : Int)))
 then (bif (decide ((0 : Int) ≤ x0 ∧ x0 < (↑na : Int)))
 then (bif (decide (Int.toNat x0 + aa < ma))
 then (bif (c0 == ta (Int.toNat x0 + aa))
 then (some (.inr (x0)))
 else (bif (lim IntKind.i64 (x0 + (1 : Int)))
 then (some (.inl (.h0 (x0 + (1 : Int)))))
 else (none)))
 else (none))
 else (none))
 else (some (.inr ((-1 : Int)))) : Option (St55 ⊕ Rt55)) = some x) : T55_0 cond Kst Kret aa na ma ta c0 x0 := by
  unfold T55_0
  exact bif_split h
   (fun c0 h => bif_split h
   (fun c1 h => bif_split h
   (fun c2 h => bif_split h
   (fun c3 h => ret_at hR _ h (fun n => n) rfl rfl rfl (rn_int rfl) rfl (entl_bor (use_lo rfl) rfl rfl entl_nil))
   (fun c3 h => bif_split h
   (fun c4 h => stop_at hS _ h (fun n => n) rfl rfl rfl ⟨(rn_loose (use_lo rfl) rfl rfl rfl), ⟨(rn_int rfl), ⟨(rn_int rfl), ⟨(rn_int rfl), trivial⟩⟩⟩⟩ rfl (entl_bor (use_lo rfl) rfl rfl entl_nil))
   (fun c4 h => no_some h)))
   (fun c2 h => no_some h))
   (fun c1 h => no_some h))
   (fun c0 h => ret_at hR _ h (fun n => n) rfl rfl rfl (rn_int rfl) rfl (entl_bor (use_lo rfl) rfl rfl entl_nil))
theorem a55 (aa na ma : Nat) (ta : Nat → Int) (c0 : Int) {r : Rt55} (h : Goes ((q55 aa na ma ta c0)) ((p55 aa na ma ta c0)) r) : CallR Try.prog 55 [.loose ⟨0, 1, aa, 0⟩ na, .int .i64 c0] [[(0, (false, .cols ma [.int .i64 ta]))]] 1 ((V55 aa na ma ta c0) r) ((fun r => [newL (1 + 1) ((N55 aa na ma ta c0) r) ++ [(0, (false, .cols ma [.int .i64 ta]))]]) r) 400 ∧ ∃ F, Try.prog.funcs[55]? = some F ∧ F.body.isSome = true ∧ (F.name == "runtime.NumGoroutine") = false := by
  refine dec_calls (f := 55) (lo := 1) (hi := 400) (H := [[(0, (false, .cols ma [.int .i64 ta]))]]) (args := [.loose ⟨0, 1, aa, 0⟩ na, .int .i64 c0]) Try.envOk Try.mixed noX_ok ((I55 aa na ma ta c0)) ((V55 aa na ma ta c0)) (fun r => [newL (1 + 1) ((N55 aa na ma ta c0) r) ++ [(0, (false, .cols ma [.int .i64 ta]))]]) (fn := mkFn Try.f55) (ts := [0, 1, 7, 8]) (n := 400) rfl (by decide) (by simp) (names_of rfl) ?_ ?_ ?_ h
  · intro s; cases s <;> exact ⟨hd_ok _ _, by simp [I55], names_of rfl, Nat.le_of_ble_eq_true rfl⟩
  · intro Kst Kret x hS hR h
    exact Holds.eq (te55 cond Kst Kret aa na ma ta c0) (be55 aa na ma ta c0 Kst Kret x hS hR h)
  · intro Kst Kret x hS hR s h
    cases s with
    | h0 x0 => exact Holds.eq (t55_0 cond Kst Kret aa na ma ta c0 x0) (b55_0 aa na ma ta c0 Kst Kret x hS hR x0 h)
noncomputable def k55 : Con := ⟨55, [.one (.list [.int .i64]), .one (.plain (.int .i64))], fun (x : (Nat × Nat × Nat × (Nat → Int) × Unit) × Int × Unit) => (fun (aa na ma : Nat) (ta : Nat → Int) (c0 : Int) => decide (aa + na ≤ ma ∧ na ≤ 1000000)) x.1.1 x.1.2.1 x.1.2.2.1 x.1.2.2.2.1 x.2.1, fun (x : (Nat × Nat × Nat × (Nat → Int) × Unit) × Int × Unit) => (fun (aa na ma : Nat) (ta : Nat → Int) (c0 : Int) => (V55 aa na ma ta c0) (S.idx (fun j => decide (ta (j + aa) = c0)) 0 na)) x.1.1 x.1.2.1 x.1.2.2.1 x.1.2.2.2.1 x.2.1, fun (x : (Nat × Nat × Nat × (Nat → Int) × Unit) × Int × Unit) => (fun (aa na ma : Nat) (ta : Nat → Int) (c0 : Int) => (N55 aa na ma ta c0) (S.idx (fun j => decide (ta (j + aa) = c0)) 0 na)) x.1.1 x.1.2.1 x.1.2.2.1 x.1.2.2.2.1 x.2.1, fun _ _ => .dead⟩
theorem s55' (aa na ma : Nat) (ta : Nat → Int) (c0 : Int) (hp : aa + na ≤ ma ∧ na ≤ 1000000) : ∀ k i : Nat, i + k = na → Comes (q55 aa na ma ta c0) (.h0 (i : Int)) (S.idx (fun j => decide (ta (j + aa) = c0)) i k) := by
  obtain ⟨hp1, hp2⟩ := hp
  intro k
  induction k with
  | zero =>
    intro i hi
    apply Comes.of
    show Goes _ _ _
    (first | rw [q55] | unfold q55)
    repeat' first
      | with_reducible refine goes_if (fun h => ?_) (fun h => ?_) <;> (try simp only [lim64, decide_eq_true_eq, decide_eq_false_iff_not, Int.toNat_natCast, toNat_pred, toNat_succ, Option.getD_some, Option.getD_none, Bool.not_eq_true', Bool.not_eq_false', Bool.and_eq_true, Bool.or_eq_true, Bool.and_eq_false_iff, Bool.or_eq_false_iff, bne_iff_ne, beq_iff_eq, bne_eq_false_iff_eq, beq_eq_false_iff_ne, ne_eq, not_and, Int.not_le, Int.not_lt, ge_iff_le, gt_iff_lt, Nat.not_lt, Nat.not_le, Bool.not_eq_true, Bool.not_eq_false, Bool.true_eq_false, Bool.false_eq_true, not_false_eq_true, not_true_eq_false] at h)
      | exact goes_none.mpr (by omega)
    all_goals first | (exfalso; omega) | rfl | (refine Eq.mpr (congrArg (Comes _ _) ?_) True; simp only [S.idx, Bool.and_eq_true, Bool.or_eq_true, decide_eq_true_eq]; (repeat' split) <;> first | rfl | omega | (exfalso; omega) | (exfalso; simp_all; done) | (exfalso; simp_all; omega) | simp_all) | (refine goes_inr.mpr ?_; simp only [S.idx, Bool.and_eq_true, Bool.or_eq_true, decide_eq_true_eq]; (repeat' split) <;> first | rfl | omega | (exfalso; omega) | (exfalso; simp_all; done) | (exfalso; simp_all; omega) | simp_all)
  | succ k ih =>
    intro i hi
    have ih := ih (i + 1) (by omega)
    apply Comes.of
    show Goes _ _ _
    (first | rw [q55] | unfold q55)
    repeat' first
      | with_reducible refine goes_if (fun h => ?_) (fun h => ?_) <;> (try simp only [lim64, decide_eq_true_eq, decide_eq_false_iff_not, Int.toNat_natCast, toNat_pred, toNat_succ, Option.getD_some, Option.getD_none, Bool.not_eq_true', Bool.not_eq_false', Bool.and_eq_true, Bool.or_eq_true, Bool.and_eq_false_iff, Bool.or_eq_false_iff, bne_iff_ne, beq_iff_eq, bne_eq_false_iff_eq, beq_eq_false_iff_ne, ne_eq, not_and, Int.not_le, Int.not_lt, ge_iff_le, gt_iff_lt, Nat.not_lt, Nat.not_le, Bool.not_eq_true, Bool.not_eq_false, Bool.true_eq_false, Bool.false_eq_true, not_false_eq_true, not_true_eq_false] at h)
      | exact goes_none.mpr (by omega)
    all_goals first | (exfalso; omega) | rfl | (refine Eq.mpr (congrArg (Comes _ _) ?_) ih; simp only [S.idx, Bool.and_eq_true, Bool.or_eq_true, decide_eq_true_eq]; (repeat' split) <;> first | rfl | omega | (exfalso; omega) | (exfalso; simp_all; done) | (exfalso; simp_all; omega) | simp_all) | (refine goes_inr.mpr ?_; simp only [S.idx, Bool.and_eq_true, Bool.or_eq_true, decide_eq_true_eq]; (repeat' split) <;> first | rfl | omega | (exfalso; omega) | (exfalso; simp_all; done) | (exfalso; simp_all; omega) | simp_all)
theorem s55 (aa na ma : Nat) (ta : Nat → Int) (c0 : Int) (hp : aa + na ≤ ma ∧ na ≤ 1000000) : Goes ((q55 aa na ma ta c0)) ((p55 aa na ma ta c0)) (S.idx (fun j => decide (ta (j + aa) = c0)) 0 na) := by
  exact s55' aa na ma ta c0 hp na 0 (by omega)
theorem k55_ok : k55.ok Try.prog := by
  intro x hx
  obtain ⟨⟨aa, na, ma, ta, _⟩, c0, _⟩ := x
  obtain ⟨h1, h2⟩ := a55 aa na ma ta c0 (s55 aa na ma ta c0 (of_dec hx rfl))
  exact ⟨⟨400, (by decide : 1 + 1 + 0 ≤ 400), h1⟩, h2⟩
noncomputable def xI0 (test : Bool → Prop → Prop → Prop) : Ext := consX test [k55]
theorem xI0_ok : ExtOk Try.prog (xI0 cond) := consX_ok ⟨k55_ok, trivial⟩

end Go.Ev
