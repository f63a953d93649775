/-
  Names: their bytes.
-/
import Derived.Test.YtamccaclkkgkbaaNm0
namespace Go.Ev
open Go.Proofs
set_option linter.unusedVariables false
set_option linter.unusedSimpArgs false
set_option maxRecDepth 100000
inductive St72 where
  | h0 (x0 : Int)
abbrev Rt72 := Int
noncomputable def V72 (ws : ByteArray) (fr : Int) (r : Rt72) : PV := PV.int IntKind.i64 r
noncomputable def N72 (ws : ByteArray) (fr : Int) (r : Rt72) : List Blk := []
noncomputable def I72 (ws : ByteArray) (fr : Int) : St72 → Hd
  | .h0 x0 => ⟨hd Try.f72 0, [PV.str ws, PV.int IntKind.i64 fr, PV.fn (Go.Fn.func (73)) [] [],
 PV.int IntKind.i64 x0], [[], []], 0⟩
noncomputable def q72 (ws : ByteArray) (fr : Int) : St72 → Option (St72 ⊕ Rt72)
  | .h0 x0 => bif (lim IntKind.i64 (fr + x0))
 then (bif (decide (fr + x0 < (↑(ByteArray.size ws) : Int)))
 then (bif (decide ((0 : Int) ≤ fr + x0 ∧ fr + x0 < (↑(ByteArray.size ws) : Int)))
 then (bif (decide (keys ws (Int.toNat (fr + x0)) ≥ (97 : Int)))
 then (bif (decide (keys ws (Int.toNat (fr + x0)) ≤ (122 : Int)))
 then (bif (lim IntKind.i64 (x0 + (1 : Int)))
 then (some (.inl (.h0 (x0 + (1 : Int)))))
 else (none))
 else (bif (decide (keys ws (Int.toNat (fr + x0)) ≥ (48 : Int)))
 then (bif (decide (keys ws (Int.toNat (fr + x0)) ≤ (57 : Int)))
 then (bif (lim IntKind.i64 (x0 + (1 : Int)))
 then (some (.inl (.h0 (x0 + (1 : Int)))))
 else (none))
 else (bif (keys ws (Int.toNat (fr + x0)) == (95 : Int))
 then (bif (lim IntKind.i64 (x0 + (1 : Int)))
 then (some (.inl (.h0 (x0 + (1 : Int)))))
 else (none))
 else (some (.inr (x0)))))
 else (bif (keys ws (Int.toNat (fr + x0)) == (95 : Int))
 then (bif (lim IntKind.i64 (x0 + (1 : Int)))
 then (some (.inl (.h0 (x0 + (1 : Int)))))
 else (none))
 else (some (.inr (x0))))))
 else (bif (decide (keys ws (Int.toNat (fr + x0)) ≥ (48 : Int)))
 then (bif (decide (keys ws (Int.toNat (fr + x0)) ≤ (57 : Int)))
 then (bif (lim IntKind.i64 (x0 + (1 : Int)))
 then (some (.inl (.h0 (x0 + (1 : Int)))))
 else (none))
 else (bif (keys ws (Int.toNat (fr + x0)) == (95 : Int))
 then (bif (lim IntKind.i64 (x0 + (1 : Int)))
 then (some (.inl (.h0 (x0 + (1 : Int)))))
 else (none))
 else (some (.inr (x0)))))
 else (bif (keys ws (Int.toNat (fr + x0)) == (95 : Int))
 then (bif (lim IntKind.i64 (x0 + (1 : Int)))
 then (some (.inl (.h0 (x0 + (1 : Int)))))
 else (none))
 else (some (.inr (x0))))))
 else (none))
 else (some (.inr (x0))))
 else (none)
noncomputable def p72 (ws : ByteArray) (fr : Int) : Option (St72 ⊕ Rt72) := some (.inl (.h0 ((0 : Int))))
noncomputable def Te72 (test : Bool → Prop → Prop → Prop) (Kst : KS) (Kret : KR) (ws : ByteArray) (fr : Int) : Prop :=
  Kst (hd Try.f72 0) ([PV.str ws, PV.int IntKind.i64 fr, PV.fn (Go.Fn.func (73)) [] [],
 PV.int IntKind.i64 (0 : Int)]) ([[]]) (0)
set_option maxRecDepth 100000 in
theorem te72 (test : Bool → Prop → Prop → Prop) (Kst : KS) (Kret : KR) (ws : ByteArray) (fr : Int) : run test Try.env true noX true 400 ⟨72, [.cd (mkFn Try.f72).body], argT 0 [.str ws, .int .i64 fr, .fn (.func 73) [] []], [[], []], 0⟩ (proj 0 [0, 1, 2, 7] Kst Kret) =
  Te72 test Kst Kret ws fr := by kernel_rfl
noncomputable def T72_0 (test : Bool → Prop → Prop → Prop) (Kst : KS) (Kret : KR) (ws : ByteArray) (fr : Int) (x0 : Int) : Prop :=
  test (lim IntKind.i64 (fr + x0))
 (test (decide (fr + x0 < (↑(ByteArray.size ws) : Int)))
 (test (lim IntKind.i64 (fr + x0))
 (test (decide ((0 : Int) ≤ fr + x0 ∧ fr + x0 < (↑(ByteArray.size ws) : Int)))
 (test (decide (keys ws (Int.toNat (fr + x0)) ≥ (97 : Int)))
 (test (decide (keys ws (Int.toNat (fr + x0)) ≤ (122 : Int)))
 (test (lim IntKind.i64 (x0 + (1 : Int)))
 (Kst (hd Try.f72 0) ([PV.str ws, PV.int IntKind.i64 fr, PV.fn (Go.Fn.func (73)) [] [],
 PV.int IntKind.i64 (x0 + (1 : Int))]) ([[]]) (0))
 (False))
 (test (decide (keys ws (Int.toNat (fr + x0)) ≥ (48 : Int)))
 (test (decide (keys ws (Int.toNat (fr + x0)) ≤ (57 : Int)))
 (test (lim IntKind.i64 (x0 + (1 : Int)))
 (Kst (hd Try.f72 0) ([PV.str ws, PV.int IntKind.i64 fr, PV.fn (Go.Fn.func (73)) [] [],
 PV.int IntKind.i64 (x0 + (1 : Int))]) ([[]]) (0))
 (False))
 (test (keys ws (Int.toNat (fr + x0)) == (95 : Int))
 (test (lim IntKind.i64 (x0 + (1 : Int)))
 (Kst (hd Try.f72 0) ([PV.str ws, PV.int IntKind.i64 fr, PV.fn (Go.Fn.func (73)) [] [],
 PV.int IntKind.i64 (x0 + (1 : Int))]) ([[]]) (0))
 (False))
 (Kret (PV.int IntKind.i64 x0) ([[]]) (0))))
 (test (keys ws (Int.toNat (fr + x0)) == (95 : Int))
 (test (lim IntKind.i64 (x0 + (1 : Int)))
 (Kst (hd Try.f72 0) ([PV.str ws, PV.int IntKind.i64 fr, PV.fn (Go.Fn.func (73)) [] [],
 PV.int IntKind.i64 (x0 + (1 : Int))]) ([[]]) (0))
 (False))
 (Kret (PV.int IntKind.i64 x0) ([[]]) (0)))))
 (test (decide (keys ws (Int.toNat (fr + x0)) ≥ (48 : Int)))
 (test (decide (keys ws (Int.toNat (fr + x0)) ≤ (57 : Int)))
 (test (lim IntKind.i64 (x0 + (1 : Int)))
 (Kst (hd Try.f72 0) ([PV.str ws, PV.int IntKind.i64 fr, PV.fn (Go.Fn.func (73)) [] [],
 PV.int IntKind.i64 (x0 + (1 : Int))]) ([[]]) (0))
 (False))
 (test (keys ws (Int.toNat (fr + x0)) == (95 : Int))
 (test (lim IntKind.i64 (x0 + (1 : Int)))
 (Kst (hd Try.f72 0) ([PV.str ws, PV.int IntKind.i64 fr, PV.fn (Go.Fn.func (73)) [] [],
 PV.int IntKind.i64 (x0 + (1 : Int))]) ([[]]) (0))
 (False))
 (Kret (PV.int IntKind.i64 x0) ([[]]) (0))))
 (test (keys ws (Int.toNat (fr + x0)) == (95 : Int))
 (test (lim IntKind.i64 (x0 + (1 : Int)))
 (Kst (hd Try.f72 0) ([PV.str ws, PV.int IntKind.i64 fr, PV.fn (Go.Fn.func (73)) [] [],
 PV.int IntKind.i64 (x0 + (1 : Int))]) ([[]]) (0))
 (False))
 (Kret (PV.int IntKind.i64 x0) ([[]]) (0)))))
 (False))
 (False))
 (Kret (PV.int IntKind.i64 x0) ([[]]) (0)))
 (False)
set_option maxRecDepth 100000 in
theorem t72_0 (test : Bool → Prop → Prop → Prop) (Kst : KS) (Kret : KR) (ws : ByteArray) (fr : Int) (x0 : Int) : run test Try.env true noX true 400 ⟨72, hd Try.f72 0, zipT [0, 1, 2, 7] [PV.str ws, PV.int IntKind.i64 fr, PV.fn (Go.Fn.func (73)) [] [],
 PV.int IntKind.i64 x0], [[], []], 0⟩ (proj 0 [0, 1, 2, 7] Kst Kret) =
  T72_0 test Kst Kret ws fr x0 := by kernel_rfl
attribute [local irreducible] Int.subNatNat in
set_option maxRecDepth 100000 in
theorem be72 (ws : ByteArray) (fr : Int) (Kst : KS) (Kret : KR) (x : St72 ⊕ Rt72) (hS : HS 0 400 ((I72 ws fr)) Kst x) (hR : HR 0 400 ((V72 ws fr)) (fun r => [newL (0 + 1) ((N72 ws fr) r) ++ []]) Kret x) (h : (some (.inl (.h0 ((0 : Int)))) : Option (St72 ⊕ Rt72)) = some x) : Te72 cond Kst Kret ws fr := by
  unfold Te72
  exact stop_at hS _ h (fun n => n) rfl rfl rfl ⟨(rn_str rfl), ⟨(rn_int rfl), ⟨(rn_fn trivial trivial), ⟨(rn_int rfl), trivial⟩⟩⟩⟩ rfl entl_nil
attribute [local irreducible] Int.subNatNat in
set_option maxRecDepth 100000 in
theorem b72_0 (ws : ByteArray) (fr : Int) (Kst : KS) (Kret : KR) (x : St72 ⊕ Rt72) (hS : HS 0 400 ((I72 ws fr)) Kst x) (hR : HR 0 400 ((V72 ws fr)) (fun r => [newL (0 + 1) ((N72 ws fr) r) ++ []]) Kret x) (x0 : Int) (h : (bif (lim IntKind.i64 (fr + x0))
 then (bif (decide (fr + x0 < (↑(ByteArray.size ws) : Int)))
 then (bif (decide ((0 : Int) ≤ fr + x0 ∧ fr + x0 < (↑(ByteArray.size ws) : Int)))
 then (bif (decide (keys ws (Int.toNat (fr + x0)) ≥ (97 : Int)))
 then (bif (decide (keys ws (Int.toNat (fr + x0)) ≤ (122 : Int)))
 then (bif (lim IntKind.i64 (x0 + (1 : Int)))
 then (some (.inl (.h0 (x0 + (1 : Int)))))
 else (none))
 else (bif (decide (keys ws (Int.toNat (fr + x0)) ≥ (48 : Int)))
 then (bif (decide (keys ws (Int.toNat (fr + x0)) ≤ (57 : Int)))
 then (bif (lim IntKind.i64 (x0 + (1 : Int)))
 then (some (.inl (.h0 (x0 + (1 : Int)))))
 else (none))
 else (bif (keys ws (Int.toNat (fr + x0)) == (95 : Int))
 then (bif (lim IntKind.i64 (x0 + (1 : Int)))
 then (some (.inl (.h0 (x0 + (1 : Int)))))
 else (none))
 else (some (.inr (x0)))))
 else (bif (keys ws (Int.toNat (fr + x0)) == (95 : Int))
 then (bif (lim IntKind.i64 (x0 + (1 : Int)))
 then (some (.inl (.h0 (x0 + (1 : Int)))))
 else (none))
 else (some (.inr (x0))))))
 else (bif (decide (keys ws (Int.toNat (fr + x0)) ≥ (48 : Int)))
 then (bif (decide (keys ws (Int.toNat (fr + x0)) ≤ (57 : Int)))
 then (bif (lim IntKind.i64 (x0 + (1 : Int)))
 then (some (.inl (.h0 (x0 + (1 : Int)))))
 else (none))
 else (bif (keys ws (Int.toNat (fr + x0)) == (95 : Int))
 then (bif (lim IntKind.i64 (x0 + (1 : Int)))
 then (some (.inl (.h0 (x0 + (1 : Int)))))
 else (none))
 else (some (.inr (x0)))))
 else (bif (keys ws (Int.toNat (fr + x0)) == (95 : Int))
 then (bif (lim IntKind.i64 (x0 + (1 : Int)))
 then (some (.inl (.h0 (x0 + (1 : Int)))))
 else (none))
 else (some (.inr (x0))))))
 else (none))
 else (some (.inr (x0))))
 else (none) : Option (St72 ⊕ Rt72)) = some x) : T72_0 cond Kst Kret ws fr x0 := by
  unfold T72_0
  exact bif_split h
   (fun c0 h => bif_split h
   (fun c1 h => cond_yes c0 (bif_split h
   (fun c2 h => bif_split h
   (fun c3 h => bif_split h
   (fun c4 h => bif_split h
   (fun c5 h => stop_at hS _ h (fun n => n) rfl rfl rfl ⟨(rn_str rfl), ⟨(rn_int rfl), ⟨(rn_fn trivial trivial), ⟨(rn_int rfl), trivial⟩⟩⟩⟩ rfl entl_nil)
   (fun c5 h => no_some h))
   (fun c4 h => bif_split h
   (fun c5 h => bif_split h
   (fun c6 h => bif_split h
   (fun c7 h => stop_at hS _ h (fun n => n) rfl rfl rfl ⟨(rn_str rfl), ⟨(rn_int rfl), ⟨(rn_fn trivial trivial), ⟨(rn_int rfl), trivial⟩⟩⟩⟩ rfl entl_nil)
   (fun c7 h => no_some h))
   (fun c6 h => bif_split h
   (fun c7 h => bif_split h
   (fun c8 h => stop_at hS _ h (fun n => n) rfl rfl rfl ⟨(rn_str rfl), ⟨(rn_int rfl), ⟨(rn_fn trivial trivial), ⟨(rn_int rfl), trivial⟩⟩⟩⟩ rfl entl_nil)
   (fun c8 h => no_some h))
   (fun c7 h => ret_at hR _ h (fun n => n) rfl rfl rfl (rn_int rfl) rfl entl_nil)))
   (fun c5 h => bif_split h
   (fun c6 h => bif_split h
   (fun c7 h => stop_at hS _ h (fun n => n) rfl rfl rfl ⟨(rn_str rfl), ⟨(rn_int rfl), ⟨(rn_fn trivial trivial), ⟨(rn_int rfl), trivial⟩⟩⟩⟩ rfl entl_nil)
   (fun c7 h => no_some h))
   (fun c6 h => ret_at hR _ h (fun n => n) rfl rfl rfl (rn_int rfl) rfl entl_nil))))
   (fun c3 h => bif_split h
   (fun c4 h => bif_split h
   (fun c5 h => bif_split h
   (fun c6 h => stop_at hS _ h (fun n => n) rfl rfl rfl ⟨(rn_str rfl), ⟨(rn_int rfl), ⟨(rn_fn trivial trivial), ⟨(rn_int rfl), trivial⟩⟩⟩⟩ rfl entl_nil)
   (fun c6 h => no_some h))
   (fun c5 h => bif_split h
   (fun c6 h => bif_split h
   (fun c7 h => stop_at hS _ h (fun n => n) rfl rfl rfl ⟨(rn_str rfl), ⟨(rn_int rfl), ⟨(rn_fn trivial trivial), ⟨(rn_int rfl), trivial⟩⟩⟩⟩ rfl entl_nil)
   (fun c7 h => no_some h))
   (fun c6 h => ret_at hR _ h (fun n => n) rfl rfl rfl (rn_int rfl) rfl entl_nil)))
   (fun c4 h => bif_split h
   (fun c5 h => bif_split h
   (fun c6 h => stop_at hS _ h (fun n => n) rfl rfl rfl ⟨(rn_str rfl), ⟨(rn_int rfl), ⟨(rn_fn trivial trivial), ⟨(rn_int rfl), trivial⟩⟩⟩⟩ rfl entl_nil)
   (fun c6 h => no_some h))
   (fun c5 h => ret_at hR _ h (fun n => n) rfl rfl rfl (rn_int rfl) rfl entl_nil))))
   (fun c2 h => no_some h)))
   (fun c1 h => ret_at hR _ h (fun n => n) rfl rfl rfl (rn_int rfl) rfl entl_nil))
   (fun c0 h => no_some h)
theorem a72 (ws : ByteArray) (fr : Int) {r : Rt72} (h : Goes ((q72 ws fr)) ((p72 ws fr)) r) : CallR Try.prog 72 [.str ws, .int .i64 fr, .fn (.func 73) [] []] [[]] 0 ((V72 ws fr) r) ((fun r => [newL (0 + 1) ((N72 ws fr) r) ++ []]) r) 400 ∧ ∃ F, Try.prog.funcs[72]? = some F ∧ F.body.isSome = true ∧ (F.name == "runtime.NumGoroutine") = false := by
  refine dec_calls (f := 72) (lo := 0) (hi := 400) (H := [[]]) (args := [.str ws, .int .i64 fr, .fn (.func 73) [] []]) Try.envOk Try.mixed noX_ok ((I72 ws fr)) ((V72 ws fr)) (fun r => [newL (0 + 1) ((N72 ws fr) r) ++ []]) (fn := mkFn Try.f72) (ts := [0, 1, 2, 7]) (n := 400) rfl (by decide) (by simp) (names_of rfl) ?_ ?_ ?_ h
  · intro s; cases s <;> exact ⟨hd_ok _ _, by simp [I72], names_of rfl, Nat.le_of_ble_eq_true rfl⟩
  · intro Kst Kret x hS hR h
    exact Holds.eq (te72 cond Kst Kret ws fr) (be72 ws fr Kst Kret x hS hR h)
  · intro Kst Kret x hS hR s h
    cases s with
    | h0 x0 => exact Holds.eq (t72_0 cond Kst Kret ws fr x0) (b72_0 ws fr Kst Kret x hS hR x0 h)
noncomputable def k72 : Con := ⟨72, [.one (.plain (.str)), .one (.plain (.int .i64)), .fn 73 []], fun (x : ByteArray × Int × (Unit) × Unit) => (fun (ws : ByteArray) (fr : Int) => decide (ws.size ≤ 1000 ∧ fr = 0)) x.1 x.2.1, fun (x : ByteArray × Int × (Unit) × Unit) => (fun (ws : ByteArray) (fr : Int) => (V72 ws fr) (((S.runN (fun j => S.namB (keys ws j)) 0 ws.size : Nat) : Int))) x.1 x.2.1, fun (x : ByteArray × Int × (Unit) × Unit) => (fun (ws : ByteArray) (fr : Int) => (N72 ws fr) (((S.runN (fun j => S.namB (keys ws j)) 0 ws.size : Nat) : Int))) x.1 x.2.1, fun _ _ => .dead⟩
theorem s72' (ws : ByteArray) (fr : Int) (hp : ws.size ≤ 1000) (hf : fr = 0) : ∀ k i : Nat, i + k = ws.size → Comes (q72 ws fr) (.h0 (i : Int)) (((i + S.runN (fun j => S.namB (keys ws j)) i k : Nat)) : Int) := by
  intro k
  induction k with
  | zero =>
    intro i hi
    apply Comes.of
    show Goes _ _ _
    (first | rw [q72] | unfold q72)
    repeat' first
      | with_reducible refine goes_if (fun h => ?_) (fun h => ?_) <;> (try simp only [lim64, imp_false, decide_eq_true_eq, decide_eq_false_iff_not, Int.toNat_natCast, toNat_pred, toNat_succ, Option.getD_some, Option.getD_none, Bool.not_eq_true', Bool.not_eq_false', Bool.and_eq_true, Bool.or_eq_true, Bool.and_eq_false_iff, Bool.or_eq_false_iff, bne_iff_ne, beq_iff_eq, bne_eq_false_iff_eq, beq_eq_false_iff_ne, ne_eq, not_and, Int.not_le, Int.not_lt, ge_iff_le, gt_iff_lt, Nat.not_lt, Nat.not_le, Bool.not_eq_true, Bool.not_eq_false, Bool.true_eq_false, Bool.false_eq_true, not_false_eq_true, not_true_eq_false] at h)
      | exact goes_none.mpr (by omega)
    all_goals first | (exfalso; omega) | rfl
  | succ k ih =>
    intro i hi
    have ih := ih (i + 1) (by omega)
    have e0 : (0 : Int) + (i : Int) = i := Int.zero_add _
    simp only [S.runN]
    by_cases hc : (fun j => S.namB (keys ws j)) i = true
    · rw [if_pos hc]
      rw [show i + 1 + S.runN (fun j => S.namB (keys ws j)) (i + 1) k = i + (S.runN (fun j => S.namB (keys ws j)) (i + 1) k + 1) by omega] at ih
      simp only [S.namB, decide_eq_true_eq] at hc
      subst hf
      apply Comes.of
      show Goes _ _ _
      (first | rw [q72] | unfold q72)
      repeat' first
        | with_reducible refine goes_if (fun h => ?_) (fun h => ?_) <;> (try simp only [lim64, imp_false, decide_eq_true_eq, decide_eq_false_iff_not, Int.toNat_natCast, toNat_pred, toNat_succ, Option.getD_some, Option.getD_none, Bool.not_eq_true', Bool.not_eq_false', Bool.and_eq_true, Bool.or_eq_true, Bool.and_eq_false_iff, Bool.or_eq_false_iff, bne_iff_ne, beq_iff_eq, bne_eq_false_iff_eq, beq_eq_false_iff_ne, ne_eq, not_and, Int.not_le, Int.not_lt, ge_iff_le, gt_iff_lt, Nat.not_lt, Nat.not_le, Bool.not_eq_true, Bool.not_eq_false, Bool.true_eq_false, Bool.false_eq_true, not_false_eq_true, not_true_eq_false, e0] at h)
        | exact goes_none.mpr (by omega)
      all_goals first | (exfalso; omega) | exact ih | (exfalso; simp_all; done) | (exfalso; simp_all; omega)
    · rw [if_neg hc]
      simp only [S.namB, decide_eq_true_eq] at hc
      subst hf
      apply Comes.of
      show Goes _ _ _
      (first | rw [q72] | unfold q72)
      repeat' first
        | with_reducible refine goes_if (fun h => ?_) (fun h => ?_) <;> (try simp only [lim64, imp_false, decide_eq_true_eq, decide_eq_false_iff_not, Int.toNat_natCast, toNat_pred, toNat_succ, Option.getD_some, Option.getD_none, Bool.not_eq_true', Bool.not_eq_false', Bool.and_eq_true, Bool.or_eq_true, Bool.and_eq_false_iff, Bool.or_eq_false_iff, bne_iff_ne, beq_iff_eq, bne_eq_false_iff_eq, beq_eq_false_iff_ne, ne_eq, not_and, Int.not_le, Int.not_lt, ge_iff_le, gt_iff_lt, Nat.not_lt, Nat.not_le, Bool.not_eq_true, Bool.not_eq_false, Bool.true_eq_false, Bool.false_eq_true, not_false_eq_true, not_true_eq_false, e0] at h)
        | exact goes_none.mpr (by omega)
      all_goals first | (exfalso; omega) | (exact goes_inr.mpr rfl) | (exfalso; simp_all; done) | (exfalso; simp_all; omega)
theorem s72 (ws : ByteArray) (fr : Int) (hp : ws.size ≤ 1000 ∧ fr = 0) : Goes ((q72 ws fr)) ((p72 ws fr)) (((S.runN (fun j => S.namB (keys ws j)) 0 ws.size : Nat) : Int)) := by
  obtain ⟨hp1, hp2⟩ := hp
  have hm := s72' ws fr hp1 hp2 ws.size 0 (by omega)
  rw [Nat.zero_add] at hm
  show Goes _ _ _
  unfold p72
  repeat' first
    | with_reducible refine goes_if (fun h => ?_) (fun h => ?_) <;> (try simp only [lim64, imp_false, decide_eq_true_eq, decide_eq_false_iff_not, Int.toNat_natCast, toNat_pred, toNat_succ, Option.getD_some, Option.getD_none, Bool.not_eq_true', Bool.not_eq_false', Bool.and_eq_true, Bool.or_eq_true, Bool.and_eq_false_iff, Bool.or_eq_false_iff, bne_iff_ne, beq_iff_eq, bne_eq_false_iff_eq, beq_eq_false_iff_ne, ne_eq, not_and, Int.not_le, Int.not_lt, ge_iff_le, gt_iff_lt, Nat.not_lt, Nat.not_le, Bool.not_eq_true, Bool.not_eq_false, Bool.true_eq_false, Bool.false_eq_true, not_false_eq_true, not_true_eq_false] at h)
    | exact goes_none.mpr (by omega)
  all_goals first | (exfalso; omega) | exact hm

theorem k72_ok : k72.ok Try.prog := by
  intro x hx
  obtain ⟨ws, fr, ⟨_⟩, _⟩ := x
  obtain ⟨h1, h2⟩ := a72 ws fr (s72 ws fr (of_dec hx rfl))
  exact ⟨⟨400, (by decide : 0 + 1 + 0 ≤ 400), h1⟩, h2⟩
inductive St91 where
  | h0 (x0 : Int)
abbrev Rt91 := Int
noncomputable def V91 (ws : ByteArray) (r : Rt91) : PV := PV.int IntKind.i64 r
noncomputable def N91 (ws : ByteArray) (r : Rt91) : List Blk := []
noncomputable def I91 (ws : ByteArray) : St91 → Hd
  | .h0 x0 => ⟨hd Try.f91 0, [PV.str ws, PV.int IntKind.i64 x0], [[], []], 0⟩
noncomputable def q91 (ws : ByteArray) : St91 → Option (St91 ⊕ Rt91)
  | .h0 x0 => bif (decide (x0 < (↑(ByteArray.size ws) : Int)))
 then (bif (decide ((0 : Int) ≤ x0 ∧ x0 < (↑(ByteArray.size ws) : Int)))
 then (bif (decide (keys ws (Int.toNat x0) ≥ (97 : Int)))
 then (bif (decide (keys ws (Int.toNat x0) ≤ (122 : Int)))
 then (bif (lim IntKind.i64 (x0 + (1 : Int)))
 then (some (.inl (.h0 (x0 + (1 : Int)))))
 else (none))
 else (bif (decide (x0 > (0 : Int)))
 then (bif (decide (keys ws (Int.toNat x0) ≥ (48 : Int)))
 then (bif (decide (keys ws (Int.toNat x0) ≤ (57 : Int)))
 then (bif (lim IntKind.i64 (x0 + (1 : Int)))
 then (some (.inl (.h0 (x0 + (1 : Int)))))
 else (none))
 else (bif (keys ws (Int.toNat x0) == (95 : Int))
 then (bif (lim IntKind.i64 (x0 + (1 : Int)))
 then (some (.inl (.h0 (x0 + (1 : Int)))))
 else (none))
 else (some (.inr (x0)))))
 else (bif (keys ws (Int.toNat x0) == (95 : Int))
 then (bif (lim IntKind.i64 (x0 + (1 : Int)))
 then (some (.inl (.h0 (x0 + (1 : Int)))))
 else (none))
 else (some (.inr (x0)))))
 else (some (.inr (x0)))))
 else (bif (decide (x0 > (0 : Int)))
 then (bif (decide (keys ws (Int.toNat x0) ≥ (48 : Int)))
 then (bif (decide (keys ws (Int.toNat x0) ≤ (57 : Int)))
 then (bif (lim IntKind.i64 (x0 + (1 : Int)))
 then (some (.inl (.h0 (x0 + (1 : Int)))))
 else (none))
 else (bif (keys ws (Int.toNat x0) == (95 : Int))
 then (bif (lim IntKind.i64 (x0 + (1 : Int)))
 then (some (.inl (.h0 (x0 + (1 : Int)))))
 else (none))
 else (some (.inr (x0)))))
 else (bif (keys ws (Int.toNat x0) == (95 : Int))
 then (bif (lim IntKind.i64 (x0 + (1 : Int)))
 then (some (.inl (.h0 (x0 + (1 : Int)))))
 else (none))
 else (some (.inr (x0)))))
 else (some (.inr (x0)))))
 else (none))
 else (some (.inr (x0)))
noncomputable def p91 (ws : ByteArray) : Option (St91 ⊕ Rt91) := some (.inl (.h0 ((0 : Int))))
noncomputable def Te91 (test : Bool → Prop → Prop → Prop) (Kst : KS) (Kret : KR) (ws : ByteArray) : Prop :=
  Kst (hd Try.f91 0) ([PV.str ws, PV.int IntKind.i64 (0 : Int)]) ([[]]) (0)
set_option maxRecDepth 100000 in
theorem te91 (test : Bool → Prop → Prop → Prop) (Kst : KS) (Kret : KR) (ws : ByteArray) : run test Try.env true noX true 400 ⟨91, [.cd (mkFn Try.f91).body], argT 0 [.str ws], [[], []], 0⟩ (proj 0 [0, 3] Kst Kret) =
  Te91 test Kst Kret ws := by kernel_rfl
noncomputable def T91_0 (test : Bool → Prop → Prop → Prop) (Kst : KS) (Kret : KR) (ws : ByteArray) (x0 : Int) : Prop :=
  test (decide (x0 < (↑(ByteArray.size ws) : Int)))
 (test (decide ((0 : Int) ≤ x0 ∧ x0 < (↑(ByteArray.size ws) : Int)))
 (test (decide (keys ws (Int.toNat x0) ≥ (97 : Int)))
 (test (decide (keys ws (Int.toNat x0) ≤ (122 : Int)))
 (test (lim IntKind.i64 (x0 + (1 : Int)))
 (Kst (hd Try.f91 0) ([PV.str ws, PV.int IntKind.i64 (x0 + (1 : Int))]) ([[]]) (0))
 (False))
 (test (decide (x0 > (0 : Int)))
 (test (decide ((0 : Int) ≤ x0 ∧ x0 < (↑(ByteArray.size ws) : Int)))
 (test (decide (keys ws (Int.toNat x0) ≥ (48 : Int)))
 (test (decide (keys ws (Int.toNat x0) ≤ (57 : Int)))
 (test (lim IntKind.i64 (x0 + (1 : Int)))
 (Kst (hd Try.f91 0) ([PV.str ws, PV.int IntKind.i64 (x0 + (1 : Int))]) ([[]]) (0))
 (False))
 (test (decide ((0 : Int) ≤ x0 ∧ x0 < (↑(ByteArray.size ws) : Int)))
 (test (keys ws (Int.toNat x0) == (95 : Int))
 (test (lim IntKind.i64 (x0 + (1 : Int)))
 (Kst (hd Try.f91 0) ([PV.str ws, PV.int IntKind.i64 (x0 + (1 : Int))]) ([[]]) (0))
 (False))
 (Kret (PV.int IntKind.i64 x0) ([[]]) (0)))
 (False)))
 (test (decide ((0 : Int) ≤ x0 ∧ x0 < (↑(ByteArray.size ws) : Int)))
 (test (keys ws (Int.toNat x0) == (95 : Int))
 (test (lim IntKind.i64 (x0 + (1 : Int)))
 (Kst (hd Try.f91 0) ([PV.str ws, PV.int IntKind.i64 (x0 + (1 : Int))]) ([[]]) (0))
 (False))
 (Kret (PV.int IntKind.i64 x0) ([[]]) (0)))
 (False)))
 (False))
 (Kret (PV.int IntKind.i64 x0) ([[]]) (0))))
 (test (decide (x0 > (0 : Int)))
 (test (decide ((0 : Int) ≤ x0 ∧ x0 < (↑(ByteArray.size ws) : Int)))
 (test (decide (keys ws (Int.toNat x0) ≥ (48 : Int)))
 (test (decide (keys ws (Int.toNat x0) ≤ (57 : Int)))
 (test (lim IntKind.i64 (x0 + (1 : Int)))
 (Kst (hd Try.f91 0) ([PV.str ws, PV.int IntKind.i64 (x0 + (1 : Int))]) ([[]]) (0))
 (False))
 (test (decide ((0 : Int) ≤ x0 ∧ x0 < (↑(ByteArray.size ws) : Int)))
 (test (keys ws (Int.toNat x0) == (95 : Int))
 (test (lim IntKind.i64 (x0 + (1 : Int)))
 (Kst (hd Try.f91 0) ([PV.str ws, PV.int IntKind.i64 (x0 + (1 : Int))]) ([[]]) (0))
 (False))
 (Kret (PV.int IntKind.i64 x0) ([[]]) (0)))
 (False)))
 (test (decide ((0 : Int) ≤ x0 ∧ x0 < (↑(ByteArray.size ws) : Int)))
 (test (keys ws (Int.toNat x0) == (95 : Int))
 (test (lim IntKind.i64 (x0 + (1 : Int)))
 (Kst (hd Try.f91 0) ([PV.str ws, PV.int IntKind.i64 (x0 + (1 : Int))]) ([[]]) (0))
 (False))
 (Kret (PV.int IntKind.i64 x0) ([[]]) (0)))
 (False)))
 (False))
 (Kret (PV.int IntKind.i64 x0) ([[]]) (0))))
 (False))
 (Kret (PV.int IntKind.i64 x0) ([[]]) (0))
set_option maxRecDepth 100000 in
theorem t91_0 (test : Bool → Prop → Prop → Prop) (Kst : KS) (Kret : KR) (ws : ByteArray) (x0 : Int) : run test Try.env true noX true 400 ⟨91, hd Try.f91 0, zipT [0, 3] [PV.str ws, PV.int IntKind.i64 x0], [[], []], 0⟩ (proj 0 [0, 3] Kst Kret) =
  T91_0 test Kst Kret ws x0 := by kernel_rfl
attribute [local irreducible] Int.subNatNat in
set_option maxRecDepth 100000 in
theorem be91 (ws : ByteArray) (Kst : KS) (Kret : KR) (x : St91 ⊕ Rt91) (hS : HS 0 400 ((I91 ws)) Kst x) (hR : HR 0 400 ((V91 ws)) (fun r => [newL (0 + 1) ((N91 ws) r) ++ []]) Kret x) (h : (some (.inl (.h0 ((0 : Int)))) : Option (St91 ⊕ Rt91)) = some x) : Te91 cond Kst Kret ws := by
  unfold Te91
  exact stop_at hS _ h (fun n => n) rfl rfl rfl ⟨(rn_str rfl), ⟨(rn_int rfl), trivial⟩⟩ rfl entl_nil
attribute [local irreducible] Int.subNatNat in
set_option maxRecDepth 100000 in
theorem b91_0 (ws : ByteArray) (Kst : KS) (Kret : KR) (x : St91 ⊕ Rt91) (hS : HS 0 400 ((I91 ws)) Kst x) (hR : HR 0 400 ((V91 ws)) (fun r => [newL (0 + 1) ((N91 ws) r) ++ []]) Kret x) (x0 : Int) (h : (bif (decide (x0 < (↑(ByteArray.size ws) : Int)))
 then (bif (decide ((0 : Int) ≤ x0 ∧ x0 < (↑(ByteArray.size ws) : Int)))
 then (bif (decide (keys ws (Int.toNat x0) ≥ (97 : Int)))
 then (bif (decide (keys ws (Int.toNat x0) ≤ (122 : Int)))
 then (bif (lim IntKind.i64 (x0 + (1 : Int)))
 then (some (.inl (.h0 (x0 + (1 : Int)))))
 else (none))
 else (bif (decide (x0 > (0 : Int)))
 then (bif (decide (keys ws (Int.toNat x0) ≥ (48 : Int)))
 then (bif (decide (keys ws (Int.toNat x0) ≤ (57 : Int)))
 then (bif (lim IntKind.i64 (x0 + (1 : Int)))
 then (some (.inl (.h0 (x0 + (1 : Int)))))
 else (none))
 else (bif (keys ws (Int.toNat x0) == (95 : Int))
 then (bif (lim IntKind.i64 (x0 + (1 : Int)))
 then (some (.inl (.h0 (x0 + (1 : Int)))))
 else (none))
 else (some (.inr (x0)))))
 else (bif (keys ws (Int.toNat x0) == (95 : Int))
 then (bif (lim IntKind.i64 (x0 + (1 : Int)))
 then (some (.inl (.h0 (x0 + (1 : Int)))))
 else (none))
 else (some (.inr (x0)))))
 else (some (.inr (x0)))))
 else (bif (decide (x0 > (0 : Int)))
 then (bif (decide (keys ws (Int.toNat x0) ≥ (48 : Int)))
 then (bif (decide (keys ws (Int.toNat x0) ≤ (57 : Int)))
 then (bif (lim IntKind.i64 (x0 + (1 : Int)))
 then (some (.inl (.h0 (x0 + (1 : Int)))))
 else (none))
 else (bif (keys ws (Int.toNat x0) == (95 : Int))
 then (bif (lim IntKind.i64 (x0 + (1 : Int)))
 then (some (.inl (.h0 (x0 + (1 : Int)))))
 else (none))
 else (some (.inr (x0)))))
 else (bif (keys ws (Int.toNat x0) == (95 : Int))
 then (bif (lim IntKind.i64 (x0 + (1 : Int)))
 then (some (.inl (.h0 (x0 + (1 : Int)))))
 else (none))
 else (some (.inr (x0)))))
 else (some (.inr (x0)))))
 else (none))
 else (some (.inr (x0))) : Option (St91 ⊕ Rt91)) = some x) : T91_0 cond Kst Kret ws x0 := by
  unfold T91_0
  exact bif_split h
   (fun c0 h => bif_split h
   (fun c1 h => bif_split h
   (fun c2 h => bif_split h
   (fun c3 h => bif_split h
   (fun c4 h => stop_at hS _ h (fun n => n) rfl rfl rfl ⟨(rn_str rfl), ⟨(rn_int rfl), trivial⟩⟩ rfl entl_nil)
   (fun c4 h => no_some h))
   (fun c3 h => bif_split h
   (fun c4 h => cond_yes c1 (bif_split h
   (fun c5 h => bif_split h
   (fun c6 h => bif_split h
   (fun c7 h => stop_at hS _ h (fun n => n) rfl rfl rfl ⟨(rn_str rfl), ⟨(rn_int rfl), trivial⟩⟩ rfl entl_nil)
   (fun c7 h => no_some h))
   (fun c6 h => cond_yes c1 (bif_split h
   (fun c7 h => bif_split h
   (fun c8 h => stop_at hS _ h (fun n => n) rfl rfl rfl ⟨(rn_str rfl), ⟨(rn_int rfl), trivial⟩⟩ rfl entl_nil)
   (fun c8 h => no_some h))
   (fun c7 h => ret_at hR _ h (fun n => n) rfl rfl rfl (rn_int rfl) rfl entl_nil))))
   (fun c5 h => cond_yes c1 (bif_split h
   (fun c6 h => bif_split h
   (fun c7 h => stop_at hS _ h (fun n => n) rfl rfl rfl ⟨(rn_str rfl), ⟨(rn_int rfl), trivial⟩⟩ rfl entl_nil)
   (fun c7 h => no_some h))
   (fun c6 h => ret_at hR _ h (fun n => n) rfl rfl rfl (rn_int rfl) rfl entl_nil)))))
   (fun c4 h => ret_at hR _ h (fun n => n) rfl rfl rfl (rn_int rfl) rfl entl_nil)))
   (fun c2 h => bif_split h
   (fun c3 h => cond_yes c1 (bif_split h
   (fun c4 h => bif_split h
   (fun c5 h => bif_split h
   (fun c6 h => stop_at hS _ h (fun n => n) rfl rfl rfl ⟨(rn_str rfl), ⟨(rn_int rfl), trivial⟩⟩ rfl entl_nil)
   (fun c6 h => no_some h))
   (fun c5 h => cond_yes c1 (bif_split h
   (fun c6 h => bif_split h
   (fun c7 h => stop_at hS _ h (fun n => n) rfl rfl rfl ⟨(rn_str rfl), ⟨(rn_int rfl), trivial⟩⟩ rfl entl_nil)
   (fun c7 h => no_some h))
   (fun c6 h => ret_at hR _ h (fun n => n) rfl rfl rfl (rn_int rfl) rfl entl_nil))))
   (fun c4 h => cond_yes c1 (bif_split h
   (fun c5 h => bif_split h
   (fun c6 h => stop_at hS _ h (fun n => n) rfl rfl rfl ⟨(rn_str rfl), ⟨(rn_int rfl), trivial⟩⟩ rfl entl_nil)
   (fun c6 h => no_some h))
   (fun c5 h => ret_at hR _ h (fun n => n) rfl rfl rfl (rn_int rfl) rfl entl_nil)))))
   (fun c3 h => ret_at hR _ h (fun n => n) rfl rfl rfl (rn_int rfl) rfl entl_nil)))
   (fun c1 h => no_some h))
   (fun c0 h => ret_at hR _ h (fun n => n) rfl rfl rfl (rn_int rfl) rfl entl_nil)
theorem a91 (ws : ByteArray) {r : Rt91} (h : Goes ((q91 ws)) ((p91 ws)) r) : CallR Try.prog 91 [.str ws] [[]] 0 ((V91 ws) r) ((fun r => [newL (0 + 1) ((N91 ws) r) ++ []]) r) 400 ∧ ∃ F, Try.prog.funcs[91]? = some F ∧ F.body.isSome = true ∧ (F.name == "runtime.NumGoroutine") = false := by
  refine dec_calls (f := 91) (lo := 0) (hi := 400) (H := [[]]) (args := [.str ws]) Try.envOk Try.mixed noX_ok ((I91 ws)) ((V91 ws)) (fun r => [newL (0 + 1) ((N91 ws) r) ++ []]) (fn := mkFn Try.f91) (ts := [0, 3]) (n := 400) rfl (by decide) (by simp) (names_of rfl) ?_ ?_ ?_ h
  · intro s; cases s <;> exact ⟨hd_ok _ _, by simp [I91], names_of rfl, Nat.le_of_ble_eq_true rfl⟩
  · intro Kst Kret x hS hR h
    exact Holds.eq (te91 cond Kst Kret ws) (be91 ws Kst Kret x hS hR h)
  · intro Kst Kret x hS hR s h
    cases s with
    | h0 x0 => exact Holds.eq (t91_0 cond Kst Kret ws x0) (b91_0 ws Kst Kret x hS hR x0 h)
noncomputable def k91 : Con := ⟨91, [.one (.plain (.str))], fun (x : ByteArray × Unit) => (fun (ws : ByteArray) => decide (ws.size ≤ 1000)) x.1, fun (x : ByteArray × Unit) => (fun (ws : ByteArray) => (V91 ws) (((S.runN (fun j => if j = 0 then S.lowB (keys ws j) else S.namB (keys ws j)) 0 ws.size : Nat) : Int))) x.1, fun (x : ByteArray × Unit) => (fun (ws : ByteArray) => (N91 ws) (((S.runN (fun j => if j = 0 then S.lowB (keys ws j) else S.namB (keys ws j)) 0 ws.size : Nat) : Int))) x.1, fun _ _ => .dead⟩
theorem s91' (ws : ByteArray) (hp : ws.size ≤ 1000) : ∀ k i : Nat, i + k = ws.size → Comes (q91 ws) (.h0 (i : Int)) (((i + S.runN (fun j => if j = 0 then S.lowB (keys ws j) else S.namB (keys ws j)) i k : Nat)) : Int) := by
  intro k
  induction k with
  | zero =>
    intro i hi
    apply Comes.of
    show Goes _ _ _
    (first | rw [q91] | unfold q91)
    repeat' first
      | with_reducible refine goes_if (fun h => ?_) (fun h => ?_) <;> (try simp only [lim64, imp_false, decide_eq_true_eq, decide_eq_false_iff_not, Int.toNat_natCast, toNat_pred, toNat_succ, Option.getD_some, Option.getD_none, Bool.not_eq_true', Bool.not_eq_false', Bool.and_eq_true, Bool.or_eq_true, Bool.and_eq_false_iff, Bool.or_eq_false_iff, bne_iff_ne, beq_iff_eq, bne_eq_false_iff_eq, beq_eq_false_iff_ne, ne_eq, not_and, Int.not_le, Int.not_lt, ge_iff_le, gt_iff_lt, Nat.not_lt, Nat.not_le, Bool.not_eq_true, Bool.not_eq_false, Bool.true_eq_false, Bool.false_eq_true, not_false_eq_true, not_true_eq_false] at h)
      | exact goes_none.mpr (by omega)
    all_goals first | (exfalso; omega) | rfl
  | succ k ih =>
    intro i hi
    have ih := ih (i + 1) (by omega)
    have e0 : (0 : Int) + (i : Int) = i := Int.zero_add _
    simp only [S.runN]
    by_cases hc : (fun j => if j = 0 then S.lowB (keys ws j) else S.namB (keys ws j)) i = true
    · rw [if_pos hc]
      rw [show i + 1 + S.runN (fun j => if j = 0 then S.lowB (keys ws j) else S.namB (keys ws j)) (i + 1) k = i + (S.runN (fun j => if j = 0 then S.lowB (keys ws j) else S.namB (keys ws j)) (i + 1) k + 1) by omega] at ih
      by_cases h0 : i = 0
      · subst h0; simp only [if_true, S.lowB, decide_eq_true_eq] at hc
        apply Comes.of
        show Goes _ _ _
        (first | rw [q91] | unfold q91)
        repeat' first
          | with_reducible refine goes_if (fun h => ?_) (fun h => ?_) <;> (try simp only [lim64, imp_false, decide_eq_true_eq, decide_eq_false_iff_not, Int.toNat_natCast, toNat_pred, toNat_succ, Option.getD_some, Option.getD_none, Bool.not_eq_true', Bool.not_eq_false', Bool.and_eq_true, Bool.or_eq_true, Bool.and_eq_false_iff, Bool.or_eq_false_iff, bne_iff_ne, beq_iff_eq, bne_eq_false_iff_eq, beq_eq_false_iff_ne, ne_eq, not_and, Int.not_le, Int.not_lt, ge_iff_le, gt_iff_lt, Nat.not_lt, Nat.not_le, Bool.not_eq_true, Bool.not_eq_false, Bool.true_eq_false, Bool.false_eq_true, not_false_eq_true, not_true_eq_false] at h)
          | exact goes_none.mpr (by omega)
        all_goals first | (exfalso; omega) | exact ih | (exact goes_inr.mpr rfl)
      simp only [h0, if_false, S.namB, decide_eq_true_eq] at hc
      apply Comes.of
      show Goes _ _ _
      (first | rw [q91] | unfold q91)
      repeat' first
        | with_reducible refine goes_if (fun h => ?_) (fun h => ?_) <;> (try simp only [lim64, imp_false, decide_eq_true_eq, decide_eq_false_iff_not, Int.toNat_natCast, toNat_pred, toNat_succ, Option.getD_some, Option.getD_none, Bool.not_eq_true', Bool.not_eq_false', Bool.and_eq_true, Bool.or_eq_true, Bool.and_eq_false_iff, Bool.or_eq_false_iff, bne_iff_ne, beq_iff_eq, bne_eq_false_iff_eq, beq_eq_false_iff_ne, ne_eq, not_and, Int.not_le, Int.not_lt, ge_iff_le, gt_iff_lt, Nat.not_lt, Nat.not_le, Bool.not_eq_true, Bool.not_eq_false, Bool.true_eq_false, Bool.false_eq_true, not_false_eq_true, not_true_eq_false, e0] at h)
        | exact goes_none.mpr (by omega)
      all_goals first | (exfalso; omega) | exact ih | (exfalso; simp_all; done) | (exfalso; simp_all; omega)
    · rw [if_neg hc]
      by_cases h0 : i = 0
      · subst h0; simp only [if_true, S.lowB, decide_eq_true_eq] at hc
        apply Comes.of
        show Goes _ _ _
        (first | rw [q91] | unfold q91)
        repeat' first
          | with_reducible refine goes_if (fun h => ?_) (fun h => ?_) <;> (try simp only [lim64, imp_false, decide_eq_true_eq, decide_eq_false_iff_not, Int.toNat_natCast, toNat_pred, toNat_succ, Option.getD_some, Option.getD_none, Bool.not_eq_true', Bool.not_eq_false', Bool.and_eq_true, Bool.or_eq_true, Bool.and_eq_false_iff, Bool.or_eq_false_iff, bne_iff_ne, beq_iff_eq, bne_eq_false_iff_eq, beq_eq_false_iff_ne, ne_eq, not_and, Int.not_le, Int.not_lt, ge_iff_le, gt_iff_lt, Nat.not_lt, Nat.not_le, Bool.not_eq_true, Bool.not_eq_false, Bool.true_eq_false, Bool.false_eq_true, not_false_eq_true, not_true_eq_false] at h)
          | exact goes_none.mpr (by omega)
        all_goals first | (exfalso; omega) | exact ih | (exact goes_inr.mpr rfl)
      simp only [h0, if_false, S.namB, decide_eq_true_eq] at hc
      apply Comes.of
      show Goes _ _ _
      (first | rw [q91] | unfold q91)
      repeat' first
        | with_reducible refine goes_if (fun h => ?_) (fun h => ?_) <;> (try simp only [lim64, imp_false, decide_eq_true_eq, decide_eq_false_iff_not, Int.toNat_natCast, toNat_pred, toNat_succ, Option.getD_some, Option.getD_none, Bool.not_eq_true', Bool.not_eq_false', Bool.and_eq_true, Bool.or_eq_true, Bool.and_eq_false_iff, Bool.or_eq_false_iff, bne_iff_ne, beq_iff_eq, bne_eq_false_iff_eq, beq_eq_false_iff_ne, ne_eq, not_and, Int.not_le, Int.not_lt, ge_iff_le, gt_iff_lt, Nat.not_lt, Nat.not_le, Bool.not_eq_true, Bool.not_eq_false, Bool.true_eq_false, Bool.false_eq_true, not_false_eq_true, not_true_eq_false, e0] at h)
        | exact goes_none.mpr (by omega)
      all_goals first | (exfalso; omega) | (exact goes_inr.mpr rfl) | (exfalso; simp_all; done) | (exfalso; simp_all; omega)
theorem s91 (ws : ByteArray) (hp : ws.size ≤ 1000) : Goes ((q91 ws)) ((p91 ws)) (((S.runN (fun j => if j = 0 then S.lowB (keys ws j) else S.namB (keys ws j)) 0 ws.size : Nat) : Int)) := by
  have hm := s91' ws hp ws.size 0 (by omega)
  rw [Nat.zero_add] at hm
  show Goes _ _ _
  unfold p91
  repeat' first
    | with_reducible refine goes_if (fun h => ?_) (fun h => ?_) <;> (try simp only [lim64, imp_false, decide_eq_true_eq, decide_eq_false_iff_not, Int.toNat_natCast, toNat_pred, toNat_succ, Option.getD_some, Option.getD_none, Bool.not_eq_true', Bool.not_eq_false', Bool.and_eq_true, Bool.or_eq_true, Bool.and_eq_false_iff, Bool.or_eq_false_iff, bne_iff_ne, beq_iff_eq, bne_eq_false_iff_eq, beq_eq_false_iff_ne, ne_eq, not_and, Int.not_le, Int.not_lt, ge_iff_le, gt_iff_lt, Nat.not_lt, Nat.not_le, Bool.not_eq_true, Bool.not_eq_false, Bool.true_eq_false, Bool.false_eq_true, not_false_eq_true, not_true_eq_false] at h)
    | exact goes_none.mpr (by omega)
  all_goals first | (exfalso; omega) | exact hm

theorem k91_ok : k91.ok Try.prog := by
  intro x hx
  obtain ⟨ws, _⟩ := x
  obtain ⟨h1, h2⟩ := a91 ws (s91 ws (of_dec hx rfl))
  exact ⟨⟨400, (by decide : 0 + 1 + 0 ≤ 400), h1⟩, h2⟩
noncomputable def xN0 (test : Bool → Prop → Prop → Prop) : Ext := consX test [k72, k91]
theorem xN0_ok : ExtOk Try.prog (xN0 cond) := consX_ok ⟨k72_ok, k91_ok, trivial⟩

end Go.Ev
