/-
  Names: their bytes.
-/
import Derived.Test.YtofnanmggmeleaaNm0
namespace Go.Ev
open Go.Proofs
set_option linter.unusedVariables false
set_option linter.unusedSimpArgs false
set_option maxRecDepth 100000
inductive St64 where
  | h0 (x0 : Int)
abbrev Rt64 := Int
noncomputable def V64 (ws : ByteArray) (fr : Int) (r : Rt64) : PV := PV.int IntKind.i64 r
noncomputable def N64 (ws : ByteArray) (fr : Int) (r : Rt64) : List Blk := []
noncomputable def I64 (ws : ByteArray) (fr : Int) : St64 → Hd
  | .h0 x0 => ⟨hd Try.f64 0, [PV.str ws, PV.int IntKind.i64 fr, PV.fn (Go.Fn.func (65)) [] [],
 PV.int IntKind.i64 x0], [[], []], 0⟩
noncomputable def q64 (ws : ByteArray) (fr : Int) : St64 → Option (St64 ⊕ Rt64)
  | .h0 x0 => bif (lim IntKind.i64 (fr + x0))
 then (bif (decide (fr + x0 < (↑(ByteArray.size ws) : Int)))
 then (bif (decide ((0 : Int) ≤ fr + x0 ∧ fr + x0 < (↑(ByteArray.size ws) : Int)))
 then (bif (decide (keys ws (Int.toNat (fr + x0)) ≥ (97 : Int)))
 then (bif (decide (keys ws (Int.toNat (fr + x0)) ≤ (122 : Int)))
 then (bif (lim IntKind.i64 (x0 + (1 : Int)))
 then (some (.inl (.h0 (x0 + (1 : Int)))))
 else (none))
 else (bif (decide (keys ws (Int.toNat (fr + x0)) ≥ (48 : Int)))
 then (bif (decide (keys ws (Int.toNat (fr + x0)) ≤ (57 : Int)))
 then (bif (lim IntKind.i64 (x0 + (1 : Int)))
 then (some (.inl (.h0 (x0 + (1 : Int)))))
 else (none))
 else (bif (keys ws (Int.toNat (fr + x0)) == (95 : Int))
 then (bif (lim IntKind.i64 (x0 + (1 : Int)))
 then (some (.inl (.h0 (x0 + (1 : Int)))))
 else (none))
 else (some (.inr (x0)))))
 else (bif (keys ws (Int.toNat (fr + x0)) == (95 : Int))
 then (bif (lim IntKind.i64 (x0 + (1 : Int)))
 then (some (.inl (.h0 (x0 + (1 : Int)))))
 else (none))
 else (some (.inr (x0))))))
 else (bif (decide (keys ws (Int.toNat (fr + x0)) ≥ (48 : Int)))
 then (bif (decide (keys ws (Int.toNat (fr + x0)) ≤ (57 : Int)))
 then (bif (lim IntKind.i64 (x0 + (1 : Int)))
 then (some (.inl (.h0 (x0 + (1 : Int)))))
 else (none))
 else (bif (keys ws (Int.toNat (fr + x0)) == (95 : Int))
 then (bif (lim IntKind.i64 (x0 + (1 : Int)))
 then (some (.inl (.h0 (x0 + (1 : Int)))))
 else (none))
 else (some (.inr (x0)))))
 else (bif (keys ws (Int.toNat (fr + x0)) == (95 : Int))
 then (bif (lim IntKind.i64 (x0 + (1 : Int)))
 then (some (.inl (.h0 (x0 + (1 : Int)))))
 else (none))
 else (some (.inr (x0))))))
 else (none))
 else (some (.inr (x0))))
 else (none)
noncomputable def p64 (ws : ByteArray) (fr : Int) : Option (St64 ⊕ Rt64) := some (.inl (.h0 ((0 : Int))))
noncomputable def Te64 (test : Bool → Prop → Prop → Prop) (Kst : KS) (Kret : KR) (ws : ByteArray) (fr : Int) : Prop :=
  Kst (hd Try.f64 0) ([PV.str ws, PV.int IntKind.i64 fr, PV.fn (Go.Fn.func (65)) [] [],
 PV.int IntKind.i64 (0 : Int)]) ([[]]) (0)
set_option maxRecDepth 100000 in
theorem te64 (test : Bool → Prop → Prop → Prop) (Kst : KS) (Kret : KR) (ws : ByteArray) (fr : Int) : run test Try.env true noX true 400 ⟨64, [.cd (mkFn Try.f64).body], argT 0 [.str ws, .int .i64 fr, .fn (.func 65) [] []], [[], []], 0⟩ (proj 0 [0, 1, 2, 7] Kst Kret) =
  Te64 test Kst Kret ws fr := by kernel_rfl
noncomputable def T64_0 (test : Bool → Prop → Prop → Prop) (Kst : KS) (Kret : KR) (ws : ByteArray) (fr : Int) (x0 : Int) : Prop :=
  test (lim IntKind.i64 (fr + x0))
 (test (decide (fr + x0 < (↑(ByteArray.size ws) : Int)))
 (test (lim IntKind.i64 (fr + x0))
 (test (decide ((0 : Int) ≤ fr + x0 ∧ fr + x0 < (↑(ByteArray.size ws) : Int)))
 (test (decide (keys ws (Int.toNat (fr + x0)) ≥ (97 : Int)))
 (test (decide (keys ws (Int.toNat (fr + x0)) ≤ (122 : Int)))
 (test (lim IntKind.i64 (x0 + (1 : Int)))
 (Kst (hd Try.f64 0) ([PV.str ws, PV.int IntKind.i64 fr, PV.fn (Go.Fn.func (65)) [] [],
 PV.int IntKind.i64 (x0 + (1 : Int))]) ([[]]) (0))
 (False))
 (test (decide (keys ws (Int.toNat (fr + x0)) ≥ (48 : Int)))
 (test (decide (keys ws (Int.toNat (fr + x0)) ≤ (57 : Int)))
 (test (lim IntKind.i64 (x0 + (1 : Int)))
 (Kst (hd Try.f64 0) ([PV.str ws, PV.int IntKind.i64 fr, PV.fn (Go.Fn.func (65)) [] [],
 PV.int IntKind.i64 (x0 + (1 : Int))]) ([[]]) (0))
 (False))
 (test (keys ws (Int.toNat (fr + x0)) == (95 : Int))
 (test (lim IntKind.i64 (x0 + (1 : Int)))
 (Kst (hd Try.f64 0) ([PV.str ws, PV.int IntKind.i64 fr, PV.fn (Go.Fn.func (65)) [] [],
 PV.int IntKind.i64 (x0 + (1 : Int))]) ([[]]) (0))
 (False))
 (Kret (PV.int IntKind.i64 x0) ([[]]) (0))))
 (test (keys ws (Int.toNat (fr + x0)) == (95 : Int))
 (test (lim IntKind.i64 (x0 + (1 : Int)))
 (Kst (hd Try.f64 0) ([PV.str ws, PV.int IntKind.i64 fr, PV.fn (Go.Fn.func (65)) [] [],
 PV.int IntKind.i64 (x0 + (1 : Int))]) ([[]]) (0))
 (False))
 (Kret (PV.int IntKind.i64 x0) ([[]]) (0)))))
 (test (decide (keys ws (Int.toNat (fr + x0)) ≥ (48 : Int)))
 (test (decide (keys ws (Int.toNat (fr + x0)) ≤ (57 : Int)))
 (test (lim IntKind.i64 (x0 + (1 : Int)))
 (Kst (hd Try.f64 0) ([PV.str ws, PV.int IntKind.i64 fr, PV.fn (Go.Fn.func (65)) [] [],
 PV.int IntKind.i64 (x0 + (1 : Int))]) ([[]]) (0))
 (False))
 (test (keys ws (Int.toNat (fr + x0)) == (95 : Int))
 (test (lim IntKind.i64 (x0 + (1 : Int)))
 (Kst (hd Try.f64 0) ([PV.str ws, PV.int IntKind.i64 fr, PV.fn (Go.Fn.func (65)) [] [],
 PV.int IntKind.i64 (x0 + (1 : Int))]) ([[]]) (0))
 (False))
 (Kret (PV.int IntKind.i64 x0) ([[]]) (0))))
 (test (keys ws (Int.toNat (fr + x0)) == (95 : Int))
 (test (lim IntKind.i64 (x0 + (1 : Int)))
 (Kst (hd Try.f64 0) ([PV.str ws, PV.int IntKind.i64 fr, PV.fn (Go.Fn.func (65)) [] [],
 PV.int IntKind.i64 (x0 + (1 : Int))]) ([[]]) (0))
 (False))
 (Kret (PV.int IntKind.i64 x0) ([[]]) (0)))))
 (False))
 (False))
 (Kret (PV.int IntKind.i64 x0) ([[]]) (0)))
 (False)
set_option maxRecDepth 100000 in
theorem t64_0 (test : Bool → Prop → Prop → Prop) (Kst : KS) (Kret : KR) (ws : ByteArray) (fr : Int) (x0 : Int) : run test Try.env true noX true 400 ⟨64, hd Try.f64 0, zipT [0, 1, 2, 7] [PV.str ws, PV.int IntKind.i64 fr, PV.fn (Go.Fn.func (65)) [] [],
 PV.int IntKind.i64 x0], [[], []], 0⟩ (proj 0 [0, 1, 2, 7] Kst Kret) =
  T64_0 test Kst Kret ws fr x0 := by kernel_rfl
attribute [local irreducible] Int.subNatNat in
set_option maxRecDepth 100000 in
theorem be64 (ws : ByteArray) (fr : Int) (Kst : KS) (Kret : KR) (x : St64 ⊕ Rt64) (hS : HS 0 400 ((I64 ws fr)) Kst x) (hR : HR 0 400 ((V64 ws fr)) (fun r => [newL (0 + 1) ((N64 ws fr) r) ++ []]) Kret x) (h : (some (.inl (.h0 ((0 : Int)))) : Option (St64 ⊕ Rt64)) = some x) : Te64 cond Kst Kret ws fr := by
  unfold Te64
  exact stop_at hS _ h (fun n => n) rfl rfl rfl ⟨(rn_str rfl), ⟨(rn_int rfl), ⟨(rn_fn trivial trivial), ⟨(rn_int rfl), trivial⟩⟩⟩⟩ rfl entl_nil
attribute [local irreducible] Int.subNatNat in
set_option maxRecDepth 100000 in
theorem b64_0 (ws : ByteArray) (fr : Int) (Kst : KS) (Kret : KR) (x : St64 ⊕ Rt64) (hS : HS 0 400 ((I64 ws fr)) Kst x) (hR : HR 0 400 ((V64 ws fr)) (fun r => [newL (0 + 1) ((N64 ws fr) r) ++ []]) Kret x) (x0 : Int) (h : (bif (lim IntKind.i64 (fr + x0))
 then (bif (decide (fr + x0 < (↑(ByteArray.size ws) : Int)))
 then (bif (decide ((0 : Int) ≤ fr + x0 ∧ fr + x0 < (↑(ByteArray.size ws) : Int)))
 then (bif (decide (keys ws (Int.toNat (fr + x0)) ≥ (97 : Int)))
 then (bif (decide (keys ws (Int.toNat (fr + x0)) ≤ (122 : Int)))
 then (bif (lim IntKind.i64 (x0 + (1 : Int)))
 then (some (.inl (.h0 (x0 + (1 : Int)))))
 else (none))
 else (bif (decide (keys ws (Int.toNat (fr + x0)) ≥ (48 : Int)))
 then (bif (decide (keys ws (Int.toNat (fr + x0)) ≤ (57 : Int)))
 then (bif (lim IntKind.i64 (x0 + (1 : Int)))
 then (some (.inl (.h0 (x0 + (1 : Int)))))
 else (none))
 else (bif (keys ws (Int.toNat (fr + x0)) == (95 : Int))
 then (bif (lim IntKind.i64 (x0 + (1 : Int)))
 then (some (.inl (.h0 (x0 + (1 : Int)))))
 else (none))
 else (some (.inr (x0)))))
 else (bif (keys ws (Int.toNat (fr + x0)) == (95 : Int))
 then (bif (lim IntKind.i64 (x0 + (1 : Int)))
 then (some (.inl (.h0 (x0 + (1 : Int)))))
 else (none))
 else (some (.inr (x0))))))
 else (bif (decide (keys ws (Int.toNat (fr + x0)) ≥ (48 : Int)))
 then (bif (decide (keys ws (Int.toNat (fr + x0)) ≤ (57 : Int)))
 then (bif (lim IntKind.i64 (x0 + (1 : Int)))
 then (some (.inl (.h0 (x0 + (1 : Int)))))
 else (none))
 else (bif (keys ws (Int.toNat (fr + x0)) == (95 : Int))
 then (bif (lim IntKind.i64 (x0 + (1 : Int)))
 then (some (.inl (.h0 (x0 + (1 : Int)))))
 else (none))
 else (some (.inr (x0)))))
 else (bif (keys ws (Int.toNat (fr + x0)) == (95 : Int))
 then (bif (lim IntKind.i64 (x0 + (1 : Int)))
 then (some (.inl (.h0 (x0 + (1 : Int)))))
 else (none))
 else (some (.inr (x0))))))
 else (none))
 else (some (.inr (x0))))
 else (none) : Option (St64 ⊕ Rt64)) = some x) : T64_0 cond Kst Kret ws fr x0 := by
  unfold T64_0
  exact bif_split h
   (fun c0 h => bif_split h
   (fun c1 h => cond_yes c0 (bif_split h
   (fun c2 h => bif_split h
   (fun c3 h => bif_split h
   (fun c4 h => bif_split h
   (fun c5 h => stop_at hS _ h (fun n => n) rfl rfl rfl ⟨(rn_str rfl), ⟨(rn_int rfl), ⟨(rn_fn trivial trivial), ⟨(rn_int rfl), trivial⟩⟩⟩⟩ rfl entl_nil)
   (fun c5 h => no_some h))
   (fun c4 h => bif_split h
   (fun c5 h => bif_split h
   (fun c6 h => bif_split h
   (fun c7 h => stop_at hS _ h (fun n => n) rfl rfl rfl ⟨(rn_str rfl), ⟨(rn_int rfl), ⟨(rn_fn trivial trivial), ⟨(rn_int rfl), trivial⟩⟩⟩⟩ rfl entl_nil)
   (fun c7 h => no_some h))
   (fun c6 h => bif_split h
   (fun c7 h => bif_split h
   (fun c8 h => stop_at hS _ h (fun n => n) rfl rfl rfl ⟨(rn_str rfl), ⟨(rn_int rfl), ⟨(rn_fn trivial trivial), ⟨(rn_int rfl), trivial⟩⟩⟩⟩ rfl entl_nil)
   (fun c8 h => no_some h))
   (fun c7 h => ret_at hR _ h (fun n => n) rfl rfl rfl (rn_int rfl) rfl entl_nil)))
   (fun c5 h => bif_split h
   (fun c6 h => bif_split h
   (fun c7 h => stop_at hS _ h (fun n => n) rfl rfl rfl ⟨(rn_str rfl), ⟨(rn_int rfl), ⟨(rn_fn trivial trivial), ⟨(rn_int rfl), trivial⟩⟩⟩⟩ rfl entl_nil)
   (fun c7 h => no_some h))
   (fun c6 h => ret_at hR _ h (fun n => n) rfl rfl rfl (rn_int rfl) rfl entl_nil))))
   (fun c3 h => bif_split h
   (fun c4 h => bif_split h
   (fun c5 h => bif_split h
   (fun c6 h => stop_at hS _ h (fun n => n) rfl rfl rfl ⟨(rn_str rfl), ⟨(rn_int rfl), ⟨(rn_fn trivial trivial), ⟨(rn_int rfl), trivial⟩⟩⟩⟩ rfl entl_nil)
   (fun c6 h => no_some h))
   (fun c5 h => bif_split h
   (fun c6 h => bif_split h
   (fun c7 h => stop_at hS _ h (fun n => n) rfl rfl rfl ⟨(rn_str rfl), ⟨(rn_int rfl), ⟨(rn_fn trivial trivial), ⟨(rn_int rfl), trivial⟩⟩⟩⟩ rfl entl_nil)
   (fun c7 h => no_some h))
   (fun c6 h => ret_at hR _ h (fun n => n) rfl rfl rfl (rn_int rfl) rfl entl_nil)))
   (fun c4 h => bif_split h
   (fun c5 h => bif_split h
   (fun c6 h => stop_at hS _ h (fun n => n) rfl rfl rfl ⟨(rn_str rfl), ⟨(rn_int rfl), ⟨(rn_fn trivial trivial), ⟨(rn_int rfl), trivial⟩⟩⟩⟩ rfl entl_nil)
   (fun c6 h => no_some h))
   (fun c5 h => ret_at hR _ h (fun n => n) rfl rfl rfl (rn_int rfl) rfl entl_nil))))
   (fun c2 h => no_some h)))
   (fun c1 h => ret_at hR _ h (fun n => n) rfl rfl rfl (rn_int rfl) rfl entl_nil))
   (fun c0 h => no_some h)
theorem a64 (ws : ByteArray) (fr : Int) {r : Rt64} (h : Goes ((q64 ws fr)) ((p64 ws fr)) r) : CallR Try.prog 64 [.str ws, .int .i64 fr, .fn (.func 65) [] []] [[]] 0 ((V64 ws fr) r) ((fun r => [newL (0 + 1) ((N64 ws fr) r) ++ []]) r) 400 ∧ ∃ F, Try.prog.funcs[64]? = some F ∧ F.body.isSome = true ∧ (F.name == "runtime.NumGoroutine") = false := by
  refine dec_calls (sy := true) (f := 64) (lo := 0) (hi := 400) (H := [[]]) (args := [.str ws, .int .i64 fr, .fn (.func 65) [] []]) Try.envOk Try.mixed noX_ok ((I64 ws fr)) ((V64 ws fr)) (fun r => [newL (0 + 1) ((N64 ws fr) r) ++ []]) (fn := mkFn Try.f64) (ts := [0, 1, 2, 7]) (n := 400) rfl (by decide) (by simp) (names_of rfl) ?_ ?_ ?_ h
  · intro s; cases s <;> exact ⟨hd_ok _ _, by simp [I64], names_of rfl, Nat.le_of_ble_eq_true rfl⟩
  · intro Kst Kret x hS hR h
    exact Holds.eq (te64 cond Kst Kret ws fr) (be64 ws fr Kst Kret x hS hR h)
  · intro Kst Kret x hS hR s h
    cases s with
    | h0 x0 => exact Holds.eq (t64_0 cond Kst Kret ws fr x0) (b64_0 ws fr Kst Kret x hS hR x0 h)
noncomputable def k64 : Con := ⟨64, [.one (.plain (.str)), .one (.plain (.int .i64)), .fn 65 []], fun (x : ByteArray × Int × (Unit) × Unit) => (fun (ws : ByteArray) (fr : Int) => decide (ws.size ≤ 1000 ∧ fr = 0)) x.1 x.2.1, fun (x : ByteArray × Int × (Unit) × Unit) => (fun (ws : ByteArray) (fr : Int) => (V64 ws fr) (((S.runN (fun j => S.namB (keys ws j)) 0 ws.size : Nat) : Int))) x.1 x.2.1, fun (x : ByteArray × Int × (Unit) × Unit) => (fun (ws : ByteArray) (fr : Int) => (N64 ws fr) (((S.runN (fun j => S.namB (keys ws j)) 0 ws.size : Nat) : Int))) x.1 x.2.1, fun _ _ => .dead⟩
theorem s64' (ws : ByteArray) (fr : Int) (hp : ws.size ≤ 1000) (hf : fr = 0) : ∀ k i : Nat, i + k = ws.size → Comes (q64 ws fr) (.h0 (i : Int)) (((i + S.runN (fun j => S.namB (keys ws j)) i k : Nat)) : Int) := by
  intro k
  induction k with
  | zero =>
    intro i hi
    apply Comes.of
    show Goes _ _ _
    (first | rw [q64] | unfold q64)
    repeat' first
      | with_reducible refine goes_if (fun h => ?_) (fun h => ?_) <;> (try simp only [lim64, imp_false, decide_eq_true_eq, decide_eq_false_iff_not, Int.toNat_natCast, toNat_pred, toNat_succ, Option.getD_some, Option.getD_none, Bool.not_eq_true', Bool.not_eq_false', Bool.and_eq_true, Bool.or_eq_true, Bool.and_eq_false_iff, Bool.or_eq_false_iff, bne_iff_ne, beq_iff_eq, bne_eq_false_iff_eq, beq_eq_false_iff_ne, ne_eq, not_and, Int.not_le, Int.not_lt, ge_iff_le, gt_iff_lt, Nat.not_lt, Nat.not_le, Bool.not_eq_true, Bool.not_eq_false, Bool.true_eq_false, Bool.false_eq_true, not_false_eq_true, not_true_eq_false] at h)
      | exact goes_none.mpr (by omega)
    all_goals first | (exfalso; omega) | rfl
  | succ k ih =>
    intro i hi
    have ih := ih (i + 1) (by omega)
    have e0 : (0 : Int) + (i : Int) = i := Int.zero_add _
    simp only [S.runN]
    by_cases hc : (fun j => S.namB (keys ws j)) i = true
    · rw [if_pos hc]
      rw [show i + 1 + S.runN (fun j => S.namB (keys ws j)) (i + 1) k = i + (S.runN (fun j => S.namB (keys ws j)) (i + 1) k + 1) by omega] at ih
      simp only [S.namB, decide_eq_true_eq] at hc
      subst hf
      apply Comes.of
      show Goes _ _ _
      (first | rw [q64] | unfold q64)
      repeat' first
        | with_reducible refine goes_if (fun h => ?_) (fun h => ?_) <;> (try simp only [lim64, imp_false, decide_eq_true_eq, decide_eq_false_iff_not, Int.toNat_natCast, toNat_pred, toNat_succ, Option.getD_some, Option.getD_none, Bool.not_eq_true', Bool.not_eq_false', Bool.and_eq_true, Bool.or_eq_true, Bool.and_eq_false_iff, Bool.or_eq_false_iff, bne_iff_ne, beq_iff_eq, bne_eq_false_iff_eq, beq_eq_false_iff_ne, ne_eq, not_and, Int.not_le, Int.not_lt, ge_iff_le, gt_iff_lt, Nat.not_lt, Nat.not_le, Bool.not_eq_true, Bool.not_eq_false, Bool.true_eq_false, Bool.false_eq_true, not_false_eq_true, not_true_eq_false, e0] at h)
        | exact goes_none.mpr (by omega)
      all_goals first | (exfalso; omega) | exact ih | (exfalso; simp_all; done) | (exfalso; simp_all; omega)
    · rw [if_neg hc]
      simp only [S.namB, decide_eq_true_eq] at hc
      subst hf
      apply Comes.of
      show Goes _ _ _
      (first | rw [q64] | unfold q64)
      repeat' first
        | with_reducible refine goes_if (fun h => ?_) (fun h => ?_) <;> (try simp only [lim64, imp_false, decide_eq_true_eq, decide_eq_false_iff_not, Int.toNat_natCast, toNat_pred, toNat_succ, Option.getD_some, Option.getD_none, Bool.not_eq_true', Bool.not_eq_false', Bool.and_eq_true, Bool.or_eq_true, Bool.and_eq_false_iff, Bool.or_eq_false_iff, bne_iff_ne, beq_iff_eq, bne_eq_false_iff_eq, beq_eq_false_iff_ne, ne_eq, not_and, Int.not_le, Int.not_lt, ge_iff_le, gt_iff_lt, Nat.not_lt, Nat.not_le, Bool.not_eq_true, Bool.not_eq_false, Bool.true_eq_false, Bool.false_eq_true, not_false_eq_true, not_true_eq_false, e0] at h)
        | exact goes_none.mpr (by omega)
      all_goals first | (exfalso; omega) | (exact goes_inr.mpr rfl) | (exfalso; simp_all; done) | (exfalso; simp_all; omega)
theorem s64 (ws : ByteArray) (fr : Int) (hp : ws.size ≤ 1000 ∧ fr = 0) : Goes ((q64 ws fr)) ((p64 ws fr)) (((S.runN (fun j => S.namB (keys ws j)) 0 ws.size : Nat) : Int)) := by
  obtain ⟨hp1, hp2⟩ := hp
  have hm := s64' ws fr hp1 hp2 ws.size 0 (by omega)
  rw [Nat.zero_add] at hm
  show Goes _ _ _
  unfold p64
  repeat' first
    | with_reducible refine goes_if (fun h => ?_) (fun h => ?_) <;> (try simp only [lim64, imp_false, decide_eq_true_eq, decide_eq_false_iff_not, Int.toNat_natCast, toNat_pred, toNat_succ, Option.getD_some, Option.getD_none, Bool.not_eq_true', Bool.not_eq_false', Bool.and_eq_true, Bool.or_eq_true, Bool.and_eq_false_iff, Bool.or_eq_false_iff, bne_iff_ne, beq_iff_eq, bne_eq_false_iff_eq, beq_eq_false_iff_ne, ne_eq, not_and, Int.not_le, Int.not_lt, ge_iff_le, gt_iff_lt, Nat.not_lt, Nat.not_le, Bool.not_eq_true, Bool.not_eq_false, Bool.true_eq_false, Bool.false_eq_true, not_false_eq_true, not_true_eq_false] at h)
    | exact goes_none.mpr (by omega)
  all_goals first | (exfalso; omega) | exact hm

theorem k64_ok : k64.ok Try.prog := by
  intro x hx
  obtain ⟨ws, fr, ⟨_⟩, _⟩ := x
  obtain ⟨h1, h2⟩ := a64 ws fr (s64 ws fr (of_dec hx rfl))
  exact ⟨⟨400, (by decide : 0 + 1 + 0 ≤ 400), h1⟩, h2⟩
inductive St67 where
  | h0 (x0 : Int)
abbrev Rt67 := Int
noncomputable def V67 (ws : ByteArray) (r : Rt67) : PV := PV.int IntKind.i64 r
noncomputable def N67 (ws : ByteArray) (r : Rt67) : List Blk := []
noncomputable def I67 (ws : ByteArray) : St67 → Hd
  | .h0 x0 => ⟨hd Try.f67 0, [PV.str ws, PV.int IntKind.i64 x0], [[], []], 0⟩
noncomputable def q67 (ws : ByteArray) : St67 → Option (St67 ⊕ Rt67)
  | .h0 x0 => bif (decide (x0 < (↑(ByteArray.size ws) : Int)))
 then (bif (decide ((0 : Int) ≤ x0 ∧ x0 < (↑(ByteArray.size ws) : Int)))
 then (bif (decide (keys ws (Int.toNat x0) ≥ (97 : Int)))
 then (bif (decide (keys ws (Int.toNat x0) ≤ (122 : Int)))
 then (bif (lim IntKind.i64 (x0 + (1 : Int)))
 then (some (.inl (.h0 (x0 + (1 : Int)))))
 else (none))
 else (bif (decide (x0 > (0 : Int)))
 then (bif (decide (keys ws (Int.toNat x0) ≥ (48 : Int)))
 then (bif (decide (keys ws (Int.toNat x0) ≤ (57 : Int)))
 then (bif (lim IntKind.i64 (x0 + (1 : Int)))
 then (some (.inl (.h0 (x0 + (1 : Int)))))
 else (none))
 else (bif (keys ws (Int.toNat x0) == (95 : Int))
 then (bif (lim IntKind.i64 (x0 + (1 : Int)))
 then (some (.inl (.h0 (x0 + (1 : Int)))))
 else (none))
 else (some (.inr (x0)))))
 else (bif (keys ws (Int.toNat x0) == (95 : Int))
 then (bif (lim IntKind.i64 (x0 + (1 : Int)))
 then (some (.inl (.h0 (x0 + (1 : Int)))))
 else (none))
 else (some (.inr (x0)))))
 else (some (.inr (x0)))))
 else (bif (decide (x0 > (0 : Int)))
 then (bif (decide (keys ws (Int.toNat x0) ≥ (48 : Int)))
 then (bif (decide (keys ws (Int.toNat x0) ≤ (57 : Int)))
 then (bif (lim IntKind.i64 (x0 + (1 : Int)))
 then (some (.inl (.h0 (x0 + (1 : Int)))))
 else (none))
 else (bif (keys ws (Int.toNat x0) == (95 : Int))
 then (bif (lim IntKind.i64 (x0 + (1 : Int)))
 then (some (.inl (.h0 (x0 + (1 : Int)))))
 else (none))
 else (some (.inr (x0)))))
 else (bif (keys ws (Int.toNat x0) == (95 : Int))
 then (bif (lim IntKind.i64 (x0 + (1 : Int)))
 then (some (.inl (.h0 (x0 + (1 : Int)))))
 else (none))
 else (some (.inr (x0)))))
 else (some (.inr (x0)))))
 else (none))
 else (some (.inr (x0)))
noncomputable def p67 (ws : ByteArray) : Option (St67 ⊕ Rt67) := some (.inl (.h0 ((0 : Int))))
noncomputable def Te67 (test : Bool → Prop → Prop → Prop) (Kst : KS) (Kret : KR) (ws : ByteArray) : Prop :=
  Kst (hd Try.f67 0) ([PV.str ws, PV.int IntKind.i64 (0 : Int)]) ([[]]) (0)
set_option maxRecDepth 100000 in
theorem te67 (test : Bool → Prop → Prop → Prop) (Kst : KS) (Kret : KR) (ws : ByteArray) : run test Try.env true noX true 400 ⟨67, [.cd (mkFn Try.f67).body], argT 0 [.str ws], [[], []], 0⟩ (proj 0 [0, 3] Kst Kret) =
  Te67 test Kst Kret ws := by kernel_rfl
noncomputable def T67_0 (test : Bool → Prop → Prop → Prop) (Kst : KS) (Kret : KR) (ws : ByteArray) (x0 : Int) : Prop :=
  test (decide (x0 < (↑(ByteArray.size ws) : Int)))
 (test (decide ((0 : Int) ≤ x0 ∧ x0 < (↑(ByteArray.size ws) : Int)))
 (test (decide (keys ws (Int.toNat x0) ≥ (97 : Int)))
 (test (decide (keys ws (Int.toNat x0) ≤ (122 : Int)))
 (test (lim IntKind.i64 (x0 + (1 : Int)))
 (Kst (hd Try.f67 0) ([PV.str ws, PV.int IntKind.i64 (x0 + (1 : Int))]) ([[]]) (0))
 (False))
 (test (decide (x0 > (0 : Int)))
 (test (decide ((0 : Int) ≤ x0 ∧ x0 < (↑(ByteArray.size ws) : Int)))
 (test (decide (keys ws (Int.toNat x0) ≥ (48 : Int)))
 (test (decide (keys ws (Int.toNat x0) ≤ (57 : Int)))
 (test (lim IntKind.i64 (x0 + (1 : Int)))
 (Kst (hd Try.f67 0) ([PV.str ws, PV.int IntKind.i64 (x0 + (1 : Int))]) ([[]]) (0))
 (False))
 (test (decide ((0 : Int) ≤ x0 ∧ x0 < (↑(ByteArray.size ws) : Int)))
 (test (keys ws (Int.toNat x0) == (95 : Int))
 (test (lim IntKind.i64 (x0 + (1 : Int)))
 (Kst (hd Try.f67 0) ([PV.str ws, PV.int IntKind.i64 (x0 + (1 : Int))]) ([[]]) (0))
 (False))
 (Kret (PV.int IntKind.i64 x0) ([[]]) (0)))
 (False)))
 (test (decide ((0 : Int) ≤ x0 ∧ x0 < (↑(ByteArray.size ws) : Int)))
 (test (keys ws (Int.toNat x0) == (95 : Int))
 (test (lim IntKind.i64 (x0 + (1 : Int)))
 (Kst (hd Try.f67 0) ([PV.str ws, PV.int IntKind.i64 (x0 + (1 : Int))]) ([[]]) (0))
 (False))
 (Kret (PV.int IntKind.i64 x0) ([[]]) (0)))
 (False)))
 (False))
 (Kret (PV.int IntKind.i64 x0) ([[]]) (0))))
 (test (decide (x0 > (0 : Int)))
 (test (decide ((0 : Int) ≤ x0 ∧ x0 < (↑(ByteArray.size ws) : Int)))
 (test (decide (keys ws (Int.toNat x0) ≥ (48 : Int)))
 (test (decide (keys ws (Int.toNat x0) ≤ (57 : Int)))
 (test (lim IntKind.i64 (x0 + (1 : Int)))
 (Kst (hd Try.f67 0) ([PV.str ws, PV.int IntKind.i64 (x0 + (1 : Int))]) ([[]]) (0))
 (False))
 (test (decide ((0 : Int) ≤ x0 ∧ x0 < (↑(ByteArray.size ws) : Int)))
 (test (keys ws (Int.toNat x0) == (95 : Int))
 (test (lim IntKind.i64 (x0 + (1 : Int)))
 (Kst (hd Try.f67 0) ([PV.str ws, PV.int IntKind.i64 (x0 + (1 : Int))]) ([[]]) (0))
 (False))
 (Kret (PV.int IntKind.i64 x0) ([[]]) (0)))
 (False)))
 (test (decide ((0 : Int) ≤ x0 ∧ x0 < (↑(ByteArray.size ws) : Int)))
 (test (keys ws (Int.toNat x0) == (95 : Int))
 (test (lim IntKind.i64 (x0 + (1 : Int)))
 (Kst (hd Try.f67 0) ([PV.str ws, PV.int IntKind.i64 (x0 + (1 : Int))]) ([[]]) (0))
 (False))
 (Kret (PV.int IntKind.i64 x0) ([[]]) (0)))
 (False)))
 (False))
 (Kret (PV.int IntKind.i64 x0) ([[]]) (0))))
 (False))
 (Kret (PV.int IntKind.i64 x0) ([[]]) (0))
set_option maxRecDepth 100000 in
theorem t67_0 (test : Bool → Prop → Prop → Prop) (Kst : KS) (Kret : KR) (ws : ByteArray) (x0 : Int) : run test Try.env true noX true 400 ⟨67, hd Try.f67 0, zipT [0, 3] [PV.str ws, PV.int IntKind.i64 x0], [[], []], 0⟩ (proj 0 [0, 3] Kst Kret) =
  T67_0 test Kst Kret ws x0 := by kernel_rfl
attribute [local irreducible] Int.subNatNat in
set_option maxRecDepth 100000 in
theorem be67 (ws : ByteArray) (Kst : KS) (Kret : KR) (x : St67 ⊕ Rt67) (hS : HS 0 400 ((I67 ws)) Kst x) (hR : HR 0 400 ((V67 ws)) (fun r => [newL (0 + 1) ((N67 ws) r) ++ []]) Kret x) (h : (some (.inl (.h0 ((0 : Int)))) : Option (St67 ⊕ Rt67)) = some x) : Te67 cond Kst Kret ws := by
  unfold Te67
  exact stop_at hS _ h (fun n => n) rfl rfl rfl ⟨(rn_str rfl), ⟨(rn_int rfl), trivial⟩⟩ rfl entl_nil
attribute [local irreducible] Int.subNatNat in
set_option maxRecDepth 100000 in
theorem b67_0 (ws : ByteArray) (Kst : KS) (Kret : KR) (x : St67 ⊕ Rt67) (hS : HS 0 400 ((I67 ws)) Kst x) (hR : HR 0 400 ((V67 ws)) (fun r => [newL (0 + 1) ((N67 ws) r) ++ []]) Kret x) (x0 : Int) (h : (bif (decide (x0 < (↑(ByteArray.size ws) : Int)))
 then (bif (decide ((0 : Int) ≤ x0 ∧ x0 < (↑(ByteArray.size ws) : Int)))
 then (bif (decide (keys ws (Int.toNat x0) ≥ (97 : Int)))
 then (bif (decide (keys ws (Int.toNat x0) ≤ (122 : Int)))
 then (bif (lim IntKind.i64 (x0 + (1 : Int)))
 then (some (.inl (.h0 (x0 + (1 : Int)))))
 else (none))
 else (bif (decide (x0 > (0 : Int)))
 then (bif (decide (keys ws (Int.toNat x0) ≥ (48 : Int)))
 then (bif (decide (keys ws (Int.toNat x0) ≤ (57 : Int)))
 then (bif (lim IntKind.i64 (x0 + (1 : Int)))
 then (some (.inl (.h0 (x0 + (1 : Int)))))
 else (none))
 else (bif (keys ws (Int.toNat x0) == (95 : Int))
 then (bif (lim IntKind.i64 (x0 + (1 : Int)))
 then (some (.inl (.h0 (x0 + (1 : Int)))))
 else (none))
 else (some (.inr (x0)))))
 else (bif (keys ws (Int.toNat x0) == (95 : Int))
 then (bif (lim IntKind.i64 (x0 + (1 : Int)))
 then (some (.inl (.h0 (x0 + (1 : Int)))))
 else (none))
 else (some (.inr (x0)))))
 else (some (.inr (x0)))))
 else (bif (decide (x0 > (0 : Int)))
 then (bif (decide (keys ws (Int.toNat x0) ≥ (48 : Int)))
 then (bif (decide (keys ws (Int.toNat x0) ≤ (57 : Int)))
 then (bif (lim IntKind.i64 (x0 + (1 : Int)))
 then (some (.inl (.h0 (x0 + (1 : Int)))))
 else (none))
 else (bif (keys ws (Int.toNat x0) == (95 : Int))
 then (bif (lim IntKind.i64 (x0 + (1 : Int)))
 then (some (.inl (.h0 (x0 + (1 : Int)))))
 else (none))
 else (some (.inr (x0)))))
 else (bif (keys ws (Int.toNat x0) == (95 : Int))
 then (bif (lim IntKind.i64 (x0 + (1 : Int)))
 then (some (.inl (.h0 (x0 + (1 : Int)))))
 else (none))
 else (some (.inr (x0)))))
 else (some (.inr (x0)))))
 else (none))
 else (some (.inr (x0))) : Option (St67 ⊕ Rt67)) = some x) : T67_0 cond Kst Kret ws x0 := by
  unfold T67_0
  exact bif_split h
   (fun c0 h => bif_split h
   (fun c1 h => bif_split h
   (fun c2 h => bif_split h
   (fun c3 h => bif_split h
   (fun c4 h => stop_at hS _ h (fun n => n) rfl rfl rfl ⟨(rn_str rfl), ⟨(rn_int rfl), trivial⟩⟩ rfl entl_nil)
   (fun c4 h => no_some h))
   (fun c3 h => bif_split h
   (fun c4 h => cond_yes c1 (bif_split h
   (fun c5 h => bif_split h
   (fun c6 h => bif_split h
   (fun c7 h => stop_at hS _ h (fun n => n) rfl rfl rfl ⟨(rn_str rfl), ⟨(rn_int rfl), trivial⟩⟩ rfl entl_nil)
   (fun c7 h => no_some h))
   (fun c6 h => cond_yes c1 (bif_split h
   (fun c7 h => bif_split h
   (fun c8 h => stop_at hS _ h (fun n => n) rfl rfl rfl ⟨(rn_str rfl), ⟨(rn_int rfl), trivial⟩⟩ rfl entl_nil)
   (fun c8 h => no_some h))
   (fun c7 h => ret_at hR _ h (fun n => n) rfl rfl rfl (rn_int rfl) rfl entl_nil))))
   (fun c5 h => cond_yes c1 (bif_split h
   (fun c6 h => bif_split h
   (fun c7 h => stop_at hS _ h (fun n => n) rfl rfl rfl ⟨(rn_str rfl), ⟨(rn_int rfl), trivial⟩⟩ rfl entl_nil)
   (fun c7 h => no_some h))
   (fun c6 h => ret_at hR _ h (fun n => n) rfl rfl rfl (rn_int rfl) rfl entl_nil)))))
   (fun c4 h => ret_at hR _ h (fun n => n) rfl rfl rfl (rn_int rfl) rfl entl_nil)))
   (fun c2 h => bif_split h
   (fun c3 h => cond_yes c1 (bif_split h
   (fun c4 h => bif_split h
   (fun c5 h => bif_split h
   (fun c6 h => stop_at hS _ h (fun n => n) rfl rfl rfl ⟨(rn_str rfl), ⟨(rn_int rfl), trivial⟩⟩ rfl entl_nil)
   (fun c6 h => no_some h))
   (fun c5 h => cond_yes c1 (bif_split h
   (fun c6 h => bif_split h
   (fun c7 h => stop_at hS _ h (fun n => n) rfl rfl rfl ⟨(rn_str rfl), ⟨(rn_int rfl), trivial⟩⟩ rfl entl_nil)
   (fun c7 h => no_some h))
   (fun c6 h => ret_at hR _ h (fun n => n) rfl rfl rfl (rn_int rfl) rfl entl_nil))))
   (fun c4 h => cond_yes c1 (bif_split h
   (fun c5 h => bif_split h
   (fun c6 h => stop_at hS _ h (fun n => n) rfl rfl rfl ⟨(rn_str rfl), ⟨(rn_int rfl), trivial⟩⟩ rfl entl_nil)
   (fun c6 h => no_some h))
   (fun c5 h => ret_at hR _ h (fun n => n) rfl rfl rfl (rn_int rfl) rfl entl_nil)))))
   (fun c3 h => ret_at hR _ h (fun n => n) rfl rfl rfl (rn_int rfl) rfl entl_nil)))
   (fun c1 h => no_some h))
   (fun c0 h => ret_at hR _ h (fun n => n) rfl rfl rfl (rn_int rfl) rfl entl_nil)
theorem a67 (ws : ByteArray) {r : Rt67} (h : Goes ((q67 ws)) ((p67 ws)) r) : CallR Try.prog 67 [.str ws] [[]] 0 ((V67 ws) r) ((fun r => [newL (0 + 1) ((N67 ws) r) ++ []]) r) 400 ∧ ∃ F, Try.prog.funcs[67]? = some F ∧ F.body.isSome = true ∧ (F.name == "runtime.NumGoroutine") = false := by
  refine dec_calls (sy := true) (f := 67) (lo := 0) (hi := 400) (H := [[]]) (args := [.str ws]) Try.envOk Try.mixed noX_ok ((I67 ws)) ((V67 ws)) (fun r => [newL (0 + 1) ((N67 ws) r) ++ []]) (fn := mkFn Try.f67) (ts := [0, 3]) (n := 400) rfl (by decide) (by simp) (names_of rfl) ?_ ?_ ?_ h
  · intro s; cases s <;> exact ⟨hd_ok _ _, by simp [I67], names_of rfl, Nat.le_of_ble_eq_true rfl⟩
  · intro Kst Kret x hS hR h
    exact Holds.eq (te67 cond Kst Kret ws) (be67 ws Kst Kret x hS hR h)
  · intro Kst Kret x hS hR s h
    cases s with
    | h0 x0 => exact Holds.eq (t67_0 cond Kst Kret ws x0) (b67_0 ws Kst Kret x hS hR x0 h)
noncomputable def k67 : Con := ⟨67, [.one (.plain (.str))], fun (x : ByteArray × Unit) => (fun (ws : ByteArray) => decide (ws.size ≤ 1000)) x.1, fun (x : ByteArray × Unit) => (fun (ws : ByteArray) => (V67 ws) (((S.runN (fun j => if j = 0 then S.lowB (keys ws j) else S.namB (keys ws j)) 0 ws.size : Nat) : Int))) x.1, fun (x : ByteArray × Unit) => (fun (ws : ByteArray) => (N67 ws) (((S.runN (fun j => if j = 0 then S.lowB (keys ws j) else S.namB (keys ws j)) 0 ws.size : Nat) : Int))) x.1, fun _ _ => .dead⟩
theorem s67' (ws : ByteArray) (hp : ws.size ≤ 1000) : ∀ k i : Nat, i + k = ws.size → Comes (q67 ws) (.h0 (i : Int)) (((i + S.runN (fun j => if j = 0 then S.lowB (keys ws j) else S.namB (keys ws j)) i k : Nat)) : Int) := by
  intro k
  induction k with
  | zero =>
    intro i hi
    apply Comes.of
    show Goes _ _ _
    (first | rw [q67] | unfold q67)
    repeat' first
      | with_reducible refine goes_if (fun h => ?_) (fun h => ?_) <;> (try simp only [lim64, imp_false, decide_eq_true_eq, decide_eq_false_iff_not, Int.toNat_natCast, toNat_pred, toNat_succ, Option.getD_some, Option.getD_none, Bool.not_eq_true', Bool.not_eq_false', Bool.and_eq_true, Bool.or_eq_true, Bool.and_eq_false_iff, Bool.or_eq_false_iff, bne_iff_ne, beq_iff_eq, bne_eq_false_iff_eq, beq_eq_false_iff_ne, ne_eq, not_and, Int.not_le, Int.not_lt, ge_iff_le, gt_iff_lt, Nat.not_lt, Nat.not_le, Bool.not_eq_true, Bool.not_eq_false, Bool.true_eq_false, Bool.false_eq_true, not_false_eq_true, not_true_eq_false] at h)
      | exact goes_none.mpr (by omega)
    all_goals first | (exfalso; omega) | rfl
  | succ k ih =>
    intro i hi
    have ih := ih (i + 1) (by omega)
    have e0 : (0 : Int) + (i : Int) = i := Int.zero_add _
    simp only [S.runN]
    by_cases hc : (fun j => if j = 0 then S.lowB (keys ws j) else S.namB (keys ws j)) i = true
    · rw [if_pos hc]
      rw [show i + 1 + S.runN (fun j => if j = 0 then S.lowB (keys ws j) else S.namB (keys ws j)) (i + 1) k = i + (S.runN (fun j => if j = 0 then S.lowB (keys ws j) else S.namB (keys ws j)) (i + 1) k + 1) by omega] at ih
      by_cases h0 : i = 0
      · subst h0; simp only [if_true, S.lowB, decide_eq_true_eq] at hc
        apply Comes.of
        show Goes _ _ _
        (first | rw [q67] | unfold q67)
        repeat' first
          | with_reducible refine goes_if (fun h => ?_) (fun h => ?_) <;> (try simp only [lim64, imp_false, decide_eq_true_eq, decide_eq_false_iff_not, Int.toNat_natCast, toNat_pred, toNat_succ, Option.getD_some, Option.getD_none, Bool.not_eq_true', Bool.not_eq_false', Bool.and_eq_true, Bool.or_eq_true, Bool.and_eq_false_iff, Bool.or_eq_false_iff, bne_iff_ne, beq_iff_eq, bne_eq_false_iff_eq, beq_eq_false_iff_ne, ne_eq, not_and, Int.not_le, Int.not_lt, ge_iff_le, gt_iff_lt, Nat.not_lt, Nat.not_le, Bool.not_eq_true, Bool.not_eq_false, Bool.true_eq_false, Bool.false_eq_true, not_false_eq_true, not_true_eq_false] at h)
          | exact goes_none.mpr (by omega)
        all_goals first | (exfalso; omega) | exact ih | (exact goes_inr.mpr rfl)
      simp only [h0, if_false, S.namB, decide_eq_true_eq] at hc
      apply Comes.of
      show Goes _ _ _
      (first | rw [q67] | unfold q67)
      repeat' first
        | with_reducible refine goes_if (fun h => ?_) (fun h => ?_) <;> (try simp only [lim64, imp_false, decide_eq_true_eq, decide_eq_false_iff_not, Int.toNat_natCast, toNat_pred, toNat_succ, Option.getD_some, Option.getD_none, Bool.not_eq_true', Bool.not_eq_false', Bool.and_eq_true, Bool.or_eq_true, Bool.and_eq_false_iff, Bool.or_eq_false_iff, bne_iff_ne, beq_iff_eq, bne_eq_false_iff_eq, beq_eq_false_iff_ne, ne_eq, not_and, Int.not_le, Int.not_lt, ge_iff_le, gt_iff_lt, Nat.not_lt, Nat.not_le, Bool.not_eq_true, Bool.not_eq_false, Bool.true_eq_false, Bool.false_eq_true, not_false_eq_true, not_true_eq_false, e0] at h)
        | exact goes_none.mpr (by omega)
      all_goals first | (exfalso; omega) | exact ih | (exfalso; simp_all; done) | (exfalso; simp_all; omega)
    · rw [if_neg hc]
      by_cases h0 : i = 0
      · subst h0; simp only [if_true, S.lowB, decide_eq_true_eq] at hc
        apply Comes.of
        show Goes _ _ _
        (first | rw [q67] | unfold q67)
        repeat' first
          | with_reducible refine goes_if (fun h => ?_) (fun h => ?_) <;> (try simp only [lim64, imp_false, decide_eq_true_eq, decide_eq_false_iff_not, Int.toNat_natCast, toNat_pred, toNat_succ, Option.getD_some, Option.getD_none, Bool.not_eq_true', Bool.not_eq_false', Bool.and_eq_true, Bool.or_eq_true, Bool.and_eq_false_iff, Bool.or_eq_false_iff, bne_iff_ne, beq_iff_eq, bne_eq_false_iff_eq, beq_eq_false_iff_ne, ne_eq, not_and, Int.not_le, Int.not_lt, ge_iff_le, gt_iff_lt, Nat.not_lt, Nat.not_le, Bool.not_eq_true, Bool.not_eq_false, Bool.true_eq_false, Bool.false_eq_true, not_false_eq_true, not_true_eq_false] at h)
          | exact goes_none.mpr (by omega)
        all_goals first | (exfalso; omega) | exact ih | (exact goes_inr.mpr rfl)
      simp only [h0, if_false, S.namB, decide_eq_true_eq] at hc
      apply Comes.of
      show Goes _ _ _
      (first | rw [q67] | unfold q67)
      repeat' first
        | with_reducible refine goes_if (fun h => ?_) (fun h => ?_) <;> (try simp only [lim64, imp_false, decide_eq_true_eq, decide_eq_false_iff_not, Int.toNat_natCast, toNat_pred, toNat_succ, Option.getD_some, Option.getD_none, Bool.not_eq_true', Bool.not_eq_false', Bool.and_eq_true, Bool.or_eq_true, Bool.and_eq_false_iff, Bool.or_eq_false_iff, bne_iff_ne, beq_iff_eq, bne_eq_false_iff_eq, beq_eq_false_iff_ne, ne_eq, not_and, Int.not_le, Int.not_lt, ge_iff_le, gt_iff_lt, Nat.not_lt, Nat.not_le, Bool.not_eq_true, Bool.not_eq_false, Bool.true_eq_false, Bool.false_eq_true, not_false_eq_true, not_true_eq_false, e0] at h)
        | exact goes_none.mpr (by omega)
      all_goals first | (exfalso; omega) | (exact goes_inr.mpr rfl) | (exfalso; simp_all; done) | (exfalso; simp_all; omega)
theorem s67 (ws : ByteArray) (hp : ws.size ≤ 1000) : Goes ((q67 ws)) ((p67 ws)) (((S.runN (fun j => if j = 0 then S.lowB (keys ws j) else S.namB (keys ws j)) 0 ws.size : Nat) : Int)) := by
  have hm := s67' ws hp ws.size 0 (by omega)
  rw [Nat.zero_add] at hm
  show Goes _ _ _
  unfold p67
  repeat' first
    | with_reducible refine goes_if (fun h => ?_) (fun h => ?_) <;> (try simp only [lim64, imp_false, decide_eq_true_eq, decide_eq_false_iff_not, Int.toNat_natCast, toNat_pred, toNat_succ, Option.getD_some, Option.getD_none, Bool.not_eq_true', Bool.not_eq_false', Bool.and_eq_true, Bool.or_eq_true, Bool.and_eq_false_iff, Bool.or_eq_false_iff, bne_iff_ne, beq_iff_eq, bne_eq_false_iff_eq, beq_eq_false_iff_ne, ne_eq, not_and, Int.not_le, Int.not_lt, ge_iff_le, gt_iff_lt, Nat.not_lt, Nat.not_le, Bool.not_eq_true, Bool.not_eq_false, Bool.true_eq_false, Bool.false_eq_true, not_false_eq_true, not_true_eq_false] at h)
    | exact goes_none.mpr (by omega)
  all_goals first | (exfalso; omega) | exact hm

theorem k67_ok : k67.ok Try.prog := by
  intro x hx
  obtain ⟨ws, _⟩ := x
  obtain ⟨h1, h2⟩ := a67 ws (s67 ws (of_dec hx rfl))
  exact ⟨⟨400, (by decide : 0 + 1 + 0 ≤ 400), h1⟩, h2⟩
noncomputable def xN0 (test : Bool → Prop → Prop → Prop) : Ext := consX test [k64, k67]
theorem xN0_ok : ExtOk Try.prog (xN0 cond) := consX_ok ⟨k64_ok, k67_ok, trivial⟩

end Go.Ev
