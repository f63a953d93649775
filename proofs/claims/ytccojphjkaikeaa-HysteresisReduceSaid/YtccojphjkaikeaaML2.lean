/-
  Lists: extremes.
-/
import Derived.Test.YtccojphjkaikeaaML0
namespace Go.Ev
open Go.Proofs
set_option linter.unusedVariables false
set_option linter.unusedSimpArgs false
set_option maxRecDepth 100000
inductive St46 where
  | h0 (x0 : Int) (x1 : Int)
abbrev Rt46 := Int
noncomputable def V46 (aa na ma : Nat) (ta : Nat → Int) (r : Rt46) : PV := PV.int IntKind.i64 r
noncomputable def N46 (aa na ma : Nat) (ta : Nat → Int) (r : Rt46) : List Blk := []
noncomputable def I46 (aa na ma : Nat) (ta : Nat → Int) : St46 → Hd
  | .h0 x0 x1 => ⟨hd Try.f46 0, [PV.loose (PA.mk (0) (1) aa (0)) na, PV.int IntKind.i64 x0,
 PV.int IntKind.i64 x1], [[], [(0, (false, .cols ma [.int .i64 ta]))]], 1⟩
noncomputable def q46 (aa na ma : Nat) (ta : Nat → Int) : St46 → Option (St46 ⊕ Rt46)
  | .h0 x0 x1 => bif (decide (x1 < (↑na : Int)))
 then (bif (decide ((0 : Int) ≤ x1 ∧ x1 < (↑na : Int)))
 then (bif (decide (Int.toNat x1 + aa < ma))
 then (bif (lim IntKind.i64 (x1 + (1 : Int)))
 then (some (.inl (.h0 (Max.max x0 (ta (Int.toNat x1 + aa))) (x1 + (1 : Int)))))
 else (none))
 else (none))
 else (none))
 else (some (.inr (x0)))
noncomputable def p46 (aa na ma : Nat) (ta : Nat → Int) : Option (St46 ⊕ Rt46) := bif (decide ((↑na : Int) < (1 : Int)))
 then (none)
 else (bif (decide ((0 : Int) ≤ (0 : Int) ∧ (0 : Int) < (↑na : Int)))
 then (bif (decide (0 + aa < ma))
 then (some (.inl (.h0 (ta (0 + aa)) ((1 : Int)))))
 else (none))
 else (none))
noncomputable def Te46 (test : Bool → Prop → Prop → Prop) (Kst : KS) (Kret : KR) (aa na ma : Nat) (ta : Nat → Int) : Prop :=
  test (decide ((↑na : Int) < (1 : Int)))
 (False)
 (test (decide ((0 : Int) ≤ (0 : Int) ∧ (0 : Int) < (↑na : Int)))
 (test (decide (0 + aa < ma))
 (Kst (hd Try.f46 0) ([PV.loose (PA.mk (0) (1) aa (0)) na,
 PV.int IntKind.i64 (ta (0 + aa)), PV.int IntKind.i64 (1 : Int)]) ([[(0, false, Blk.cols ma [Col.int IntKind.i64 ta])]]) (1))
 (False))
 (False))
set_option maxRecDepth 100000 in
theorem te46 (test : Bool → Prop → Prop → Prop) (Kst : KS) (Kret : KR) (aa na ma : Nat) (ta : Nat → Int) : run test Try.env true noX true 400 ⟨46, [.cd (mkFn Try.f46).body], argT 0 [.loose ⟨0, 1, aa, 0⟩ na], [[], [(0, (false, .cols ma [.int .i64 ta]))]], 1⟩ (proj 1 [0, 3, 4] Kst Kret) =
  Te46 test Kst Kret aa na ma ta := by kernel_rfl
noncomputable def T46_0 (test : Bool → Prop → Prop → Prop) (Kst : KS) (Kret : KR) (aa na ma : Nat) (ta : Nat → Int) (x0 : Int) (x1 : Int) : Prop :=
  test (decide (x1 < (↑na : Int)))
 (test (decide ((0 : Int) ≤ x1 ∧ x1 < (↑na : Int)))
 (test (decide (Int.toNat x1 + aa < ma))
 (test (lim IntKind.i64 (x1 + (1 : Int)))
 (Kst (hd Try.f46 0) ([PV.loose (PA.mk (0) (1) aa (0)) na,
 PV.int IntKind.i64 (Max.max x0 (ta (Int.toNat x1 + aa))), PV.int IntKind.i64 (x1 + (1 : Int))]) ([[(0, false, Blk.cols ma [Col.int IntKind.i64 ta])]]) (1))
 (False))
 (False))
 (False))
 (Kret (PV.int IntKind.i64 x0) ([[(0, false, Blk.cols ma [Col.int IntKind.i64 ta])]]) (1))
set_option maxRecDepth 100000 in
theorem t46_0 (test : Bool → Prop → Prop → Prop) (Kst : KS) (Kret : KR) (aa na ma : Nat) (ta : Nat → Int) (x0 : Int) (x1 : Int) : run test Try.env true noX true 400 ⟨46, hd Try.f46 0, zipT [0, 3, 4] [PV.loose (PA.mk (0) (1) aa (0)) na, PV.int IntKind.i64 x0,
 PV.int IntKind.i64 x1], [[], [(0, (false, .cols ma [.int .i64 ta]))]], 1⟩ (proj 1 [0, 3, 4] Kst Kret) =
  T46_0 test Kst Kret aa na ma ta x0 x1 := by kernel_rfl
set_option maxRecDepth 100000 in
theorem be46 (aa na ma : Nat) (ta : Nat → Int) (Kst : KS) (Kret : KR) (x : St46 ⊕ Rt46) (hS : HS 1 400 ((I46 aa na ma ta)) Kst x) (hR : HR 1 400 ((V46 aa na ma ta)) (fun r => [newL (1 + 1) ((N46 aa na ma ta) r) ++ [(0, (false, .cols ma [.int .i64 ta]))]]) Kret x) (h : (bif (decide ((↑na : Int) < (1 : Int)))
 then (none)
 else (bif (decide ((0 : Int) ≤ (0 : Int) ∧ (0 : Int) < (↑na : Int)))
 then (bif (decide (0 + aa < ma))
 then (some (.inl (.h0 (ta (0 + aa)) ((1 : Int)))))
 else (none))
 else (none)) : Option (St46 ⊕ Rt46)) = some x) : Te46 cond Kst Kret aa na ma ta := by
  unfold Te46
  exact bif_split h
   (fun c0 h => no_some h)
   (fun c0 h => bif_split h
   (fun c1 h => bif_split h
   (fun c2 h => stop_at hS _ h (fun n => n) rfl rfl rfl ⟨(rn_loose (use_lo rfl) rfl rfl rfl), ⟨(rn_int rfl), ⟨(rn_int rfl), trivial⟩⟩⟩ rfl (entl_bor (use_lo rfl) rfl rfl entl_nil))
   (fun c2 h => no_some h))
   (fun c1 h => no_some h))
set_option maxRecDepth 100000 in
theorem b46_0 (aa na ma : Nat) (ta : Nat → Int) (Kst : KS) (Kret : KR) (x : St46 ⊕ Rt46) (hS : HS 1 400 ((I46 aa na ma ta)) Kst x) (hR : HR 1 400 ((V46 aa na ma ta)) (fun r => [newL (1 + 1) ((N46 aa na ma ta) r) ++ [(0, (false, .cols ma [.int .i64 ta]))]]) Kret x) (x0 : Int) (x1 : Int) (h : (bif (decide (x1 < (↑na : Int)))
 then (bif (decide ((0 : Int) ≤ x1 ∧ x1 < (↑na : Int)))
 then (bif (decide (Int.toNat x1 + aa < ma))
 then (bif (lim IntKind.i64 (x1 + (1 : Int)))
 then (some (.inl (.h0 (Max.max x0 (ta (Int.toNat x1 + aa))) (x1 + (1 : Int)))))
 else (none))
 else (none))
 else (none))
 else (some (.inr (x0))) : Option (St46 ⊕ Rt46)) = some x) : T46_0 cond Kst Kret aa na ma ta x0 x1 := by
  unfold T46_0
  exact bif_split h
   (fun c0 h => bif_split h
   (fun c1 h => bif_split h
   (fun c2 h => bif_split h
   (fun c3 h => stop_at hS _ h (fun n => n) rfl rfl rfl ⟨(rn_loose (use_lo rfl) rfl rfl rfl), ⟨(rn_int rfl), ⟨(rn_int rfl), trivial⟩⟩⟩ rfl (entl_bor (use_lo rfl) rfl rfl entl_nil))
   (fun c3 h => no_some h))
   (fun c2 h => no_some h))
   (fun c1 h => no_some h))
   (fun c0 h => ret_at hR _ h (fun n => n) rfl rfl rfl (rn_int rfl) rfl (entl_bor (use_lo rfl) rfl rfl entl_nil))
theorem a46 (aa na ma : Nat) (ta : Nat → Int) {r : Rt46} (h : Goes ((q46 aa na ma ta)) ((p46 aa na ma ta)) r) : CallR Try.prog 46 [.loose ⟨0, 1, aa, 0⟩ na] [[(0, (false, .cols ma [.int .i64 ta]))]] 1 ((V46 aa na ma ta) r) ((fun r => [newL (1 + 1) ((N46 aa na ma ta) r) ++ [(0, (false, .cols ma [.int .i64 ta]))]]) r) 400 ∧ ∃ F, Try.prog.funcs[46]? = some F ∧ F.body.isSome = true ∧ (F.name == "runtime.NumGoroutine") = false := by
  refine dec_calls (f := 46) (lo := 1) (hi := 400) (H := [[(0, (false, .cols ma [.int .i64 ta]))]]) (args := [.loose ⟨0, 1, aa, 0⟩ na]) Try.envOk Try.mixed noX_ok ((I46 aa na ma ta)) ((V46 aa na ma ta)) (fun r => [newL (1 + 1) ((N46 aa na ma ta) r) ++ [(0, (false, .cols ma [.int .i64 ta]))]]) (fn := mkFn Try.f46) (ts := [0, 3, 4]) (n := 400) rfl (by decide) (by simp) (names_of rfl) ?_ ?_ ?_ h
  · intro s; cases s <;> exact ⟨hd_ok _ _, by simp [I46], names_of rfl, Nat.le_of_ble_eq_true rfl⟩
  · intro Kst Kret x hS hR h
    exact Holds.eq (te46 cond Kst Kret aa na ma ta) (be46 aa na ma ta Kst Kret x hS hR h)
  · intro Kst Kret x hS hR s h
    cases s with
    | h0 x0 x1 => exact Holds.eq (t46_0 cond Kst Kret aa na ma ta x0 x1) (b46_0 aa na ma ta Kst Kret x hS hR x0 x1 h)
noncomputable def k46 : Con := ⟨46, [.one (.list [.int .i64])], fun (x : (Nat × Nat × Nat × (Nat → Int) × Unit) × Unit) => (fun (aa na ma : Nat) (ta : Nat → Int) => decide (aa + na ≤ ma ∧ na ≤ 1000000 ∧ 0 < na)) x.1.1 x.1.2.1 x.1.2.2.1 x.1.2.2.2.1, fun (x : (Nat × Nat × Nat × (Nat → Int) × Unit) × Unit) => (fun (aa na ma : Nat) (ta : Nat → Int) => (V46 aa na ma ta) (S.maxN (fun j => ta (j + aa)) (na - 1))) x.1.1 x.1.2.1 x.1.2.2.1 x.1.2.2.2.1, fun (x : (Nat × Nat × Nat × (Nat → Int) × Unit) × Unit) => (fun (aa na ma : Nat) (ta : Nat → Int) => (N46 aa na ma ta) (S.maxN (fun j => ta (j + aa)) (na - 1))) x.1.1 x.1.2.1 x.1.2.2.1 x.1.2.2.2.1, fun _ _ => .dead⟩
theorem s46' (aa na ma : Nat) (ta : Nat → Int) (hp : aa + na ≤ ma ∧ na ≤ 1000000 ∧ 0 < na) : ∀ k i : Nat, i + 1 + k = na → Comes (q46 aa na ma ta) (.h0 (S.maxN (fun j => ta (j + aa)) i) ((i : Int) + 1)) (S.maxN (fun j => ta (j + aa)) (na - 1)) := by
  obtain ⟨hp1, hp2, hp3⟩ := hp
  intro k
  induction k with
  | zero =>
    intro i hi
    obtain rfl : i = na - 1 := by omega
    apply Comes.of
    show Goes _ _ _
    unfold q46
    repeat' first
      | with_reducible refine goes_if (fun h => ?_) (fun h => ?_) <;> (try simp only [lim64, decide_eq_true_eq, decide_eq_false_iff_not, Int.toNat_natCast, toNat_pred, toNat_succ, Option.getD_some, Option.getD_none, Bool.not_eq_true', Bool.not_eq_false', Bool.and_eq_true, Bool.or_eq_true, Bool.and_eq_false_iff, Bool.or_eq_false_iff, bne_iff_ne, beq_iff_eq, bne_eq_false_iff_eq, beq_eq_false_iff_ne, ne_eq, not_and, Int.not_le, Int.not_lt, ge_iff_le, gt_iff_lt, Nat.not_lt, Nat.not_le, Bool.not_eq_true, Bool.not_eq_false, Bool.true_eq_false, Bool.false_eq_true, not_false_eq_true, not_true_eq_false] at h)
      | exact goes_none.mpr (by omega)
    all_goals first | (exfalso; omega) | rfl
  | succ k ih =>
    intro i hi
    have ih := ih (i + 1) (by omega)
    apply Comes.of
    show Goes _ _ _
    unfold q46
    repeat' first
      | with_reducible refine goes_if (fun h => ?_) (fun h => ?_) <;> (try simp only [lim64, decide_eq_true_eq, decide_eq_false_iff_not, Int.toNat_natCast, toNat_pred, toNat_succ, Option.getD_some, Option.getD_none, Bool.not_eq_true', Bool.not_eq_false', Bool.and_eq_true, Bool.or_eq_true, Bool.and_eq_false_iff, Bool.or_eq_false_iff, bne_iff_ne, beq_iff_eq, bne_eq_false_iff_eq, beq_eq_false_iff_ne, ne_eq, not_and, Int.not_le, Int.not_lt, ge_iff_le, gt_iff_lt, Nat.not_lt, Nat.not_le, Bool.not_eq_true, Bool.not_eq_false, Bool.true_eq_false, Bool.false_eq_true, not_false_eq_true, not_true_eq_false] at h)
      | exact goes_none.mpr (by omega)
    all_goals first | (exfalso; omega) | exact ih
theorem s46 (aa na ma : Nat) (ta : Nat → Int) (hp : aa + na ≤ ma ∧ na ≤ 1000000 ∧ 0 < na) : Goes ((q46 aa na ma ta)) ((p46 aa na ma ta)) (S.maxN (fun j => ta (j + aa)) (na - 1)) := by
  have hm := s46' aa na ma ta hp (na - 1) 0 (by omega)
  obtain ⟨hp1, hp2, hp3⟩ := hp
  show Goes _ _ _
  unfold p46
  repeat' first
    | with_reducible refine goes_if (fun h => ?_) (fun h => ?_) <;> (try simp only [lim64, decide_eq_true_eq, decide_eq_false_iff_not, Int.toNat_natCast, toNat_pred, toNat_succ, Option.getD_some, Option.getD_none, Bool.not_eq_true', Bool.not_eq_false', Bool.and_eq_true, Bool.or_eq_true, Bool.and_eq_false_iff, Bool.or_eq_false_iff, bne_iff_ne, beq_iff_eq, bne_eq_false_iff_eq, beq_eq_false_iff_ne, ne_eq, not_and, Int.not_le, Int.not_lt, ge_iff_le, gt_iff_lt, Nat.not_lt, Nat.not_le, Bool.not_eq_true, Bool.not_eq_false, Bool.true_eq_false, Bool.false_eq_true, not_false_eq_true, not_true_eq_false] at h)
    | exact goes_none.mpr (by omega)
  all_goals first | (exfalso; omega) | exact hm

theorem k46_ok : k46.ok Try.prog := by
  intro x hx
  obtain ⟨⟨aa, na, ma, ta, _⟩, _⟩ := x
  obtain ⟨h1, h2⟩ := a46 aa na ma ta (s46 aa na ma ta (of_decide_eq_true hx))
  exact ⟨⟨400, (by decide : 1 + 1 + 0 ≤ 400), h1⟩, h2⟩
inductive St47 where
  | h0 (x0 : Int) (x1 : Int)
abbrev Rt47 := Int
noncomputable def V47 (aa na ma : Nat) (ta : Nat → Int) (r : Rt47) : PV := PV.int IntKind.i64 r
noncomputable def N47 (aa na ma : Nat) (ta : Nat → Int) (r : Rt47) : List Blk := []
noncomputable def I47 (aa na ma : Nat) (ta : Nat → Int) : St47 → Hd
  | .h0 x0 x1 => ⟨hd Try.f47 0, [PV.loose (PA.mk (0) (1) aa (0)) na, PV.int IntKind.i64 x0,
 PV.int IntKind.i64 x1], [[], [(0, (false, .cols ma [.int .i64 ta]))]], 1⟩
noncomputable def q47 (aa na ma : Nat) (ta : Nat → Int) : St47 → Option (St47 ⊕ Rt47)
  | .h0 x0 x1 => bif (decide (x1 < (↑na : Int)))
 then (bif (decide ((0 : Int) ≤ x1 ∧ x1 < (↑na : Int)))
 then (bif (decide (Int.toNat x1 + aa < ma))
 then (bif (lim IntKind.i64 (x1 + (1 : Int)))
 then (some (.inl (.h0 (Min.min x0 (ta (Int.toNat x1 + aa))) (x1 + (1 : Int)))))
 else (none))
 else (none))
 else (none))
 else (some (.inr (x0)))
noncomputable def p47 (aa na ma : Nat) (ta : Nat → Int) : Option (St47 ⊕ Rt47) := bif (decide ((↑na : Int) < (1 : Int)))
 then (none)
 else (bif (decide ((0 : Int) ≤ (0 : Int) ∧ (0 : Int) < (↑na : Int)))
 then (bif (decide (0 + aa < ma))
 then (some (.inl (.h0 (ta (0 + aa)) ((1 : Int)))))
 else (none))
 else (none))
noncomputable def Te47 (test : Bool → Prop → Prop → Prop) (Kst : KS) (Kret : KR) (aa na ma : Nat) (ta : Nat → Int) : Prop :=
  test (decide ((↑na : Int) < (1 : Int)))
 (False)
 (test (decide ((0 : Int) ≤ (0 : Int) ∧ (0 : Int) < (↑na : Int)))
 (test (decide (0 + aa < ma))
 (Kst (hd Try.f47 0) ([PV.loose (PA.mk (0) (1) aa (0)) na,
 PV.int IntKind.i64 (ta (0 + aa)), PV.int IntKind.i64 (1 : Int)]) ([[(0, false, Blk.cols ma [Col.int IntKind.i64 ta])]]) (1))
 (False))
 (False))
set_option maxRecDepth 100000 in
theorem te47 (test : Bool → Prop → Prop → Prop) (Kst : KS) (Kret : KR) (aa na ma : Nat) (ta : Nat → Int) : run test Try.env true noX true 400 ⟨47, [.cd (mkFn Try.f47).body], argT 0 [.loose ⟨0, 1, aa, 0⟩ na], [[], [(0, (false, .cols ma [.int .i64 ta]))]], 1⟩ (proj 1 [0, 3, 4] Kst Kret) =
  Te47 test Kst Kret aa na ma ta := by kernel_rfl
noncomputable def T47_0 (test : Bool → Prop → Prop → Prop) (Kst : KS) (Kret : KR) (aa na ma : Nat) (ta : Nat → Int) (x0 : Int) (x1 : Int) : Prop :=
  test (decide (x1 < (↑na : Int)))
 (test (decide ((0 : Int) ≤ x1 ∧ x1 < (↑na : Int)))
 (test (decide (Int.toNat x1 + aa < ma))
 (test (lim IntKind.i64 (x1 + (1 : Int)))
 (Kst (hd Try.f47 0) ([PV.loose (PA.mk (0) (1) aa (0)) na,
 PV.int IntKind.i64 (Min.min x0 (ta (Int.toNat x1 + aa))), PV.int IntKind.i64 (x1 + (1 : Int))]) ([[(0, false, Blk.cols ma [Col.int IntKind.i64 ta])]]) (1))
 (False))
 (False))
 (False))
 (Kret (PV.int IntKind.i64 x0) ([[(0, false, Blk.cols ma [Col.int IntKind.i64 ta])]]) (1))
set_option maxRecDepth 100000 in
theorem t47_0 (test : Bool → Prop → Prop → Prop) (Kst : KS) (Kret : KR) (aa na ma : Nat) (ta : Nat → Int) (x0 : Int) (x1 : Int) : run test Try.env true noX true 400 ⟨47, hd Try.f47 0, zipT [0, 3, 4] [PV.loose (PA.mk (0) (1) aa (0)) na, PV.int IntKind.i64 x0,
 PV.int IntKind.i64 x1], [[], [(0, (false, .cols ma [.int .i64 ta]))]], 1⟩ (proj 1 [0, 3, 4] Kst Kret) =
  T47_0 test Kst Kret aa na ma ta x0 x1 := by kernel_rfl
set_option maxRecDepth 100000 in
theorem be47 (aa na ma : Nat) (ta : Nat → Int) (Kst : KS) (Kret : KR) (x : St47 ⊕ Rt47) (hS : HS 1 400 ((I47 aa na ma ta)) Kst x) (hR : HR 1 400 ((V47 aa na ma ta)) (fun r => [newL (1 + 1) ((N47 aa na ma ta) r) ++ [(0, (false, .cols ma [.int .i64 ta]))]]) Kret x) (h : (bif (decide ((↑na : Int) < (1 : Int)))
 then (none)
 else (bif (decide ((0 : Int) ≤ (0 : Int) ∧ (0 : Int) < (↑na : Int)))
 then (bif (decide (0 + aa < ma))
 then (some (.inl (.h0 (ta (0 + aa)) ((1 : Int)))))
 else (none))
 else (none)) : Option (St47 ⊕ Rt47)) = some x) : Te47 cond Kst Kret aa na ma ta := by
  unfold Te47
  exact bif_split h
   (fun c0 h => no_some h)
   (fun c0 h => bif_split h
   (fun c1 h => bif_split h
   (fun c2 h => stop_at hS _ h (fun n => n) rfl rfl rfl ⟨(rn_loose (use_lo rfl) rfl rfl rfl), ⟨(rn_int rfl), ⟨(rn_int rfl), trivial⟩⟩⟩ rfl (entl_bor (use_lo rfl) rfl rfl entl_nil))
   (fun c2 h => no_some h))
   (fun c1 h => no_some h))
set_option maxRecDepth 100000 in
theorem b47_0 (aa na ma : Nat) (ta : Nat → Int) (Kst : KS) (Kret : KR) (x : St47 ⊕ Rt47) (hS : HS 1 400 ((I47 aa na ma ta)) Kst x) (hR : HR 1 400 ((V47 aa na ma ta)) (fun r => [newL (1 + 1) ((N47 aa na ma ta) r) ++ [(0, (false, .cols ma [.int .i64 ta]))]]) Kret x) (x0 : Int) (x1 : Int) (h : (bif (decide (x1 < (↑na : Int)))
 then (bif (decide ((0 : Int) ≤ x1 ∧ x1 < (↑na : Int)))
 then (bif (decide (Int.toNat x1 + aa < ma))
 then (bif (lim IntKind.i64 (x1 + (1 : Int)))
 then (some (.inl (.h0 (Min.min x0 (ta (Int.toNat x1 + aa))) (x1 + (1 : Int)))))
 else (none))
 else (none))
 else (none))
 else (some (.inr (x0))) : Option (St47 ⊕ Rt47)) = some x) : T47_0 cond Kst Kret aa na ma ta x0 x1 := by
  unfold T47_0
  exact bif_split h
   (fun c0 h => bif_split h
   (fun c1 h => bif_split h
   (fun c2 h => bif_split h
   (fun c3 h => stop_at hS _ h (fun n => n) rfl rfl rfl ⟨(rn_loose (use_lo rfl) rfl rfl rfl), ⟨(rn_int rfl), ⟨(rn_int rfl), trivial⟩⟩⟩ rfl (entl_bor (use_lo rfl) rfl rfl entl_nil))
   (fun c3 h => no_some h))
   (fun c2 h => no_some h))
   (fun c1 h => no_some h))
   (fun c0 h => ret_at hR _ h (fun n => n) rfl rfl rfl (rn_int rfl) rfl (entl_bor (use_lo rfl) rfl rfl entl_nil))
theorem a47 (aa na ma : Nat) (ta : Nat → Int) {r : Rt47} (h : Goes ((q47 aa na ma ta)) ((p47 aa na ma ta)) r) : CallR Try.prog 47 [.loose ⟨0, 1, aa, 0⟩ na] [[(0, (false, .cols ma [.int .i64 ta]))]] 1 ((V47 aa na ma ta) r) ((fun r => [newL (1 + 1) ((N47 aa na ma ta) r) ++ [(0, (false, .cols ma [.int .i64 ta]))]]) r) 400 ∧ ∃ F, Try.prog.funcs[47]? = some F ∧ F.body.isSome = true ∧ (F.name == "runtime.NumGoroutine") = false := by
  refine dec_calls (f := 47) (lo := 1) (hi := 400) (H := [[(0, (false, .cols ma [.int .i64 ta]))]]) (args := [.loose ⟨0, 1, aa, 0⟩ na]) Try.envOk Try.mixed noX_ok ((I47 aa na ma ta)) ((V47 aa na ma ta)) (fun r => [newL (1 + 1) ((N47 aa na ma ta) r) ++ [(0, (false, .cols ma [.int .i64 ta]))]]) (fn := mkFn Try.f47) (ts := [0, 3, 4]) (n := 400) rfl (by decide) (by simp) (names_of rfl) ?_ ?_ ?_ h
  · intro s; cases s <;> exact ⟨hd_ok _ _, by simp [I47], names_of rfl, Nat.le_of_ble_eq_true rfl⟩
  · intro Kst Kret x hS hR h
    exact Holds.eq (te47 cond Kst Kret aa na ma ta) (be47 aa na ma ta Kst Kret x hS hR h)
  · intro Kst Kret x hS hR s h
    cases s with
    | h0 x0 x1 => exact Holds.eq (t47_0 cond Kst Kret aa na ma ta x0 x1) (b47_0 aa na ma ta Kst Kret x hS hR x0 x1 h)
noncomputable def k47 : Con := ⟨47, [.one (.list [.int .i64])], fun (x : (Nat × Nat × Nat × (Nat → Int) × Unit) × Unit) => (fun (aa na ma : Nat) (ta : Nat → Int) => decide (aa + na ≤ ma ∧ na ≤ 1000000 ∧ 0 < na)) x.1.1 x.1.2.1 x.1.2.2.1 x.1.2.2.2.1, fun (x : (Nat × Nat × Nat × (Nat → Int) × Unit) × Unit) => (fun (aa na ma : Nat) (ta : Nat → Int) => (V47 aa na ma ta) (S.minN (fun j => ta (j + aa)) (na - 1))) x.1.1 x.1.2.1 x.1.2.2.1 x.1.2.2.2.1, fun (x : (Nat × Nat × Nat × (Nat → Int) × Unit) × Unit) => (fun (aa na ma : Nat) (ta : Nat → Int) => (N47 aa na ma ta) (S.minN (fun j => ta (j + aa)) (na - 1))) x.1.1 x.1.2.1 x.1.2.2.1 x.1.2.2.2.1, fun _ _ => .dead⟩
theorem s47' (aa na ma : Nat) (ta : Nat → Int) (hp : aa + na ≤ ma ∧ na ≤ 1000000 ∧ 0 < na) : ∀ k i : Nat, i + 1 + k = na → Comes (q47 aa na ma ta) (.h0 (S.minN (fun j => ta (j + aa)) i) ((i : Int) + 1)) (S.minN (fun j => ta (j + aa)) (na - 1)) := by
  obtain ⟨hp1, hp2, hp3⟩ := hp
  intro k
  induction k with
  | zero =>
    intro i hi
    obtain rfl : i = na - 1 := by omega
    apply Comes.of
    show Goes _ _ _
    unfold q47
    repeat' first
      | with_reducible refine goes_if (fun h => ?_) (fun h => ?_) <;> (try simp only [lim64, decide_eq_true_eq, decide_eq_false_iff_not, Int.toNat_natCast, toNat_pred, toNat_succ, Option.getD_some, Option.getD_none, Bool.not_eq_true', Bool.not_eq_false', Bool.and_eq_true, Bool.or_eq_true, Bool.and_eq_false_iff, Bool.or_eq_false_iff, bne_iff_ne, beq_iff_eq, bne_eq_false_iff_eq, beq_eq_false_iff_ne, ne_eq, not_and, Int.not_le, Int.not_lt, ge_iff_le, gt_iff_lt, Nat.not_lt, Nat.not_le, Bool.not_eq_true, Bool.not_eq_false, Bool.true_eq_false, Bool.false_eq_true, not_false_eq_true, not_true_eq_false] at h)
      | exact goes_none.mpr (by omega)
    all_goals first | (exfalso; omega) | rfl
  | succ k ih =>
    intro i hi
    have ih := ih (i + 1) (by omega)
    apply Comes.of
    show Goes _ _ _
    unfold q47
    repeat' first
      | with_reducible refine goes_if (fun h => ?_) (fun h => ?_) <;> (try simp only [lim64, decide_eq_true_eq, decide_eq_false_iff_not, Int.toNat_natCast, toNat_pred, toNat_succ, Option.getD_some, Option.getD_none, Bool.not_eq_true', Bool.not_eq_false', Bool.and_eq_true, Bool.or_eq_true, Bool.and_eq_false_iff, Bool.or_eq_false_iff, bne_iff_ne, beq_iff_eq, bne_eq_false_iff_eq, beq_eq_false_iff_ne, ne_eq, not_and, Int.not_le, Int.not_lt, ge_iff_le, gt_iff_lt, Nat.not_lt, Nat.not_le, Bool.not_eq_true, Bool.not_eq_false, Bool.true_eq_false, Bool.false_eq_true, not_false_eq_true, not_true_eq_false] at h)
      | exact goes_none.mpr (by omega)
    all_goals first | (exfalso; omega) | exact ih
theorem s47 (aa na ma : Nat) (ta : Nat → Int) (hp : aa + na ≤ ma ∧ na ≤ 1000000 ∧ 0 < na) : Goes ((q47 aa na ma ta)) ((p47 aa na ma ta)) (S.minN (fun j => ta (j + aa)) (na - 1)) := by
  have hm := s47' aa na ma ta hp (na - 1) 0 (by omega)
  obtain ⟨hp1, hp2, hp3⟩ := hp
  show Goes _ _ _
  unfold p47
  repeat' first
    | with_reducible refine goes_if (fun h => ?_) (fun h => ?_) <;> (try simp only [lim64, decide_eq_true_eq, decide_eq_false_iff_not, Int.toNat_natCast, toNat_pred, toNat_succ, Option.getD_some, Option.getD_none, Bool.not_eq_true', Bool.not_eq_false', Bool.and_eq_true, Bool.or_eq_true, Bool.and_eq_false_iff, Bool.or_eq_false_iff, bne_iff_ne, beq_iff_eq, bne_eq_false_iff_eq, beq_eq_false_iff_ne, ne_eq, not_and, Int.not_le, Int.not_lt, ge_iff_le, gt_iff_lt, Nat.not_lt, Nat.not_le, Bool.not_eq_true, Bool.not_eq_false, Bool.true_eq_false, Bool.false_eq_true, not_false_eq_true, not_true_eq_false] at h)
    | exact goes_none.mpr (by omega)
  all_goals first | (exfalso; omega) | exact hm

theorem k47_ok : k47.ok Try.prog := by
  intro x hx
  obtain ⟨⟨aa, na, ma, ta, _⟩, _⟩ := x
  obtain ⟨h1, h2⟩ := a47 aa na ma ta (s47 aa na ma ta (of_decide_eq_true hx))
  exact ⟨⟨400, (by decide : 1 + 1 + 0 ≤ 400), h1⟩, h2⟩


end Go.Ev
