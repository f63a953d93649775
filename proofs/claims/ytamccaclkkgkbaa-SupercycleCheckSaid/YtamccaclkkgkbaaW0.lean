/-
  Maximum of a list.
-/
import Derived.Test.YtamccaclkkgkbaaB3
namespace Go.Ev
open Go.Proofs
set_option linter.unusedVariables false
set_option linter.unusedSimpArgs false
set_option maxRecDepth 100000
inductive St58 where
  | h0 (x0 : Int) (x1 : Int)
abbrev Rt58 := Int
noncomputable def V58 (aa na ma : Nat) (ta : Nat → Int) (r : Rt58) : PV := PV.int IntKind.i64 r
noncomputable def N58 (aa na ma : Nat) (ta : Nat → Int) (r : Rt58) : List Blk := []
noncomputable def I58 (aa na ma : Nat) (ta : Nat → Int) : St58 → Hd
  | .h0 x0 x1 => ⟨hd Try.f58 0, [PV.loose (PA.mk (0) (1) aa (0)) na, PV.int IntKind.i64 x0,
 PV.int IntKind.i64 x1], [[], [(0, (false, .cols ma [.int .i64 ta]))]], 1⟩
noncomputable def q58 (aa na ma : Nat) (ta : Nat → Int) : St58 → Option (St58 ⊕ Rt58)
  | .h0 x0 x1 => bif (decide (x1 < (↑na : Int)))
 then (bif (decide ((0 : Int) ≤ x1 ∧ x1 < (↑na : Int)))
 then (bif (decide (Int.toNat x1 + aa < ma))
 then (bif (lim IntKind.i64 (x1 + (1 : Int)))
 then (some (.inl (.h0 (Max.max x0 (ta (Int.toNat x1 + aa))) (x1 + (1 : Int)))))
 else (none))
 else (none))
 else (none))
 else (some (.inr (x0)))
noncomputable def p58 (aa na ma : Nat) (ta : Nat → Int) : Option (St58 ⊕ Rt58) := bif (decide ((↑na : Int) < (1 : Int)))
 then (none)
 else (bif (decide ((0 : Int) ≤ (0 : Int) ∧ (0 : Int) < (↑na : Int)))
 then (bif (decide (0 + aa < ma))
 then (some (.inl (.h0 (ta (0 + aa)) ((1 : Int)))))
 else (none))
 else (none))
noncomputable def Te58 (test : Bool → Prop → Prop → Prop) (Kst : KS) (Kret : KR) (aa na ma : Nat) (ta : Nat → Int) : Prop :=
  test (decide ((↑na : Int) < (1 : Int)))
 (False)
 (test (decide ((0 : Int) ≤ (0 : Int) ∧ (0 : Int) < (↑na : Int)))
 (test (decide (0 + aa < ma))
 (Kst (hd Try.f58 0) ([PV.loose (PA.mk (0) (1) aa (0)) na,
 PV.int IntKind.i64 (ta (0 + aa)), PV.int IntKind.i64 (1 : Int)]) ([[(0, false, Blk.cols ma [Col.int IntKind.i64 ta])]]) (1))
 (False))
 (False))
set_option maxRecDepth 100000 in
theorem te58 (test : Bool → Prop → Prop → Prop) (Kst : KS) (Kret : KR) (aa na ma : Nat) (ta : Nat → Int) : run test Try.env true noX true 400 ⟨58, [.cd (mkFn Try.f58).body], argT 0 [.loose ⟨0, 1, aa, 0⟩ na], [[], [(0, (false, .cols ma [.int .i64 ta]))]], 1⟩ (proj 1 [0, 3, 4] Kst Kret) =
  Te58 test Kst Kret aa na ma ta := by kernel_rfl
noncomputable def T58_0 (test : Bool → Prop → Prop → Prop) (Kst : KS) (Kret : KR) (aa na ma : Nat) (ta : Nat → Int) (x0 : Int) (x1 : Int) : Prop :=
  test (decide (x1 < (↑na : Int)))
 (test (decide ((0 : Int) ≤ x1 ∧ x1 < (↑na : Int)))
 (test (decide (Int.toNat x1 + aa < ma))
 (test (lim IntKind.i64 (x1 + (1 : Int)))
 (Kst (hd Try.f58 0) ([PV.loose (PA.mk (0) (1) aa (0)) na,
 PV.int IntKind.i64 (Max.max x0 (ta (Int.toNat x1 + aa))), PV.int IntKind.i64 (x1 + (1 : Int))]) ([[(0, false, Blk.cols ma [Col.int IntKind.i64 ta])]]) (1))
 (False))
 (False))
 (False))
 (Kret (PV.int IntKind.i64 x0) ([[(0, false, Blk.cols ma [Col.int IntKind.i64 ta])]]) (1))
set_option maxRecDepth 100000 in
theorem t58_0 (test : Bool → Prop → Prop → Prop) (Kst : KS) (Kret : KR) (aa na ma : Nat) (ta : Nat → Int) (x0 : Int) (x1 : Int) : run test Try.env true noX true 400 ⟨58, hd Try.f58 0, zipT [0, 3, 4] [PV.loose (PA.mk (0) (1) aa (0)) na, PV.int IntKind.i64 x0,
 PV.int IntKind.i64 x1], [[], [(0, (false, .cols ma [.int .i64 ta]))]], 1⟩ (proj 1 [0, 3, 4] Kst Kret) =
  T58_0 test Kst Kret aa na ma ta x0 x1 := by kernel_rfl
attribute [local irreducible] Int.subNatNat in
set_option maxRecDepth 100000 in
theorem be58 (aa na ma : Nat) (ta : Nat → Int) (Kst : KS) (Kret : KR) (x : St58 ⊕ Rt58) (hS : HS 1 400 ((I58 aa na ma ta)) Kst x) (hR : HR 1 400 ((V58 aa na ma ta)) (fun r => [newL (1 + 1) ((N58 aa na ma ta) r) ++ [(0, (false, .cols ma [.int .i64 ta]))]]) Kret x) (h : (bif (decide ((↑na : Int) < (1 : Int)))
 then (none)
 else (bif (decide ((0 : Int) ≤ (0 : Int) ∧ (0 : Int) < (↑na : Int)))
 then (bif (decide (0 + aa < ma))
 then (some (.inl (.h0 (ta (0 + aa)) ((1 : Int)))))
 else (none))
 else (none)) : Option (St58 ⊕ Rt58)) = some x) : Te58 cond Kst Kret aa na ma ta := by
  unfold Te58
  exact bif_split h
   (fun c0 h => no_some h)
   (fun c0 h => bif_split h
   (fun c1 h => bif_split h
   (fun c2 h => stop_at hS _ h (fun n => n) rfl rfl rfl ⟨(rn_loose (use_lo rfl) rfl rfl rfl), ⟨(rn_int rfl), ⟨(rn_int rfl), trivial⟩⟩⟩ rfl (entl_bor (use_lo rfl) rfl rfl entl_nil))
   (fun c2 h => no_some h))
   (fun c1 h => no_some h))
attribute [local irreducible] Int.subNatNat in
set_option maxRecDepth 100000 in
theorem b58_0 (aa na ma : Nat) (ta : Nat → Int) (Kst : KS) (Kret : KR) (x : St58 ⊕ Rt58) (hS : HS 1 400 ((I58 aa na ma ta)) Kst x) (hR : HR 1 400 ((V58 aa na ma ta)) (fun r => [newL (1 + 1) ((N58 aa na ma ta) r) ++ [(0, (false, .cols ma [.int .i64 ta]))]]) Kret x) (x0 : Int) (x1 : Int) (h : (bif (decide (x1 < (↑na : Int)))
 then (bif (decide ((0 : Int) ≤ x1 ∧ x1 < (↑na : Int)))
 then (bif (decide (Int.toNat x1 + aa < ma))
 then (bif (lim IntKind.i64 (x1 + (1 : Int)))
 then (some (.inl (.h0 (Max.max x0 (ta (Int.toNat x1 + aa))) (x1 + (1 : Int)))))
 else (none))
 else (none))
 else (none))
 else (some (.inr (x0))) : Option (St58 ⊕ Rt58)) = some x) : T58_0 cond Kst Kret aa na ma ta x0 x1 := by
  unfold T58_0
  exact bif_split h
   (fun c0 h => bif_split h
   (fun c1 h => bif_split h
   (fun c2 h => bif_split h
   (fun c3 h => stop_at hS _ h (fun n => n) rfl rfl rfl ⟨(rn_loose (use_lo rfl) rfl rfl rfl), ⟨(rn_int rfl), ⟨(rn_int rfl), trivial⟩⟩⟩ rfl (entl_bor (use_lo rfl) rfl rfl entl_nil))
   (fun c3 h => no_some h))
   (fun c2 h => no_some h))
   (fun c1 h => no_some h))
   (fun c0 h => ret_at hR _ h (fun n => n) rfl rfl rfl (rn_int rfl) rfl (entl_bor (use_lo rfl) rfl rfl entl_nil))
theorem a58 (aa na ma : Nat) (ta : Nat → Int) {r : Rt58} (h : Goes ((q58 aa na ma ta)) ((p58 aa na ma ta)) r) : CallR Try.prog 58 [.loose ⟨0, 1, aa, 0⟩ na] [[(0, (false, .cols ma [.int .i64 ta]))]] 1 ((V58 aa na ma ta) r) ((fun r => [newL (1 + 1) ((N58 aa na ma ta) r) ++ [(0, (false, .cols ma [.int .i64 ta]))]]) r) 400 ∧ ∃ F, Try.prog.funcs[58]? = some F ∧ F.body.isSome = true ∧ (F.name == "runtime.NumGoroutine") = false := by
  refine dec_calls (f := 58) (lo := 1) (hi := 400) (H := [[(0, (false, .cols ma [.int .i64 ta]))]]) (args := [.loose ⟨0, 1, aa, 0⟩ na]) Try.envOk Try.mixed noX_ok ((I58 aa na ma ta)) ((V58 aa na ma ta)) (fun r => [newL (1 + 1) ((N58 aa na ma ta) r) ++ [(0, (false, .cols ma [.int .i64 ta]))]]) (fn := mkFn Try.f58) (ts := [0, 3, 4]) (n := 400) rfl (by decide) (by simp) (names_of rfl) ?_ ?_ ?_ h
  · intro s; cases s <;> exact ⟨hd_ok _ _, by simp [I58], names_of rfl, Nat.le_of_ble_eq_true rfl⟩
  · intro Kst Kret x hS hR h
    exact Holds.eq (te58 cond Kst Kret aa na ma ta) (be58 aa na ma ta Kst Kret x hS hR h)
  · intro Kst Kret x hS hR s h
    cases s with
    | h0 x0 x1 => exact Holds.eq (t58_0 cond Kst Kret aa na ma ta x0 x1) (b58_0 aa na ma ta Kst Kret x hS hR x0 x1 h)
noncomputable def k58 : Con := ⟨58, [.one (.list [.int .i64])], fun (x : (Nat × Nat × Nat × (Nat → Int) × Unit) × Unit) => (fun (aa na ma : Nat) (ta : Nat → Int) => decide (aa + na ≤ ma ∧ na ≤ 1000000 ∧ 0 < na)) x.1.1 x.1.2.1 x.1.2.2.1 x.1.2.2.2.1, fun (x : (Nat × Nat × Nat × (Nat → Int) × Unit) × Unit) => (fun (aa na ma : Nat) (ta : Nat → Int) => (V58 aa na ma ta) (S.maxN (fun j => ta (j + aa)) (na - 1))) x.1.1 x.1.2.1 x.1.2.2.1 x.1.2.2.2.1, fun (x : (Nat × Nat × Nat × (Nat → Int) × Unit) × Unit) => (fun (aa na ma : Nat) (ta : Nat → Int) => (N58 aa na ma ta) (S.maxN (fun j => ta (j + aa)) (na - 1))) x.1.1 x.1.2.1 x.1.2.2.1 x.1.2.2.2.1, fun _ _ => .dead⟩
theorem s58' (aa na ma : Nat) (ta : Nat → Int) (hp : aa + na ≤ ma ∧ na ≤ 1000000 ∧ 0 < na) : ∀ k i : Nat, i + 1 + k = na → Comes (q58 aa na ma ta) (.h0 (S.maxN (fun j => ta (j + aa)) i) ((i : Int) + 1)) (S.maxN (fun j => ta (j + aa)) (na - 1)) := by
  obtain ⟨hp1, hp2, hp3⟩ := hp
  intro k
  induction k with
  | zero =>
    intro i hi
    obtain rfl : i = na - 1 := by omega
    apply Comes.of
    show Goes _ _ _
    (first | rw [q58] | unfold q58)
    repeat' first
      | with_reducible refine goes_if (fun h => ?_) (fun h => ?_) <;> (try simp only [lim64, imp_false, decide_eq_true_eq, decide_eq_false_iff_not, Int.toNat_natCast, toNat_pred, toNat_succ, Option.getD_some, Option.getD_none, Bool.not_eq_true', Bool.not_eq_false', Bool.and_eq_true, Bool.or_eq_true, Bool.and_eq_false_iff, Bool.or_eq_false_iff, bne_iff_ne, beq_iff_eq, bne_eq_false_iff_eq, beq_eq_false_iff_ne, ne_eq, not_and, Int.not_le, Int.not_lt, ge_iff_le, gt_iff_lt, Nat.not_lt, Nat.not_le, Bool.not_eq_true, Bool.not_eq_false, Bool.true_eq_false, Bool.false_eq_true, not_false_eq_true, not_true_eq_false] at h)
      | exact goes_none.mpr (by omega)
    all_goals first | (exfalso; omega) | rfl
  | succ k ih =>
    intro i hi
    have ih := ih (i + 1) (by omega)
    apply Comes.of
    show Goes _ _ _
    (first | rw [q58] | unfold q58)
    repeat' first
      | with_reducible refine goes_if (fun h => ?_) (fun h => ?_) <;> (try simp only [lim64, imp_false, decide_eq_true_eq, decide_eq_false_iff_not, Int.toNat_natCast, toNat_pred, toNat_succ, Option.getD_some, Option.getD_none, Bool.not_eq_true', Bool.not_eq_false', Bool.and_eq_true, Bool.or_eq_true, Bool.and_eq_false_iff, Bool.or_eq_false_iff, bne_iff_ne, beq_iff_eq, bne_eq_false_iff_eq, beq_eq_false_iff_ne, ne_eq, not_and, Int.not_le, Int.not_lt, ge_iff_le, gt_iff_lt, Nat.not_lt, Nat.not_le, Bool.not_eq_true, Bool.not_eq_false, Bool.true_eq_false, Bool.false_eq_true, not_false_eq_true, not_true_eq_false] at h)
      | exact goes_none.mpr (by omega)
    all_goals first | (exfalso; omega) | exact ih
theorem s58 (aa na ma : Nat) (ta : Nat → Int) (hp : aa + na ≤ ma ∧ na ≤ 1000000 ∧ 0 < na) : Goes ((q58 aa na ma ta)) ((p58 aa na ma ta)) (S.maxN (fun j => ta (j + aa)) (na - 1)) := by
  have hm := s58' aa na ma ta hp (na - 1) 0 (by omega)
  obtain ⟨hp1, hp2, hp3⟩ := hp
  show Goes _ _ _
  unfold p58
  repeat' first
    | with_reducible refine goes_if (fun h => ?_) (fun h => ?_) <;> (try simp only [lim64, imp_false, decide_eq_true_eq, decide_eq_false_iff_not, Int.toNat_natCast, toNat_pred, toNat_succ, Option.getD_some, Option.getD_none, Bool.not_eq_true', Bool.not_eq_false', Bool.and_eq_true, Bool.or_eq_true, Bool.and_eq_false_iff, Bool.or_eq_false_iff, bne_iff_ne, beq_iff_eq, bne_eq_false_iff_eq, beq_eq_false_iff_ne, ne_eq, not_and, Int.not_le, Int.not_lt, ge_iff_le, gt_iff_lt, Nat.not_lt, Nat.not_le, Bool.not_eq_true, Bool.not_eq_false, Bool.true_eq_false, Bool.false_eq_true, not_false_eq_true, not_true_eq_false] at h)
    | exact goes_none.mpr (by omega)
  all_goals first | (exfalso; omega) | exact hm

theorem k58_ok : k58.ok Try.prog := by
  intro x hx
  obtain ⟨⟨aa, na, ma, ta, _⟩, _⟩ := x
  obtain ⟨h1, h2⟩ := a58 aa na ma ta (s58 aa na ma ta (of_dec hx rfl))
  exact ⟨⟨400, (by decide : 1 + 1 + 0 ≤ 400), h1⟩, h2⟩
noncomputable def xS (test : Bool → Prop → Prop → Prop) : Ext := consX test [k12, k42]
theorem xS_ok : ExtOk Try.prog (xS cond) := consX_ok ⟨k12_ok, k42_ok, trivial⟩

end Go.Ev
