/-
  Measure: the specs.
-/
import Derived.Test.YtffldkecndnbiaaA4
namespace Go.Ev
open Go.Proofs
set_option linter.unusedVariables false
set_option linter.unusedSimpArgs false
set_option maxRecDepth 100000

namespace S
def winT (t : Nat → Int) : Nat → Nat → Bool
  | _, 0 => true
  | i, k + 1 => if 0 ≤ t i ∧ t i ≤ 1000000000 then winT t (i + 1) k else false
def meaT (p j r : Nat → Int) (a : Int) (i : Nat) : Int × Int × Bool × Bool := (max 0 ((r i - (2 * dl p j i + a) + 1) / 2), (r i + (2 * dl p j i + a)) / 2, false, false)
def meaK (f : Nat → Int × Int × Bool × Bool) : Nat → Nat → List (Int × Int × Bool × Bool) → Int × List (Int × Int × Bool × Bool)
  | _, 0, L => (0, L)
  | i, k + 1, L => if (f i).1 > (f i).2.1 then (12, []) else meaK f (i + 1) k (snoc L (f i))
def meaS (n : Nat) (p d u j : Nat → Int) (m : Nat) (r : Nat → Int) (a : Int) : Int × List (Int × Int × Bool × Bool) := if treE n p d u j = 0 then (if m = n ∧ r 0 = 0 ∧ (0 ≤ a ∧ a ≤ 1000000000) ∧ winT r 0 m = true then meaK (meaT p j r a) 1 (n - 1) [(0, 0, false, false)] else (6, [])) else (treE n p d u j, [])
end S
theorem winT_iff {t : Nat → Int} : ∀ {k i : Nat}, S.winT t i k = true ↔ ∀ j, i ≤ j → j < i + k → 0 ≤ t j ∧ t j ≤ 1000000000
  | 0, i => ⟨fun _ j a c => by omega, fun _ => rfl⟩
  | k + 1, i => by
    simp only [S.winT]
    constructor
    · intro h0 j a c
      split at h0
      · by_cases hj : j = i
        · subst hj; assumption
        · exact winT_iff.mp h0 j (by omega) (by omega)
      · cases h0
    · intro h0
      rw [if_pos (h0 i (Nat.le_refl _) (by omega))]
      exact winT_iff.mpr fun j a c => h0 j (by omega) (by omega)
theorem winT_yes {t : Nat → Int} {i k : Nat} (h : 0 ≤ t i ∧ t i ≤ 1000000000) : S.winT t i (k + 1) = S.winT t (i + 1) k := if_pos h
theorem winT_no {t : Nat → Int} {i k : Nat} (h : ¬ (0 ≤ t i ∧ t i ≤ 1000000000)) : S.winT t i (k + 1) = false := if_neg h
theorem shr1 {a : Int} : S.shrB .i64 a 1 = a / 2 := by
  unfold S.shrB
  rw [Int.fdiv_eq_ediv_of_nonneg _ (by decide)]; rfl
theorem half_up {y : Int} : Int.tdiv (max y 0 + 1) 2 = max 0 ((y + 1) / 2) := by
  rw [Int.tdiv_eq_ediv_of_nonneg (by omega)]; omega
theorem half_dn {y : Int} (h : 0 ≤ y) : Int.tdiv y 2 = y / 2 := Int.tdiv_eq_ediv_of_nonneg h
theorem meaK_len {f : Nat → Int × Int × Bool × Bool} : ∀ {k i : Nat} {L : List (Int × Int × Bool × Bool)}, (S.meaK f i k L).2.length ≤ L.length + k
  | 0, i, L => Nat.le_refl _
  | k + 1, i, L => by
    simp only [S.meaK]
    split
    · exact Nat.zero_le _
    · have := meaK_len (f := f) (k := k) (i := i + 1) (L := S.snoc L (f i))
      rw [snoc_len] at this; omega
theorem mea_len {n m : Nat} {p d u j r : Nat → Int} {a : Int} : (S.meaS n p d u j m r a).2.length ≤ n := by
  unfold S.meaS
  split
  · rename_i h0
    have := (tre_ok h0).1
    split
    · have := meaK_len (f := S.meaT p j r a) (k := n - 1) (i := 1) (L := [(0, 0, false, false)])
      have e : ([(0, 0, false, false)] : List (Int × Int × Bool × Bool)).length = 1 := rfl
      omega
    · exact Nat.zero_le _
  · exact Nat.zero_le _
inductive St47 where
  | h0 (x0 : Int)
abbrev Rt47 := Bool
noncomputable def V47 (al nl ml : Nat) (tl : Nat → Int) (r : Rt47) : PV := PV.bool r
noncomputable def N47 (al nl ml : Nat) (tl : Nat → Int) (r : Rt47) : List Blk := []
noncomputable def I47 (al nl ml : Nat) (tl : Nat → Int) : St47 → Hd
  | .h0 x0 => ⟨hd Try.f47 0, [PV.loose (PA.mk (0) (1) al (0)) nl, PV.int IntKind.i64 x0], [[], [(0, (false, .cols ml [.int .i64 tl]))]], 1⟩
noncomputable def q47 (al nl ml : Nat) (tl : Nat → Int) : St47 → Option (St47 ⊕ Rt47)
  | .h0 x0 => bif (decide (x0 < (↑nl : Int)))
 then (bif (decide ((0 : Int) ≤ x0 ∧ x0 < (↑nl : Int)))
 then (bif (decide (Int.toNat x0 + al < ml))
 then (bif (decide (tl (Int.toNat x0 + al) < (0 : Int)))
 then (some (.inr (false)))
 else (bif (decide (tl (Int.toNat x0 + al) > (1000000000 : Int)))
 then (some (.inr (false)))
 else (bif (lim IntKind.i64 (x0 + (1 : Int)))
 then (some (.inl (.h0 (x0 + (1 : Int)))))
 else (none))))
 else (none))
 else (none))
 else (some (.inr (true)))
noncomputable def p47 (al nl ml : Nat) (tl : Nat → Int) : Option (St47 ⊕ Rt47) := some (.inl (.h0 ((0 : Int))))
noncomputable def Te47 (test : Bool → Prop → Prop → Prop) (Kst : KS) (Kret : KR) (al nl ml : Nat) (tl : Nat → Int) : Prop :=
  Kst (hd Try.f47 0) ([PV.loose (PA.mk (0) (1) al (0)) nl, PV.int IntKind.i64 (0 : Int)]) ([[(0, false, Blk.cols ml [Col.int IntKind.i64 tl])]]) (1)
set_option maxRecDepth 100000 in
theorem te47 (test : Bool → Prop → Prop → Prop) (Kst : KS) (Kret : KR) (al nl ml : Nat) (tl : Nat → Int) : run test Try.env true noX true 400 ⟨47, [.cd (mkFn Try.f47).body], argT 0 [.loose ⟨0, 1, al, 0⟩ nl], [[], [(0, (false, .cols ml [.int .i64 tl]))]], 1⟩ (proj 1 [0, 3] Kst Kret) =
  Te47 test Kst Kret al nl ml tl := by kernel_rfl
noncomputable def T47_0 (test : Bool → Prop → Prop → Prop) (Kst : KS) (Kret : KR) (al nl ml : Nat) (tl : Nat → Int) (x0 : Int) : Prop :=
  test (decide (x0 < (↑nl : Int)))
 (test (decide ((0 : Int) ≤ x0 ∧ x0 < (↑nl : Int)))
 (test (decide (Int.toNat x0 + al < ml))
 (test (decide (tl (Int.toNat x0 + al) < (0 : Int)))
 (Kret (PV.tf false) ([[(0, false, Blk.cols ml [Col.int IntKind.i64 tl])]]) (1))
 (test (decide ((0 : Int) ≤ x0 ∧ x0 < (↑nl : Int)))
 (test (decide (Int.toNat x0 + al < ml))
 (test (decide (tl (Int.toNat x0 + al) > (1000000000 : Int)))
 (Kret (PV.tf false) ([[(0, false, Blk.cols ml [Col.int IntKind.i64 tl])]]) (1))
 (test (lim IntKind.i64 (x0 + (1 : Int)))
 (Kst (hd Try.f47 0) ([PV.loose (PA.mk (0) (1) al (0)) nl, PV.int IntKind.i64 (x0 + (1 : Int))]) ([[(0, false, Blk.cols ml [Col.int IntKind.i64 tl])]]) (1))
 (False)))
 (False))
 (False)))
 (False))
 (False))
 (Kret (PV.tf true) ([[(0, false, Blk.cols ml [Col.int IntKind.i64 tl])]]) (1))
set_option maxRecDepth 100000 in
theorem t47_0 (test : Bool → Prop → Prop → Prop) (Kst : KS) (Kret : KR) (al nl ml : Nat) (tl : Nat → Int) (x0 : Int) : run test Try.env true noX true 400 ⟨47, hd Try.f47 0, zipT [0, 3] [PV.loose (PA.mk (0) (1) al (0)) nl, PV.int IntKind.i64 x0], [[], [(0, (false, .cols ml [.int .i64 tl]))]], 1⟩ (proj 1 [0, 3] Kst Kret) =
  T47_0 test Kst Kret al nl ml tl x0 := by kernel_rfl
set_option maxRecDepth 100000 in
theorem be47 (al nl ml : Nat) (tl : Nat → Int) (Kst : KS) (Kret : KR) (x : St47 ⊕ Rt47) (hS : HS 1 400 ((I47 al nl ml tl)) Kst x) (hR : HR 1 400 ((V47 al nl ml tl)) (fun r => [newL (1 + 1) ((N47 al nl ml tl) r) ++ [(0, (false, .cols ml [.int .i64 tl]))]]) Kret x) (h : (some (.inl (.h0 ((0 : Int)))) : Option (St47 ⊕ Rt47)) = some x) : Te47 cond Kst Kret al nl ml tl := by
  unfold Te47
  exact stop_at hS _ h (fun n => n) rfl rfl rfl ⟨(rn_loose (use_lo rfl) rfl rfl rfl), ⟨(rn_int rfl), trivial⟩⟩ rfl (entl_bor (use_lo rfl) rfl rfl entl_nil)
set_option maxRecDepth 100000 in
theorem b47_0 (al nl ml : Nat) (tl : Nat → Int) (Kst : KS) (Kret : KR) (x : St47 ⊕ Rt47) (hS : HS 1 400 ((I47 al nl ml tl)) Kst x) (hR : HR 1 400 ((V47 al nl ml tl)) (fun r => [newL (1 + 1) ((N47 al nl ml tl) r) ++ [(0, (false, .cols ml [.int .i64 tl]))]]) Kret x) (x0 : Int) (h : (bif (decide (x0 < (↑nl : Int)))
 then (bif (decide ((0 : Int) ≤ x0 ∧ x0 < (↑nl : Int)))
 then (bif (decide (Int.toNat x0 + al < ml))
 then (bif (decide (tl (Int.toNat x0 + al) < (0 : Int)))
 then (some (.inr (false)))
 else (bif (decide (tl (Int.toNat x0 + al) > (1000000000 : Int)))
 then (some (.inr (false)))
 else (bif (lim IntKind.i64 (x0 + (1 : Int)))
 then (some (.inl (.h0 (x0 + (1 : Int)))))
 else (none))))
 else (none))
 else (none))
 else (some (.inr (true))) : Option (St47 ⊕ Rt47)) = some x) : T47_0 cond Kst Kret al nl ml tl x0 := by
  unfold T47_0
  exact bif_split h
   (fun c0 h => bif_split h
   (fun c1 h => bif_split h
   (fun c2 h => bif_split h
   (fun c3 h => ret_at hR _ h (fun n => n) rfl rfl rfl (rn_bool_tf rfl) rfl (entl_bor (use_lo rfl) rfl rfl entl_nil))
   (fun c3 h => cond_yes c1 (cond_yes c2 (bif_split h
   (fun c4 h => ret_at hR _ h (fun n => n) rfl rfl rfl (rn_bool_tf rfl) rfl (entl_bor (use_lo rfl) rfl rfl entl_nil))
   (fun c4 h => bif_split h
   (fun c5 h => stop_at hS _ h (fun n => n) rfl rfl rfl ⟨(rn_loose (use_lo rfl) rfl rfl rfl), ⟨(rn_int rfl), trivial⟩⟩ rfl (entl_bor (use_lo rfl) rfl rfl entl_nil))
   (fun c5 h => no_some h))))))
   (fun c2 h => no_some h))
   (fun c1 h => no_some h))
   (fun c0 h => ret_at hR _ h (fun n => n) rfl rfl rfl (rn_bool_tf rfl) rfl (entl_bor (use_lo rfl) rfl rfl entl_nil))
theorem a47 (al nl ml : Nat) (tl : Nat → Int) {r : Rt47} (h : Goes ((q47 al nl ml tl)) ((p47 al nl ml tl)) r) : CallR Try.prog 47 [.loose ⟨0, 1, al, 0⟩ nl] [[(0, (false, .cols ml [.int .i64 tl]))]] 1 ((V47 al nl ml tl) r) ((fun r => [newL (1 + 1) ((N47 al nl ml tl) r) ++ [(0, (false, .cols ml [.int .i64 tl]))]]) r) 400 ∧ ∃ F, Try.prog.funcs[47]? = some F ∧ F.body.isSome = true ∧ (F.name == "runtime.NumGoroutine") = false := by
  refine dec_calls (f := 47) (lo := 1) (hi := 400) (H := [[(0, (false, .cols ml [.int .i64 tl]))]]) (args := [.loose ⟨0, 1, al, 0⟩ nl]) Try.envOk Try.mixed noX_ok ((I47 al nl ml tl)) ((V47 al nl ml tl)) (fun r => [newL (1 + 1) ((N47 al nl ml tl) r) ++ [(0, (false, .cols ml [.int .i64 tl]))]]) (fn := mkFn Try.f47) (ts := [0, 3]) (n := 400) rfl (by decide) (by simp) (names_of rfl) ?_ ?_ ?_ h
  · intro s; cases s <;> exact ⟨hd_ok _ _, by simp [I47], names_of rfl, Nat.le_of_ble_eq_true rfl⟩
  · intro Kst Kret x hS hR h
    exact Holds.eq (te47 cond Kst Kret al nl ml tl) (be47 al nl ml tl Kst Kret x hS hR h)
  · intro Kst Kret x hS hR s h
    cases s with
    | h0 x0 => exact Holds.eq (t47_0 cond Kst Kret al nl ml tl x0) (b47_0 al nl ml tl Kst Kret x hS hR x0 h)
noncomputable def k47 : Con := ⟨47, [.one (.list [.int .i64])], fun (x : (Nat × Nat × Nat × (Nat → Int) × Unit) × Unit) => (fun (al nl ml : Nat) (tl : Nat → Int) => decide (al + nl ≤ ml ∧ nl ≤ 1000000)) x.1.1 x.1.2.1 x.1.2.2.1 x.1.2.2.2.1, fun (x : (Nat × Nat × Nat × (Nat → Int) × Unit) × Unit) => (fun (al nl ml : Nat) (tl : Nat → Int) => (V47 al nl ml tl) (S.winT (fun q => tl (q + al)) 0 nl)) x.1.1 x.1.2.1 x.1.2.2.1 x.1.2.2.2.1, fun (x : (Nat × Nat × Nat × (Nat → Int) × Unit) × Unit) => (fun (al nl ml : Nat) (tl : Nat → Int) => (N47 al nl ml tl) (S.winT (fun q => tl (q + al)) 0 nl)) x.1.1 x.1.2.1 x.1.2.2.1 x.1.2.2.2.1, fun _ _ => .dead⟩
theorem s47' (al nl ml : Nat) (tl : Nat → Int) (hp : al + nl ≤ ml ∧ nl ≤ 1000000) : ∀ k i : Nat, i + k = nl → Comes (q47 al nl ml tl) (.h0 (i : Int)) (S.winT (fun q => tl (q + al)) i k) := by
  obtain ⟨hp1, hp2⟩ := hp
  intro k
  induction k with
  | zero =>
    intro i hi
    apply Comes.of
    show Goes _ _ _
    (first | rw [q47] | unfold q47)
    repeat' first
      | with_reducible refine goes_if (fun h => ?_) (fun h => ?_) <;> (try simp only [lim64, decide_eq_true_eq, decide_eq_false_iff_not, Int.toNat_natCast, toNat_pred, toNat_succ, Option.getD_some, Option.getD_none, Bool.not_eq_true', Bool.not_eq_false', Bool.and_eq_true, Bool.or_eq_true, Bool.and_eq_false_iff, Bool.or_eq_false_iff, bne_iff_ne, beq_iff_eq, bne_eq_false_iff_eq, beq_eq_false_iff_ne, ne_eq, not_and, Int.not_le, Int.not_lt, ge_iff_le, gt_iff_lt, Nat.not_lt, Nat.not_le, Bool.not_eq_true, Bool.not_eq_false, Bool.true_eq_false, Bool.false_eq_true, not_false_eq_true, not_true_eq_false] at h)
      | exact goes_none.mpr (by omega)
    all_goals first | (exfalso; omega) | rfl | (refine Eq.mpr (congrArg (Comes _ _) ?_) True; simp only [S.winT]; (repeat' split) <;> first | rfl | omega | (exfalso; omega) | (exfalso; simp_all; done) | (exfalso; simp_all; omega) | simp_all) | (refine goes_inr.mpr ?_; simp only [S.winT]; (repeat' split) <;> first | rfl | omega | (exfalso; omega) | (exfalso; simp_all; done) | (exfalso; simp_all; omega) | simp_all)
  | succ k ih =>
    intro i hi
    have ih := ih (i + 1) (by omega)
    apply Comes.of
    show Goes _ _ _
    (first | rw [q47] | unfold q47)
    repeat' first
      | with_reducible refine goes_if (fun h => ?_) (fun h => ?_) <;> (try simp only [lim64, decide_eq_true_eq, decide_eq_false_iff_not, Int.toNat_natCast, toNat_pred, toNat_succ, Option.getD_some, Option.getD_none, Bool.not_eq_true', Bool.not_eq_false', Bool.and_eq_true, Bool.or_eq_true, Bool.and_eq_false_iff, Bool.or_eq_false_iff, bne_iff_ne, beq_iff_eq, bne_eq_false_iff_eq, beq_eq_false_iff_ne, ne_eq, not_and, Int.not_le, Int.not_lt, ge_iff_le, gt_iff_lt, Nat.not_lt, Nat.not_le, Bool.not_eq_true, Bool.not_eq_false, Bool.true_eq_false, Bool.false_eq_true, not_false_eq_true, not_true_eq_false] at h)
      | exact goes_none.mpr (by omega)
    all_goals first | (exfalso; omega) | rfl | (refine Eq.mpr (congrArg (Comes _ _) ?_) ih; simp only [S.winT]; (repeat' split) <;> first | rfl | omega | (exfalso; omega) | (exfalso; simp_all; done) | (exfalso; simp_all; omega) | simp_all) | (refine goes_inr.mpr ?_; simp only [S.winT]; (repeat' split) <;> first | rfl | omega | (exfalso; omega) | (exfalso; simp_all; done) | (exfalso; simp_all; omega) | simp_all)
theorem s47 (al nl ml : Nat) (tl : Nat → Int) (hp : al + nl ≤ ml ∧ nl ≤ 1000000) : Goes ((q47 al nl ml tl)) ((p47 al nl ml tl)) (S.winT (fun q => tl (q + al)) 0 nl) := by
  exact s47' al nl ml tl hp nl 0 (by omega)
theorem k47_ok : k47.ok Try.prog := by
  intro x hx
  obtain ⟨⟨al, nl, ml, tl, _⟩, _⟩ := x
  obtain ⟨h1, h2⟩ := a47 al nl ml tl (s47 al nl ml tl (of_dec hx rfl))
  exact ⟨⟨400, (by decide : 1 + 1 + 0 ≤ 400), h1⟩, h2⟩
noncomputable def xK (test : Bool → Prop → Prop → Prop) : Ext := consX test [k19, k20, k43, k38, k47]
theorem xK_ok : ExtOk Try.prog (xK cond) := consX_ok ⟨k19_ok, k20_ok, k43_ok, k38_ok, k47_ok, trivial⟩

end Go.Ev
