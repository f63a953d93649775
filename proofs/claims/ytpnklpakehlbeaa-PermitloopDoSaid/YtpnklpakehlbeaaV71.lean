/-
  The parts that the statement needs, 1 of 4.
-/
import Derived.IntWalk
import Derived.Test.YtpnklpakehlbeaaEnv
import Derived.Test.YtpnklpakehlbeaaEvY
import Derived.Test.YtpnklpakehlbeaaKit
namespace Go.Ev
open Go.Proofs
open Go.IntWalk
set_option linter.unusedVariables false
set_option linter.unusedSimpArgs false
set_option maxRecDepth 100000
set_option maxHeartbeats 2000000
set_option maxHeartbeats 4000000
theorem SH : type_of% (And.intro @lim64 (And.intro @imp_false (And.intro @decide_eq_true_eq (And.intro @decide_eq_false_iff_not (And.intro @Int.toNat_natCast (And.intro @toNat_pred (And.intro @toNat_succ (And.intro @Option.getD_some.{0} (And.intro @Option.getD_none.{0} (And.intro @Bool.not_eq_true' (And.intro @Bool.not_eq_false' (And.intro @Bool.and_eq_true (And.intro @Bool.or_eq_true (And.intro @Bool.and_eq_false_iff (And.intro @Bool.or_eq_false_iff (And.intro @bne_iff_ne.{0} (And.intro @beq_iff_eq.{0} (And.intro @bne_eq_false_iff_eq.{0} (And.intro @beq_eq_false_iff_ne.{0} (And.intro @ne_eq.{1} (And.intro @not_and (And.intro @Int.not_le (And.intro @Int.not_lt (And.intro @ge_iff_le.{0} (And.intro @gt_iff_lt.{0} (And.intro @Nat.not_lt (And.intro @Nat.not_le (And.intro @Bool.not_eq_true (And.intro @Bool.not_eq_false (And.intro @Bool.true_eq_false (And.intro @Bool.false_eq_true (And.intro @not_false_eq_true @not_true_eq_false)))))))))))))))))))))))))))))))) :=
  (And.intro @lim64 (And.intro @imp_false (And.intro @decide_eq_true_eq (And.intro @decide_eq_false_iff_not (And.intro @Int.toNat_natCast (And.intro @toNat_pred (And.intro @toNat_succ (And.intro @Option.getD_some.{0} (And.intro @Option.getD_none.{0} (And.intro @Bool.not_eq_true' (And.intro @Bool.not_eq_false' (And.intro @Bool.and_eq_true (And.intro @Bool.or_eq_true (And.intro @Bool.and_eq_false_iff (And.intro @Bool.or_eq_false_iff (And.intro @bne_iff_ne.{0} (And.intro @beq_iff_eq.{0} (And.intro @bne_eq_false_iff_eq.{0} (And.intro @beq_eq_false_iff_ne.{0} (And.intro @ne_eq.{1} (And.intro @not_and (And.intro @Int.not_le (And.intro @Int.not_lt (And.intro @ge_iff_le.{0} (And.intro @gt_iff_lt.{0} (And.intro @Nat.not_lt (And.intro @Nat.not_le (And.intro @Bool.not_eq_true (And.intro @Bool.not_eq_false (And.intro @Bool.true_eq_false (And.intro @Bool.false_eq_true (And.intro @not_false_eq_true @not_true_eq_false))))))))))))))))))))))))))))))))
namespace S
def idx (p : Nat → Bool) : Nat → Nat → Int
  | _, 0 => -1
  | i, k + 1 => if p i = true then i else idx p (i + 1) k
def any (p : Nat → Bool) (n : Nat) : Bool := (List.range n).any p
end S
theorem any_iff  {p : Nat → Bool} {n : Nat} : S.any p n = true ↔ ∃ j, j < n ∧ p j = true := by simp [S.any]
theorem any_no  {p : Nat → Bool} {n : Nat} : S.any p n = false ↔ ∀ j, j < n → p j = false := by simp [S.any]
theorem any_congr  {p q : Nat → Bool} {n : Nat} (h : ∀ j, j < n → p j = q j) : S.any p n = S.any q n := by
  rw [Bool.eq_iff_iff, any_iff, any_iff]
  constructor
  · rintro ⟨j, h1, h2⟩; exact ⟨j, h1, by rw [← h j h1]; exact h2⟩
  · rintro ⟨j, h1, h2⟩; exact ⟨j, h1, by rw [h j h1]; exact h2⟩
theorem idx_ge  {p : Nat → Bool} : ∀ {k i : Nat}, S.idx p i k = -1 ∨ ((i : Int) ≤ S.idx p i k ∧ S.idx p i k < i + k)
  | 0, i => .inl rfl
  | k + 1, i => by
    simp only [S.idx]
    split
    · exact .inr ⟨by omega, by omega⟩
    · rcases idx_ge (p := p) (k := k) (i := i + 1) with h | h
      · exact .inl h
      · exact .inr ⟨by omega, by omega⟩
theorem idx_no  {p : Nat → Bool} : ∀ {k i : Nat}, S.idx p i k = -1 ↔ ∀ j, i ≤ j → j < i + k → p j = false
  | 0, i => ⟨fun _ j h1 h2 => by omega, fun _ => rfl⟩
  | k + 1, i => by
    simp only [S.idx]
    split
    · rename_i h
      exact ⟨fun e => by omega, fun e => by rw [e i (Nat.le_refl _) (by omega)] at h; cases h⟩
    · rename_i h
      rw [idx_no]
      constructor
      · intro e j h1 h2
        by_cases hj : j = i
        · subst hj; simpa using h
        · exact e j (by omega) (by omega)
      · exact fun e j h1 h2 => e j (by omega) (by omega)
theorem idx_any  {p : Nat → Bool} {n : Nat} : decide (S.idx p 0 n ≥ 0) = S.any p n := by
  rw [Bool.eq_iff_iff, decide_eq_true_eq, any_iff]
  constructor
  · intro h
    by_cases hn : S.idx p 0 n = -1
    · omega
    · rw [idx_no] at hn
      simp only [Classical.not_forall] at hn
      obtain ⟨j, _, h2, h3⟩ := hn
      exact ⟨j, by omega, by simpa using h3⟩
  · rintro ⟨j, h1, h2⟩
    rcases idx_ge (p := p) (k := n) (i := 0) with h | h
    · rw [idx_no] at h
      rw [h j (by omega) (by omega)] at h2; cases h2
    · omega
theorem nbeq_no  {i j : Nat} (h : j ≠ i) : Nat.beq j i = false := by
  cases hb : Nat.beq j i
  · rfl
  · exact absurd (Nat.eq_of_beq_eq_true hb) h
namespace S
def runN (p : Nat → Bool) : Nat → Nat → Nat
  | _, 0 => 0
  | i, k + 1 => if p i = true then runN p (i + 1) k + 1 else 0
def lowB (c : Int) : Bool := decide (97 ≤ c ∧ c ≤ 122)
def namB (c : Int) : Bool := decide ((97 ≤ c ∧ c ≤ 122) ∨ (48 ≤ c ∧ c ≤ 57) ∨ c = 95)
def isNam (s : ByteArray) : Bool := decide (1 ≤ s.size ∧ s.size ≤ 20) && (lowB (keys s 0) && decide (runN (fun j => namB (keys s j)) 0 s.size = s.size))
end S
theorem runN_le  {p : Nat → Bool} : ∀ {k i : Nat}, S.runN p i k ≤ k
  | 0, _ => Nat.le_refl _
  | k + 1, i => by
    simp only [S.runN]
    split
    · have := runN_le (p := p) (k := k) (i := i + 1); omega
    · omega
theorem runN_all  {p : Nat → Bool} : ∀ {k i : Nat}, S.runN p i k = k ↔ ∀ j, i ≤ j → j < i + k → p j = true
  | 0, i => ⟨fun _ j h1 h2 => by omega, fun _ => rfl⟩
  | k + 1, i => by
    simp only [S.runN]
    have hl := runN_le (p := p) (k := k) (i := i + 1)
    constructor
    · intro h j h1 h2
      split at h
      · rename_i h0
        rcases Nat.lt_or_ge i j with h3 | h3
        · exact (runN_all (k := k) (i := i + 1)).1 (by omega) j h3 (by omega)
        · obtain rfl : j = i := by omega
          exact h0
      · omega
    · intro h
      rw [if_pos (h i (Nat.le_refl _) (by omega)), (runN_all (k := k) (i := i + 1)).2 fun j h1 h2 => h j (by omega) (by omega)]
theorem size_nil  {s : ByteArray} : (s.toList == []) = decide (s.size = 0) := by
  rw [ByteArray.toList_eq, Bool.eq_iff_iff, beq_iff_eq, decide_eq_true_eq]
  have : s.size = s.data.toList.length := rfl
  rw [this, List.length_eq_zero_iff]
noncomputable def k23  : Con := ⟨23, [.one (.list [.bool])], fun (x : (Nat × Nat × Nat × (Nat → Bool) × Unit) × Unit) => (fun (aa na ma : Nat) (ta : Nat → Bool) => decide (aa + na ≤ ma ∧ na ≤ 1000000)) x.1.1 x.1.2.1 x.1.2.2.1 x.1.2.2.2.1, fun (x : (Nat × Nat × Nat × (Nat → Bool) × Unit) × Unit) => (fun (aa na ma : Nat) (ta : Nat → Bool) => .own 2 1 na) x.1.1 x.1.2.1 x.1.2.2.1 x.1.2.2.2.1, fun (x : (Nat × Nat × Nat × (Nat → Bool) × Unit) × Unit) => (fun (aa na ma : Nat) (ta : Nat → Bool) => [.cols na [.bool (fun j => ta (j + aa))]]) x.1.1 x.1.2.1 x.1.2.2.1 x.1.2.2.2.1, fun _ _ => .dead⟩
theorem e23s (test : Bool → Prop → Prop → Prop) (Kst : List It → List PV → Heap → Nat → Prop) (Kret : PV → Heap → Nat → Prop) (aa na ma : Nat) (ta : Nat → Bool) :
  (run test Try.env true noX true 300 ⟨23, [.cd (mkFn Try.f23).body], argT 0 [.sl ⟨0, 1, aa, 0⟩ na], [[], [(0, (false, .cols ma [.bool ta]))]], 1⟩ (proj 1 [] Kst Kret)) =
  (test (decide (0 + na ≤ 1000000))
  (test true
    (test (decide (aa + na ≤ ma))
      (Kret (PV.own (2) (1) (0 + na))
        [[(0, false, Blk.cols ma [Col.bool ta]),
            (2, true, Blk.cols (0 + na) [Col.bool fun j => ta (j + aa)])]]
        (3))
      False)
    False)
  False) := by kernel_rfl
theorem c23s (aa na ma : Nat) (ta : Nat → Bool) (hp : aa + na ≤ ma ∧ na ≤ 1000000) (h0 : 0 < na) : CallR Try.prog 23 [.sl ⟨0, 1, aa, 0⟩ na] [[(0, (false, .cols ma [.bool ta]))]] 1 (.own 2 1 na) [(2, (true, .cols na [.bool (fun j => ta (j + aa))])) :: [(0, (false, .cols ma [.bool ta]))]] 40 ∧ ∃ F, Try.prog.funcs[23]? = some F ∧ F.body.isSome = true ∧ (F.name == "runtime.NumGoroutine") = false := by
  refine @ret_eq _ _ Try.envOk Try.mixed _ noX_ok 23 (mkFn Try.f23) [.sl ⟨0, 1, aa, 0⟩ na] [[(0, (false, .cols ma [.bool ta]))]] [(2, (true, .cols na [.bool (fun j => ta (j + aa))])) :: [(0, (false, .cols ma [.bool ta]))]] 1 40 (.own 2 1 na) true 300 rfl (by decide) (by simp) (names_of rfl) _ (e23s cond _ _ aa na ma ta) ?_
  repeat' first
    | with_reducible refine cond_yes rfl ?_
    | with_reducible refine cond_no rfl ?_
    | (with_reducible refine cond_intro (fun h => ?_) (fun h => ?_)) <;> (try simp only [lim64, decide_eq_true_eq, decide_eq_false_iff_not, reduceCtorEq, Int.toNat_natCast, Bool.not_eq_true', Bool.not_eq_false', Bool.and_eq_true, Bool.or_eq_true, Bool.and_eq_false_iff, Bool.or_eq_false_iff, bne_iff_ne, beq_iff_eq, bne_eq_false_iff_eq, beq_eq_false_iff_ne, ne_eq] at h)
  all_goals first
    | with_reducible apply ret_k
    | omega
  repeat' first
    | with_reducible exact rns_nil
    | with_reducible refine rns_cons ?_ ?_
    | with_reducible refine rn_tup ?_
    | with_reducible refine rn_agg ?_
    | with_reducible refine rn_int ?_
    | with_reducible refine rn_tf ?_
    | with_reducible refine rn_bool_tf ?_
    | with_reducible refine rn_bool ?_
    | with_reducible refine rn_str ?_
    | with_reducible exact rn_nils
    | with_reducible refine rn_own_nils ?_
    | with_reducible refine rn_own ?_ ?_ ?_
    | with_reducible refine rn_own_sl ?_ ?_ ?_ ?_ ?_
    | with_reducible refine rn_own_loose ?_ ?_ ?_ ?_
    | with_reducible refine rn_loose ?_ ?_ ?_ ?_
    | with_reducible refine rn_loose_sl ?_ ?_ ?_ ?_
    | exact use_lo rfl
    | exact use_own rfl
    | exact nm_k rfl
    | exact nm_lo rfl
    | ((with_reducible refine (id : pos _ = pos _ → _) ?_); exact rfl)
    | ((with_reducible refine (id : pos _ = 0 → _) ?_); exact rfl)
    | ((with_reducible refine (id : Nat.ble _ _ = true → _) ?_); exact rfl)
    | ((with_reducible refine (id : injL _ _ = true → _) ?_); exact rfl)
    | ((with_reducible refine (id : plainC _ = true → _) ?_); exact rfl)
    | ((with_reducible refine (id : hget _ _ = some _ → _) ?_); exact rfl)
    | with_reducible exact (id : (_ : Bool) = true → _ = true)
    | with_reducible exact entl_nil
    | with_reducible refine entl_bor ?_ ?_ ?_ ?_
    | refine entl_new (use_own rfl) (by rfl) ?_ ?_ ?_
    | refine entl_rows (use_own rfl) (by rfl) rfl ?_ (nthc_all ?_) ?_
    | refine entl_zero (use_own rfl) (by rfl) (by simp) (by omega) ?_
    | with_reducible exact rcs_nil
    | with_reducible refine rcs_int (fun j hj => ?_) ?_
    | with_reducible refine rcs_bool (fun j hj => ?_) ?_
    | with_reducible refine rcs_str (fun j hj => ?_) ?_
    | refine entl_fresh (k := 2) (use_own rfl) (fresh_ok (n := 39) rfl) ?_
    | with_reducible rfl
  all_goals try exact (0 : Nat)
  all_goals try ((with_reducible refine (id : injL _ _ = true → _) ?_); exact rfl)
  all_goals first
    | omega
    | skip
theorem e23z (test : Bool → Prop → Prop → Prop) (Kst : List It → List PV → Heap → Nat → Prop) (Kret : PV → Heap → Nat → Prop) (aa na ma : Nat) (ta : Nat → Bool) :
  (run test Try.env true noX true 300 ⟨23, [.cd (mkFn Try.f23).body], argT 0 [.zer true], [[], [(0, (false, .cols ma [.bool ta]))]], 1⟩ (proj 1 [] Kst Kret)) =
  (Kret (PV.own (1) (1) (0))
  [[(0, false, Blk.cols ma [Col.bool ta]), (1, true, Blk.cells [])]] (2)) := by kernel_rfl
theorem c23z (aa na ma : Nat) (ta : Nat → Bool) (hp : aa + na ≤ ma ∧ na ≤ 1000000) (h0 : na = 0) : CallR Try.prog 23 [.zer true] [[(0, (false, .cols ma [.bool ta]))]] 1 (.own 2 1 na) [(2, (true, .cols na [.bool (fun j => ta (j + aa))])) :: [(0, (false, .cols ma [.bool ta]))]] 40 ∧ ∃ F, Try.prog.funcs[23]? = some F ∧ F.body.isSome = true ∧ (F.name == "runtime.NumGoroutine") = false := by
  refine @ret_eq _ _ Try.envOk Try.mixed _ noX_ok 23 (mkFn Try.f23) [.zer true] [[(0, (false, .cols ma [.bool ta]))]] [(2, (true, .cols na [.bool (fun j => ta (j + aa))])) :: [(0, (false, .cols ma [.bool ta]))]] 1 40 (.own 2 1 na) true 300 rfl (by decide) (by simp) (names_of rfl) _ (e23z cond _ _ aa na ma ta) ?_
  repeat' first
    | with_reducible refine cond_yes rfl ?_
    | with_reducible refine cond_no rfl ?_
    | (with_reducible refine cond_intro (fun h => ?_) (fun h => ?_)) <;> (try simp only [lim64, decide_eq_true_eq, decide_eq_false_iff_not, reduceCtorEq, Int.toNat_natCast, Bool.not_eq_true', Bool.not_eq_false', Bool.and_eq_true, Bool.or_eq_true, Bool.and_eq_false_iff, Bool.or_eq_false_iff, bne_iff_ne, beq_iff_eq, bne_eq_false_iff_eq, beq_eq_false_iff_ne, ne_eq] at h)
  all_goals first
    | with_reducible apply ret_k
    | omega
  repeat' first
    | with_reducible exact rns_nil
    | with_reducible refine rns_cons ?_ ?_
    | with_reducible refine rn_tup ?_
    | with_reducible refine rn_agg ?_
    | with_reducible refine rn_int ?_
    | with_reducible refine rn_tf ?_
    | with_reducible refine rn_bool_tf ?_
    | with_reducible refine rn_bool ?_
    | with_reducible refine rn_str ?_
    | with_reducible exact rn_nils
    | with_reducible refine rn_own_nils ?_
    | with_reducible refine rn_own ?_ ?_ ?_
    | with_reducible refine rn_own_sl ?_ ?_ ?_ ?_ ?_
    | with_reducible refine rn_own_loose ?_ ?_ ?_ ?_
    | with_reducible refine rn_loose ?_ ?_ ?_ ?_
    | with_reducible refine rn_loose_sl ?_ ?_ ?_ ?_
    | exact use_lo rfl
    | exact use_own rfl
    | exact nm_k rfl
    | exact nm_lo rfl
    | ((with_reducible refine (id : pos _ = pos _ → _) ?_); exact rfl)
    | ((with_reducible refine (id : pos _ = 0 → _) ?_); exact rfl)
    | ((with_reducible refine (id : Nat.ble _ _ = true → _) ?_); exact rfl)
    | ((with_reducible refine (id : injL _ _ = true → _) ?_); exact rfl)
    | ((with_reducible refine (id : plainC _ = true → _) ?_); exact rfl)
    | ((with_reducible refine (id : hget _ _ = some _ → _) ?_); exact rfl)
    | with_reducible exact (id : (_ : Bool) = true → _ = true)
    | with_reducible exact entl_nil
    | with_reducible refine entl_bor ?_ ?_ ?_ ?_
    | refine entl_new (use_own rfl) (by rfl) ?_ ?_ ?_
    | refine entl_rows (use_own rfl) (by rfl) rfl ?_ (nthc_all ?_) ?_
    | refine entl_zero (use_own rfl) (by rfl) (by simp) (by omega) ?_
    | with_reducible exact rcs_nil
    | with_reducible refine rcs_int (fun j hj => ?_) ?_
    | with_reducible refine rcs_bool (fun j hj => ?_) ?_
    | with_reducible refine rcs_str (fun j hj => ?_) ?_
    | refine entl_fresh (k := 2) (use_own rfl) (fresh_ok (n := 39) rfl) ?_
    | with_reducible rfl
  all_goals try exact (0 : Nat)
  all_goals try ((with_reducible refine (id : injL _ _ = true → _) ?_); exact rfl)
  all_goals first
    | omega
    | skip
theorem e23y (test : Bool → Prop → Prop → Prop) (Kst : List It → List PV → Heap → Nat → Prop) (Kret : PV → Heap → Nat → Prop) (aa na ma : Nat) (ta : Nat → Bool) :
  (run test Try.env true noX true 300 ⟨23, [.cd (mkFn Try.f23).body], argT 0 [.zer false], [[], [(0, (false, .cols ma [.bool ta]))]], 1⟩ (proj 1 [] Kst Kret)) =
  (Kret PV.nils [[(0, false, Blk.cols ma [Col.bool ta])]] (1)) := by kernel_rfl
theorem c23y (aa na ma : Nat) (ta : Nat → Bool) (hp : aa + na ≤ ma ∧ na ≤ 1000000) (h0 : na = 0) : CallR Try.prog 23 [.zer false] [[(0, (false, .cols ma [.bool ta]))]] 1 (.own 2 1 na) [(2, (true, .cols na [.bool (fun j => ta (j + aa))])) :: [(0, (false, .cols ma [.bool ta]))]] 40 ∧ ∃ F, Try.prog.funcs[23]? = some F ∧ F.body.isSome = true ∧ (F.name == "runtime.NumGoroutine") = false := by
  refine @ret_eq _ _ Try.envOk Try.mixed _ noX_ok 23 (mkFn Try.f23) [.zer false] [[(0, (false, .cols ma [.bool ta]))]] [(2, (true, .cols na [.bool (fun j => ta (j + aa))])) :: [(0, (false, .cols ma [.bool ta]))]] 1 40 (.own 2 1 na) true 300 rfl (by decide) (by simp) (names_of rfl) _ (e23y cond _ _ aa na ma ta) ?_
  repeat' first
    | with_reducible refine cond_yes rfl ?_
    | with_reducible refine cond_no rfl ?_
    | (with_reducible refine cond_intro (fun h => ?_) (fun h => ?_)) <;> (try simp only [lim64, decide_eq_true_eq, decide_eq_false_iff_not, reduceCtorEq, Int.toNat_natCast, Bool.not_eq_true', Bool.not_eq_false', Bool.and_eq_true, Bool.or_eq_true, Bool.and_eq_false_iff, Bool.or_eq_false_iff, bne_iff_ne, beq_iff_eq, bne_eq_false_iff_eq, beq_eq_false_iff_ne, ne_eq] at h)
  all_goals first
    | with_reducible apply ret_k
    | omega
  repeat' first
    | with_reducible exact rns_nil
    | with_reducible refine rns_cons ?_ ?_
    | with_reducible refine rn_tup ?_
    | with_reducible refine rn_agg ?_
    | with_reducible refine rn_int ?_
    | with_reducible refine rn_tf ?_
    | with_reducible refine rn_bool_tf ?_
    | with_reducible refine rn_bool ?_
    | with_reducible refine rn_str ?_
    | with_reducible exact rn_nils
    | with_reducible refine rn_own_nils ?_
    | with_reducible refine rn_own ?_ ?_ ?_
    | with_reducible refine rn_own_sl ?_ ?_ ?_ ?_ ?_
    | with_reducible refine rn_own_loose ?_ ?_ ?_ ?_
    | with_reducible refine rn_loose ?_ ?_ ?_ ?_
    | with_reducible refine rn_loose_sl ?_ ?_ ?_ ?_
    | exact use_lo rfl
    | exact use_own rfl
    | exact nm_k rfl
    | exact nm_lo rfl
    | ((with_reducible refine (id : pos _ = pos _ → _) ?_); exact rfl)
    | ((with_reducible refine (id : pos _ = 0 → _) ?_); exact rfl)
    | ((with_reducible refine (id : Nat.ble _ _ = true → _) ?_); exact rfl)
    | ((with_reducible refine (id : injL _ _ = true → _) ?_); exact rfl)
    | ((with_reducible refine (id : plainC _ = true → _) ?_); exact rfl)
    | ((with_reducible refine (id : hget _ _ = some _ → _) ?_); exact rfl)
    | with_reducible exact (id : (_ : Bool) = true → _ = true)
    | with_reducible exact entl_nil
    | with_reducible refine entl_bor ?_ ?_ ?_ ?_
    | refine entl_new (use_own rfl) (by rfl) ?_ ?_ ?_
    | refine entl_rows (use_own rfl) (by rfl) rfl ?_ (nthc_all ?_) ?_
    | refine entl_zero (use_own rfl) (by rfl) (by simp) (by omega) ?_
    | with_reducible exact rcs_nil
    | with_reducible refine rcs_int (fun j hj => ?_) ?_
    | with_reducible refine rcs_bool (fun j hj => ?_) ?_
    | with_reducible refine rcs_str (fun j hj => ?_) ?_
    | refine entl_fresh (k := 2) (use_own rfl) (fresh_ok (n := 39) rfl) ?_
    | with_reducible rfl
  all_goals try exact (0 : Nat)
  all_goals try ((with_reducible refine (id : injL _ _ = true → _) ?_); exact rfl)
  all_goals first
    | omega
    | skip
theorem c23 (aa na ma : Nat) (ta : Nat → Bool) (hp : aa + na ≤ ma ∧ na ≤ 1000000) : CallR Try.prog 23 [.loose ⟨0, 1, aa, 0⟩ na] [[(0, (false, .cols ma [.bool ta]))]] 1 (.own 2 1 na) [(2, (true, .cols na [.bool (fun j => ta (j + aa))])) :: [(0, (false, .cols ma [.bool ta]))]] 40 ∧ ∃ F, Try.prog.funcs[23]? = some F ∧ F.body.isSome = true ∧ (F.name == "runtime.NumGoroutine") = false :=
  ⟨loose_cases (fun h => (c23s aa na ma ta hp h).1) (fun h b => by cases b; exact (c23y aa na ma ta hp h).1; exact (c23z aa na ma ta hp h).1), by
    rcases Nat.eq_zero_or_pos na with h | h
    · exact (c23y aa na ma ta hp h).2
    · exact (c23s aa na ma ta hp h).2⟩
theorem k23_ok  : k23.ok Try.prog := by
  intro x hx
  obtain ⟨⟨aa, na, ma, ta, _⟩, _⟩ := x
  have hp : aa + na ≤ ma ∧ na ≤ 1000000 := of_decide_eq_true hx
  obtain ⟨h1, h2⟩ := c23 aa na ma ta hp
  exact ⟨⟨40, (by decide : 1 + 1 + 1 ≤ 40), h1⟩, h2⟩
noncomputable def k45  : Con := ⟨45, [.one (.list [.str, .int .i64, .int .i64])], fun (x : (Nat × Nat × Nat × (Nat → ByteArray) × (Nat → Int) × (Nat → Int) × Unit) × Unit) => (fun (aa na ma : Nat) (ta : Nat → ByteArray) (va : Nat → Int) (ga : Nat → Int) => decide (aa + na ≤ ma ∧ na ≤ 1000000)) x.1.1 x.1.2.1 x.1.2.2.1 x.1.2.2.2.1 x.1.2.2.2.2.1 x.1.2.2.2.2.2.1, fun (x : (Nat × Nat × Nat × (Nat → ByteArray) × (Nat → Int) × (Nat → Int) × Unit) × Unit) => (fun (aa na ma : Nat) (ta : Nat → ByteArray) (va : Nat → Int) (ga : Nat → Int) => .own 2 3 na) x.1.1 x.1.2.1 x.1.2.2.1 x.1.2.2.2.1 x.1.2.2.2.2.1 x.1.2.2.2.2.2.1, fun (x : (Nat × Nat × Nat × (Nat → ByteArray) × (Nat → Int) × (Nat → Int) × Unit) × Unit) => (fun (aa na ma : Nat) (ta : Nat → ByteArray) (va : Nat → Int) (ga : Nat → Int) => [.cols na [.str (fun j => ta (j + aa)), .int .i64 (fun j => va (j + aa)), .int .i64 (fun j => ga (j + aa))]]) x.1.1 x.1.2.1 x.1.2.2.1 x.1.2.2.2.1 x.1.2.2.2.2.1 x.1.2.2.2.2.2.1, fun _ _ => .dead⟩
theorem e45s (test : Bool → Prop → Prop → Prop) (Kst : List It → List PV → Heap → Nat → Prop) (Kret : PV → Heap → Nat → Prop) (aa na ma : Nat) (ta : Nat → ByteArray) (va ga : Nat → Int) :
  (run test Try.env true noX true 300 ⟨45, [.cd (mkFn Try.f45).body], argT 0 [.sl ⟨0, 3, aa, 0⟩ na], [[], [(0, (false, .cols ma [.str ta, .int .i64 va, .int .i64 ga]))]], 1⟩ (proj 1 [] Kst Kret)) =
  (test (decide (0 + na ≤ 1000000))
  (test true
    (test (decide (aa + na ≤ ma))
      (Kret (PV.own (2) (3) (0 + na))
        [[(0, false, Blk.cols ma [Col.str ta, Col.int IntKind.i64 va, Col.int IntKind.i64 ga]),
            (2, true,
              Blk.cols (0 + na)
                [Col.str fun j => ta (j + aa), Col.int IntKind.i64 fun j => va (j + aa),
                  Col.int IntKind.i64 fun j => ga (j + aa)])]]
        (3))
      False)
    False)
  False) := by kernel_rfl
theorem c45s (aa na ma : Nat) (ta : Nat → ByteArray) (va ga : Nat → Int) (hp : aa + na ≤ ma ∧ na ≤ 1000000) (h0 : 0 < na) : CallR Try.prog 45 [.sl ⟨0, 3, aa, 0⟩ na] [[(0, (false, .cols ma [.str ta, .int .i64 va, .int .i64 ga]))]] 1 (.own 2 3 na) [(2, (true, .cols na [.str (fun j => ta (j + aa)), .int .i64 (fun j => va (j + aa)), .int .i64 (fun j => ga (j + aa))])) :: [(0, (false, .cols ma [.str ta, .int .i64 va, .int .i64 ga]))]] 40 ∧ ∃ F, Try.prog.funcs[45]? = some F ∧ F.body.isSome = true ∧ (F.name == "runtime.NumGoroutine") = false := by
  refine @ret_eq _ _ Try.envOk Try.mixed _ noX_ok 45 (mkFn Try.f45) [.sl ⟨0, 3, aa, 0⟩ na] [[(0, (false, .cols ma [.str ta, .int .i64 va, .int .i64 ga]))]] [(2, (true, .cols na [.str (fun j => ta (j + aa)), .int .i64 (fun j => va (j + aa)), .int .i64 (fun j => ga (j + aa))])) :: [(0, (false, .cols ma [.str ta, .int .i64 va, .int .i64 ga]))]] 1 40 (.own 2 3 na) true 300 rfl (by decide) (by simp) (names_of rfl) _ (e45s cond _ _ aa na ma ta va ga) ?_
  repeat' first
    | with_reducible refine cond_yes rfl ?_
    | with_reducible refine cond_no rfl ?_
    | (with_reducible refine cond_intro (fun h => ?_) (fun h => ?_)) <;> (try simp only [lim64, decide_eq_true_eq, decide_eq_false_iff_not, reduceCtorEq, Int.toNat_natCast, Bool.not_eq_true', Bool.not_eq_false', Bool.and_eq_true, Bool.or_eq_true, Bool.and_eq_false_iff, Bool.or_eq_false_iff, bne_iff_ne, beq_iff_eq, bne_eq_false_iff_eq, beq_eq_false_iff_ne, ne_eq] at h)
  all_goals first
    | with_reducible apply ret_k
    | omega
  repeat' first
    | with_reducible exact rns_nil
    | with_reducible refine rns_cons ?_ ?_
    | with_reducible refine rn_tup ?_
    | with_reducible refine rn_agg ?_
    | with_reducible refine rn_int ?_
    | with_reducible refine rn_tf ?_
    | with_reducible refine rn_bool_tf ?_
    | with_reducible refine rn_bool ?_
    | with_reducible refine rn_str ?_
    | with_reducible exact rn_nils
    | with_reducible refine rn_own_nils ?_
    | with_reducible refine rn_own ?_ ?_ ?_
    | with_reducible refine rn_own_sl ?_ ?_ ?_ ?_ ?_
    | with_reducible refine rn_own_loose ?_ ?_ ?_ ?_
    | with_reducible refine rn_loose ?_ ?_ ?_ ?_
    | with_reducible refine rn_loose_sl ?_ ?_ ?_ ?_
    | exact use_lo rfl
    | exact use_own rfl
    | exact nm_k rfl
    | exact nm_lo rfl
    | ((with_reducible refine (id : pos _ = pos _ → _) ?_); exact rfl)
    | ((with_reducible refine (id : pos _ = 0 → _) ?_); exact rfl)
    | ((with_reducible refine (id : Nat.ble _ _ = true → _) ?_); exact rfl)
    | ((with_reducible refine (id : injL _ _ = true → _) ?_); exact rfl)
    | ((with_reducible refine (id : plainC _ = true → _) ?_); exact rfl)
    | ((with_reducible refine (id : hget _ _ = some _ → _) ?_); exact rfl)
    | with_reducible exact (id : (_ : Bool) = true → _ = true)
    | with_reducible exact entl_nil
    | with_reducible refine entl_bor ?_ ?_ ?_ ?_
    | refine entl_new (use_own rfl) (by rfl) ?_ ?_ ?_
    | refine entl_rows (use_own rfl) (by rfl) rfl ?_ (nthc_all ?_) ?_
    | refine entl_zero (use_own rfl) (by rfl) (by simp) (by omega) ?_
    | with_reducible exact rcs_nil
    | with_reducible refine rcs_int (fun j hj => ?_) ?_
    | with_reducible refine rcs_bool (fun j hj => ?_) ?_
    | with_reducible refine rcs_str (fun j hj => ?_) ?_
    | refine entl_fresh (k := 2) (use_own rfl) (fresh_ok (n := 39) rfl) ?_
    | with_reducible rfl
  all_goals try exact (0 : Nat)
  all_goals try ((with_reducible refine (id : injL _ _ = true → _) ?_); exact rfl)
  all_goals first
    | omega
    | skip
theorem e45z (test : Bool → Prop → Prop → Prop) (Kst : List It → List PV → Heap → Nat → Prop) (Kret : PV → Heap → Nat → Prop) (aa na ma : Nat) (ta : Nat → ByteArray) (va ga : Nat → Int) :
  (run test Try.env true noX true 300 ⟨45, [.cd (mkFn Try.f45).body], argT 0 [.zer true], [[], [(0, (false, .cols ma [.str ta, .int .i64 va, .int .i64 ga]))]], 1⟩ (proj 1 [] Kst Kret)) =
  (Kret (PV.own (1) (3) (0))
  [[(0, false, Blk.cols ma [Col.str ta, Col.int IntKind.i64 va, Col.int IntKind.i64 ga]),
      (1, true, Blk.cells [])]]
  (2)) := by kernel_rfl
theorem c45z (aa na ma : Nat) (ta : Nat → ByteArray) (va ga : Nat → Int) (hp : aa + na ≤ ma ∧ na ≤ 1000000) (h0 : na = 0) : CallR Try.prog 45 [.zer true] [[(0, (false, .cols ma [.str ta, .int .i64 va, .int .i64 ga]))]] 1 (.own 2 3 na) [(2, (true, .cols na [.str (fun j => ta (j + aa)), .int .i64 (fun j => va (j + aa)), .int .i64 (fun j => ga (j + aa))])) :: [(0, (false, .cols ma [.str ta, .int .i64 va, .int .i64 ga]))]] 40 ∧ ∃ F, Try.prog.funcs[45]? = some F ∧ F.body.isSome = true ∧ (F.name == "runtime.NumGoroutine") = false := by
  refine @ret_eq _ _ Try.envOk Try.mixed _ noX_ok 45 (mkFn Try.f45) [.zer true] [[(0, (false, .cols ma [.str ta, .int .i64 va, .int .i64 ga]))]] [(2, (true, .cols na [.str (fun j => ta (j + aa)), .int .i64 (fun j => va (j + aa)), .int .i64 (fun j => ga (j + aa))])) :: [(0, (false, .cols ma [.str ta, .int .i64 va, .int .i64 ga]))]] 1 40 (.own 2 3 na) true 300 rfl (by decide) (by simp) (names_of rfl) _ (e45z cond _ _ aa na ma ta va ga) ?_
  repeat' first
    | with_reducible refine cond_yes rfl ?_
    | with_reducible refine cond_no rfl ?_
    | (with_reducible refine cond_intro (fun h => ?_) (fun h => ?_)) <;> (try simp only [lim64, decide_eq_true_eq, decide_eq_false_iff_not, reduceCtorEq, Int.toNat_natCast, Bool.not_eq_true', Bool.not_eq_false', Bool.and_eq_true, Bool.or_eq_true, Bool.and_eq_false_iff, Bool.or_eq_false_iff, bne_iff_ne, beq_iff_eq, bne_eq_false_iff_eq, beq_eq_false_iff_ne, ne_eq] at h)
  all_goals first
    | with_reducible apply ret_k
    | omega
  repeat' first
    | with_reducible exact rns_nil
    | with_reducible refine rns_cons ?_ ?_
    | with_reducible refine rn_tup ?_
    | with_reducible refine rn_agg ?_
    | with_reducible refine rn_int ?_
    | with_reducible refine rn_tf ?_
    | with_reducible refine rn_bool_tf ?_
    | with_reducible refine rn_bool ?_
    | with_reducible refine rn_str ?_
    | with_reducible exact rn_nils
    | with_reducible refine rn_own_nils ?_
    | with_reducible refine rn_own ?_ ?_ ?_
    | with_reducible refine rn_own_sl ?_ ?_ ?_ ?_ ?_
    | with_reducible refine rn_own_loose ?_ ?_ ?_ ?_
    | with_reducible refine rn_loose ?_ ?_ ?_ ?_
    | with_reducible refine rn_loose_sl ?_ ?_ ?_ ?_
    | exact use_lo rfl
    | exact use_own rfl
    | exact nm_k rfl
    | exact nm_lo rfl
    | ((with_reducible refine (id : pos _ = pos _ → _) ?_); exact rfl)
    | ((with_reducible refine (id : pos _ = 0 → _) ?_); exact rfl)
    | ((with_reducible refine (id : Nat.ble _ _ = true → _) ?_); exact rfl)
    | ((with_reducible refine (id : injL _ _ = true → _) ?_); exact rfl)
    | ((with_reducible refine (id : plainC _ = true → _) ?_); exact rfl)
    | ((with_reducible refine (id : hget _ _ = some _ → _) ?_); exact rfl)
    | with_reducible exact (id : (_ : Bool) = true → _ = true)
    | with_reducible exact entl_nil
    | with_reducible refine entl_bor ?_ ?_ ?_ ?_
    | refine entl_new (use_own rfl) (by rfl) ?_ ?_ ?_
    | refine entl_rows (use_own rfl) (by rfl) rfl ?_ (nthc_all ?_) ?_
    | refine entl_zero (use_own rfl) (by rfl) (by simp) (by omega) ?_
    | with_reducible exact rcs_nil
    | with_reducible refine rcs_int (fun j hj => ?_) ?_
    | with_reducible refine rcs_bool (fun j hj => ?_) ?_
    | with_reducible refine rcs_str (fun j hj => ?_) ?_
    | refine entl_fresh (k := 2) (use_own rfl) (fresh_ok (n := 39) rfl) ?_
    | with_reducible rfl
  all_goals try exact (0 : Nat)
  all_goals try ((with_reducible refine (id : injL _ _ = true → _) ?_); exact rfl)
  all_goals first
    | omega
    | skip
theorem e45y (test : Bool → Prop → Prop → Prop) (Kst : List It → List PV → Heap → Nat → Prop) (Kret : PV → Heap → Nat → Prop) (aa na ma : Nat) (ta : Nat → ByteArray) (va ga : Nat → Int) :
  (run test Try.env true noX true 300 ⟨45, [.cd (mkFn Try.f45).body], argT 0 [.zer false], [[], [(0, (false, .cols ma [.str ta, .int .i64 va, .int .i64 ga]))]], 1⟩ (proj 1 [] Kst Kret)) =
  (Kret PV.nils [[(0, false, Blk.cols ma [Col.str ta, Col.int IntKind.i64 va, Col.int IntKind.i64 ga])]]
  (1)) := by kernel_rfl
theorem c45y (aa na ma : Nat) (ta : Nat → ByteArray) (va ga : Nat → Int) (hp : aa + na ≤ ma ∧ na ≤ 1000000) (h0 : na = 0) : CallR Try.prog 45 [.zer false] [[(0, (false, .cols ma [.str ta, .int .i64 va, .int .i64 ga]))]] 1 (.own 2 3 na) [(2, (true, .cols na [.str (fun j => ta (j + aa)), .int .i64 (fun j => va (j + aa)), .int .i64 (fun j => ga (j + aa))])) :: [(0, (false, .cols ma [.str ta, .int .i64 va, .int .i64 ga]))]] 40 ∧ ∃ F, Try.prog.funcs[45]? = some F ∧ F.body.isSome = true ∧ (F.name == "runtime.NumGoroutine") = false := by
  refine @ret_eq _ _ Try.envOk Try.mixed _ noX_ok 45 (mkFn Try.f45) [.zer false] [[(0, (false, .cols ma [.str ta, .int .i64 va, .int .i64 ga]))]] [(2, (true, .cols na [.str (fun j => ta (j + aa)), .int .i64 (fun j => va (j + aa)), .int .i64 (fun j => ga (j + aa))])) :: [(0, (false, .cols ma [.str ta, .int .i64 va, .int .i64 ga]))]] 1 40 (.own 2 3 na) true 300 rfl (by decide) (by simp) (names_of rfl) _ (e45y cond _ _ aa na ma ta va ga) ?_
  repeat' first
    | with_reducible refine cond_yes rfl ?_
    | with_reducible refine cond_no rfl ?_
    | (with_reducible refine cond_intro (fun h => ?_) (fun h => ?_)) <;> (try simp only [lim64, decide_eq_true_eq, decide_eq_false_iff_not, reduceCtorEq, Int.toNat_natCast, Bool.not_eq_true', Bool.not_eq_false', Bool.and_eq_true, Bool.or_eq_true, Bool.and_eq_false_iff, Bool.or_eq_false_iff, bne_iff_ne, beq_iff_eq, bne_eq_false_iff_eq, beq_eq_false_iff_ne, ne_eq] at h)
  all_goals first
    | with_reducible apply ret_k
    | omega
  repeat' first
    | with_reducible exact rns_nil
    | with_reducible refine rns_cons ?_ ?_
    | with_reducible refine rn_tup ?_
    | with_reducible refine rn_agg ?_
    | with_reducible refine rn_int ?_
    | with_reducible refine rn_tf ?_
    | with_reducible refine rn_bool_tf ?_
    | with_reducible refine rn_bool ?_
    | with_reducible refine rn_str ?_
    | with_reducible exact rn_nils
    | with_reducible refine rn_own_nils ?_
    | with_reducible refine rn_own ?_ ?_ ?_
    | with_reducible refine rn_own_sl ?_ ?_ ?_ ?_ ?_
    | with_reducible refine rn_own_loose ?_ ?_ ?_ ?_
    | with_reducible refine rn_loose ?_ ?_ ?_ ?_
    | with_reducible refine rn_loose_sl ?_ ?_ ?_ ?_
    | exact use_lo rfl
    | exact use_own rfl
    | exact nm_k rfl
    | exact nm_lo rfl
    | ((with_reducible refine (id : pos _ = pos _ → _) ?_); exact rfl)
    | ((with_reducible refine (id : pos _ = 0 → _) ?_); exact rfl)
    | ((with_reducible refine (id : Nat.ble _ _ = true → _) ?_); exact rfl)
    | ((with_reducible refine (id : injL _ _ = true → _) ?_); exact rfl)
    | ((with_reducible refine (id : plainC _ = true → _) ?_); exact rfl)
    | ((with_reducible refine (id : hget _ _ = some _ → _) ?_); exact rfl)
    | with_reducible exact (id : (_ : Bool) = true → _ = true)
    | with_reducible exact entl_nil
    | with_reducible refine entl_bor ?_ ?_ ?_ ?_
    | refine entl_new (use_own rfl) (by rfl) ?_ ?_ ?_
    | refine entl_rows (use_own rfl) (by rfl) rfl ?_ (nthc_all ?_) ?_
    | refine entl_zero (use_own rfl) (by rfl) (by simp) (by omega) ?_
    | with_reducible exact rcs_nil
    | with_reducible refine rcs_int (fun j hj => ?_) ?_
    | with_reducible refine rcs_bool (fun j hj => ?_) ?_
    | with_reducible refine rcs_str (fun j hj => ?_) ?_
    | refine entl_fresh (k := 2) (use_own rfl) (fresh_ok (n := 39) rfl) ?_
    | with_reducible rfl
  all_goals try exact (0 : Nat)
  all_goals try ((with_reducible refine (id : injL _ _ = true → _) ?_); exact rfl)
  all_goals first
    | omega
    | skip
theorem c45 (aa na ma : Nat) (ta : Nat → ByteArray) (va ga : Nat → Int) (hp : aa + na ≤ ma ∧ na ≤ 1000000) : CallR Try.prog 45 [.loose ⟨0, 3, aa, 0⟩ na] [[(0, (false, .cols ma [.str ta, .int .i64 va, .int .i64 ga]))]] 1 (.own 2 3 na) [(2, (true, .cols na [.str (fun j => ta (j + aa)), .int .i64 (fun j => va (j + aa)), .int .i64 (fun j => ga (j + aa))])) :: [(0, (false, .cols ma [.str ta, .int .i64 va, .int .i64 ga]))]] 40 ∧ ∃ F, Try.prog.funcs[45]? = some F ∧ F.body.isSome = true ∧ (F.name == "runtime.NumGoroutine") = false :=
  ⟨loose_cases (fun h => (c45s aa na ma ta va ga hp h).1) (fun h b => by cases b; exact (c45y aa na ma ta va ga hp h).1; exact (c45z aa na ma ta va ga hp h).1), by
    rcases Nat.eq_zero_or_pos na with h | h
    · exact (c45y aa na ma ta va ga hp h).2
    · exact (c45s aa na ma ta va ga hp h).2⟩
theorem k45_ok  : k45.ok Try.prog := by
  intro x hx
  obtain ⟨⟨aa, na, ma, ta, va, ga, _⟩, _⟩ := x
  have hp : aa + na ≤ ma ∧ na ≤ 1000000 := of_decide_eq_true hx
  obtain ⟨h1, h2⟩ := c45 aa na ma ta va ga hp
  exact ⟨⟨40, (by decide : 1 + 1 + 1 ≤ 40), h1⟩, h2⟩
theorem limu64  {n : Int} : lim .u64 n = decide (0 ≤ n ∧ n ≤ 18446744073709551615) := rfl
theorem shr32  {x : Int} (h : 0 ≤ x ∧ x < 4294967296) : S.shrB .u64 x 32 = 0 := by
  show Int.fdiv x (2 ^ (min (32 : Int).toNat 64)) = 0
  have e : (2 : Int) ^ (min (32 : Int).toNat 64) = 4294967296 := by decide
  rw [e, Int.fdiv_eq_ediv_of_nonneg _ (by decide)]
  omega
theorem and32  {x : Int} (h : 0 ≤ x ∧ x < 4294967296) : S.andB .u64 x 4294967295 = x := by
  obtain ⟨n, rfl⟩ := Int.eq_ofNat_of_zero_le h.1
  show IntKind.wrap .u64 (((BitVec.ofInt 64 (n : Int) &&& BitVec.ofInt 64 4294967295).toNat : Nat) : Int) = n
  have e1 : (BitVec.ofInt 64 (n : Int)).toNat = n := by
    rw [BitVec.toNat_ofInt]; omega
  have e2 : (BitVec.ofInt 64 4294967295).toNat = 2 ^ 32 - 1 := by decide
  rw [BitVec.toNat_and, e1, e2, Nat.and_two_pow_sub_one_eq_mod]
  have e3 : n % 2 ^ 32 = n := Nat.mod_eq_of_lt (by omega)
  rw [e3]
  exact u64_in n (by omega)
inductive St78 where
  | h0 (x0 : Int) (x1 : List Bool)
abbrev Rt78  := List Bool
noncomputable def V78 (al nl ml : Nat) (tl : Nat → Bool) (ct : Int) (r : Rt78) : PV := PV.own (2) (1) (List.length r)
noncomputable def N78 (al nl ml : Nat) (tl : Nat → Bool) (ct : Int) (r : Rt78) : List Blk := [Blk.cols (List.length r) [Col.bool fun j => S.at' r j]]
noncomputable def I78 (al nl ml : Nat) (tl : Nat → Bool) (ct : Int) : St78 → Hd
  | .h0 x0 x1 => ⟨hd Try.f78 0, [PV.own (1) (1) (List.length x1), PV.int IntKind.i64 x0], [[(1, (true, Blk.cols (List.length x1) [Col.bool fun j => S.at' x1 j]))], [(0, (false, .cols ml [.bool tl]))]], 2⟩
noncomputable def q78 (al nl ml : Nat) (tl : Nat → Bool) (ct : Int) : St78 → Option (St78 ⊕ Rt78)
  | .h0 x0 x1 => bif (decide (x0 < (↑(List.length x1) : Int)))
 then (bif (decide
 ((0 : Int) ≤ x0 ∧ x0 ≤ (↑(List.length x1) : Int) ∧ (↑(List.length x1) : Int) ≤ (↑(List.length x1) : Int)))
 then (bif (decide ((0 : Int) ≤ x0 ∧ x0 ≤ (↑(List.length x1) : Int)))
 then (bif (decide (Int.toNat x0 + Min.min (List.length x1 - Int.toNat x0) (Int.toNat x0) ≤ List.length x1))
 then (bif (decide (0 + Int.toNat x0 ≤ List.length x1))
 then (bif (lim IntKind.i64 (x0 + (↑(Min.min (List.length x1 - Int.toNat x0) (Int.toNat x0)) : Int)))
 then (some (.inl (.h0 (x0 + (↑(Min.min (List.length x1 - Int.toNat x0) (Int.toNat x0)) : Int)) (S.mkl (List.length x1) fun j =>
 bif Nat.ble (Int.toNat x0) j then
 bif Nat.blt j (Int.toNat x0 + Min.min (List.length x1 - Int.toNat x0) (Int.toNat x0)) then
 S.at' x1 (j - Int.toNat x0)
 else S.at' x1 j
 else S.at' x1 j))))
 else (none))
 else (none))
 else (none))
 else (none))
 else (none))
 else (some (.inr (x1)))
noncomputable def p78 (al nl ml : Nat) (tl : Nat → Bool) (ct : Int) : Option (St78 ⊕ Rt78) := bif (decide (ct < (0 : Int)))
 then (none)
 else (bif (lim IntKind.u64
 (S.andB IntKind.u64 (IntKind.wrap IntKind.u64 (↑nl : Int)) (4294967295 : Int) *
 S.andB IntKind.u64 (IntKind.wrap IntKind.u64 ct) (4294967295 : Int)))
 then (bif (lim IntKind.u64
 (S.shrB IntKind.u64 (IntKind.wrap IntKind.u64 (↑nl : Int)) (32 : Int) *
 S.andB IntKind.u64 (IntKind.wrap IntKind.u64 ct) (4294967295 : Int)))
 then (bif (lim IntKind.u64
 (S.shrB IntKind.u64 (IntKind.wrap IntKind.u64 (↑nl : Int)) (32 : Int) *
 S.andB IntKind.u64 (IntKind.wrap IntKind.u64 ct) (4294967295 : Int) +
 S.shrB IntKind.u64
 (S.andB IntKind.u64 (IntKind.wrap IntKind.u64 (↑nl : Int)) (4294967295 : Int) *
 S.andB IntKind.u64 (IntKind.wrap IntKind.u64 ct) (4294967295 : Int))
 (32 : Int)))
 then (bif (lim IntKind.u64
 (S.andB IntKind.u64 (IntKind.wrap IntKind.u64 (↑nl : Int)) (4294967295 : Int) *
 S.shrB IntKind.u64 (IntKind.wrap IntKind.u64 ct) (32 : Int)))
 then (bif (lim IntKind.u64
 (S.andB IntKind.u64
 (S.shrB IntKind.u64 (IntKind.wrap IntKind.u64 (↑nl : Int)) (32 : Int) *
 S.andB IntKind.u64 (IntKind.wrap IntKind.u64 ct) (4294967295 : Int) +
 S.shrB IntKind.u64
 (S.andB IntKind.u64 (IntKind.wrap IntKind.u64 (↑nl : Int)) (4294967295 : Int) *
 S.andB IntKind.u64 (IntKind.wrap IntKind.u64 ct) (4294967295 : Int))
 (32 : Int))
 (4294967295 : Int) +
 S.andB IntKind.u64 (IntKind.wrap IntKind.u64 (↑nl : Int)) (4294967295 : Int) *
 S.shrB IntKind.u64 (IntKind.wrap IntKind.u64 ct) (32 : Int)))
 then (bif (lim IntKind.u64
 (S.shrB IntKind.u64 (IntKind.wrap IntKind.u64 (↑nl : Int)) (32 : Int) *
 S.shrB IntKind.u64 (IntKind.wrap IntKind.u64 ct) (32 : Int)))
 then (bif (lim IntKind.u64
 (S.shrB IntKind.u64 (IntKind.wrap IntKind.u64 (↑nl : Int)) (32 : Int) *
 S.shrB IntKind.u64 (IntKind.wrap IntKind.u64 ct) (32 : Int) +
 S.shrB IntKind.u64
 (S.shrB IntKind.u64 (IntKind.wrap IntKind.u64 (↑nl : Int)) (32 : Int) *
 S.andB IntKind.u64 (IntKind.wrap IntKind.u64 ct) (4294967295 : Int) +
 S.shrB IntKind.u64
 (S.andB IntKind.u64 (IntKind.wrap IntKind.u64 (↑nl : Int)) (4294967295 : Int) *
 S.andB IntKind.u64 (IntKind.wrap IntKind.u64 ct) (4294967295 : Int))
 (32 : Int))
 (32 : Int)))
 then (bif (lim IntKind.u64
 (S.shrB IntKind.u64 (IntKind.wrap IntKind.u64 (↑nl : Int)) (32 : Int) *
 S.shrB IntKind.u64 (IntKind.wrap IntKind.u64 ct) (32 : Int) +
 S.shrB IntKind.u64
 (S.shrB IntKind.u64 (IntKind.wrap IntKind.u64 (↑nl : Int)) (32 : Int) *
 S.andB IntKind.u64 (IntKind.wrap IntKind.u64 ct) (4294967295 : Int) +
 S.shrB IntKind.u64
 (S.andB IntKind.u64 (IntKind.wrap IntKind.u64 (↑nl : Int)) (4294967295 : Int) *
 S.andB IntKind.u64 (IntKind.wrap IntKind.u64 ct) (4294967295 : Int))
 (32 : Int))
 (32 : Int) +
 S.shrB IntKind.u64
 (S.andB IntKind.u64
 (S.shrB IntKind.u64 (IntKind.wrap IntKind.u64 (↑nl : Int)) (32 : Int) *
 S.andB IntKind.u64 (IntKind.wrap IntKind.u64 ct) (4294967295 : Int) +
 S.shrB IntKind.u64
 (S.andB IntKind.u64 (IntKind.wrap IntKind.u64 (↑nl : Int)) (4294967295 : Int) *
 S.andB IntKind.u64 (IntKind.wrap IntKind.u64 ct) (4294967295 : Int))
 (32 : Int))
 (4294967295 : Int) +
 S.andB IntKind.u64 (IntKind.wrap IntKind.u64 (↑nl : Int)) (4294967295 : Int) *
 S.shrB IntKind.u64 (IntKind.wrap IntKind.u64 ct) (32 : Int))
 (32 : Int)))
 then (bif (lim IntKind.u64 (IntKind.wrap IntKind.u64 (↑nl : Int) * IntKind.wrap IntKind.u64 ct))
 then (bif (decide
 (S.shrB IntKind.u64 (IntKind.wrap IntKind.u64 (↑nl : Int)) (32 : Int) *
 S.shrB IntKind.u64 (IntKind.wrap IntKind.u64 ct) (32 : Int) +
 S.shrB IntKind.u64
 (S.shrB IntKind.u64 (IntKind.wrap IntKind.u64 (↑nl : Int)) (32 : Int) *
 S.andB IntKind.u64 (IntKind.wrap IntKind.u64 ct) (4294967295 : Int) +
 S.shrB IntKind.u64
 (S.andB IntKind.u64 (IntKind.wrap IntKind.u64 (↑nl : Int)) (4294967295 : Int) *
 S.andB IntKind.u64 (IntKind.wrap IntKind.u64 ct) (4294967295 : Int))
 (32 : Int))
 (32 : Int) +
 S.shrB IntKind.u64
 (S.andB IntKind.u64
 (S.shrB IntKind.u64 (IntKind.wrap IntKind.u64 (↑nl : Int)) (32 : Int) *
 S.andB IntKind.u64 (IntKind.wrap IntKind.u64 ct) (4294967295 : Int) +
 S.shrB IntKind.u64
 (S.andB IntKind.u64 (IntKind.wrap IntKind.u64 (↑nl : Int)) (4294967295 : Int) *
 S.andB IntKind.u64 (IntKind.wrap IntKind.u64 ct) (4294967295 : Int))
 (32 : Int))
 (4294967295 : Int) +
 S.andB IntKind.u64 (IntKind.wrap IntKind.u64 (↑nl : Int)) (4294967295 : Int) *
 S.shrB IntKind.u64 (IntKind.wrap IntKind.u64 ct) (32 : Int))
 (32 : Int) >
 (0 : Int)))
 then (none)
 else (bif (decide
 (IntKind.wrap IntKind.u64 (↑nl : Int) * IntKind.wrap IntKind.u64 ct > (9223372036854775807 : Int)))
 then (none)
 else (bif (decide
 ((0 : Int) ≤
 IntKind.wrap IntKind.i64 (IntKind.wrap IntKind.u64 (↑nl : Int) * IntKind.wrap IntKind.u64 ct) ∧
 IntKind.wrap IntKind.i64 (IntKind.wrap IntKind.u64 (↑nl : Int) * IntKind.wrap IntKind.u64 ct) ≤
 IntKind.wrap IntKind.i64
 (IntKind.wrap IntKind.u64 (↑nl : Int) * IntKind.wrap IntKind.u64 ct) ∧
 IntKind.wrap IntKind.i64 (IntKind.wrap IntKind.u64 (↑nl : Int) * IntKind.wrap IntKind.u64 ct) ≤
 (1000000 : Int)))
 then (bif (decide
 (0 +
 Min.min
 (Int.toNat
 (IntKind.wrap IntKind.i64
 (IntKind.wrap IntKind.u64 (↑nl : Int) * IntKind.wrap IntKind.u64 ct)))
 nl ≤
 Int.toNat
 (IntKind.wrap IntKind.i64 (IntKind.wrap IntKind.u64 (↑nl : Int) * IntKind.wrap IntKind.u64 ct))))
 then (bif (decide (al + nl ≤ ml))
 then (some (.inl (.h0 ((↑(Min.min
 (Int.toNat
 (IntKind.wrap IntKind.i64
 (IntKind.wrap IntKind.u64 (↑nl : Int) * IntKind.wrap IntKind.u64 ct)))
 nl) :
 Int)) (S.mkl
 (Int.toNat
 (IntKind.wrap IntKind.i64 (IntKind.wrap IntKind.u64 (↑nl : Int) * IntKind.wrap IntKind.u64 ct)))
 fun j =>
 bif Nat.ble (0) j then
 bif
 Nat.blt j
 (0 +
 Min.min
 (Int.toNat
 (IntKind.wrap IntKind.i64
 (IntKind.wrap IntKind.u64 (↑nl : Int) * IntKind.wrap IntKind.u64 ct)))
 nl) then
 tl (j + al)
 else false
 else false))))
 else (none))
 else (none))
 else (none))))
 else (none))
 else (none))
 else (none))
 else (none))
 else (none))
 else (none))
 else (none))
 else (none))
 else (none))
noncomputable def Te78 (test : Bool → Prop → Prop → Prop) (Kst : KS) (Kret : KR) (al nl ml : Nat) (tl : Nat → Bool) (ct : Int) : Prop :=
  test (decide (ct < (0 : Int)))
 (False)
 (test (false)
 (False)
 (test (false)
 (False)
 (test (lim IntKind.u64
 (S.andB IntKind.u64 (IntKind.wrap IntKind.u64 (↑nl : Int)) (4294967295 : Int) *
 S.andB IntKind.u64 (IntKind.wrap IntKind.u64 ct) (4294967295 : Int)))
 (test (lim IntKind.u64
 (S.shrB IntKind.u64 (IntKind.wrap IntKind.u64 (↑nl : Int)) (32 : Int) *
 S.andB IntKind.u64 (IntKind.wrap IntKind.u64 ct) (4294967295 : Int)))
 (test (false)
 (False)
 (test (lim IntKind.u64
 (S.shrB IntKind.u64 (IntKind.wrap IntKind.u64 (↑nl : Int)) (32 : Int) *
 S.andB IntKind.u64 (IntKind.wrap IntKind.u64 ct) (4294967295 : Int) +
 S.shrB IntKind.u64
 (S.andB IntKind.u64 (IntKind.wrap IntKind.u64 (↑nl : Int)) (4294967295 : Int) *
 S.andB IntKind.u64 (IntKind.wrap IntKind.u64 ct) (4294967295 : Int))
 (32 : Int)))
 (test (false)
 (False)
 (test (lim IntKind.u64
 (S.andB IntKind.u64 (IntKind.wrap IntKind.u64 (↑nl : Int)) (4294967295 : Int) *
 S.shrB IntKind.u64 (IntKind.wrap IntKind.u64 ct) (32 : Int)))
 (test (lim IntKind.u64
 (S.andB IntKind.u64
 (S.shrB IntKind.u64 (IntKind.wrap IntKind.u64 (↑nl : Int)) (32 : Int) *
 S.andB IntKind.u64 (IntKind.wrap IntKind.u64 ct) (4294967295 : Int) +
 S.shrB IntKind.u64
 (S.andB IntKind.u64 (IntKind.wrap IntKind.u64 (↑nl : Int)) (4294967295 : Int) *
 S.andB IntKind.u64 (IntKind.wrap IntKind.u64 ct) (4294967295 : Int))
 (32 : Int))
 (4294967295 : Int) +
 S.andB IntKind.u64 (IntKind.wrap IntKind.u64 (↑nl : Int)) (4294967295 : Int) *
 S.shrB IntKind.u64 (IntKind.wrap IntKind.u64 ct) (32 : Int)))
 (test (lim IntKind.u64
 (S.shrB IntKind.u64 (IntKind.wrap IntKind.u64 (↑nl : Int)) (32 : Int) *
 S.shrB IntKind.u64 (IntKind.wrap IntKind.u64 ct) (32 : Int)))
 (test (lim IntKind.u64
 (S.shrB IntKind.u64 (IntKind.wrap IntKind.u64 (↑nl : Int)) (32 : Int) *
 S.shrB IntKind.u64 (IntKind.wrap IntKind.u64 ct) (32 : Int) +
 S.shrB IntKind.u64
 (S.shrB IntKind.u64 (IntKind.wrap IntKind.u64 (↑nl : Int)) (32 : Int) *
 S.andB IntKind.u64 (IntKind.wrap IntKind.u64 ct) (4294967295 : Int) +
 S.shrB IntKind.u64
 (S.andB IntKind.u64 (IntKind.wrap IntKind.u64 (↑nl : Int)) (4294967295 : Int) *
 S.andB IntKind.u64 (IntKind.wrap IntKind.u64 ct) (4294967295 : Int))
 (32 : Int))
 (32 : Int)))
 (test (false)
 (False)
 (test (lim IntKind.u64
 (S.shrB IntKind.u64 (IntKind.wrap IntKind.u64 (↑nl : Int)) (32 : Int) *
 S.shrB IntKind.u64 (IntKind.wrap IntKind.u64 ct) (32 : Int) +
 S.shrB IntKind.u64
 (S.shrB IntKind.u64 (IntKind.wrap IntKind.u64 (↑nl : Int)) (32 : Int) *
 S.andB IntKind.u64 (IntKind.wrap IntKind.u64 ct) (4294967295 : Int) +
 S.shrB IntKind.u64
 (S.andB IntKind.u64 (IntKind.wrap IntKind.u64 (↑nl : Int)) (4294967295 : Int) *
 S.andB IntKind.u64 (IntKind.wrap IntKind.u64 ct) (4294967295 : Int))
 (32 : Int))
 (32 : Int) +
 S.shrB IntKind.u64
 (S.andB IntKind.u64
 (S.shrB IntKind.u64 (IntKind.wrap IntKind.u64 (↑nl : Int)) (32 : Int) *
 S.andB IntKind.u64 (IntKind.wrap IntKind.u64 ct) (4294967295 : Int) +
 S.shrB IntKind.u64
 (S.andB IntKind.u64 (IntKind.wrap IntKind.u64 (↑nl : Int)) (4294967295 : Int) *
 S.andB IntKind.u64 (IntKind.wrap IntKind.u64 ct) (4294967295 : Int))
 (32 : Int))
 (4294967295 : Int) +
 S.andB IntKind.u64 (IntKind.wrap IntKind.u64 (↑nl : Int)) (4294967295 : Int) *
 S.shrB IntKind.u64 (IntKind.wrap IntKind.u64 ct) (32 : Int))
 (32 : Int)))
 (test (lim IntKind.u64 (IntKind.wrap IntKind.u64 (↑nl : Int) * IntKind.wrap IntKind.u64 ct))
 (test (decide
 (S.shrB IntKind.u64 (IntKind.wrap IntKind.u64 (↑nl : Int)) (32 : Int) *
 S.shrB IntKind.u64 (IntKind.wrap IntKind.u64 ct) (32 : Int) +
 S.shrB IntKind.u64
 (S.shrB IntKind.u64 (IntKind.wrap IntKind.u64 (↑nl : Int)) (32 : Int) *
 S.andB IntKind.u64 (IntKind.wrap IntKind.u64 ct) (4294967295 : Int) +
 S.shrB IntKind.u64
 (S.andB IntKind.u64 (IntKind.wrap IntKind.u64 (↑nl : Int)) (4294967295 : Int) *
 S.andB IntKind.u64 (IntKind.wrap IntKind.u64 ct) (4294967295 : Int))
 (32 : Int))
 (32 : Int) +
 S.shrB IntKind.u64
 (S.andB IntKind.u64
 (S.shrB IntKind.u64 (IntKind.wrap IntKind.u64 (↑nl : Int)) (32 : Int) *
 S.andB IntKind.u64 (IntKind.wrap IntKind.u64 ct) (4294967295 : Int) +
 S.shrB IntKind.u64
 (S.andB IntKind.u64 (IntKind.wrap IntKind.u64 (↑nl : Int)) (4294967295 : Int) *
 S.andB IntKind.u64 (IntKind.wrap IntKind.u64 ct) (4294967295 : Int))
 (32 : Int))
 (4294967295 : Int) +
 S.andB IntKind.u64 (IntKind.wrap IntKind.u64 (↑nl : Int)) (4294967295 : Int) *
 S.shrB IntKind.u64 (IntKind.wrap IntKind.u64 ct) (32 : Int))
 (32 : Int) >
 (0 : Int)))
 (False)
 (test (decide
 (IntKind.wrap IntKind.u64 (↑nl : Int) * IntKind.wrap IntKind.u64 ct > (9223372036854775807 : Int)))
 (False)
 (test (decide
 ((0 : Int) ≤
 IntKind.wrap IntKind.i64 (IntKind.wrap IntKind.u64 (↑nl : Int) * IntKind.wrap IntKind.u64 ct) ∧
 IntKind.wrap IntKind.i64 (IntKind.wrap IntKind.u64 (↑nl : Int) * IntKind.wrap IntKind.u64 ct) ≤
 IntKind.wrap IntKind.i64
 (IntKind.wrap IntKind.u64 (↑nl : Int) * IntKind.wrap IntKind.u64 ct) ∧
 IntKind.wrap IntKind.i64 (IntKind.wrap IntKind.u64 (↑nl : Int) * IntKind.wrap IntKind.u64 ct) ≤
 (1000000 : Int)))
 (test (decide
 (0 +
 Min.min
 (Int.toNat
 (IntKind.wrap IntKind.i64
 (IntKind.wrap IntKind.u64 (↑nl : Int) * IntKind.wrap IntKind.u64 ct)))
 nl ≤
 Int.toNat
 (IntKind.wrap IntKind.i64 (IntKind.wrap IntKind.u64 (↑nl : Int) * IntKind.wrap IntKind.u64 ct))))
 (test (decide (al + nl ≤ ml))
 (Kst (hd Try.f78 0) ([PV.own (1) (1)
 (Int.toNat
 (IntKind.wrap IntKind.i64
 (IntKind.wrap IntKind.u64 (↑nl : Int) * IntKind.wrap IntKind.u64 ct))),
 PV.int IntKind.i64
 (↑(Min.min
 (Int.toNat
 (IntKind.wrap IntKind.i64
 (IntKind.wrap IntKind.u64 (↑nl : Int) * IntKind.wrap IntKind.u64 ct)))
 nl) :
 Int)]) ([[(0, false, Blk.cols ml [Col.bool tl]),
 (1, true,
 Blk.cols
 (Int.toNat
 (IntKind.wrap IntKind.i64
 (IntKind.wrap IntKind.u64 (↑nl : Int) * IntKind.wrap IntKind.u64 ct)))
 [Col.bool fun j =>
 bif Nat.ble (0) j then
 bif
 Nat.blt j
 (0 +
 Min.min
 (Int.toNat
 (IntKind.wrap IntKind.i64
 (IntKind.wrap IntKind.u64 (↑nl : Int) * IntKind.wrap IntKind.u64 ct)))
 nl) then
 tl (j + al)
 else false
 else false])]]) (2))
 (False))
 (False))
 (False))))
 (False))
 (False)))
 (False))
 (False))
 (False))
 (False)))
 (False)))
 (False))
 (False))))
theorem te78 (test : Bool → Prop → Prop → Prop) (Kst : KS) (Kret : KR) (al nl ml : Nat) (tl : Nat → Bool) (ct : Int) : run test Try.env true noX true 400 ⟨78, [.cd (mkFn Try.f78).body], argT 0 [.loose ⟨0, 1, al, 0⟩ nl, .int .i64 ct], [[], [(0, (false, .cols ml [.bool tl]))]], 1⟩ (proj 1 [7, 8] Kst Kret) =
  Te78 test Kst Kret al nl ml tl ct := by kernel_rfl
noncomputable def T78_0 (test : Bool → Prop → Prop → Prop) (Kst : KS) (Kret : KR) (al nl ml : Nat) (tl : Nat → Bool) (ct x0 : Int) (x1 : List Bool) : Prop :=
  test (decide (x0 < (↑(List.length x1) : Int)))
 (test (decide
 ((0 : Int) ≤ x0 ∧ x0 ≤ (↑(List.length x1) : Int) ∧ (↑(List.length x1) : Int) ≤ (↑(List.length x1) : Int)))
 (test (decide ((0 : Int) ≤ x0 ∧ x0 ≤ (↑(List.length x1) : Int)))
 (test (decide (Int.toNat x0 + Min.min (List.length x1 - Int.toNat x0) (Int.toNat x0) ≤ List.length x1))
 (test (decide (0 + Int.toNat x0 ≤ List.length x1))
 (test (lim IntKind.i64 (x0 + (↑(Min.min (List.length x1 - Int.toNat x0) (Int.toNat x0)) : Int)))
 (Kst (hd Try.f78 0) ([PV.own (1) (1) (List.length x1),
 PV.int IntKind.i64 (x0 + (↑(Min.min (List.length x1 - Int.toNat x0) (Int.toNat x0)) : Int))]) ([[(0, false, Blk.cols ml [Col.bool tl]),
 (1, true,
 Blk.cols (List.length x1)
 [Col.bool fun j =>
 bif Nat.ble (Int.toNat x0) j then
 bif Nat.blt j (Int.toNat x0 + Min.min (List.length x1 - Int.toNat x0) (Int.toNat x0)) then
 S.at' x1 (j - Int.toNat x0)
 else S.at' x1 j
 else S.at' x1 j])]]) (2))
 (False))
 (False))
 (False))
 (False))
 (False))
 (Kret (PV.own (1) (1) (List.length x1)) ([[(0, false, Blk.cols ml [Col.bool tl]),
 (1, true, Blk.cols (List.length x1) [Col.bool fun j => S.at' x1 j])]]) (2))
theorem t78_0 (test : Bool → Prop → Prop → Prop) (Kst : KS) (Kret : KR) (al nl ml : Nat) (tl : Nat → Bool) (ct x0 : Int) (x1 : List Bool) : run test Try.env true noX true 400 ⟨78, hd Try.f78 0, zipT [7, 8] [PV.own (1) (1) (List.length x1), PV.int IntKind.i64 x0], [[(1, (true, Blk.cols (List.length x1) [Col.bool fun j => S.at' x1 j]))], [(0, (false, .cols ml [.bool tl]))]], 2⟩ (proj 1 [7, 8] Kst Kret) =
  T78_0 test Kst Kret al nl ml tl ct x0 x1 := by kernel_rfl
theorem be78 (al nl ml : Nat) (tl : Nat → Bool) (ct : Int) (Kst : KS) (Kret : KR) (x : St78 ⊕ Rt78) (hS : HS 1 400 ((I78 al nl ml tl ct)) Kst x) (hR : HR 1 400 ((V78 al nl ml tl ct)) (fun r => [newL (1 + 1) ((N78 al nl ml tl ct) r) ++ [(0, (false, .cols ml [.bool tl]))]]) Kret x) (h : p78 al nl ml tl ct = some x) : Te78 cond Kst Kret al nl ml tl ct := by
  unfold Te78
  unfold p78 at h
  refine bif_split h
   (fun c0 h => no_some h)
   (fun c0 h => cond_no rfl (cond_no rfl (bif_split h
   (fun c1 h => bif_split h
   (fun c2 h => cond_no rfl (bif_split h
   (fun c3 h => cond_no rfl (bif_split h
   (fun c4 h => bif_split h
   (fun c5 h => bif_split h
   (fun c6 h => bif_split h
   (fun c7 h => cond_no rfl (bif_split h
   (fun c8 h => bif_split h
   (fun c9 h => bif_split h
   (fun c10 h => no_some h)
   (fun c10 h => bif_split h
   (fun c11 h => no_some h)
   (fun c11 h => bif_split h
   (fun c12 h => bif_split h
   (fun c13 h => bif_split h
   (fun c14 h => stop_at hS _ h (fun n => bif Nat.beq n 1 then 1 else n) rfl rfl rfl ⟨(rn_own (use_own rfl) rfl mkl_len), ⟨(rn_int rfl), trivial⟩⟩ rfl (entl_new (use_own rfl) rfl (Nat.le_of_eq mkl_len) (rcs_bool (fun _ hj => col_mkl (fun (t : Bool) => t) hj) rcs_nil) (entl_bor (use_lo rfl) rfl rfl entl_nil)))
   (fun c14 h => no_some h))
   (fun c13 h => no_some h))
   (fun c12 h => no_some h))))
   (fun c9 h => no_some h))
   (fun c8 h => no_some h)))
   (fun c7 h => no_some h))
   (fun c6 h => no_some h))
   (fun c5 h => no_some h))
   (fun c4 h => no_some h)))
   (fun c3 h => no_some h)))
   (fun c2 h => no_some h))
   (fun c1 h => no_some h))))
theorem b78_0 (al nl ml : Nat) (tl : Nat → Bool) (ct : Int) (Kst : KS) (Kret : KR) (x : St78 ⊕ Rt78) (hS : HS 1 400 ((I78 al nl ml tl ct)) Kst x) (hR : HR 1 400 ((V78 al nl ml tl ct)) (fun r => [newL (1 + 1) ((N78 al nl ml tl ct) r) ++ [(0, (false, .cols ml [.bool tl]))]]) Kret x) (x0 : Int) (x1 : List Bool) (h : (bif (decide (x0 < (↑(List.length x1) : Int)))
 then (bif (decide
 ((0 : Int) ≤ x0 ∧ x0 ≤ (↑(List.length x1) : Int) ∧ (↑(List.length x1) : Int) ≤ (↑(List.length x1) : Int)))
 then (bif (decide ((0 : Int) ≤ x0 ∧ x0 ≤ (↑(List.length x1) : Int)))
 then (bif (decide (Int.toNat x0 + Min.min (List.length x1 - Int.toNat x0) (Int.toNat x0) ≤ List.length x1))
 then (bif (decide (0 + Int.toNat x0 ≤ List.length x1))
 then (bif (lim IntKind.i64 (x0 + (↑(Min.min (List.length x1 - Int.toNat x0) (Int.toNat x0)) : Int)))
 then (some (.inl (.h0 (x0 + (↑(Min.min (List.length x1 - Int.toNat x0) (Int.toNat x0)) : Int)) (S.mkl (List.length x1) fun j =>
 bif Nat.ble (Int.toNat x0) j then
 bif Nat.blt j (Int.toNat x0 + Min.min (List.length x1 - Int.toNat x0) (Int.toNat x0)) then
 S.at' x1 (j - Int.toNat x0)
 else S.at' x1 j
 else S.at' x1 j))))
 else (none))
 else (none))
 else (none))
 else (none))
 else (none))
 else (some (.inr (x1))) : Option (St78 ⊕ Rt78)) = some x) : T78_0 cond Kst Kret al nl ml tl ct x0 x1 := by
  unfold T78_0
  exact bif_split h
   (fun c0 h => bif_split h
   (fun c1 h => bif_split h
   (fun c2 h => bif_split h
   (fun c3 h => bif_split h
   (fun c4 h => bif_split h
   (fun c5 h => stop_at hS _ h (fun n => bif Nat.beq n 1 then 1 else n) rfl rfl rfl ⟨(rn_own (use_own rfl) rfl mkl_len), ⟨(rn_int rfl), trivial⟩⟩ rfl (entl_new (use_own rfl) rfl (Nat.le_of_eq mkl_len) (rcs_bool (fun _ hj => col_mkl (fun (t : Bool) => t) hj) rcs_nil) (entl_bor (use_lo rfl) rfl rfl entl_nil)))
   (fun c5 h => no_some h))
   (fun c4 h => no_some h))
   (fun c3 h => no_some h))
   (fun c2 h => no_some h))
   (fun c1 h => no_some h))
   (fun c0 h => ret_at hR _ h (fun n => bif Nat.beq n 2 then 1 else n) rfl rfl rfl (rn_own (use_own rfl) rfl rfl) rfl (entl_new (use_own rfl) rfl (Nat.le_of_eq rfl) (rcs_bool (fun _ _ => rfl) rcs_nil) (entl_bor (use_lo rfl) rfl rfl entl_nil)))
theorem a78 (al nl ml : Nat) (tl : Nat → Bool) (ct : Int) {r : Rt78} (h : Goes ((q78 al nl ml tl ct)) ((p78 al nl ml tl ct)) r) : CallR Try.prog 78 [.loose ⟨0, 1, al, 0⟩ nl, .int .i64 ct] [[(0, (false, .cols ml [.bool tl]))]] 1 ((V78 al nl ml tl ct) r) ((fun r => [newL (1 + 1) ((N78 al nl ml tl ct) r) ++ [(0, (false, .cols ml [.bool tl]))]]) r) 400 ∧ ∃ F, Try.prog.funcs[78]? = some F ∧ F.body.isSome = true ∧ (F.name == "runtime.NumGoroutine") = false := by
  refine dec_calls (f := 78) (lo := 1) (hi := 400) (H := [[(0, (false, .cols ml [.bool tl]))]]) (args := [.loose ⟨0, 1, al, 0⟩ nl, .int .i64 ct]) Try.envOk Try.mixed noX_ok ((I78 al nl ml tl ct)) ((V78 al nl ml tl ct)) (fun r => [newL (1 + 1) ((N78 al nl ml tl ct) r) ++ [(0, (false, .cols ml [.bool tl]))]]) (fn := mkFn Try.f78) (ts := [7, 8]) (n := 400) rfl (by decide) (by simp) (names_of rfl) ?_ ?_ ?_ h
  · intro s; cases s <;> exact ⟨hd_ok _ _, by simp [I78], names_of rfl, Nat.le_of_ble_eq_true rfl⟩
  · intro Kst Kret x hS hR h
    exact Holds.eq (te78 cond Kst Kret al nl ml tl ct) (be78 al nl ml tl ct Kst Kret x hS hR h)
  · intro Kst Kret x hS hR s h
    cases s with
    | h0 x0 x1 => exact Holds.eq (t78_0 cond Kst Kret al nl ml tl ct x0 x1) (b78_0 al nl ml tl ct Kst Kret x hS hR x0 x1 h)
noncomputable def k78  : Con := ⟨78, [.one (.list [.bool]), .one (.plain (.int .i64))], fun (x : (Nat × Nat × Nat × (Nat → Bool) × Unit) × Int × Unit) => (fun (al nl ml : Nat) (tl : Nat → Bool) (ct : Int) => decide ((al + nl ≤ ml ∧ nl ≤ 1000) ∧ 0 ≤ ct ∧ ct ≤ 1000)) x.1.1 x.1.2.1 x.1.2.2.1 x.1.2.2.2.1 x.2.1, fun (x : (Nat × Nat × Nat × (Nat → Bool) × Unit) × Int × Unit) => (fun (al nl ml : Nat) (tl : Nat → Bool) (ct : Int) => (V78 al nl ml tl ct) (S.mkl (nl * ct.toNat) fun j => tl ((j % nl) + al))) x.1.1 x.1.2.1 x.1.2.2.1 x.1.2.2.2.1 x.2.1, fun (x : (Nat × Nat × Nat × (Nat → Bool) × Unit) × Int × Unit) => (fun (al nl ml : Nat) (tl : Nat → Bool) (ct : Int) => (N78 al nl ml tl ct) (S.mkl (nl * ct.toNat) fun j => tl ((j % nl) + al))) x.1.1 x.1.2.1 x.1.2.2.1 x.1.2.2.2.1 x.2.1, fun _ _ => .dead⟩
theorem s78' (al nl ml : Nat) (tl : Nat → Bool) (ct : Int) (c : Nat) (hT : nl * c ≤ 1000000) (h0 : 0 < nl) : ∀ (k d : Nat) (L : List Bool), d + k = nl * c → 0 < d → (d % nl = 0 ∨ d = nl * c) → Holds (L = S.mkl (nl * c) (fun j => if j < d then tl ((j % nl) + al) else false)) → Comes (q78 al nl ml tl ct) (.h0 (d : Int) L) (S.mkl (nl * c) fun j => tl ((j % nl) + al)) := by
  intro k
  induction k using Nat.strongRecOn with
  | ind k ih =>
    intro d L hk hd hm eL
    have hL : L.length = nl * c := by rw [eL.get, mkl_len]
    by_cases hz : k = 0
    · subst hz
      have e : L = S.mkl (nl * c) fun j => tl ((j % nl) + al) := by
        rw [eL.get]; exact mkl_congr fun j hj => if_pos (by omega)
      apply Comes.of
      show Goes _ _ _
      (first | rw [q78] | unfold q78)
      repeat' first
        | with_reducible refine goes_if (fun h => ?_) (fun h => ?_) <;> (try simp only [SH] at h)
        | exact goes_none.mpr (by omega)
      all_goals first | (exfalso; omega) | exact goes_inr.mpr e
    · have hm : d % nl = 0 := by omega
      have hn : min (L.length - d) d ≤ L.length - d ∧ min (L.length - d) d ≤ d ∧ 0 < min (L.length - d) d := by omega
      have ih := ih (k - min (L.length - d) d) (by omega) (d + min (L.length - d) d) (S.mkl L.length fun j => bif Nat.ble d j then bif Nat.blt j (d + min (L.length - d) d) then S.at' L (j - d) else S.at' L j else S.at' L j) (by omega) (by omega) (by
          rcases Nat.le_total (L.length - d) d with h1 | h1
          · right; omega
          · left; rw [Nat.min_eq_right h1, Nat.add_mod, hm]; simp) ⟨by
          rw [hL]
          refine mkl_congr fun j hj => ?_
          have ea : ∀ j, j < nl * c → S.at' L j = if j < d then tl ((j % nl) + al) else false := fun j hj => by rw [eL.get, at_mkl hj]
          by_cases h1 : d ≤ j
          · rw [show Nat.ble d j = true by rw [Nat.ble_eq]; exact h1, cond_true]
            by_cases h2 : j < d + min (nl * c - d) d
            · rw [show Nat.blt j (d + min (nl * c - d) d) = true by rw [Nat.blt_eq]; exact h2, cond_true, if_pos h2, ea (j - d) (by omega), if_pos (by omega)]
              have e : (j - d) % nl = j % nl := by
                obtain ⟨w, hw⟩ := Nat.dvd_of_mod_eq_zero hm
                have : j = (j - d) + nl * w := by omega
                rw [this, Nat.add_mul_mod_self_left]
                congr 1; omega
              rw [e]
            · rw [show Nat.blt j (d + min (nl * c - d) d) = false by cases hb : Nat.blt j (d + min (nl * c - d) d); rfl; exact absurd (lt_ok hb) h2, cond_false, if_neg h2, ea j hj, if_neg (by omega)]
          · rw [show Nat.ble d j = false by cases hb : Nat.ble d j; rfl; exact absurd (le_ok hb) h1, cond_false, ea j hj, if_pos (by omega), if_pos (by omega)]⟩
      have e1 : ((d : Int) + ((min (L.length - d) d : Nat) : Int)) = ((d + min (L.length - d) d : Nat) : Int) := by omega
      apply Comes.of
      show Goes _ _ _
      (first | rw [q78] | unfold q78)
      try simp only [Int.toNat_natCast, e1]
      try show Goes _ _ _
      repeat' first
        | with_reducible refine goes_if (fun h => ?_) (fun h => ?_) <;> (try simp only [SH] at h)
        | exact goes_none.mpr (by omega)
      all_goals first | (exfalso; omega) | exact ih
theorem s78 (al nl ml : Nat) (tl : Nat → Bool) (ct : Int) (hp : (al + nl ≤ ml ∧ nl ≤ 1000) ∧ 0 ≤ ct ∧ ct ≤ 1000) : Goes ((q78 al nl ml tl ct)) ((p78 al nl ml tl ct)) (S.mkl (nl * ct.toNat) fun j => tl ((j % nl) + al)) := by
  obtain ⟨⟨hp1, hp2⟩, hp3, hp4⟩ := hp
  obtain ⟨c, rfl⟩ := Int.eq_ofNat_of_zero_le hp3
  have hc : c ≤ 1000 := by omega
  have hT0 : nl * c ≤ 1000 * 1000 := Nat.mul_le_mul hp2 hc
  have hT : nl * c ≤ 1000000 := hT0
  have hmul : (nl : Int) * (c : Int) = ((nl * c : Nat) : Int) := (Int.natCast_mul nl c).symm
  have w1 : IntKind.wrap .u64 (nl : Int) = nl := u64_in _ (by omega)
  have w2 : IntKind.wrap .u64 (c : Int) = c := u64_in _ (by omega)
  have w3 : IntKind.wrap .i64 ((nl * c : Nat) : Int) = ((nl * c : Nat) : Int) := i64_in _ (by omega)
  have a1 : S.andB .u64 (nl : Int) 4294967295 = nl := and32 (by omega)
  have a2 : S.andB .u64 (c : Int) 4294967295 = c := and32 (by omega)
  have a0 : S.andB .u64 0 4294967295 = 0 := and32 (by decide)
  have h1 : S.shrB .u64 (nl : Int) 32 = 0 := shr32 (by omega)
  have h2 : S.shrB .u64 (c : Int) 32 = 0 := shr32 (by omega)
  have h3 : S.shrB .u64 ((nl * c : Nat) : Int) 32 = 0 := shr32 (by omega)
  have h0 : S.shrB .u64 0 32 = 0 := shr32 (by decide)
  have hl0 : lim .u64 0 = true := rfl
  have hl1 : lim .u64 ((nl * c : Nat) : Int) = true := by rw [limu64]; exact decide_eq_true (by omega)
  rw [Int.toNat_natCast]
  unfold p78
  simp only [w1, w2, a1, a2, h1, h2, hmul, w3, h3, a0, h0, Int.zero_mul, Int.mul_zero, Int.add_zero, Int.zero_add, hl0, hl1, cond_true, Int.toNat_natCast]
  have hm : 0 < nl → 0 < c → Comes (q78 al nl ml tl (c : Int)) (.h0 (((min (nl * c) nl : Nat)) : Int) (S.mkl (nl * c) fun j => bif Nat.ble 0 j then bif Nat.blt j (0 + min (nl * c) nl) then tl (j + al) else false else false)) (S.mkl (nl * c) fun j => tl ((j % nl) + al)) := fun q1 q2 => by
    have e : min (nl * c) nl = nl := Nat.min_eq_right (Nat.le_mul_of_pos_right nl q2)
    rw [e]
    refine s78' al nl ml tl (c : Int) c hT q1 (nl * c - nl) nl _ (by have := Nat.le_mul_of_pos_right nl q2; omega) q1 (.inl (Nat.mod_self nl)) ⟨mkl_congr fun j hj => ?_⟩
    rw [show Nat.ble 0 j = true by rw [Nat.ble_eq]; omega, cond_true, Nat.zero_add]
    by_cases h : j < nl
    · rw [show Nat.blt j nl = true by rw [Nat.blt_eq]; exact h, cond_true, if_pos h, Nat.mod_eq_of_lt h]
    · rw [show Nat.blt j nl = false by cases hb : Nat.blt j nl; rfl; exact absurd (lt_ok hb) h, cond_false, if_neg h]
  have hz : nl = 0 ∨ c = 0 → nl * c = 0 := fun h => by rcases h with h | h <;> rw [h] <;> simp
  have hz2 : ∀ (f g : Nat → Bool), nl * c = 0 → S.mkl (nl * c) f = S.mkl (nl * c) g := fun f g h => by rw [h]; rfl
  show Goes _ _ _
  by_cases hn : nl = 0 ∨ c = 0
  · have hz := hz hn
    repeat' first
      | with_reducible refine goes_if (fun h => ?_) (fun h => ?_) <;> (try simp only [SH] at h)
      | exact goes_none.mpr (by omega)
    all_goals first
      | (exfalso; omega)
      | (apply Comes.of
         show Goes _ _ _
         (first | rw [q78] | unfold q78)
         repeat' first
           | with_reducible refine goes_if (fun h => ?_) (fun h => ?_) <;> (try simp only [SH, mkl_len] at h)
           | exact goes_none.mpr (by omega)
         all_goals first | (exfalso; omega) | (exfalso; simp_all; done) | exact goes_inr.mpr (hz2 _ _ hz))
  · have hm := hm (by omega) (by omega)
    repeat' first
      | with_reducible refine goes_if (fun h => ?_) (fun h => ?_) <;> (try simp only [SH] at h)
      | exact goes_none.mpr (by omega)
    all_goals first | (exfalso; omega) | exact hm
theorem k78_ok  : k78.ok Try.prog := by
  intro x hx
  obtain ⟨⟨al, nl, ml, tl, _⟩, ct, _⟩ := x
  obtain ⟨h1, h2⟩ := a78 al nl ml tl ct (s78 al nl ml tl ct (of_dec hx rfl))
  exact ⟨⟨400, (by decide : 1 + 1 + 1 ≤ 400), h1⟩, h2⟩
noncomputable def xR (test : Bool → Prop → Prop → Prop) : Ext := consX test [k78]
theorem xR_ok  : ExtOk Try.prog (xR cond) := consX_ok ⟨k78_ok, trivial⟩
inductive St72 where
  | h0 (x0 : Int)
abbrev Rt72  := Int
noncomputable def V72 (ws : ByteArray) (fr : Int) (r : Rt72) : PV := PV.int IntKind.i64 r
noncomputable def N72 (ws : ByteArray) (fr : Int) (r : Rt72) : List Blk := []
noncomputable def I72 (ws : ByteArray) (fr : Int) : St72 → Hd
  | .h0 x0 => ⟨hd Try.f72 0, [PV.str ws, PV.int IntKind.i64 fr, PV.fn (Go.Fn.func (73)) [] [],
 PV.int IntKind.i64 x0], [[], []], 0⟩
noncomputable def q72 (ws : ByteArray) (fr : Int) : St72 → Option (St72 ⊕ Rt72)
  | .h0 x0 => bif (lim IntKind.i64 (fr + x0))
 then (bif (decide (fr + x0 < (↑(ByteArray.size ws) : Int)))
 then (bif (decide ((0 : Int) ≤ fr + x0 ∧ fr + x0 < (↑(ByteArray.size ws) : Int)))
 then (bif (decide (keys ws (Int.toNat (fr + x0)) ≥ (97 : Int)))
 then (bif (decide (keys ws (Int.toNat (fr + x0)) ≤ (122 : Int)))
 then (bif (lim IntKind.i64 (x0 + (1 : Int)))
 then (some (.inl (.h0 (x0 + (1 : Int)))))
 else (none))
 else (bif (decide (keys ws (Int.toNat (fr + x0)) ≥ (48 : Int)))
 then (bif (decide (keys ws (Int.toNat (fr + x0)) ≤ (57 : Int)))
 then (bif (lim IntKind.i64 (x0 + (1 : Int)))
 then (some (.inl (.h0 (x0 + (1 : Int)))))
 else (none))
 else (bif (keys ws (Int.toNat (fr + x0)) == (95 : Int))
 then (bif (lim IntKind.i64 (x0 + (1 : Int)))
 then (some (.inl (.h0 (x0 + (1 : Int)))))
 else (none))
 else (some (.inr (x0)))))
 else (bif (keys ws (Int.toNat (fr + x0)) == (95 : Int))
 then (bif (lim IntKind.i64 (x0 + (1 : Int)))
 then (some (.inl (.h0 (x0 + (1 : Int)))))
 else (none))
 else (some (.inr (x0))))))
 else (bif (decide (keys ws (Int.toNat (fr + x0)) ≥ (48 : Int)))
 then (bif (decide (keys ws (Int.toNat (fr + x0)) ≤ (57 : Int)))
 then (bif (lim IntKind.i64 (x0 + (1 : Int)))
 then (some (.inl (.h0 (x0 + (1 : Int)))))
 else (none))
 else (bif (keys ws (Int.toNat (fr + x0)) == (95 : Int))
 then (bif (lim IntKind.i64 (x0 + (1 : Int)))
 then (some (.inl (.h0 (x0 + (1 : Int)))))
 else (none))
 else (some (.inr (x0)))))
 else (bif (keys ws (Int.toNat (fr + x0)) == (95 : Int))
 then (bif (lim IntKind.i64 (x0 + (1 : Int)))
 then (some (.inl (.h0 (x0 + (1 : Int)))))
 else (none))
 else (some (.inr (x0))))))
 else (none))
 else (some (.inr (x0))))
 else (none)
noncomputable def p72 (ws : ByteArray) (fr : Int) : Option (St72 ⊕ Rt72) := some (.inl (.h0 ((0 : Int))))
noncomputable def Te72 (test : Bool → Prop → Prop → Prop) (Kst : KS) (Kret : KR) (ws : ByteArray) (fr : Int) : Prop :=
  Kst (hd Try.f72 0) ([PV.str ws, PV.int IntKind.i64 fr, PV.fn (Go.Fn.func (73)) [] [],
 PV.int IntKind.i64 (0 : Int)]) ([[]]) (0)
theorem te72 (test : Bool → Prop → Prop → Prop) (Kst : KS) (Kret : KR) (ws : ByteArray) (fr : Int) : run test Try.env true noX true 400 ⟨72, [.cd (mkFn Try.f72).body], argT 0 [.str ws, .int .i64 fr, .fn (.func 73) [] []], [[], []], 0⟩ (proj 0 [0, 1, 2, 7] Kst Kret) =
  Te72 test Kst Kret ws fr := by kernel_rfl
noncomputable def T72_0 (test : Bool → Prop → Prop → Prop) (Kst : KS) (Kret : KR) (ws : ByteArray) (fr x0 : Int) : Prop :=
  test (lim IntKind.i64 (fr + x0))
 (test (decide (fr + x0 < (↑(ByteArray.size ws) : Int)))
 (test (lim IntKind.i64 (fr + x0))
 (test (decide ((0 : Int) ≤ fr + x0 ∧ fr + x0 < (↑(ByteArray.size ws) : Int)))
 (test (decide (keys ws (Int.toNat (fr + x0)) ≥ (97 : Int)))
 (test (decide (keys ws (Int.toNat (fr + x0)) ≤ (122 : Int)))
 (test (lim IntKind.i64 (x0 + (1 : Int)))
 (Kst (hd Try.f72 0) ([PV.str ws, PV.int IntKind.i64 fr, PV.fn (Go.Fn.func (73)) [] [],
 PV.int IntKind.i64 (x0 + (1 : Int))]) ([[]]) (0))
 (False))
 (test (decide (keys ws (Int.toNat (fr + x0)) ≥ (48 : Int)))
 (test (decide (keys ws (Int.toNat (fr + x0)) ≤ (57 : Int)))
 (test (lim IntKind.i64 (x0 + (1 : Int)))
 (Kst (hd Try.f72 0) ([PV.str ws, PV.int IntKind.i64 fr, PV.fn (Go.Fn.func (73)) [] [],
 PV.int IntKind.i64 (x0 + (1 : Int))]) ([[]]) (0))
 (False))
 (test (keys ws (Int.toNat (fr + x0)) == (95 : Int))
 (test (lim IntKind.i64 (x0 + (1 : Int)))
 (Kst (hd Try.f72 0) ([PV.str ws, PV.int IntKind.i64 fr, PV.fn (Go.Fn.func (73)) [] [],
 PV.int IntKind.i64 (x0 + (1 : Int))]) ([[]]) (0))
 (False))
 (Kret (PV.int IntKind.i64 x0) ([[]]) (0))))
 (test (keys ws (Int.toNat (fr + x0)) == (95 : Int))
 (test (lim IntKind.i64 (x0 + (1 : Int)))
 (Kst (hd Try.f72 0) ([PV.str ws, PV.int IntKind.i64 fr, PV.fn (Go.Fn.func (73)) [] [],
 PV.int IntKind.i64 (x0 + (1 : Int))]) ([[]]) (0))
 (False))
 (Kret (PV.int IntKind.i64 x0) ([[]]) (0)))))
 (test (decide (keys ws (Int.toNat (fr + x0)) ≥ (48 : Int)))
 (test (decide (keys ws (Int.toNat (fr + x0)) ≤ (57 : Int)))
 (test (lim IntKind.i64 (x0 + (1 : Int)))
 (Kst (hd Try.f72 0) ([PV.str ws, PV.int IntKind.i64 fr, PV.fn (Go.Fn.func (73)) [] [],
 PV.int IntKind.i64 (x0 + (1 : Int))]) ([[]]) (0))
 (False))
 (test (keys ws (Int.toNat (fr + x0)) == (95 : Int))
 (test (lim IntKind.i64 (x0 + (1 : Int)))
 (Kst (hd Try.f72 0) ([PV.str ws, PV.int IntKind.i64 fr, PV.fn (Go.Fn.func (73)) [] [],
 PV.int IntKind.i64 (x0 + (1 : Int))]) ([[]]) (0))
 (False))
 (Kret (PV.int IntKind.i64 x0) ([[]]) (0))))
 (test (keys ws (Int.toNat (fr + x0)) == (95 : Int))
 (test (lim IntKind.i64 (x0 + (1 : Int)))
 (Kst (hd Try.f72 0) ([PV.str ws, PV.int IntKind.i64 fr, PV.fn (Go.Fn.func (73)) [] [],
 PV.int IntKind.i64 (x0 + (1 : Int))]) ([[]]) (0))
 (False))
 (Kret (PV.int IntKind.i64 x0) ([[]]) (0)))))
 (False))
 (False))
 (Kret (PV.int IntKind.i64 x0) ([[]]) (0)))
 (False)
theorem t72_0 (test : Bool → Prop → Prop → Prop) (Kst : KS) (Kret : KR) (ws : ByteArray) (fr x0 : Int) : run test Try.env true noX true 400 ⟨72, hd Try.f72 0, zipT [0, 1, 2, 7] [PV.str ws, PV.int IntKind.i64 fr, PV.fn (Go.Fn.func (73)) [] [],
 PV.int IntKind.i64 x0], [[], []], 0⟩ (proj 0 [0, 1, 2, 7] Kst Kret) =
  T72_0 test Kst Kret ws fr x0 := by kernel_rfl
theorem be72 (ws : ByteArray) (fr : Int) (Kst : KS) (Kret : KR) (x : St72 ⊕ Rt72) (hS : HS 0 400 ((I72 ws fr)) Kst x) (hR : HR 0 400 ((V72 ws fr)) (fun r => [newL (0 + 1) ((N72 ws fr) r) ++ []]) Kret x) (h : (some (.inl (.h0 ((0 : Int)))) : Option (St72 ⊕ Rt72)) = some x) : Te72 cond Kst Kret ws fr := by
  unfold Te72
  exact stop_at hS _ h (fun n => n) rfl rfl rfl ⟨(rn_str rfl), ⟨(rn_int rfl), ⟨(rn_fn trivial trivial), ⟨(rn_int rfl), trivial⟩⟩⟩⟩ rfl entl_nil
theorem b72_0 (ws : ByteArray) (fr : Int) (Kst : KS) (Kret : KR) (x : St72 ⊕ Rt72) (hS : HS 0 400 ((I72 ws fr)) Kst x) (hR : HR 0 400 ((V72 ws fr)) (fun r => [newL (0 + 1) ((N72 ws fr) r) ++ []]) Kret x) (x0 : Int) (h : (bif (lim IntKind.i64 (fr + x0))
 then (bif (decide (fr + x0 < (↑(ByteArray.size ws) : Int)))
 then (bif (decide ((0 : Int) ≤ fr + x0 ∧ fr + x0 < (↑(ByteArray.size ws) : Int)))
 then (bif (decide (keys ws (Int.toNat (fr + x0)) ≥ (97 : Int)))
 then (bif (decide (keys ws (Int.toNat (fr + x0)) ≤ (122 : Int)))
 then (bif (lim IntKind.i64 (x0 + (1 : Int)))
 then (some (.inl (.h0 (x0 + (1 : Int)))))
 else (none))
 else (bif (decide (keys ws (Int.toNat (fr + x0)) ≥ (48 : Int)))
 then (bif (decide (keys ws (Int.toNat (fr + x0)) ≤ (57 : Int)))
 then (bif (lim IntKind.i64 (x0 + (1 : Int)))
 then (some (.inl (.h0 (x0 + (1 : Int)))))
 else (none))
 else (bif (keys ws (Int.toNat (fr + x0)) == (95 : Int))
 then (bif (lim IntKind.i64 (x0 + (1 : Int)))
 then (some (.inl (.h0 (x0 + (1 : Int)))))
 else (none))
 else (some (.inr (x0)))))
 else (bif (keys ws (Int.toNat (fr + x0)) == (95 : Int))
 then (bif (lim IntKind.i64 (x0 + (1 : Int)))
 then (some (.inl (.h0 (x0 + (1 : Int)))))
 else (none))
 else (some (.inr (x0))))))
 else (bif (decide (keys ws (Int.toNat (fr + x0)) ≥ (48 : Int)))
 then (bif (decide (keys ws (Int.toNat (fr + x0)) ≤ (57 : Int)))
 then (bif (lim IntKind.i64 (x0 + (1 : Int)))
 then (some (.inl (.h0 (x0 + (1 : Int)))))
 else (none))
 else (bif (keys ws (Int.toNat (fr + x0)) == (95 : Int))
 then (bif (lim IntKind.i64 (x0 + (1 : Int)))
 then (some (.inl (.h0 (x0 + (1 : Int)))))
 else (none))
 else (some (.inr (x0)))))
 else (bif (keys ws (Int.toNat (fr + x0)) == (95 : Int))
 then (bif (lim IntKind.i64 (x0 + (1 : Int)))
 then (some (.inl (.h0 (x0 + (1 : Int)))))
 else (none))
 else (some (.inr (x0))))))
 else (none))
 else (some (.inr (x0))))
 else (none) : Option (St72 ⊕ Rt72)) = some x) : T72_0 cond Kst Kret ws fr x0 := by
  unfold T72_0
  refine bif_split h
   (fun c0 h => bif_split h
   (fun c1 h => cond_yes c0 (bif_split h
   (fun c2 h => bif_split h
   (fun c3 h => bif_split h
   (fun c4 h => bif_split h
   (fun c5 h => ?_)
   (fun c5 h => ?_))
   (fun c4 h => bif_split h
   (fun c5 h => bif_split h
   (fun c6 h => bif_split h
   (fun c7 h => ?_)
   (fun c7 h => ?_))
   (fun c6 h => bif_split h
   (fun c7 h => bif_split h
   (fun c8 h => ?_)
   (fun c8 h => ?_))
   (fun c7 h => ?_)))
   (fun c5 h => bif_split h
   (fun c6 h => bif_split h
   (fun c7 h => ?_)
   (fun c7 h => ?_))
   (fun c6 h => ?_))))
   (fun c3 h => bif_split h
   (fun c4 h => bif_split h
   (fun c5 h => bif_split h
   (fun c6 h => ?_)
   (fun c6 h => ?_))
   (fun c5 h => bif_split h
   (fun c6 h => bif_split h
   (fun c7 h => ?_)
   (fun c7 h => ?_))
   (fun c6 h => ?_)))
   (fun c4 h => bif_split h
   (fun c5 h => bif_split h
   (fun c6 h => ?_)
   (fun c6 h => ?_))
   (fun c5 h => ?_))))
   (fun c2 h => ?_)))
   (fun c1 h => ?_))
   (fun c0 h => ?_)
  all_goals first
    | exact no_some h
    | exact stop_at hS _ h (fun n => n) rfl rfl rfl ⟨(rn_str rfl), ⟨(rn_int rfl), ⟨(rn_fn trivial trivial), ⟨(rn_int rfl), trivial⟩⟩⟩⟩ rfl entl_nil
    | exact ret_at hR _ h (fun n => n) rfl rfl rfl (rn_int rfl) rfl entl_nil
theorem a72 (ws : ByteArray) (fr : Int) {r : Rt72} (h : Goes ((q72 ws fr)) ((p72 ws fr)) r) : CallR Try.prog 72 [.str ws, .int .i64 fr, .fn (.func 73) [] []] [[]] 0 ((V72 ws fr) r) ((fun r => [newL (0 + 1) ((N72 ws fr) r) ++ []]) r) 400 ∧ ∃ F, Try.prog.funcs[72]? = some F ∧ F.body.isSome = true ∧ (F.name == "runtime.NumGoroutine") = false := by
  refine dec_calls (f := 72) (lo := 0) (hi := 400) (H := [[]]) (args := [.str ws, .int .i64 fr, .fn (.func 73) [] []]) Try.envOk Try.mixed noX_ok ((I72 ws fr)) ((V72 ws fr)) (fun r => [newL (0 + 1) ((N72 ws fr) r) ++ []]) (fn := mkFn Try.f72) (ts := [0, 1, 2, 7]) (n := 400) rfl (by decide) (by simp) (names_of rfl) ?_ ?_ ?_ h
  · intro s; cases s <;> exact ⟨hd_ok _ _, by simp [I72], names_of rfl, Nat.le_of_ble_eq_true rfl⟩
  · intro Kst Kret x hS hR h
    exact Holds.eq (te72 cond Kst Kret ws fr) (be72 ws fr Kst Kret x hS hR h)
  · intro Kst Kret x hS hR s h
    cases s with
    | h0 x0 => exact Holds.eq (t72_0 cond Kst Kret ws fr x0) (b72_0 ws fr Kst Kret x hS hR x0 h)
noncomputable def k72  : Con := ⟨72, [.one (.plain (.str)), .one (.plain (.int .i64)), .fn 73 []], fun (x : ByteArray × Int × (Unit) × Unit) => (fun (ws : ByteArray) (fr : Int) => decide (ws.size ≤ 1000 ∧ fr = 0)) x.1 x.2.1, fun (x : ByteArray × Int × (Unit) × Unit) => (fun (ws : ByteArray) (fr : Int) => (V72 ws fr) (((S.runN (fun j => S.namB (keys ws j)) 0 ws.size : Nat) : Int))) x.1 x.2.1, fun (x : ByteArray × Int × (Unit) × Unit) => (fun (ws : ByteArray) (fr : Int) => (N72 ws fr) (((S.runN (fun j => S.namB (keys ws j)) 0 ws.size : Nat) : Int))) x.1 x.2.1, fun _ _ => .dead⟩
theorem s72' (ws : ByteArray) (fr : Int) (hp : ws.size ≤ 1000) (hf : fr = 0) : ∀ k i : Nat, i + k = ws.size → Comes (q72 ws fr) (.h0 (i : Int)) (((i + S.runN (fun j => S.namB (keys ws j)) i k : Nat)) : Int) := by
  intro k
  induction k with
  | zero =>
    intro i hi
    apply Comes.of
    show Goes _ _ _
    (first | rw [q72] | unfold q72)
    repeat' first
      | with_reducible refine goes_if (fun h => ?_) (fun h => ?_) <;> (try simp only [SH] at h)
      | exact goes_none.mpr (by omega)
    all_goals first | (exfalso; omega) | rfl
  | succ k ih =>
    intro i hi
    have ih := ih (i + 1) (by omega)
    have e0 : (0 : Int) + (i : Int) = i := Int.zero_add _
    simp only [S.runN]
    by_cases hc : (fun j => S.namB (keys ws j)) i = true
    · rw [if_pos hc]
      rw [show i + 1 + S.runN (fun j => S.namB (keys ws j)) (i + 1) k = i + (S.runN (fun j => S.namB (keys ws j)) (i + 1) k + 1) by omega] at ih
      simp only [S.namB, decide_eq_true_eq] at hc
      subst hf
      apply Comes.of
      show Goes _ _ _
      (first | rw [q72] | unfold q72)
      repeat' first
        | with_reducible refine goes_if (fun h => ?_) (fun h => ?_) <;> (try simp only [SH, e0] at h)
        | exact goes_none.mpr (by omega)
      all_goals first | (exfalso; omega) | exact ih | (exfalso; simp_all; done) | (exfalso; simp_all; omega)
    · rw [if_neg hc]
      simp only [S.namB, decide_eq_true_eq] at hc
      subst hf
      apply Comes.of
      show Goes _ _ _
      (first | rw [q72] | unfold q72)
      repeat' first
        | with_reducible refine goes_if (fun h => ?_) (fun h => ?_) <;> (try simp only [SH, e0] at h)
        | exact goes_none.mpr (by omega)
      all_goals first | (exfalso; omega) | (exact goes_inr.mpr rfl) | (exfalso; simp_all; done) | (exfalso; simp_all; omega)
theorem s72 (ws : ByteArray) (fr : Int) (hp : ws.size ≤ 1000 ∧ fr = 0) : Goes ((q72 ws fr)) ((p72 ws fr)) (((S.runN (fun j => S.namB (keys ws j)) 0 ws.size : Nat) : Int)) := by
  obtain ⟨hp1, hp2⟩ := hp
  have hm := s72' ws fr hp1 hp2 ws.size 0 (by omega)
  rw [Nat.zero_add] at hm
  show Goes _ _ _
  unfold p72
  repeat' first
    | with_reducible refine goes_if (fun h => ?_) (fun h => ?_) <;> (try simp only [SH] at h)
    | exact goes_none.mpr (by omega)
  all_goals first | (exfalso; omega) | exact hm
theorem k72_ok  : k72.ok Try.prog := by
  intro x hx
  obtain ⟨ws, fr, ⟨_⟩, _⟩ := x
  obtain ⟨h1, h2⟩ := a72 ws fr (s72 ws fr (of_dec hx rfl))
  exact ⟨⟨400, (by decide : 0 + 1 + 0 ≤ 400), h1⟩, h2⟩
inductive St74 where
  | h0 (x0 : Int)
abbrev Rt74  := Int
noncomputable def V74 (ws : ByteArray) (r : Rt74) : PV := PV.int IntKind.i64 r
noncomputable def N74 (ws : ByteArray) (r : Rt74) : List Blk := []
noncomputable def I74 (ws : ByteArray) : St74 → Hd
  | .h0 x0 => ⟨hd Try.f74 0, [PV.str ws, PV.int IntKind.i64 x0], [[], []], 0⟩
noncomputable def q74 (ws : ByteArray) : St74 → Option (St74 ⊕ Rt74)
  | .h0 x0 => bif (decide (x0 < (↑(ByteArray.size ws) : Int)))
 then (bif (decide ((0 : Int) ≤ x0 ∧ x0 < (↑(ByteArray.size ws) : Int)))
 then (bif (decide (keys ws (Int.toNat x0) ≥ (97 : Int)))
 then (bif (decide (keys ws (Int.toNat x0) ≤ (122 : Int)))
 then (bif (lim IntKind.i64 (x0 + (1 : Int)))
 then (some (.inl (.h0 (x0 + (1 : Int)))))
 else (none))
 else (bif (decide (x0 > (0 : Int)))
 then (bif (decide (keys ws (Int.toNat x0) ≥ (48 : Int)))
 then (bif (decide (keys ws (Int.toNat x0) ≤ (57 : Int)))
 then (bif (lim IntKind.i64 (x0 + (1 : Int)))
 then (some (.inl (.h0 (x0 + (1 : Int)))))
 else (none))
 else (bif (keys ws (Int.toNat x0) == (95 : Int))
 then (bif (lim IntKind.i64 (x0 + (1 : Int)))
 then (some (.inl (.h0 (x0 + (1 : Int)))))
 else (none))
 else (some (.inr (x0)))))
 else (bif (keys ws (Int.toNat x0) == (95 : Int))
 then (bif (lim IntKind.i64 (x0 + (1 : Int)))
 then (some (.inl (.h0 (x0 + (1 : Int)))))
 else (none))
 else (some (.inr (x0)))))
 else (some (.inr (x0)))))
 else (bif (decide (x0 > (0 : Int)))
 then (bif (decide (keys ws (Int.toNat x0) ≥ (48 : Int)))
 then (bif (decide (keys ws (Int.toNat x0) ≤ (57 : Int)))
 then (bif (lim IntKind.i64 (x0 + (1 : Int)))
 then (some (.inl (.h0 (x0 + (1 : Int)))))
 else (none))
 else (bif (keys ws (Int.toNat x0) == (95 : Int))
 then (bif (lim IntKind.i64 (x0 + (1 : Int)))
 then (some (.inl (.h0 (x0 + (1 : Int)))))
 else (none))
 else (some (.inr (x0)))))
 else (bif (keys ws (Int.toNat x0) == (95 : Int))
 then (bif (lim IntKind.i64 (x0 + (1 : Int)))
 then (some (.inl (.h0 (x0 + (1 : Int)))))
 else (none))
 else (some (.inr (x0)))))
 else (some (.inr (x0)))))
 else (none))
 else (some (.inr (x0)))
noncomputable def p74 (ws : ByteArray) : Option (St74 ⊕ Rt74) := some (.inl (.h0 ((0 : Int))))
noncomputable def Te74 (test : Bool → Prop → Prop → Prop) (Kst : KS) (Kret : KR) (ws : ByteArray) : Prop :=
  Kst (hd Try.f74 0) ([PV.str ws, PV.int IntKind.i64 (0 : Int)]) ([[]]) (0)
theorem te74 (test : Bool → Prop → Prop → Prop) (Kst : KS) (Kret : KR) (ws : ByteArray) : run test Try.env true noX true 400 ⟨74, [.cd (mkFn Try.f74).body], argT 0 [.str ws], [[], []], 0⟩ (proj 0 [0, 3] Kst Kret) =
  Te74 test Kst Kret ws := by kernel_rfl
noncomputable def T74_0 (test : Bool → Prop → Prop → Prop) (Kst : KS) (Kret : KR) (ws : ByteArray) (x0 : Int) : Prop :=
  test (decide (x0 < (↑(ByteArray.size ws) : Int)))
 (test (decide ((0 : Int) ≤ x0 ∧ x0 < (↑(ByteArray.size ws) : Int)))
 (test (decide (keys ws (Int.toNat x0) ≥ (97 : Int)))
 (test (decide (keys ws (Int.toNat x0) ≤ (122 : Int)))
 (test (lim IntKind.i64 (x0 + (1 : Int)))
 (Kst (hd Try.f74 0) ([PV.str ws, PV.int IntKind.i64 (x0 + (1 : Int))]) ([[]]) (0))
 (False))
 (test (decide (x0 > (0 : Int)))
 (test (decide ((0 : Int) ≤ x0 ∧ x0 < (↑(ByteArray.size ws) : Int)))
 (test (decide (keys ws (Int.toNat x0) ≥ (48 : Int)))
 (test (decide (keys ws (Int.toNat x0) ≤ (57 : Int)))
 (test (lim IntKind.i64 (x0 + (1 : Int)))
 (Kst (hd Try.f74 0) ([PV.str ws, PV.int IntKind.i64 (x0 + (1 : Int))]) ([[]]) (0))
 (False))
 (test (decide ((0 : Int) ≤ x0 ∧ x0 < (↑(ByteArray.size ws) : Int)))
 (test (keys ws (Int.toNat x0) == (95 : Int))
 (test (lim IntKind.i64 (x0 + (1 : Int)))
 (Kst (hd Try.f74 0) ([PV.str ws, PV.int IntKind.i64 (x0 + (1 : Int))]) ([[]]) (0))
 (False))
 (Kret (PV.int IntKind.i64 x0) ([[]]) (0)))
 (False)))
 (test (decide ((0 : Int) ≤ x0 ∧ x0 < (↑(ByteArray.size ws) : Int)))
 (test (keys ws (Int.toNat x0) == (95 : Int))
 (test (lim IntKind.i64 (x0 + (1 : Int)))
 (Kst (hd Try.f74 0) ([PV.str ws, PV.int IntKind.i64 (x0 + (1 : Int))]) ([[]]) (0))
 (False))
 (Kret (PV.int IntKind.i64 x0) ([[]]) (0)))
 (False)))
 (False))
 (Kret (PV.int IntKind.i64 x0) ([[]]) (0))))
 (test (decide (x0 > (0 : Int)))
 (test (decide ((0 : Int) ≤ x0 ∧ x0 < (↑(ByteArray.size ws) : Int)))
 (test (decide (keys ws (Int.toNat x0) ≥ (48 : Int)))
 (test (decide (keys ws (Int.toNat x0) ≤ (57 : Int)))
 (test (lim IntKind.i64 (x0 + (1 : Int)))
 (Kst (hd Try.f74 0) ([PV.str ws, PV.int IntKind.i64 (x0 + (1 : Int))]) ([[]]) (0))
 (False))
 (test (decide ((0 : Int) ≤ x0 ∧ x0 < (↑(ByteArray.size ws) : Int)))
 (test (keys ws (Int.toNat x0) == (95 : Int))
 (test (lim IntKind.i64 (x0 + (1 : Int)))
 (Kst (hd Try.f74 0) ([PV.str ws, PV.int IntKind.i64 (x0 + (1 : Int))]) ([[]]) (0))
 (False))
 (Kret (PV.int IntKind.i64 x0) ([[]]) (0)))
 (False)))
 (test (decide ((0 : Int) ≤ x0 ∧ x0 < (↑(ByteArray.size ws) : Int)))
 (test (keys ws (Int.toNat x0) == (95 : Int))
 (test (lim IntKind.i64 (x0 + (1 : Int)))
 (Kst (hd Try.f74 0) ([PV.str ws, PV.int IntKind.i64 (x0 + (1 : Int))]) ([[]]) (0))
 (False))
 (Kret (PV.int IntKind.i64 x0) ([[]]) (0)))
 (False)))
 (False))
 (Kret (PV.int IntKind.i64 x0) ([[]]) (0))))
 (False))
 (Kret (PV.int IntKind.i64 x0) ([[]]) (0))
theorem t74_0 (test : Bool → Prop → Prop → Prop) (Kst : KS) (Kret : KR) (ws : ByteArray) (x0 : Int) : run test Try.env true noX true 400 ⟨74, hd Try.f74 0, zipT [0, 3] [PV.str ws, PV.int IntKind.i64 x0], [[], []], 0⟩ (proj 0 [0, 3] Kst Kret) =
  T74_0 test Kst Kret ws x0 := by kernel_rfl
theorem be74 (ws : ByteArray) (Kst : KS) (Kret : KR) (x : St74 ⊕ Rt74) (hS : HS 0 400 ((I74 ws)) Kst x) (hR : HR 0 400 ((V74 ws)) (fun r => [newL (0 + 1) ((N74 ws) r) ++ []]) Kret x) (h : (some (.inl (.h0 ((0 : Int)))) : Option (St74 ⊕ Rt74)) = some x) : Te74 cond Kst Kret ws := by
  unfold Te74
  exact stop_at hS _ h (fun n => n) rfl rfl rfl ⟨(rn_str rfl), ⟨(rn_int rfl), trivial⟩⟩ rfl entl_nil
theorem b74_0 (ws : ByteArray) (Kst : KS) (Kret : KR) (x : St74 ⊕ Rt74) (hS : HS 0 400 ((I74 ws)) Kst x) (hR : HR 0 400 ((V74 ws)) (fun r => [newL (0 + 1) ((N74 ws) r) ++ []]) Kret x) (x0 : Int) (h : (bif (decide (x0 < (↑(ByteArray.size ws) : Int)))
 then (bif (decide ((0 : Int) ≤ x0 ∧ x0 < (↑(ByteArray.size ws) : Int)))
 then (bif (decide (keys ws (Int.toNat x0) ≥ (97 : Int)))
 then (bif (decide (keys ws (Int.toNat x0) ≤ (122 : Int)))
 then (bif (lim IntKind.i64 (x0 + (1 : Int)))
 then (some (.inl (.h0 (x0 + (1 : Int)))))
 else (none))
 else (bif (decide (x0 > (0 : Int)))
 then (bif (decide (keys ws (Int.toNat x0) ≥ (48 : Int)))
 then (bif (decide (keys ws (Int.toNat x0) ≤ (57 : Int)))
 then (bif (lim IntKind.i64 (x0 + (1 : Int)))
 then (some (.inl (.h0 (x0 + (1 : Int)))))
 else (none))
 else (bif (keys ws (Int.toNat x0) == (95 : Int))
 then (bif (lim IntKind.i64 (x0 + (1 : Int)))
 then (some (.inl (.h0 (x0 + (1 : Int)))))
 else (none))
 else (some (.inr (x0)))))
 else (bif (keys ws (Int.toNat x0) == (95 : Int))
 then (bif (lim IntKind.i64 (x0 + (1 : Int)))
 then (some (.inl (.h0 (x0 + (1 : Int)))))
 else (none))
 else (some (.inr (x0)))))
 else (some (.inr (x0)))))
 else (bif (decide (x0 > (0 : Int)))
 then (bif (decide (keys ws (Int.toNat x0) ≥ (48 : Int)))
 then (bif (decide (keys ws (Int.toNat x0) ≤ (57 : Int)))
 then (bif (lim IntKind.i64 (x0 + (1 : Int)))
 then (some (.inl (.h0 (x0 + (1 : Int)))))
 else (none))
 else (bif (keys ws (Int.toNat x0) == (95 : Int))
 then (bif (lim IntKind.i64 (x0 + (1 : Int)))
 then (some (.inl (.h0 (x0 + (1 : Int)))))
 else (none))
 else (some (.inr (x0)))))
 else (bif (keys ws (Int.toNat x0) == (95 : Int))
 then (bif (lim IntKind.i64 (x0 + (1 : Int)))
 then (some (.inl (.h0 (x0 + (1 : Int)))))
 else (none))
 else (some (.inr (x0)))))
 else (some (.inr (x0)))))
 else (none))
 else (some (.inr (x0))) : Option (St74 ⊕ Rt74)) = some x) : T74_0 cond Kst Kret ws x0 := by
  unfold T74_0
  refine bif_split h
   (fun c0 h => bif_split h
   (fun c1 h => bif_split h
   (fun c2 h => bif_split h
   (fun c3 h => bif_split h
   (fun c4 h => ?_)
   (fun c4 h => ?_))
   (fun c3 h => bif_split h
   (fun c4 h => cond_yes c1 (bif_split h
   (fun c5 h => bif_split h
   (fun c6 h => bif_split h
   (fun c7 h => ?_)
   (fun c7 h => ?_))
   (fun c6 h => cond_yes c1 (bif_split h
   (fun c7 h => bif_split h
   (fun c8 h => ?_)
   (fun c8 h => ?_))
   (fun c7 h => ?_))))
   (fun c5 h => cond_yes c1 (bif_split h
   (fun c6 h => bif_split h
   (fun c7 h => ?_)
   (fun c7 h => ?_))
   (fun c6 h => ?_)))))
   (fun c4 h => ?_)))
   (fun c2 h => bif_split h
   (fun c3 h => cond_yes c1 (bif_split h
   (fun c4 h => bif_split h
   (fun c5 h => bif_split h
   (fun c6 h => ?_)
   (fun c6 h => ?_))
   (fun c5 h => cond_yes c1 (bif_split h
   (fun c6 h => bif_split h
   (fun c7 h => ?_)
   (fun c7 h => ?_))
   (fun c6 h => ?_))))
   (fun c4 h => cond_yes c1 (bif_split h
   (fun c5 h => bif_split h
   (fun c6 h => ?_)
   (fun c6 h => ?_))
   (fun c5 h => ?_)))))
   (fun c3 h => ?_)))
   (fun c1 h => ?_))
   (fun c0 h => ?_)
  all_goals first
    | exact no_some h
    | exact stop_at hS _ h (fun n => n) rfl rfl rfl ⟨(rn_str rfl), ⟨(rn_int rfl), trivial⟩⟩ rfl entl_nil
    | exact ret_at hR _ h (fun n => n) rfl rfl rfl (rn_int rfl) rfl entl_nil
theorem a74 (ws : ByteArray) {r : Rt74} (h : Goes ((q74 ws)) ((p74 ws)) r) : CallR Try.prog 74 [.str ws] [[]] 0 ((V74 ws) r) ((fun r => [newL (0 + 1) ((N74 ws) r) ++ []]) r) 400 ∧ ∃ F, Try.prog.funcs[74]? = some F ∧ F.body.isSome = true ∧ (F.name == "runtime.NumGoroutine") = false := by
  refine dec_calls (f := 74) (lo := 0) (hi := 400) (H := [[]]) (args := [.str ws]) Try.envOk Try.mixed noX_ok ((I74 ws)) ((V74 ws)) (fun r => [newL (0 + 1) ((N74 ws) r) ++ []]) (fn := mkFn Try.f74) (ts := [0, 3]) (n := 400) rfl (by decide) (by simp) (names_of rfl) ?_ ?_ ?_ h
  · intro s; cases s <;> exact ⟨hd_ok _ _, by simp [I74], names_of rfl, Nat.le_of_ble_eq_true rfl⟩
  · intro Kst Kret x hS hR h
    exact Holds.eq (te74 cond Kst Kret ws) (be74 ws Kst Kret x hS hR h)
  · intro Kst Kret x hS hR s h
    cases s with
    | h0 x0 => exact Holds.eq (t74_0 cond Kst Kret ws x0) (b74_0 ws Kst Kret x hS hR x0 h)
noncomputable def k74  : Con := ⟨74, [.one (.plain (.str))], fun (x : ByteArray × Unit) => (fun (ws : ByteArray) => decide (ws.size ≤ 1000)) x.1, fun (x : ByteArray × Unit) => (fun (ws : ByteArray) => (V74 ws) (((S.runN (fun j => if j = 0 then S.lowB (keys ws j) else S.namB (keys ws j)) 0 ws.size : Nat) : Int))) x.1, fun (x : ByteArray × Unit) => (fun (ws : ByteArray) => (N74 ws) (((S.runN (fun j => if j = 0 then S.lowB (keys ws j) else S.namB (keys ws j)) 0 ws.size : Nat) : Int))) x.1, fun _ _ => .dead⟩
theorem s74' (ws : ByteArray) (hp : ws.size ≤ 1000) : ∀ k i : Nat, i + k = ws.size → Comes (q74 ws) (.h0 (i : Int)) (((i + S.runN (fun j => if j = 0 then S.lowB (keys ws j) else S.namB (keys ws j)) i k : Nat)) : Int) := by
  intro k
  induction k with
  | zero =>
    intro i hi
    apply Comes.of
    show Goes _ _ _
    (first | rw [q74] | unfold q74)
    repeat' first
      | with_reducible refine goes_if (fun h => ?_) (fun h => ?_) <;> (try simp only [SH] at h)
      | exact goes_none.mpr (by omega)
    all_goals first | (exfalso; omega) | rfl
  | succ k ih =>
    intro i hi
    have ih := ih (i + 1) (by omega)
    have e0 : (0 : Int) + (i : Int) = i := Int.zero_add _
    simp only [S.runN]
    by_cases hc : (fun j => if j = 0 then S.lowB (keys ws j) else S.namB (keys ws j)) i = true
    · rw [if_pos hc]
      rw [show i + 1 + S.runN (fun j => if j = 0 then S.lowB (keys ws j) else S.namB (keys ws j)) (i + 1) k = i + (S.runN (fun j => if j = 0 then S.lowB (keys ws j) else S.namB (keys ws j)) (i + 1) k + 1) by omega] at ih
      by_cases h0 : i = 0
      · subst h0; simp only [if_true, S.lowB, decide_eq_true_eq] at hc
        apply Comes.of
        show Goes _ _ _
        (first | rw [q74] | unfold q74)
        repeat' first
          | with_reducible refine goes_if (fun h => ?_) (fun h => ?_) <;> (try simp only [SH] at h)
          | exact goes_none.mpr (by omega)
        all_goals first | (exfalso; omega) | exact ih | (exact goes_inr.mpr rfl)
      simp only [h0, if_false, S.namB, decide_eq_true_eq] at hc
      apply Comes.of
      show Goes _ _ _
      (first | rw [q74] | unfold q74)
      repeat' first
        | with_reducible refine goes_if (fun h => ?_) (fun h => ?_) <;> (try simp only [SH, e0] at h)
        | exact goes_none.mpr (by omega)
      all_goals first | (exfalso; omega) | exact ih | (exfalso; simp_all; done) | (exfalso; simp_all; omega)
    · rw [if_neg hc]
      by_cases h0 : i = 0
      · subst h0; simp only [if_true, S.lowB, decide_eq_true_eq] at hc
        apply Comes.of
        show Goes _ _ _
        (first | rw [q74] | unfold q74)
        repeat' first
          | with_reducible refine goes_if (fun h => ?_) (fun h => ?_) <;> (try simp only [SH] at h)
          | exact goes_none.mpr (by omega)
        all_goals first | (exfalso; omega) | exact ih | (exact goes_inr.mpr rfl)
      simp only [h0, if_false, S.namB, decide_eq_true_eq] at hc
      apply Comes.of
      show Goes _ _ _
      (first | rw [q74] | unfold q74)
      repeat' first
        | with_reducible refine goes_if (fun h => ?_) (fun h => ?_) <;> (try simp only [SH, e0] at h)
        | exact goes_none.mpr (by omega)
      all_goals first | (exfalso; omega) | (exact goes_inr.mpr rfl) | (exfalso; simp_all; done) | (exfalso; simp_all; omega)
theorem s74 (ws : ByteArray) (hp : ws.size ≤ 1000) : Goes ((q74 ws)) ((p74 ws)) (((S.runN (fun j => if j = 0 then S.lowB (keys ws j) else S.namB (keys ws j)) 0 ws.size : Nat) : Int)) := by
  have hm := s74' ws hp ws.size 0 (by omega)
  rw [Nat.zero_add] at hm
  show Goes _ _ _
  unfold p74
  repeat' first
    | with_reducible refine goes_if (fun h => ?_) (fun h => ?_) <;> (try simp only [SH] at h)
    | exact goes_none.mpr (by omega)
  all_goals first | (exfalso; omega) | exact hm
theorem k74_ok  : k74.ok Try.prog := by
  intro x hx
  obtain ⟨ws, _⟩ := x
  obtain ⟨h1, h2⟩ := a74 ws (s74 ws (of_dec hx rfl))
  exact ⟨⟨400, (by decide : 0 + 1 + 0 ≤ 400), h1⟩, h2⟩
noncomputable def xN0 (test : Bool → Prop → Prop → Prop) : Ext := consX test [k72, k74]
theorem xN0_ok  : ExtOk Try.prog (xN0 cond) := consX_ok ⟨k72_ok, k74_ok, trivial⟩
abbrev St49  := Empty
abbrev Rt49  := Bool
noncomputable def V49 (ws : ByteArray) (r : Rt49) : PV := PV.bool r
noncomputable def N49 (ws : ByteArray) (r : Rt49) : List Blk := []
noncomputable def I49 (ws : ByteArray) : St49 → Hd := fun s => s.elim
noncomputable def q49 (ws : ByteArray) : St49 → Option (St49 ⊕ Rt49) := fun s => s.elim
noncomputable def p49 (ws : ByteArray) : Option (St49 ⊕ Rt49) := bif (!S.eqS ws (ByteArray.mk #[]))
 then (bif (decide ((↑(ByteArray.size ws) : Int) ≤ (20 : Int)))
 then (bif (decide ((0 : Int) ≤ (0 : Int) ∧ (0 : Int) < (↑(ByteArray.size ws) : Int)))
 then (bif (decide (keys ws (0) ≥ (97 : Int)))
 then (bif (decide (keys ws (0) ≤ (122 : Int)))
 then (bif (decide (ByteArray.size ws ≤ 1000 ∧ (0 : Int) = (0 : Int)))
 then (bif ((↑(S.runN (fun j => S.namB (keys ws j)) (0) (ByteArray.size ws)) : Int) ==
 (↑(ByteArray.size ws) : Int))
 then (some (.inr (true)))
 else (some (.inr (false))))
 else (none))
 else (some (.inr (false))))
 else (some (.inr (false))))
 else (none))
 else (some (.inr (false))))
 else (some (.inr (false)))
noncomputable def Te49 (test : Bool → Prop → Prop → Prop) (Kst : KS) (Kret : KR) (ws : ByteArray) : Prop :=
  test (!S.eqS ws (ByteArray.mk #[]))
 (test (decide ((↑(ByteArray.size ws) : Int) ≤ (20 : Int)))
 (test (decide ((0 : Int) ≤ (0 : Int) ∧ (0 : Int) < (↑(ByteArray.size ws) : Int)))
 (test (decide (keys ws (0) ≥ (97 : Int)))
 (test (decide (keys ws (0) ≤ (122 : Int)))
 (test (decide (ByteArray.size ws ≤ 1000 ∧ (0 : Int) = (0 : Int)))
 (test ((↑(S.runN (fun j => S.namB (keys ws j)) (0) (ByteArray.size ws)) : Int) ==
 (↑(ByteArray.size ws) : Int))
 (Kret (PV.tf true) ([[]]) (1))
 (Kret (PV.tf false) ([[]]) (1)))
 (False))
 (Kret (PV.tf false) ([[]]) (0)))
 (Kret (PV.tf false) ([[]]) (0)))
 (False))
 (Kret (PV.tf false) ([[]]) (0)))
 (Kret (PV.tf false) ([[]]) (0))
theorem te49 (test : Bool → Prop → Prop → Prop) (Kst : KS) (Kret : KR) (ws : ByteArray) : run test Try.env true (xN0 test) true 400 ⟨49, [.cd (mkFn Try.f49).body], argT 0 [.str ws], [[], []], 0⟩ (proj 0 [] Kst Kret) =
  Te49 test Kst Kret ws := by kernel_rfl
theorem be49 (ws : ByteArray) (Kst : KS) (Kret : KR) (x : St49 ⊕ Rt49) (hS : HS 0 400 ((I49 ws)) Kst x) (hR : HR 0 400 ((V49 ws)) (fun r => [newL (0 + 1) ((N49 ws) r) ++ []]) Kret x) (h : p49 ws = some x) : Te49 cond Kst Kret ws := by
  unfold Te49
  unfold p49 at h
  refine bif_split h
   (fun c0 h => bif_split h
   (fun c1 h => bif_split h
   (fun c2 h => bif_split h
   (fun c3 h => bif_split h
   (fun c4 h => bif_split h
   (fun c5 h => bif_split h
   (fun c6 h => ?_)
   (fun c6 h => ?_))
   (fun c5 h => ?_))
   (fun c4 h => ?_))
   (fun c3 h => ?_))
   (fun c2 h => ?_))
   (fun c1 h => ?_))
   (fun c0 h => ?_)
  all_goals first
    | exact ret_at hR _ h (fun n => n) rfl rfl rfl (rn_bool_tf rfl) rfl entl_nil
    | exact no_some h
theorem a49 (ws : ByteArray) {r : Rt49} (h : Goes ((q49 ws)) ((p49 ws)) r) : CallR Try.prog 49 [.str ws] [[]] 0 ((V49 ws) r) ((fun r => [newL (0 + 1) ((N49 ws) r) ++ []]) r) 400 ∧ ∃ F, Try.prog.funcs[49]? = some F ∧ F.body.isSome = true ∧ (F.name == "runtime.NumGoroutine") = false := by
  refine dec_calls (f := 49) (lo := 0) (hi := 400) (H := [[]]) (args := [.str ws]) Try.envOk Try.mixed xN0_ok ((I49 ws)) ((V49 ws)) (fun r => [newL (0 + 1) ((N49 ws) r) ++ []]) (fn := mkFn Try.f49) (ts := []) (n := 400) rfl (by decide) (by simp) (names_of rfl) ?_ ?_ ?_ h
  · intro s; exact s.elim
  · intro Kst Kret x hS hR h
    exact Holds.eq (te49 cond Kst Kret ws) (be49 ws Kst Kret x hS hR h)
  · intro Kst Kret x hS hR s h; exact s.elim
noncomputable def k49  : Con := ⟨49, [.one (.plain (.str))], fun (x : ByteArray × Unit) => (fun (ws : ByteArray) => decide (True)) x.1, fun (x : ByteArray × Unit) => (fun (ws : ByteArray) => (V49 ws) (S.isNam ws)) x.1, fun (x : ByteArray × Unit) => (fun (ws : ByteArray) => (N49 ws) (S.isNam ws)) x.1, fun _ _ => .dead⟩
theorem s49 (ws : ByteArray) (hp : True) : Goes ((q49 ws)) ((p49 ws)) (S.isNam ws) := by
  have hs : S.eqS ws (ByteArray.mk #[]) = decide (ws.size = 0) := by
    show (ws.toList == (ByteArray.mk #[]).toList) = _
    rw [ByteArray.toList_eq (ByteArray.mk #[])]
    exact size_nil
  have hr := runN_le (p := (fun j => S.namB (keys ws j))) (k := ws.size) (i := 0)
  have e : S.isNam ws = (decide (1 ≤ ws.size ∧ ws.size ≤ 20) && (S.lowB (keys ws 0) && decide (S.runN (fun j => S.namB (keys ws j)) 0 ws.size = ws.size))) := rfl
  rw [e]
  unfold p49
  simp only [hs]
  have hk : S.lowB (keys ws 0) = decide (97 ≤ keys ws 0 ∧ keys ws 0 ≤ 122) := rfl
  generalize S.runN (fun j => S.namB (keys ws j)) 0 ws.size = rn at *
  show Goes _ _ _
  repeat' first
    | with_reducible refine goes_if (fun h => ?_) (fun h => ?_) <;> (try simp only [SH] at h)
    | exact goes_none.mpr (by omega)
  all_goals first
    | (exfalso; omega)
    | (refine goes_inr.mpr ?_; simp only [hk, ← Bool.decide_and]; first | exact (decide_eq_true (by omega)).symm | exact (decide_eq_false (by omega)).symm | (rw [Bool.eq_iff_iff]; simp only [decide_eq_true_eq, beq_iff_eq]; omega))
theorem k49_ok  : k49.ok Try.prog := by
  intro x hx
  obtain ⟨ws, _⟩ := x
  obtain ⟨h1, h2⟩ := a49 ws (s49 ws (of_dec hx rfl))
  exact ⟨⟨400, (by decide : 0 + 1 + 0 ≤ 400), h1⟩, h2⟩
abbrev St52  := Empty
abbrev Rt52  := Bool
noncomputable def V52 (ws : ByteArray) (r : Rt52) : PV := PV.bool r
noncomputable def N52 (ws : ByteArray) (r : Rt52) : List Blk := []
noncomputable def I52 (ws : ByteArray) : St52 → Hd := fun s => s.elim
noncomputable def q52 (ws : ByteArray) : St52 → Option (St52 ⊕ Rt52) := fun s => s.elim
noncomputable def p52 (ws : ByteArray) : Option (St52 ⊕ Rt52) := bif (!S.eqS ws (ByteArray.mk #[]))
 then (bif (decide ((↑(ByteArray.size ws) : Int) ≤ (20 : Int)))
 then (bif (decide (ByteArray.size ws ≤ 1000))
 then (bif ((↑(S.runN
 (fun j => if j = 0 then S.lowB (keys ws j) else S.namB (keys ws j))
 (0) (ByteArray.size ws)) :
 Int) ==
 (↑(ByteArray.size ws) : Int))
 then (some (.inr (true)))
 else (some (.inr (false))))
 else (none))
 else (some (.inr (false))))
 else (some (.inr (false)))
noncomputable def Te52 (test : Bool → Prop → Prop → Prop) (Kst : KS) (Kret : KR) (ws : ByteArray) : Prop :=
  test (!S.eqS ws (ByteArray.mk #[]))
 (test (decide ((↑(ByteArray.size ws) : Int) ≤ (20 : Int)))
 (test (decide (ByteArray.size ws ≤ 1000))
 (test ((↑(S.runN
 (fun j => if j = 0 then S.lowB (keys ws j) else S.namB (keys ws j))
 (0) (ByteArray.size ws)) :
 Int) ==
 (↑(ByteArray.size ws) : Int))
 (Kret (PV.tf true) ([[]]) (1))
 (Kret (PV.tf false) ([[]]) (1)))
 (False))
 (Kret (PV.tf false) ([[]]) (0)))
 (Kret (PV.tf false) ([[]]) (0))
theorem te52 (test : Bool → Prop → Prop → Prop) (Kst : KS) (Kret : KR) (ws : ByteArray) : run test Try.env true (xN0 test) true 400 ⟨52, [.cd (mkFn Try.f52).body], argT 0 [.str ws], [[], []], 0⟩ (proj 0 [] Kst Kret) =
  Te52 test Kst Kret ws := by kernel_rfl
theorem be52 (ws : ByteArray) (Kst : KS) (Kret : KR) (x : St52 ⊕ Rt52) (hS : HS 0 400 ((I52 ws)) Kst x) (hR : HR 0 400 ((V52 ws)) (fun r => [newL (0 + 1) ((N52 ws) r) ++ []]) Kret x) (h : p52 ws = some x) : Te52 cond Kst Kret ws := by
  unfold Te52
  unfold p52 at h
  refine bif_split h
   (fun c0 h => bif_split h
   (fun c1 h => bif_split h
   (fun c2 h => bif_split h
   (fun c3 h => ret_at hR _ h (fun n => n) rfl rfl rfl (rn_bool_tf rfl) rfl entl_nil)
   (fun c3 h => ret_at hR _ h (fun n => n) rfl rfl rfl (rn_bool_tf rfl) rfl entl_nil))
   (fun c2 h => no_some h))
   (fun c1 h => ret_at hR _ h (fun n => n) rfl rfl rfl (rn_bool_tf rfl) rfl entl_nil))
   (fun c0 h => ret_at hR _ h (fun n => n) rfl rfl rfl (rn_bool_tf rfl) rfl entl_nil)
theorem a52 (ws : ByteArray) {r : Rt52} (h : Goes ((q52 ws)) ((p52 ws)) r) : CallR Try.prog 52 [.str ws] [[]] 0 ((V52 ws) r) ((fun r => [newL (0 + 1) ((N52 ws) r) ++ []]) r) 400 ∧ ∃ F, Try.prog.funcs[52]? = some F ∧ F.body.isSome = true ∧ (F.name == "runtime.NumGoroutine") = false := by
  refine dec_calls (f := 52) (lo := 0) (hi := 400) (H := [[]]) (args := [.str ws]) Try.envOk Try.mixed xN0_ok ((I52 ws)) ((V52 ws)) (fun r => [newL (0 + 1) ((N52 ws) r) ++ []]) (fn := mkFn Try.f52) (ts := []) (n := 400) rfl (by decide) (by simp) (names_of rfl) ?_ ?_ ?_ h
  · intro s; exact s.elim
  · intro Kst Kret x hS hR h
    exact Holds.eq (te52 cond Kst Kret ws) (be52 ws Kst Kret x hS hR h)
  · intro Kst Kret x hS hR s h; exact s.elim
noncomputable def k52  : Con := ⟨52, [.one (.plain (.str))], fun (x : ByteArray × Unit) => (fun (ws : ByteArray) => decide (True)) x.1, fun (x : ByteArray × Unit) => (fun (ws : ByteArray) => (V52 ws) (S.isNam ws)) x.1, fun (x : ByteArray × Unit) => (fun (ws : ByteArray) => (N52 ws) (S.isNam ws)) x.1, fun _ _ => .dead⟩
theorem s52 (ws : ByteArray) (hp : True) : Goes ((q52 ws)) ((p52 ws)) (S.isNam ws) := by
  have hs : S.eqS ws (ByteArray.mk #[]) = decide (ws.size = 0) := by
    show (ws.toList == (ByteArray.mk #[]).toList) = _
    rw [ByteArray.toList_eq (ByteArray.mk #[])]
    exact size_nil
  have hr := runN_le (p := (fun j => if j = 0 then S.lowB (keys ws j) else S.namB (keys ws j))) (k := ws.size) (i := 0)
  have e : S.isNam ws = (decide (1 ≤ ws.size ∧ ws.size ≤ 20) && decide (S.runN (fun j => if j = 0 then S.lowB (keys ws j) else S.namB (keys ws j)) 0 ws.size = ws.size)) := by
    unfold S.isNam
    by_cases h1 : 1 ≤ ws.size ∧ ws.size ≤ 20
    · congr 1
      rw [Bool.eq_iff_iff, Bool.and_eq_true, decide_eq_true_eq, decide_eq_true_eq, runN_all, runN_all]
      constructor
      · rintro ⟨a, c⟩ j h2 h3
        split
        · rename_i h4; rw [h4]; exact a
        · exact c j h2 h3
      · intro a
        have a0 := a 0 (Nat.le_refl _) (by omega)
        rw [if_pos rfl] at a0
        refine ⟨a0, fun j h2 h3 => ?_⟩
        have aj := a j h2 h3
        split at aj
        · rename_i h4
          rw [h4]
          simp only [S.lowB, S.namB, decide_eq_true_eq] at a0 ⊢
          omega
        · exact aj
    · rw [decide_eq_false h1, Bool.false_and, Bool.false_and]
  rw [e]
  unfold p52
  simp only [hs]
  skip
  generalize S.runN (fun j => if j = 0 then S.lowB (keys ws j) else S.namB (keys ws j)) 0 ws.size = rn at *
  show Goes _ _ _
  repeat' first
    | with_reducible refine goes_if (fun h => ?_) (fun h => ?_) <;> (try simp only [SH] at h)
    | exact goes_none.mpr (by omega)
  all_goals first
    | (exfalso; omega)
    | (refine goes_inr.mpr ?_; simp only [← Bool.decide_and]; first | exact (decide_eq_true (by omega)).symm | exact (decide_eq_false (by omega)).symm | (rw [Bool.eq_iff_iff]; simp only [decide_eq_true_eq, beq_iff_eq]; omega))
theorem k52_ok  : k52.ok Try.prog := by
  intro x hx
  obtain ⟨ws, _⟩ := x
  obtain ⟨h1, h2⟩ := a52 ws (s52 ws (of_dec hx rfl))
  exact ⟨⟨400, (by decide : 0 + 1 + 0 ≤ 400), h1⟩, h2⟩
inductive St68a where
  | h0 (x0 : Int)
abbrev Rt68a  := Int
noncomputable def V68a (al nl ml : Nat) (tl : Nat → ByteArray) (vl gl : Nat → Int) (r : Rt68a) : PV := PV.int IntKind.i64 r
noncomputable def N68a (al nl ml : Nat) (tl : Nat → ByteArray) (vl gl : Nat → Int) (r : Rt68a) : List Blk := []
noncomputable def I68a (al nl ml : Nat) (tl : Nat → ByteArray) (vl gl : Nat → Int) : St68a → Hd
  | .h0 x0 => ⟨hd Try.f68 0, [PV.loose (PA.mk (0) (3) al (0)) nl, PV.fn (Go.Fn.func (43)) [] [],
 PV.int IntKind.i64 (↑nl : Int), PV.int IntKind.i64 x0], [[], [(0, (false, .cols ml [.str tl, .int .i64 vl, .int .i64 gl]))]], 1⟩
noncomputable def q68a (al nl ml : Nat) (tl : Nat → ByteArray) (vl gl : Nat → Int) : St68a → Option (St68a ⊕ Rt68a)
  | .h0 x0 => bif (decide (x0 < (↑nl : Int)))
 then (bif (decide ((0 : Int) ≤ x0 ∧ x0 < (↑nl : Int)))
 then (bif (decide (Int.toNat x0 + al < ml))
 then (bif (decide ((↑(ByteArray.size (tl (Int.toNat x0 + al))) : Int) > (60 : Int)))
 then (some (.inr (x0)))
 else (bif (lim IntKind.i64 (x0 + (1 : Int)))
 then (some (.inl (.h0 (x0 + (1 : Int)))))
 else (none)))
 else (none))
 else (none))
 else (some (.inr ((-1 : Int))))
noncomputable def p68a (al nl ml : Nat) (tl : Nat → ByteArray) (vl gl : Nat → Int) : Option (St68a ⊕ Rt68a) := some (.inl (.h0 ((0 : Int))))
noncomputable def Te68a (test : Bool → Prop → Prop → Prop) (Kst : KS) (Kret : KR) (al nl ml : Nat) (tl : Nat → ByteArray) (vl gl : Nat → Int) : Prop :=
  Kst (hd Try.f68 0) ([PV.loose (PA.mk (0) (3) al (0)) nl, PV.fn (Go.Fn.func (43)) [] [],
 PV.int IntKind.i64 (↑nl : Int), PV.int IntKind.i64 (0 : Int)]) ([[(0, false,
 Blk.cols ml [Col.str tl, Col.int IntKind.i64 vl, Col.int IntKind.i64 gl])]]) (1)
theorem te68a (test : Bool → Prop → Prop → Prop) (Kst : KS) (Kret : KR) (al nl ml : Nat) (tl : Nat → ByteArray) (vl gl : Nat → Int) : run test Try.env true noX true 400 ⟨68, [.cd (mkFn Try.f68).body], argT 0 [.loose ⟨0, 3, al, 0⟩ nl, .fn (.func 43) [] []], [[], [(0, (false, .cols ml [.str tl, .int .i64 vl, .int .i64 gl]))]], 1⟩ (proj 1 [0, 1, 7, 8] Kst Kret) =
  Te68a test Kst Kret al nl ml tl vl gl := by kernel_rfl
noncomputable def T68a_0 (test : Bool → Prop → Prop → Prop) (Kst : KS) (Kret : KR) (al nl ml : Nat) (tl : Nat → ByteArray) (vl gl : Nat → Int) (x0 : Int) : Prop :=
  test (decide (x0 < (↑nl : Int)))
 (test (decide ((0 : Int) ≤ x0 ∧ x0 < (↑nl : Int)))
 (test (decide (Int.toNat x0 + al < ml))
 (test (decide (Int.toNat x0 + al < ml))
 (test (decide (Int.toNat x0 + al < ml))
 (test (decide ((↑(ByteArray.size (tl (Int.toNat x0 + al))) : Int) > (60 : Int)))
 (Kret (PV.int IntKind.i64 x0) ([[(0, false,
 Blk.cols ml [Col.str tl, Col.int IntKind.i64 vl, Col.int IntKind.i64 gl])]]) (2))
 (test (lim IntKind.i64 (x0 + (1 : Int)))
 (Kst (hd Try.f68 0) ([PV.loose (PA.mk (0) (3) al (0)) nl, PV.fn (Go.Fn.func (43)) [] [],
 PV.int IntKind.i64 (↑nl : Int), PV.int IntKind.i64 (x0 + (1 : Int))]) ([[(0, false,
 Blk.cols ml [Col.str tl, Col.int IntKind.i64 vl, Col.int IntKind.i64 gl])]]) (2))
 (False)))
 (False))
 (False))
 (False))
 (False))
 (Kret (PV.int IntKind.i64 (-1 : Int)) ([[(0, false,
 Blk.cols ml [Col.str tl, Col.int IntKind.i64 vl, Col.int IntKind.i64 gl])]]) (1))
theorem t68a_0 (test : Bool → Prop → Prop → Prop) (Kst : KS) (Kret : KR) (al nl ml : Nat) (tl : Nat → ByteArray) (vl gl : Nat → Int) (x0 : Int) : run test Try.env true noX true 400 ⟨68, hd Try.f68 0, zipT [0, 1, 7, 8] [PV.loose (PA.mk (0) (3) al (0)) nl, PV.fn (Go.Fn.func (43)) [] [],
 PV.int IntKind.i64 (↑nl : Int), PV.int IntKind.i64 x0], [[], [(0, (false, .cols ml [.str tl, .int .i64 vl, .int .i64 gl]))]], 1⟩ (proj 1 [0, 1, 7, 8] Kst Kret) =
  T68a_0 test Kst Kret al nl ml tl vl gl x0 := by kernel_rfl
theorem be68a (al nl ml : Nat) (tl : Nat → ByteArray) (vl gl : Nat → Int) (Kst : KS) (Kret : KR) (x : St68a ⊕ Rt68a) (hS : HS 1 400 ((I68a al nl ml tl vl gl)) Kst x) (hR : HR 1 400 ((V68a al nl ml tl vl gl)) (fun r => [newL (1 + 1) ((N68a al nl ml tl vl gl) r) ++ [(0, (false, .cols ml [.str tl, .int .i64 vl, .int .i64 gl]))]]) Kret x) (h : (some (.inl (.h0 ((0 : Int)))) : Option (St68a ⊕ Rt68a)) = some x) : Te68a cond Kst Kret al nl ml tl vl gl := by
  unfold Te68a
  exact stop_at hS _ h (fun n => n) rfl rfl rfl ⟨(rn_loose (use_lo rfl) rfl rfl rfl), ⟨(rn_fn trivial trivial), ⟨(rn_int rfl), ⟨(rn_int rfl), trivial⟩⟩⟩⟩ rfl (entl_bor (use_lo rfl) rfl rfl entl_nil)
theorem b68a_0 (al nl ml : Nat) (tl : Nat → ByteArray) (vl gl : Nat → Int) (Kst : KS) (Kret : KR) (x : St68a ⊕ Rt68a) (hS : HS 1 400 ((I68a al nl ml tl vl gl)) Kst x) (hR : HR 1 400 ((V68a al nl ml tl vl gl)) (fun r => [newL (1 + 1) ((N68a al nl ml tl vl gl) r) ++ [(0, (false, .cols ml [.str tl, .int .i64 vl, .int .i64 gl]))]]) Kret x) (x0 : Int) (h : (bif (decide (x0 < (↑nl : Int)))
 then (bif (decide ((0 : Int) ≤ x0 ∧ x0 < (↑nl : Int)))
 then (bif (decide (Int.toNat x0 + al < ml))
 then (bif (decide ((↑(ByteArray.size (tl (Int.toNat x0 + al))) : Int) > (60 : Int)))
 then (some (.inr (x0)))
 else (bif (lim IntKind.i64 (x0 + (1 : Int)))
 then (some (.inl (.h0 (x0 + (1 : Int)))))
 else (none)))
 else (none))
 else (none))
 else (some (.inr ((-1 : Int)))) : Option (St68a ⊕ Rt68a)) = some x) : T68a_0 cond Kst Kret al nl ml tl vl gl x0 := by
  unfold T68a_0
  exact bif_split h
   (fun c0 h => bif_split h
   (fun c1 h => bif_split h
   (fun c2 h => cond_yes c2 (cond_yes c2 (bif_split h
   (fun c3 h => ret_at hR _ h (fun n => n) rfl rfl rfl (rn_int rfl) rfl (entl_bor (use_lo rfl) rfl rfl entl_nil))
   (fun c3 h => bif_split h
   (fun c4 h => stop_at hS _ h (fun n => n) rfl rfl rfl ⟨(rn_loose (use_lo rfl) rfl rfl rfl), ⟨(rn_fn trivial trivial), ⟨(rn_int rfl), ⟨(rn_int rfl), trivial⟩⟩⟩⟩ rfl (entl_bor (use_lo rfl) rfl rfl entl_nil))
   (fun c4 h => no_some h)))))
   (fun c2 h => no_some h))
   (fun c1 h => no_some h))
   (fun c0 h => ret_at hR _ h (fun n => n) rfl rfl rfl (rn_int rfl) rfl (entl_bor (use_lo rfl) rfl rfl entl_nil))
theorem a68a (al nl ml : Nat) (tl : Nat → ByteArray) (vl gl : Nat → Int) {r : Rt68a} (h : Goes ((q68a al nl ml tl vl gl)) ((p68a al nl ml tl vl gl)) r) : CallR Try.prog 68 [.loose ⟨0, 3, al, 0⟩ nl, .fn (.func 43) [] []] [[(0, (false, .cols ml [.str tl, .int .i64 vl, .int .i64 gl]))]] 1 ((V68a al nl ml tl vl gl) r) ((fun r => [newL (1 + 1) ((N68a al nl ml tl vl gl) r) ++ [(0, (false, .cols ml [.str tl, .int .i64 vl, .int .i64 gl]))]]) r) 400 ∧ ∃ F, Try.prog.funcs[68]? = some F ∧ F.body.isSome = true ∧ (F.name == "runtime.NumGoroutine") = false := by
  refine dec_calls (f := 68) (lo := 1) (hi := 400) (H := [[(0, (false, .cols ml [.str tl, .int .i64 vl, .int .i64 gl]))]]) (args := [.loose ⟨0, 3, al, 0⟩ nl, .fn (.func 43) [] []]) Try.envOk Try.mixed noX_ok ((I68a al nl ml tl vl gl)) ((V68a al nl ml tl vl gl)) (fun r => [newL (1 + 1) ((N68a al nl ml tl vl gl) r) ++ [(0, (false, .cols ml [.str tl, .int .i64 vl, .int .i64 gl]))]]) (fn := mkFn Try.f68) (ts := [0, 1, 7, 8]) (n := 400) rfl (by decide) (by simp) (names_of rfl) ?_ ?_ ?_ h
  · intro s; cases s <;> exact ⟨hd_ok _ _, by simp [I68a], names_of rfl, Nat.le_of_ble_eq_true rfl⟩
  · intro Kst Kret x hS hR h
    exact Holds.eq (te68a cond Kst Kret al nl ml tl vl gl) (be68a al nl ml tl vl gl Kst Kret x hS hR h)
  · intro Kst Kret x hS hR s h
    cases s with
    | h0 x0 => exact Holds.eq (t68a_0 cond Kst Kret al nl ml tl vl gl x0) (b68a_0 al nl ml tl vl gl Kst Kret x hS hR x0 h)
noncomputable def k68a  : Con := ⟨68, [.one (.list [.str, .int .i64, .int .i64]), .fn 43 []], fun (x : (Nat × Nat × Nat × (Nat → ByteArray) × (Nat → Int) × (Nat → Int) × Unit) × (Unit) × Unit) => (fun (al nl ml : Nat) (tl : Nat → ByteArray) (vl : Nat → Int) (gl : Nat → Int) => decide (al + nl ≤ ml ∧ nl ≤ 1000000)) x.1.1 x.1.2.1 x.1.2.2.1 x.1.2.2.2.1 x.1.2.2.2.2.1 x.1.2.2.2.2.2.1, fun (x : (Nat × Nat × Nat × (Nat → ByteArray) × (Nat → Int) × (Nat → Int) × Unit) × (Unit) × Unit) => (fun (al nl ml : Nat) (tl : Nat → ByteArray) (vl : Nat → Int) (gl : Nat → Int) => (V68a al nl ml tl vl gl) (S.idx (fun j => decide (((tl (j + al)).size : Int) > 60)) 0 nl)) x.1.1 x.1.2.1 x.1.2.2.1 x.1.2.2.2.1 x.1.2.2.2.2.1 x.1.2.2.2.2.2.1, fun (x : (Nat × Nat × Nat × (Nat → ByteArray) × (Nat → Int) × (Nat → Int) × Unit) × (Unit) × Unit) => (fun (al nl ml : Nat) (tl : Nat → ByteArray) (vl : Nat → Int) (gl : Nat → Int) => (N68a al nl ml tl vl gl) (S.idx (fun j => decide (((tl (j + al)).size : Int) > 60)) 0 nl)) x.1.1 x.1.2.1 x.1.2.2.1 x.1.2.2.2.1 x.1.2.2.2.2.1 x.1.2.2.2.2.2.1, fun _ _ => .dead⟩
theorem s68a' (al nl ml : Nat) (tl : Nat → ByteArray) (vl gl : Nat → Int) (hp : al + nl ≤ ml ∧ nl ≤ 1000000) : ∀ k i : Nat, i + k = nl → Comes (q68a al nl ml tl vl gl) (.h0 (i : Int)) (S.idx (fun j => decide (((tl (j + al)).size : Int) > 60)) i k) := by
  obtain ⟨hp1, hp2⟩ := hp
  intro k
  induction k with
  | zero =>
    intro i hi
    apply Comes.of
    show Goes _ _ _
    (first | rw [q68a] | unfold q68a)
    repeat' first
      | with_reducible refine goes_if (fun h => ?_) (fun h => ?_) <;> (try simp only [SH] at h)
      | exact goes_none.mpr (by omega)
    all_goals first | (exfalso; omega) | rfl | (refine Eq.mpr (congrArg (Comes _ _) ?_) True; simp only [S.idx, Bool.and_eq_true, Bool.or_eq_true, decide_eq_true_eq]; (repeat' split) <;> first | rfl | omega | (exfalso; omega) | (exfalso; simp_all; done) | (exfalso; simp_all; omega) | simp_all) | (refine goes_inr.mpr ?_; simp only [S.idx, Bool.and_eq_true, Bool.or_eq_true, decide_eq_true_eq]; (repeat' split) <;> first | rfl | omega | (exfalso; omega) | (exfalso; simp_all; done) | (exfalso; simp_all; omega) | simp_all)
  | succ k ih =>
    intro i hi
    have ih := ih (i + 1) (by omega)
    apply Comes.of
    show Goes _ _ _
    (first | rw [q68a] | unfold q68a)
    repeat' first
      | with_reducible refine goes_if (fun h => ?_) (fun h => ?_) <;> (try simp only [SH] at h)
      | exact goes_none.mpr (by omega)
    all_goals first | (exfalso; omega) | rfl | (refine Eq.mpr (congrArg (Comes _ _) ?_) ih; simp only [S.idx, Bool.and_eq_true, Bool.or_eq_true, decide_eq_true_eq]; (repeat' split) <;> first | rfl | omega | (exfalso; omega) | (exfalso; simp_all; done) | (exfalso; simp_all; omega) | simp_all) | (refine goes_inr.mpr ?_; simp only [S.idx, Bool.and_eq_true, Bool.or_eq_true, decide_eq_true_eq]; (repeat' split) <;> first | rfl | omega | (exfalso; omega) | (exfalso; simp_all; done) | (exfalso; simp_all; omega) | simp_all)
theorem s68a (al nl ml : Nat) (tl : Nat → ByteArray) (vl gl : Nat → Int) (hp : al + nl ≤ ml ∧ nl ≤ 1000000) : Goes ((q68a al nl ml tl vl gl)) ((p68a al nl ml tl vl gl)) (S.idx (fun j => decide (((tl (j + al)).size : Int) > 60)) 0 nl) := by
  exact s68a' al nl ml tl vl gl hp nl 0 (by omega)
theorem k68a_ok  : k68a.ok Try.prog := by
  intro x hx
  obtain ⟨⟨al, nl, ml, tl, vl, gl, _⟩, ⟨_⟩, _⟩ := x
  obtain ⟨h1, h2⟩ := a68a al nl ml tl vl gl (s68a al nl ml tl vl gl (of_dec hx rfl))
  exact ⟨⟨400, (by decide : 1 + 1 + 0 ≤ 400), h1⟩, h2⟩
inductive St68b where
  | h0 (x0 : Int)
abbrev Rt68b  := Int
noncomputable def V68b (al nl ml : Nat) (tl : Nat → ByteArray) (vl gl : Nat → Int) (tg : ByteArray) (vg gg : Int) (r : Rt68b) : PV := PV.int IntKind.i64 r
noncomputable def N68b (al nl ml : Nat) (tl : Nat → ByteArray) (vl gl : Nat → Int) (tg : ByteArray) (vg gg : Int) (r : Rt68b) : List Blk := []
noncomputable def I68b (al nl ml : Nat) (tl : Nat → ByteArray) (vl gl : Nat → Int) (tg : ByteArray) (vg gg : Int) : St68b → Hd
  | .h0 x0 => ⟨hd Try.f68 0, [PV.loose (PA.mk (0) (3) al (0)) nl,
 PV.fn (Go.Fn.func (50)) [] [PV.ptr (PA.mk (1) (0) (0) (0))],
 PV.int IntKind.i64 (↑nl : Int), PV.int IntKind.i64 x0], [[], [(0, (false, .cols ml [.str tl, .int .i64 vl, .int .i64 gl])), (1, (false, .cells [.str tg, .int .i64 vg, .int .i64 gg]))]], 2⟩
noncomputable def q68b (al nl ml : Nat) (tl : Nat → ByteArray) (vl gl : Nat → Int) (tg : ByteArray) (vg gg : Int) : St68b → Option (St68b ⊕ Rt68b)
  | .h0 x0 => bif (decide (x0 < (↑nl : Int)))
 then (bif (decide ((0 : Int) ≤ x0 ∧ x0 < (↑nl : Int)))
 then (bif (decide (Int.toNat x0 + al < ml))
 then (bif (S.eqS (tl (Int.toNat x0 + al)) tg)
 then (some (.inr (x0)))
 else (bif (lim IntKind.i64 (x0 + (1 : Int)))
 then (some (.inl (.h0 (x0 + (1 : Int)))))
 else (none)))
 else (none))
 else (none))
 else (some (.inr ((-1 : Int))))
noncomputable def p68b (al nl ml : Nat) (tl : Nat → ByteArray) (vl gl : Nat → Int) (tg : ByteArray) (vg gg : Int) : Option (St68b ⊕ Rt68b) := some (.inl (.h0 ((0 : Int))))
noncomputable def Te68b (test : Bool → Prop → Prop → Prop) (Kst : KS) (Kret : KR) (al nl ml : Nat) (tl : Nat → ByteArray) (vl gl : Nat → Int) (tg : ByteArray) (vg gg : Int) : Prop :=
  Kst (hd Try.f68 0) ([PV.loose (PA.mk (0) (3) al (0)) nl,
 PV.fn (Go.Fn.func (50)) [] [PV.ptr (PA.mk (1) (0) (0) (0))],
 PV.int IntKind.i64 (↑nl : Int), PV.int IntKind.i64 (0 : Int)]) ([[(1, false,
 Blk.cells [PV.str tg, PV.int IntKind.i64 vg, PV.int IntKind.i64 gg]),
 (0, false,
 Blk.cols ml [Col.str tl, Col.int IntKind.i64 vl, Col.int IntKind.i64 gl])]]) (2)
theorem te68b (test : Bool → Prop → Prop → Prop) (Kst : KS) (Kret : KR) (al nl ml : Nat) (tl : Nat → ByteArray) (vl gl : Nat → Int) (tg : ByteArray) (vg gg : Int) : run test Try.env true noX true 400 ⟨68, [.cd (mkFn Try.f68).body], argT 0 [.loose ⟨0, 3, al, 0⟩ nl, .fn (.func 50) [] [.ptr ⟨1, 0, 0, 0⟩]], [[], [(0, (false, .cols ml [.str tl, .int .i64 vl, .int .i64 gl])), (1, (false, .cells [.str tg, .int .i64 vg, .int .i64 gg]))]], 2⟩ (proj 2 [0, 1, 7, 8] Kst Kret) =
  Te68b test Kst Kret al nl ml tl vl gl tg vg gg := by kernel_rfl
noncomputable def T68b_0 (test : Bool → Prop → Prop → Prop) (Kst : KS) (Kret : KR) (al nl ml : Nat) (tl : Nat → ByteArray) (vl gl : Nat → Int) (tg : ByteArray) (vg gg x0 : Int) : Prop :=
  test (decide (x0 < (↑nl : Int)))
 (test (decide ((0 : Int) ≤ x0 ∧ x0 < (↑nl : Int)))
 (test (decide (Int.toNat x0 + al < ml))
 (test (decide (Int.toNat x0 + al < ml))
 (test (decide (Int.toNat x0 + al < ml))
 (test (S.eqS (tl (Int.toNat x0 + al)) tg)
 (Kret (PV.int IntKind.i64 x0) ([[(1, false,
 Blk.cells [PV.str tg, PV.int IntKind.i64 vg, PV.int IntKind.i64 gg]),
 (0, false,
 Blk.cols ml [Col.str tl, Col.int IntKind.i64 vl, Col.int IntKind.i64 gl])]]) (3))
 (test (lim IntKind.i64 (x0 + (1 : Int)))
 (Kst (hd Try.f68 0) ([PV.loose (PA.mk (0) (3) al (0)) nl,
 PV.fn (Go.Fn.func (50)) [] [PV.ptr (PA.mk (1) (0) (0) (0))],
 PV.int IntKind.i64 (↑nl : Int), PV.int IntKind.i64 (x0 + (1 : Int))]) ([[(1, false,
 Blk.cells [PV.str tg, PV.int IntKind.i64 vg, PV.int IntKind.i64 gg]),
 (0, false,
 Blk.cols ml [Col.str tl, Col.int IntKind.i64 vl, Col.int IntKind.i64 gl])]]) (3))
 (False)))
 (False))
 (False))
 (False))
 (False))
 (Kret (PV.int IntKind.i64 (-1 : Int)) ([[(1, false,
 Blk.cells [PV.str tg, PV.int IntKind.i64 vg, PV.int IntKind.i64 gg]),
 (0, false,
 Blk.cols ml [Col.str tl, Col.int IntKind.i64 vl, Col.int IntKind.i64 gl])]]) (2))
theorem t68b_0 (test : Bool → Prop → Prop → Prop) (Kst : KS) (Kret : KR) (al nl ml : Nat) (tl : Nat → ByteArray) (vl gl : Nat → Int) (tg : ByteArray) (vg gg x0 : Int) : run test Try.env true noX true 400 ⟨68, hd Try.f68 0, zipT [0, 1, 7, 8] [PV.loose (PA.mk (0) (3) al (0)) nl,
 PV.fn (Go.Fn.func (50)) [] [PV.ptr (PA.mk (1) (0) (0) (0))],
 PV.int IntKind.i64 (↑nl : Int), PV.int IntKind.i64 x0], [[], [(0, (false, .cols ml [.str tl, .int .i64 vl, .int .i64 gl])), (1, (false, .cells [.str tg, .int .i64 vg, .int .i64 gg]))]], 2⟩ (proj 2 [0, 1, 7, 8] Kst Kret) =
  T68b_0 test Kst Kret al nl ml tl vl gl tg vg gg x0 := by kernel_rfl
theorem be68b (al nl ml : Nat) (tl : Nat → ByteArray) (vl gl : Nat → Int) (tg : ByteArray) (vg gg : Int) (Kst : KS) (Kret : KR) (x : St68b ⊕ Rt68b) (hS : HS 2 400 ((I68b al nl ml tl vl gl tg vg gg)) Kst x) (hR : HR 2 400 ((V68b al nl ml tl vl gl tg vg gg)) (fun r => [newL (2 + 1) ((N68b al nl ml tl vl gl tg vg gg) r) ++ [(0, (false, .cols ml [.str tl, .int .i64 vl, .int .i64 gl])), (1, (false, .cells [.str tg, .int .i64 vg, .int .i64 gg]))]]) Kret x) (h : (some (.inl (.h0 ((0 : Int)))) : Option (St68b ⊕ Rt68b)) = some x) : Te68b cond Kst Kret al nl ml tl vl gl tg vg gg := by
  unfold Te68b
  exact stop_at hS _ h (fun n => n) rfl rfl rfl ⟨(rn_loose (use_lo rfl) rfl rfl rfl), ⟨(rn_fn trivial ⟨(rn_ptr (use_lo rfl) rfl rfl), trivial⟩), ⟨(rn_int rfl), ⟨(rn_int rfl), trivial⟩⟩⟩⟩ rfl (entl_bor (use_lo rfl) rfl rfl (entl_borc (use_lo rfl) rfl rfl entl_nil))
theorem b68b_0 (al nl ml : Nat) (tl : Nat → ByteArray) (vl gl : Nat → Int) (tg : ByteArray) (vg gg : Int) (Kst : KS) (Kret : KR) (x : St68b ⊕ Rt68b) (hS : HS 2 400 ((I68b al nl ml tl vl gl tg vg gg)) Kst x) (hR : HR 2 400 ((V68b al nl ml tl vl gl tg vg gg)) (fun r => [newL (2 + 1) ((N68b al nl ml tl vl gl tg vg gg) r) ++ [(0, (false, .cols ml [.str tl, .int .i64 vl, .int .i64 gl])), (1, (false, .cells [.str tg, .int .i64 vg, .int .i64 gg]))]]) Kret x) (x0 : Int) (h : (bif (decide (x0 < (↑nl : Int)))
 then (bif (decide ((0 : Int) ≤ x0 ∧ x0 < (↑nl : Int)))
 then (bif (decide (Int.toNat x0 + al < ml))
 then (bif (S.eqS (tl (Int.toNat x0 + al)) tg)
 then (some (.inr (x0)))
 else (bif (lim IntKind.i64 (x0 + (1 : Int)))
 then (some (.inl (.h0 (x0 + (1 : Int)))))
 else (none)))
 else (none))
 else (none))
 else (some (.inr ((-1 : Int)))) : Option (St68b ⊕ Rt68b)) = some x) : T68b_0 cond Kst Kret al nl ml tl vl gl tg vg gg x0 := by
  unfold T68b_0
  exact bif_split h
   (fun c0 h => bif_split h
   (fun c1 h => bif_split h
   (fun c2 h => cond_yes c2 (cond_yes c2 (bif_split h
   (fun c3 h => ret_at hR _ h (fun n => n) rfl rfl rfl (rn_int rfl) rfl (entl_bor (use_lo rfl) rfl rfl (entl_borc (use_lo rfl) rfl rfl entl_nil)))
   (fun c3 h => bif_split h
   (fun c4 h => stop_at hS _ h (fun n => n) rfl rfl rfl ⟨(rn_loose (use_lo rfl) rfl rfl rfl), ⟨(rn_fn trivial ⟨(rn_ptr (use_lo rfl) rfl rfl), trivial⟩), ⟨(rn_int rfl), ⟨(rn_int rfl), trivial⟩⟩⟩⟩ rfl (entl_bor (use_lo rfl) rfl rfl (entl_borc (use_lo rfl) rfl rfl entl_nil)))
   (fun c4 h => no_some h)))))
   (fun c2 h => no_some h))
   (fun c1 h => no_some h))
   (fun c0 h => ret_at hR _ h (fun n => n) rfl rfl rfl (rn_int rfl) rfl (entl_bor (use_lo rfl) rfl rfl (entl_borc (use_lo rfl) rfl rfl entl_nil)))
theorem a68b (al nl ml : Nat) (tl : Nat → ByteArray) (vl gl : Nat → Int) (tg : ByteArray) (vg gg : Int) {r : Rt68b} (h : Goes ((q68b al nl ml tl vl gl tg vg gg)) ((p68b al nl ml tl vl gl tg vg gg)) r) : CallR Try.prog 68 [.loose ⟨0, 3, al, 0⟩ nl, .fn (.func 50) [] [.ptr ⟨1, 0, 0, 0⟩]] [[(0, (false, .cols ml [.str tl, .int .i64 vl, .int .i64 gl])), (1, (false, .cells [.str tg, .int .i64 vg, .int .i64 gg]))]] 2 ((V68b al nl ml tl vl gl tg vg gg) r) ((fun r => [newL (2 + 1) ((N68b al nl ml tl vl gl tg vg gg) r) ++ [(0, (false, .cols ml [.str tl, .int .i64 vl, .int .i64 gl])), (1, (false, .cells [.str tg, .int .i64 vg, .int .i64 gg]))]]) r) 400 ∧ ∃ F, Try.prog.funcs[68]? = some F ∧ F.body.isSome = true ∧ (F.name == "runtime.NumGoroutine") = false := by
  refine dec_calls (f := 68) (lo := 2) (hi := 400) (H := [[(0, (false, .cols ml [.str tl, .int .i64 vl, .int .i64 gl])), (1, (false, .cells [.str tg, .int .i64 vg, .int .i64 gg]))]]) (args := [.loose ⟨0, 3, al, 0⟩ nl, .fn (.func 50) [] [.ptr ⟨1, 0, 0, 0⟩]]) Try.envOk Try.mixed noX_ok ((I68b al nl ml tl vl gl tg vg gg)) ((V68b al nl ml tl vl gl tg vg gg)) (fun r => [newL (2 + 1) ((N68b al nl ml tl vl gl tg vg gg) r) ++ [(0, (false, .cols ml [.str tl, .int .i64 vl, .int .i64 gl])), (1, (false, .cells [.str tg, .int .i64 vg, .int .i64 gg]))]]) (fn := mkFn Try.f68) (ts := [0, 1, 7, 8]) (n := 400) rfl (by decide) (by simp) (names_of rfl) ?_ ?_ ?_ h
  · intro s; cases s <;> exact ⟨hd_ok _ _, by simp [I68b], names_of rfl, Nat.le_of_ble_eq_true rfl⟩
  · intro Kst Kret x hS hR h
    exact Holds.eq (te68b cond Kst Kret al nl ml tl vl gl tg vg gg) (be68b al nl ml tl vl gl tg vg gg Kst Kret x hS hR h)
  · intro Kst Kret x hS hR s h
    cases s with
    | h0 x0 => exact Holds.eq (t68b_0 cond Kst Kret al nl ml tl vl gl tg vg gg x0) (b68b_0 al nl ml tl vl gl tg vg gg Kst Kret x hS hR x0 h)
noncomputable def k68b  : Con := ⟨68, [.one (.list [.str, .int .i64, .int .i64]), .fn 50 [.cell [.str, .int .i64, .int .i64]]], fun (x : (Nat × Nat × Nat × (Nat → ByteArray) × (Nat → Int) × (Nat → Int) × Unit) × ((ByteArray × Int × Int × Unit) × Unit) × Unit) => (fun (al nl ml : Nat) (tl : Nat → ByteArray) (vl : Nat → Int) (gl : Nat → Int) (tg : ByteArray) (vg : Int) (gg : Int) => decide (al + nl ≤ ml ∧ nl ≤ 1000000)) x.1.1 x.1.2.1 x.1.2.2.1 x.1.2.2.2.1 x.1.2.2.2.2.1 x.1.2.2.2.2.2.1 x.2.1.1.1 x.2.1.1.2.1 x.2.1.1.2.2.1, fun (x : (Nat × Nat × Nat × (Nat → ByteArray) × (Nat → Int) × (Nat → Int) × Unit) × ((ByteArray × Int × Int × Unit) × Unit) × Unit) => (fun (al nl ml : Nat) (tl : Nat → ByteArray) (vl : Nat → Int) (gl : Nat → Int) (tg : ByteArray) (vg : Int) (gg : Int) => (V68b al nl ml tl vl gl tg vg gg) (S.idx (fun j => S.eqS (tl (j + al)) tg) 0 nl)) x.1.1 x.1.2.1 x.1.2.2.1 x.1.2.2.2.1 x.1.2.2.2.2.1 x.1.2.2.2.2.2.1 x.2.1.1.1 x.2.1.1.2.1 x.2.1.1.2.2.1, fun (x : (Nat × Nat × Nat × (Nat → ByteArray) × (Nat → Int) × (Nat → Int) × Unit) × ((ByteArray × Int × Int × Unit) × Unit) × Unit) => (fun (al nl ml : Nat) (tl : Nat → ByteArray) (vl : Nat → Int) (gl : Nat → Int) (tg : ByteArray) (vg : Int) (gg : Int) => (N68b al nl ml tl vl gl tg vg gg) (S.idx (fun j => S.eqS (tl (j + al)) tg) 0 nl)) x.1.1 x.1.2.1 x.1.2.2.1 x.1.2.2.2.1 x.1.2.2.2.2.1 x.1.2.2.2.2.2.1 x.2.1.1.1 x.2.1.1.2.1 x.2.1.1.2.2.1, fun _ _ => .dead⟩
theorem s68b' (al nl ml : Nat) (tl : Nat → ByteArray) (vl gl : Nat → Int) (tg : ByteArray) (vg gg : Int) (hp : al + nl ≤ ml ∧ nl ≤ 1000000) : ∀ k i : Nat, i + k = nl → Comes (q68b al nl ml tl vl gl tg vg gg) (.h0 (i : Int)) (S.idx (fun j => S.eqS (tl (j + al)) tg) i k) := by
  obtain ⟨hp1, hp2⟩ := hp
  intro k
  induction k with
  | zero =>
    intro i hi
    apply Comes.of
    show Goes _ _ _
    (first | rw [q68b] | unfold q68b)
    repeat' first
      | with_reducible refine goes_if (fun h => ?_) (fun h => ?_) <;> (try simp only [SH] at h)
      | exact goes_none.mpr (by omega)
    all_goals first | (exfalso; omega) | rfl | (refine Eq.mpr (congrArg (Comes _ _) ?_) True; simp only [S.idx, Bool.and_eq_true, Bool.or_eq_true, decide_eq_true_eq]; (repeat' split) <;> first | rfl | omega | (exfalso; omega) | (exfalso; simp_all; done) | (exfalso; simp_all; omega) | simp_all) | (refine goes_inr.mpr ?_; simp only [S.idx, Bool.and_eq_true, Bool.or_eq_true, decide_eq_true_eq]; (repeat' split) <;> first | rfl | omega | (exfalso; omega) | (exfalso; simp_all; done) | (exfalso; simp_all; omega) | simp_all)
  | succ k ih =>
    intro i hi
    have ih := ih (i + 1) (by omega)
    apply Comes.of
    show Goes _ _ _
    (first | rw [q68b] | unfold q68b)
    repeat' first
      | with_reducible refine goes_if (fun h => ?_) (fun h => ?_) <;> (try simp only [SH] at h)
      | exact goes_none.mpr (by omega)
    all_goals first | (exfalso; omega) | rfl | (refine Eq.mpr (congrArg (Comes _ _) ?_) ih; simp only [S.idx, Bool.and_eq_true, Bool.or_eq_true, decide_eq_true_eq]; (repeat' split) <;> first | rfl | omega | (exfalso; omega) | (exfalso; simp_all; done) | (exfalso; simp_all; omega) | simp_all) | (refine goes_inr.mpr ?_; simp only [S.idx, Bool.and_eq_true, Bool.or_eq_true, decide_eq_true_eq]; (repeat' split) <;> first | rfl | omega | (exfalso; omega) | (exfalso; simp_all; done) | (exfalso; simp_all; omega) | simp_all)
theorem s68b (al nl ml : Nat) (tl : Nat → ByteArray) (vl gl : Nat → Int) (tg : ByteArray) (vg gg : Int) (hp : al + nl ≤ ml ∧ nl ≤ 1000000) : Goes ((q68b al nl ml tl vl gl tg vg gg)) ((p68b al nl ml tl vl gl tg vg gg)) (S.idx (fun j => S.eqS (tl (j + al)) tg) 0 nl) := by
  exact s68b' al nl ml tl vl gl tg vg gg hp nl 0 (by omega)
theorem k68b_ok  : k68b.ok Try.prog := by
  intro x hx
  obtain ⟨⟨al, nl, ml, tl, vl, gl, _⟩, ⟨⟨tg, vg, gg, _⟩, _⟩, _⟩ := x
  obtain ⟨h1, h2⟩ := a68b al nl ml tl vl gl tg vg gg (s68b al nl ml tl vl gl tg vg gg (of_dec hx rfl))
  exact ⟨⟨400, (by decide : 2 + 1 + 0 ≤ 400), h1⟩, h2⟩
noncomputable def xF0 (test : Bool → Prop → Prop → Prop) : Ext := consX test [k68a, k68b]
theorem xF0_ok  : ExtOk Try.prog (xF0 cond) := consX_ok ⟨k68a_ok, k68b_ok, trivial⟩
abbrev St42a  := Empty
abbrev Rt42a  := Bool
noncomputable def V42a (al nl ml : Nat) (tl : Nat → ByteArray) (vl gl : Nat → Int) (r : Rt42a) : PV := PV.bool r
noncomputable def N42a (al nl ml : Nat) (tl : Nat → ByteArray) (vl gl : Nat → Int) (r : Rt42a) : List Blk := []
noncomputable def I42a (al nl ml : Nat) (tl : Nat → ByteArray) (vl gl : Nat → Int) : St42a → Hd := fun s => s.elim
noncomputable def q42a (al nl ml : Nat) (tl : Nat → ByteArray) (vl gl : Nat → Int) : St42a → Option (St42a ⊕ Rt42a) := fun s => s.elim
noncomputable def p42a (al nl ml : Nat) (tl : Nat → ByteArray) (vl gl : Nat → Int) : Option (St42a ⊕ Rt42a) := bif (decide (al + nl ≤ ml ∧ nl ≤ 1000000))
 then (bif (decide
 (S.idx (fun j => decide ((↑(ByteArray.size (tl (j + al))) : Int) > (60 : Int))) (0)
 nl ≥
 (0 : Int)))
 then (some (.inr (true)))
 else (some (.inr (false))))
 else (none)
noncomputable def Te42a (test : Bool → Prop → Prop → Prop) (Kst : KS) (Kret : KR) (al nl ml : Nat) (tl : Nat → ByteArray) (vl gl : Nat → Int) : Prop :=
  test (decide (al + nl ≤ ml ∧ nl ≤ 1000000))
 (test (decide
 (S.idx (fun j => decide ((↑(ByteArray.size (tl (j + al))) : Int) > (60 : Int))) (0)
 nl ≥
 (0 : Int)))
 (Kret (PV.tf true) ([[(0, false,
 Blk.cols ml [Col.str tl, Col.int IntKind.i64 vl, Col.int IntKind.i64 gl])]]) (2))
 (Kret (PV.tf false) ([[(0, false,
 Blk.cols ml [Col.str tl, Col.int IntKind.i64 vl, Col.int IntKind.i64 gl])]]) (2)))
 (False)
theorem te42a (test : Bool → Prop → Prop → Prop) (Kst : KS) (Kret : KR) (al nl ml : Nat) (tl : Nat → ByteArray) (vl gl : Nat → Int) : run test Try.env true (xF0 test) true 400 ⟨42, [.cd (mkFn Try.f42).body], argT 0 [.loose ⟨0, 3, al, 0⟩ nl, .fn (.func 43) [] []], [[], [(0, (false, .cols ml [.str tl, .int .i64 vl, .int .i64 gl]))]], 1⟩ (proj 1 [] Kst Kret) =
  Te42a test Kst Kret al nl ml tl vl gl := by kernel_rfl
theorem be42a (al nl ml : Nat) (tl : Nat → ByteArray) (vl gl : Nat → Int) (Kst : KS) (Kret : KR) (x : St42a ⊕ Rt42a) (hS : HS 1 400 ((I42a al nl ml tl vl gl)) Kst x) (hR : HR 1 400 ((V42a al nl ml tl vl gl)) (fun r => [newL (1 + 1) ((N42a al nl ml tl vl gl) r) ++ [(0, (false, .cols ml [.str tl, .int .i64 vl, .int .i64 gl]))]]) Kret x) (h : (bif (decide (al + nl ≤ ml ∧ nl ≤ 1000000))
 then (bif (decide
 (S.idx (fun j => decide ((↑(ByteArray.size (tl (j + al))) : Int) > (60 : Int))) (0)
 nl ≥
 (0 : Int)))
 then (some (.inr (true)))
 else (some (.inr (false))))
 else (none) : Option (St42a ⊕ Rt42a)) = some x) : Te42a cond Kst Kret al nl ml tl vl gl := by
  unfold Te42a
  exact bif_split h
   (fun c0 h => bif_split h
   (fun c1 h => ret_at hR _ h (fun n => n) rfl rfl rfl (rn_bool_tf rfl) rfl (entl_bor (use_lo rfl) rfl rfl entl_nil))
   (fun c1 h => ret_at hR _ h (fun n => n) rfl rfl rfl (rn_bool_tf rfl) rfl (entl_bor (use_lo rfl) rfl rfl entl_nil)))
   (fun c0 h => no_some h)
theorem a42a (al nl ml : Nat) (tl : Nat → ByteArray) (vl gl : Nat → Int) {r : Rt42a} (h : Goes ((q42a al nl ml tl vl gl)) ((p42a al nl ml tl vl gl)) r) : CallR Try.prog 42 [.loose ⟨0, 3, al, 0⟩ nl, .fn (.func 43) [] []] [[(0, (false, .cols ml [.str tl, .int .i64 vl, .int .i64 gl]))]] 1 ((V42a al nl ml tl vl gl) r) ((fun r => [newL (1 + 1) ((N42a al nl ml tl vl gl) r) ++ [(0, (false, .cols ml [.str tl, .int .i64 vl, .int .i64 gl]))]]) r) 400 ∧ ∃ F, Try.prog.funcs[42]? = some F ∧ F.body.isSome = true ∧ (F.name == "runtime.NumGoroutine") = false := by
  refine dec_calls (f := 42) (lo := 1) (hi := 400) (H := [[(0, (false, .cols ml [.str tl, .int .i64 vl, .int .i64 gl]))]]) (args := [.loose ⟨0, 3, al, 0⟩ nl, .fn (.func 43) [] []]) Try.envOk Try.mixed xF0_ok ((I42a al nl ml tl vl gl)) ((V42a al nl ml tl vl gl)) (fun r => [newL (1 + 1) ((N42a al nl ml tl vl gl) r) ++ [(0, (false, .cols ml [.str tl, .int .i64 vl, .int .i64 gl]))]]) (fn := mkFn Try.f42) (ts := []) (n := 400) rfl (by decide) (by simp) (names_of rfl) ?_ ?_ ?_ h
  · intro s; exact s.elim
  · intro Kst Kret x hS hR h
    exact Holds.eq (te42a cond Kst Kret al nl ml tl vl gl) (be42a al nl ml tl vl gl Kst Kret x hS hR h)
  · intro Kst Kret x hS hR s h; exact s.elim
noncomputable def k42a  : Con := ⟨42, [.one (.list [.str, .int .i64, .int .i64]), .fn 43 []], fun (x : (Nat × Nat × Nat × (Nat → ByteArray) × (Nat → Int) × (Nat → Int) × Unit) × (Unit) × Unit) => (fun (al nl ml : Nat) (tl : Nat → ByteArray) (vl : Nat → Int) (gl : Nat → Int) => decide (al + nl ≤ ml ∧ nl ≤ 1000000)) x.1.1 x.1.2.1 x.1.2.2.1 x.1.2.2.2.1 x.1.2.2.2.2.1 x.1.2.2.2.2.2.1, fun (x : (Nat × Nat × Nat × (Nat → ByteArray) × (Nat → Int) × (Nat → Int) × Unit) × (Unit) × Unit) => (fun (al nl ml : Nat) (tl : Nat → ByteArray) (vl : Nat → Int) (gl : Nat → Int) => (V42a al nl ml tl vl gl) (S.any (fun j => decide (((tl (j + al)).size : Int) > 60)) nl)) x.1.1 x.1.2.1 x.1.2.2.1 x.1.2.2.2.1 x.1.2.2.2.2.1 x.1.2.2.2.2.2.1, fun (x : (Nat × Nat × Nat × (Nat → ByteArray) × (Nat → Int) × (Nat → Int) × Unit) × (Unit) × Unit) => (fun (al nl ml : Nat) (tl : Nat → ByteArray) (vl : Nat → Int) (gl : Nat → Int) => (N42a al nl ml tl vl gl) (S.any (fun j => decide (((tl (j + al)).size : Int) > 60)) nl)) x.1.1 x.1.2.1 x.1.2.2.1 x.1.2.2.2.1 x.1.2.2.2.2.1 x.1.2.2.2.2.2.1, fun _ _ => .dead⟩
theorem s42a (al nl ml : Nat) (tl : Nat → ByteArray) (vl gl : Nat → Int) (hp : al + nl ≤ ml ∧ nl ≤ 1000000) : Goes ((q42a al nl ml tl vl gl)) ((p42a al nl ml tl vl gl)) (S.any (fun j => decide (((tl (j + al)).size : Int) > 60)) nl) := by
  have hp' := hp
  obtain ⟨hp1, hp2⟩ := hp
  rw [← idx_any (p := (fun j => decide (((tl (j + al)).size : Int) > 60))) (n := nl)]
  show Goes _ _ _
  unfold p42a
  repeat' first
    | with_reducible refine goes_if (fun h => ?_) (fun h => ?_) <;> (try simp only [SH] at h)
    | exact goes_none.mpr (by omega)
  all_goals first | (exfalso; omega) | (exfalso; simp_all; done) | (refine goes_inr.mpr ?_; first | rfl | (symm; simp_all; done) | (symm; simp_all; omega))
theorem k42a_ok  : k42a.ok Try.prog := by
  intro x hx
  obtain ⟨⟨al, nl, ml, tl, vl, gl, _⟩, ⟨_⟩, _⟩ := x
  obtain ⟨h1, h2⟩ := a42a al nl ml tl vl gl (s42a al nl ml tl vl gl (of_dec hx rfl))
  exact ⟨⟨400, (by decide : 1 + 1 + 0 ≤ 400), h1⟩, h2⟩
abbrev St42b  := Empty
abbrev Rt42b  := Bool
noncomputable def V42b (al nl ml : Nat) (tl : Nat → ByteArray) (vl gl : Nat → Int) (tg : ByteArray) (vg gg : Int) (r : Rt42b) : PV := PV.bool r
noncomputable def N42b (al nl ml : Nat) (tl : Nat → ByteArray) (vl gl : Nat → Int) (tg : ByteArray) (vg gg : Int) (r : Rt42b) : List Blk := []
noncomputable def I42b (al nl ml : Nat) (tl : Nat → ByteArray) (vl gl : Nat → Int) (tg : ByteArray) (vg gg : Int) : St42b → Hd := fun s => s.elim
noncomputable def q42b (al nl ml : Nat) (tl : Nat → ByteArray) (vl gl : Nat → Int) (tg : ByteArray) (vg gg : Int) : St42b → Option (St42b ⊕ Rt42b) := fun s => s.elim
noncomputable def p42b (al nl ml : Nat) (tl : Nat → ByteArray) (vl gl : Nat → Int) (tg : ByteArray) (vg gg : Int) : Option (St42b ⊕ Rt42b) := bif (decide (al + nl ≤ ml ∧ nl ≤ 1000000))
 then (bif (decide (S.idx (fun j => S.eqS (tl (j + al)) tg) (0) nl ≥ (0 : Int)))
 then (some (.inr (true)))
 else (some (.inr (false))))
 else (none)
noncomputable def Te42b (test : Bool → Prop → Prop → Prop) (Kst : KS) (Kret : KR) (al nl ml : Nat) (tl : Nat → ByteArray) (vl gl : Nat → Int) (tg : ByteArray) (vg gg : Int) : Prop :=
  test (decide (al + nl ≤ ml ∧ nl ≤ 1000000))
 (test (decide (S.idx (fun j => S.eqS (tl (j + al)) tg) (0) nl ≥ (0 : Int)))
 (Kret (PV.tf true) ([[(1, false,
 Blk.cells [PV.str tg, PV.int IntKind.i64 vg, PV.int IntKind.i64 gg]),
 (0, false,
 Blk.cols ml [Col.str tl, Col.int IntKind.i64 vl, Col.int IntKind.i64 gl])]]) (3))
 (Kret (PV.tf false) ([[(1, false,
 Blk.cells [PV.str tg, PV.int IntKind.i64 vg, PV.int IntKind.i64 gg]),
 (0, false,
 Blk.cols ml [Col.str tl, Col.int IntKind.i64 vl, Col.int IntKind.i64 gl])]]) (3)))
 (False)
theorem te42b (test : Bool → Prop → Prop → Prop) (Kst : KS) (Kret : KR) (al nl ml : Nat) (tl : Nat → ByteArray) (vl gl : Nat → Int) (tg : ByteArray) (vg gg : Int) : run test Try.env true (xF0 test) true 400 ⟨42, [.cd (mkFn Try.f42).body], argT 0 [.loose ⟨0, 3, al, 0⟩ nl, .fn (.func 50) [] [.ptr ⟨1, 0, 0, 0⟩]], [[], [(0, (false, .cols ml [.str tl, .int .i64 vl, .int .i64 gl])), (1, (false, .cells [.str tg, .int .i64 vg, .int .i64 gg]))]], 2⟩ (proj 2 [] Kst Kret) =
  Te42b test Kst Kret al nl ml tl vl gl tg vg gg := by kernel_rfl
theorem be42b (al nl ml : Nat) (tl : Nat → ByteArray) (vl gl : Nat → Int) (tg : ByteArray) (vg gg : Int) (Kst : KS) (Kret : KR) (x : St42b ⊕ Rt42b) (hS : HS 2 400 ((I42b al nl ml tl vl gl tg vg gg)) Kst x) (hR : HR 2 400 ((V42b al nl ml tl vl gl tg vg gg)) (fun r => [newL (2 + 1) ((N42b al nl ml tl vl gl tg vg gg) r) ++ [(0, (false, .cols ml [.str tl, .int .i64 vl, .int .i64 gl])), (1, (false, .cells [.str tg, .int .i64 vg, .int .i64 gg]))]]) Kret x) (h : (bif (decide (al + nl ≤ ml ∧ nl ≤ 1000000))
 then (bif (decide (S.idx (fun j => S.eqS (tl (j + al)) tg) (0) nl ≥ (0 : Int)))
 then (some (.inr (true)))
 else (some (.inr (false))))
 else (none) : Option (St42b ⊕ Rt42b)) = some x) : Te42b cond Kst Kret al nl ml tl vl gl tg vg gg := by
  unfold Te42b
  exact bif_split h
   (fun c0 h => bif_split h
   (fun c1 h => ret_at hR _ h (fun n => n) rfl rfl rfl (rn_bool_tf rfl) rfl (entl_bor (use_lo rfl) rfl rfl (entl_borc (use_lo rfl) rfl rfl entl_nil)))
   (fun c1 h => ret_at hR _ h (fun n => n) rfl rfl rfl (rn_bool_tf rfl) rfl (entl_bor (use_lo rfl) rfl rfl (entl_borc (use_lo rfl) rfl rfl entl_nil))))
   (fun c0 h => no_some h)
theorem a42b (al nl ml : Nat) (tl : Nat → ByteArray) (vl gl : Nat → Int) (tg : ByteArray) (vg gg : Int) {r : Rt42b} (h : Goes ((q42b al nl ml tl vl gl tg vg gg)) ((p42b al nl ml tl vl gl tg vg gg)) r) : CallR Try.prog 42 [.loose ⟨0, 3, al, 0⟩ nl, .fn (.func 50) [] [.ptr ⟨1, 0, 0, 0⟩]] [[(0, (false, .cols ml [.str tl, .int .i64 vl, .int .i64 gl])), (1, (false, .cells [.str tg, .int .i64 vg, .int .i64 gg]))]] 2 ((V42b al nl ml tl vl gl tg vg gg) r) ((fun r => [newL (2 + 1) ((N42b al nl ml tl vl gl tg vg gg) r) ++ [(0, (false, .cols ml [.str tl, .int .i64 vl, .int .i64 gl])), (1, (false, .cells [.str tg, .int .i64 vg, .int .i64 gg]))]]) r) 400 ∧ ∃ F, Try.prog.funcs[42]? = some F ∧ F.body.isSome = true ∧ (F.name == "runtime.NumGoroutine") = false := by
  refine dec_calls (f := 42) (lo := 2) (hi := 400) (H := [[(0, (false, .cols ml [.str tl, .int .i64 vl, .int .i64 gl])), (1, (false, .cells [.str tg, .int .i64 vg, .int .i64 gg]))]]) (args := [.loose ⟨0, 3, al, 0⟩ nl, .fn (.func 50) [] [.ptr ⟨1, 0, 0, 0⟩]]) Try.envOk Try.mixed xF0_ok ((I42b al nl ml tl vl gl tg vg gg)) ((V42b al nl ml tl vl gl tg vg gg)) (fun r => [newL (2 + 1) ((N42b al nl ml tl vl gl tg vg gg) r) ++ [(0, (false, .cols ml [.str tl, .int .i64 vl, .int .i64 gl])), (1, (false, .cells [.str tg, .int .i64 vg, .int .i64 gg]))]]) (fn := mkFn Try.f42) (ts := []) (n := 400) rfl (by decide) (by simp) (names_of rfl) ?_ ?_ ?_ h
  · intro s; exact s.elim
  · intro Kst Kret x hS hR h
    exact Holds.eq (te42b cond Kst Kret al nl ml tl vl gl tg vg gg) (be42b al nl ml tl vl gl tg vg gg Kst Kret x hS hR h)
  · intro Kst Kret x hS hR s h; exact s.elim
noncomputable def k42b  : Con := ⟨42, [.one (.list [.str, .int .i64, .int .i64]), .fn 50 [.cell [.str, .int .i64, .int .i64]]], fun (x : (Nat × Nat × Nat × (Nat → ByteArray) × (Nat → Int) × (Nat → Int) × Unit) × ((ByteArray × Int × Int × Unit) × Unit) × Unit) => (fun (al nl ml : Nat) (tl : Nat → ByteArray) (vl : Nat → Int) (gl : Nat → Int) (tg : ByteArray) (vg : Int) (gg : Int) => decide (al + nl ≤ ml ∧ nl ≤ 1000000)) x.1.1 x.1.2.1 x.1.2.2.1 x.1.2.2.2.1 x.1.2.2.2.2.1 x.1.2.2.2.2.2.1 x.2.1.1.1 x.2.1.1.2.1 x.2.1.1.2.2.1, fun (x : (Nat × Nat × Nat × (Nat → ByteArray) × (Nat → Int) × (Nat → Int) × Unit) × ((ByteArray × Int × Int × Unit) × Unit) × Unit) => (fun (al nl ml : Nat) (tl : Nat → ByteArray) (vl : Nat → Int) (gl : Nat → Int) (tg : ByteArray) (vg : Int) (gg : Int) => (V42b al nl ml tl vl gl tg vg gg) (S.any (fun j => S.eqS (tl (j + al)) tg) nl)) x.1.1 x.1.2.1 x.1.2.2.1 x.1.2.2.2.1 x.1.2.2.2.2.1 x.1.2.2.2.2.2.1 x.2.1.1.1 x.2.1.1.2.1 x.2.1.1.2.2.1, fun (x : (Nat × Nat × Nat × (Nat → ByteArray) × (Nat → Int) × (Nat → Int) × Unit) × ((ByteArray × Int × Int × Unit) × Unit) × Unit) => (fun (al nl ml : Nat) (tl : Nat → ByteArray) (vl : Nat → Int) (gl : Nat → Int) (tg : ByteArray) (vg : Int) (gg : Int) => (N42b al nl ml tl vl gl tg vg gg) (S.any (fun j => S.eqS (tl (j + al)) tg) nl)) x.1.1 x.1.2.1 x.1.2.2.1 x.1.2.2.2.1 x.1.2.2.2.2.1 x.1.2.2.2.2.2.1 x.2.1.1.1 x.2.1.1.2.1 x.2.1.1.2.2.1, fun _ _ => .dead⟩
theorem s42b (al nl ml : Nat) (tl : Nat → ByteArray) (vl gl : Nat → Int) (tg : ByteArray) (vg gg : Int) (hp : al + nl ≤ ml ∧ nl ≤ 1000000) : Goes ((q42b al nl ml tl vl gl tg vg gg)) ((p42b al nl ml tl vl gl tg vg gg)) (S.any (fun j => S.eqS (tl (j + al)) tg) nl) := by
  have hp' := hp
  obtain ⟨hp1, hp2⟩ := hp
  rw [← idx_any (p := (fun j => S.eqS (tl (j + al)) tg)) (n := nl)]
  show Goes _ _ _
  unfold p42b
  repeat' first
    | with_reducible refine goes_if (fun h => ?_) (fun h => ?_) <;> (try simp only [SH] at h)
    | exact goes_none.mpr (by omega)
  all_goals first | (exfalso; omega) | (exfalso; simp_all; done) | (refine goes_inr.mpr ?_; first | rfl | (symm; simp_all; done) | (symm; simp_all; omega))
theorem k42b_ok  : k42b.ok Try.prog := by
  intro x hx
  obtain ⟨⟨al, nl, ml, tl, vl, gl, _⟩, ⟨⟨tg, vg, gg, _⟩, _⟩, _⟩ := x
  obtain ⟨h1, h2⟩ := a42b al nl ml tl vl gl tg vg gg (s42b al nl ml tl vl gl tg vg gg (of_dec hx rfl))
  exact ⟨⟨400, (by decide : 2 + 1 + 0 ≤ 400), h1⟩, h2⟩
noncomputable def xF (test : Bool → Prop → Prop → Prop) : Ext := consX test [k49, k52, k42a, k42b]
theorem xF_ok  : ExtOk Try.prog (xF cond) := consX_ok ⟨k49_ok, k52_ok, k42a_ok, k42b_ok, trivial⟩
namespace S
def okD (d f : Int) : Bool := decide ((0 ≤ d ∧ d ≤ 1000000) ∧ 0 ≤ f ∧ f ≤ 1000000)
def staE (e : Int) (t : Nat → ByteArray) (v g : Nat → Int) : Nat → Nat → Int
  | _, 0 => e
  | i, k + 1 => if isNam (t i) = true then (if any (fun j => eqS (t j) (t i)) i = true then 5 else if okD (v i) (g i) = true then staE e t v g (i + 1) k else 6) else 2
def netE (n : Nat) (t : Nat → ByteArray) (v g : Nat → Int) (de : Int) : Int := if n = 0 then 7 else if 12 < n then 3 else staE (if 0 ≤ de ∧ de ≤ 1000000 then 0 else 6) t v g 0 n
def fewB (n : Nat) (t : Nat → ByteArray) : Bool := decide (n ≤ 20) && !any (fun j => decide (((t j).size : Int) > 60)) n
end S
theorem staE_ok  {e : Int} {t : Nat → ByteArray} {v g : Nat → Int} : ∀ {k i : Nat}, S.staE e t v g i k = 0 → e = 0 ∧ ∀ j, i ≤ j → j < i + k → (0 ≤ v j ∧ v j ≤ 1000000) ∧ 0 ≤ g j ∧ g j ≤ 1000000
  | 0, i, h => ⟨h, fun j h1 h2 => by omega⟩
  | k + 1, i, h => by
    simp only [S.staE] at h
    split at h
    · split at h
      · cases h
      · split at h
        · rename_i h1
          obtain ⟨q1, q2⟩ := staE_ok h
          refine ⟨q1, fun j h2 h3 => ?_⟩
          rcases Nat.lt_or_ge i j with h4 | h4
          · exact q2 j h4 (by omega)
          · obtain rfl : j = i := by omega
            exact of_decide_eq_true h1
        · cases h
    · cases h
theorem net_ok  {n : Nat} {t : Nat → ByteArray} {v g : Nat → Int} {de : Int} (h : S.netE n t v g de = 0) : (1 ≤ n ∧ n ≤ 12) ∧ (0 ≤ de ∧ de ≤ 1000000) ∧ ∀ j, j < n → (0 ≤ v j ∧ v j ≤ 1000000) ∧ 0 ≤ g j ∧ g j ≤ 1000000 := by
  unfold S.netE at h
  split at h
  · cases h
  · split at h
    · cases h
    · obtain ⟨q1, q2⟩ := staE_ok h
      refine ⟨by omega, ?_, fun j hj => q2 j (Nat.zero_le _) (by omega)⟩
      split at q1
      · assumption
      · cases q1
theorem staE_e  {e : Int} {t : Nat → ByteArray} {v g : Nat → Int} {i k : Nat} : S.staE e t v g i (k + 1) = if S.isNam (t i) = true then (if S.any (fun j => S.eqS (t j) (t i)) i = true then 5 else if (0 ≤ v i ∧ v i ≤ 1000000) ∧ 0 ≤ g i ∧ g i ≤ 1000000 then S.staE e t v g (i + 1) k else 6) else 2 := by
  rw [S.staE]; simp only [S.okD, decide_eq_true_eq]
inductive St19 where
  | h0 (x0 : Int)
abbrev Rt19  := Int
noncomputable def V19 (aq nq mq : Nat) (tq : Nat → ByteArray) (vq gq : Nat → Int) (de : Int) (r : Rt19) : PV := PV.int IntKind.i64 r
noncomputable def N19 (aq nq mq : Nat) (tq : Nat → ByteArray) (vq gq : Nat → Int) (de : Int) (r : Rt19) : List Blk := []
noncomputable def I19 (aq nq mq : Nat) (tq : Nat → ByteArray) (vq gq : Nat → Int) (de : Int) : St19 → Hd
  | .h0 x0 => ⟨hd Try.f19 0, [PV.ptr (PA.mk (1) (0) (0) (0)),
 PV.loose (PA.mk (0) (3) aq (0)) nq, PV.int IntKind.i64 (↑nq : Int),
 PV.int IntKind.i64 x0], [[(1, (true, Blk.cells [PV.loose (PA.mk (0) (3) aq (0)) nq, PV.int IntKind.i64 de]))], [(0, (false, .cols mq [.str tq, .int .i64 vq, .int .i64 gq]))]], 2⟩
noncomputable def q19 (aq nq mq : Nat) (tq : Nat → ByteArray) (vq gq : Nat → Int) (de : Int) : St19 → Option (St19 ⊕ Rt19)
  | .h0 x0 => bif (decide (x0 < (↑nq : Int)))
 then (bif (decide ((0 : Int) ≤ x0 ∧ x0 < (↑nq : Int)))
 then (bif (decide (Int.toNat x0 + aq < mq))
 then (bif (S.isNam (tq (Int.toNat x0 + aq)))
 then (bif (decide ((0 : Int) ≤ Option.getD Option.none (0 : Int) ∧ (0 : Int) ≤ x0 ∧ x0 ≤ (↑nq : Int)))
 then (bif (decide (0 + aq + Int.toNat x0 ≤ mq ∧ Int.toNat x0 ≤ 1000000))
 then (bif (S.any (fun j => S.eqS (tq (j + (0 + aq))) (tq (Int.toNat x0 + aq))) (Int.toNat x0))
 then (some (.inr ((5 : Int))))
 else (bif (decide (vq (Int.toNat x0 + aq) ≥ (0 : Int)))
 then (bif (decide (vq (Int.toNat x0 + aq) ≤ (1000000 : Int)))
 then (bif (decide (gq (Int.toNat x0 + aq) ≥ (0 : Int)))
 then (bif (decide (gq (Int.toNat x0 + aq) ≤ (1000000 : Int)))
 then (bif (lim IntKind.i64 (x0 + (1 : Int)))
 then (some (.inl (.h0 (x0 + (1 : Int)))))
 else (none))
 else (some (.inr ((6 : Int)))))
 else (some (.inr ((6 : Int)))))
 else (some (.inr ((6 : Int)))))
 else (some (.inr ((6 : Int))))))
 else (none))
 else (none))
 else (some (.inr ((2 : Int)))))
 else (none))
 else (none))
 else (bif (decide (de ≥ (0 : Int)))
 then (bif (decide (de ≤ (1000000 : Int)))
 then (some (.inr ((0 : Int))))
 else (some (.inr ((6 : Int)))))
 else (some (.inr ((6 : Int)))))
noncomputable def p19 (aq nq mq : Nat) (tq : Nat → ByteArray) (vq gq : Nat → Int) (de : Int) : Option (St19 ⊕ Rt19) := bif ((↑nq : Int) == (0 : Int))
 then (some (.inr ((7 : Int))))
 else (bif (decide ((↑nq : Int) > (12 : Int)))
 then (some (.inr ((3 : Int))))
 else (some (.inl (.h0 ((0 : Int))))))
noncomputable def Te19 (test : Bool → Prop → Prop → Prop) (Kst : KS) (Kret : KR) (aq nq mq : Nat) (tq : Nat → ByteArray) (vq gq : Nat → Int) (de : Int) : Prop :=
  test ((↑nq : Int) == (0 : Int))
 (Kret (PV.int IntKind.i64 (7 : Int)) ([[(0, false,
 Blk.cols mq [Col.str tq, Col.int IntKind.i64 vq, Col.int IntKind.i64 gq])]]) (2))
 (test (decide ((↑nq : Int) > (12 : Int)))
 (Kret (PV.int IntKind.i64 (3 : Int)) ([[(0, false,
 Blk.cols mq [Col.str tq, Col.int IntKind.i64 vq, Col.int IntKind.i64 gq])]]) (2))
 (Kst (hd Try.f19 0) ([PV.ptr (PA.mk (1) (0) (0) (0)),
 PV.loose (PA.mk (0) (3) aq (0)) nq, PV.int IntKind.i64 (↑nq : Int),
 PV.int IntKind.i64 (0 : Int)]) ([[(0, false,
 Blk.cols mq [Col.str tq, Col.int IntKind.i64 vq, Col.int IntKind.i64 gq]),
 (1, true,
 Blk.cells
 [PV.loose (PA.mk (0) (3) aq (0)) nq, PV.int IntKind.i64 de])]]) (2)))
theorem te19 (test : Bool → Prop → Prop → Prop) (Kst : KS) (Kret : KR) (aq nq mq : Nat) (tq : Nat → ByteArray) (vq gq : Nat → Int) (de : Int) : run test Try.env true (xF test) true 400 ⟨19, [.cd (mkFn Try.f19).body], argT 0 [.agg [.loose ⟨0, 3, aq, 0⟩ nq, .int .i64 de]], [[], [(0, (false, .cols mq [.str tq, .int .i64 vq, .int .i64 gq]))]], 1⟩ (proj 1 [1, 14, 15, 16] Kst Kret) =
  Te19 test Kst Kret aq nq mq tq vq gq de := by kernel_rfl
noncomputable def T19_0 (test : Bool → Prop → Prop → Prop) (Kst : KS) (Kret : KR) (aq nq mq : Nat) (tq : Nat → ByteArray) (vq gq : Nat → Int) (de x0 : Int) : Prop :=
  test (decide (x0 < (↑nq : Int)))
 (test (decide ((0 : Int) ≤ x0 ∧ x0 < (↑nq : Int)))
 (test (decide (Int.toNat x0 + aq < mq))
 (test (decide (Int.toNat x0 + aq < mq))
 (test (decide (Int.toNat x0 + aq < mq))
 (test (true)
 (test (S.isNam (tq (Int.toNat x0 + aq)))
 (test (decide ((0 : Int) ≤ Option.getD Option.none (0 : Int) ∧ (0 : Int) ≤ x0 ∧ x0 ≤ (↑nq : Int)))
 (test (decide (0 + aq + Int.toNat x0 ≤ mq ∧ Int.toNat x0 ≤ 1000000))
 (test (S.any (fun j => S.eqS (tq (j + (0 + aq))) (tq (Int.toNat x0 + aq))) (Int.toNat x0))
 (Kret (PV.int IntKind.i64 (5 : Int)) ([[(0, false,
 Blk.cols mq [Col.str tq, Col.int IntKind.i64 vq, Col.int IntKind.i64 gq])]]) (5))
 (test (decide (vq (Int.toNat x0 + aq) ≥ (0 : Int)))
 (test (decide (vq (Int.toNat x0 + aq) ≤ (1000000 : Int)))
 (test (decide (gq (Int.toNat x0 + aq) ≥ (0 : Int)))
 (test (decide (gq (Int.toNat x0 + aq) ≤ (1000000 : Int)))
 (test (lim IntKind.i64 (x0 + (1 : Int)))
 (Kst (hd Try.f19 0) ([PV.ptr (PA.mk (1) (0) (0) (0)),
 PV.loose (PA.mk (0) (3) aq (0)) nq, PV.int IntKind.i64 (↑nq : Int),
 PV.int IntKind.i64 (x0 + (1 : Int))]) ([[(0, false,
 Blk.cols mq [Col.str tq, Col.int IntKind.i64 vq, Col.int IntKind.i64 gq]),
 (1, true,
 Blk.cells
 [PV.loose (PA.mk (0) (3) aq (0)) nq, PV.int IntKind.i64 de])]]) (5))
 (False))
 (Kret (PV.int IntKind.i64 (6 : Int)) ([[(0, false,
 Blk.cols mq [Col.str tq, Col.int IntKind.i64 vq, Col.int IntKind.i64 gq])]]) (5)))
 (Kret (PV.int IntKind.i64 (6 : Int)) ([[(0, false,
 Blk.cols mq [Col.str tq, Col.int IntKind.i64 vq, Col.int IntKind.i64 gq])]]) (5)))
 (Kret (PV.int IntKind.i64 (6 : Int)) ([[(0, false,
 Blk.cols mq [Col.str tq, Col.int IntKind.i64 vq, Col.int IntKind.i64 gq])]]) (5)))
 (Kret (PV.int IntKind.i64 (6 : Int)) ([[(0, false,
 Blk.cols mq [Col.str tq, Col.int IntKind.i64 vq, Col.int IntKind.i64 gq])]]) (5))))
 (False))
 (False))
 (Kret (PV.int IntKind.i64 (2 : Int)) ([[(0, false,
 Blk.cols mq [Col.str tq, Col.int IntKind.i64 vq, Col.int IntKind.i64 gq])]]) (4)))
 (False))
 (False))
 (False))
 (False))
 (False))
 (test (decide (de ≥ (0 : Int)))
 (test (decide (de ≤ (1000000 : Int)))
 (Kret (PV.int IntKind.i64 (0 : Int)) ([[(0, false,
 Blk.cols mq [Col.str tq, Col.int IntKind.i64 vq, Col.int IntKind.i64 gq])]]) (2))
 (Kret (PV.int IntKind.i64 (6 : Int)) ([[(0, false,
 Blk.cols mq [Col.str tq, Col.int IntKind.i64 vq, Col.int IntKind.i64 gq])]]) (2)))
 (Kret (PV.int IntKind.i64 (6 : Int)) ([[(0, false,
 Blk.cols mq [Col.str tq, Col.int IntKind.i64 vq, Col.int IntKind.i64 gq])]]) (2)))
theorem t19_0 (test : Bool → Prop → Prop → Prop) (Kst : KS) (Kret : KR) (aq nq mq : Nat) (tq : Nat → ByteArray) (vq gq : Nat → Int) (de x0 : Int) : run test Try.env true (xF test) true 400 ⟨19, hd Try.f19 0, zipT [1, 14, 15, 16] [PV.ptr (PA.mk (1) (0) (0) (0)),
 PV.loose (PA.mk (0) (3) aq (0)) nq, PV.int IntKind.i64 (↑nq : Int),
 PV.int IntKind.i64 x0], [[(1, (true, Blk.cells [PV.loose (PA.mk (0) (3) aq (0)) nq, PV.int IntKind.i64 de]))], [(0, (false, .cols mq [.str tq, .int .i64 vq, .int .i64 gq]))]], 2⟩ (proj 1 [1, 14, 15, 16] Kst Kret) =
  T19_0 test Kst Kret aq nq mq tq vq gq de x0 := by kernel_rfl
theorem be19 (aq nq mq : Nat) (tq : Nat → ByteArray) (vq gq : Nat → Int) (de : Int) (Kst : KS) (Kret : KR) (x : St19 ⊕ Rt19) (hS : HS 1 400 ((I19 aq nq mq tq vq gq de)) Kst x) (hR : HR 1 400 ((V19 aq nq mq tq vq gq de)) (fun r => [newL (1 + 1) ((N19 aq nq mq tq vq gq de) r) ++ [(0, (false, .cols mq [.str tq, .int .i64 vq, .int .i64 gq]))]]) Kret x) (h : p19 aq nq mq tq vq gq de = some x) : Te19 cond Kst Kret aq nq mq tq vq gq de := by
  unfold Te19
  unfold p19 at h
  refine bif_split h
   (fun c0 h => ret_at hR _ h (fun n => n) rfl rfl rfl (rn_int rfl) rfl (entl_bor (use_lo rfl) rfl rfl entl_nil))
   (fun c0 h => bif_split h
   (fun c1 h => ret_at hR _ h (fun n => n) rfl rfl rfl (rn_int rfl) rfl (entl_bor (use_lo rfl) rfl rfl entl_nil))
   (fun c1 h => stop_at hS _ h (fun n => bif Nat.beq n 1 then 1 else n) rfl rfl rfl ⟨(rn_ptr (use_own rfl) rfl rfl), ⟨(rn_loose (use_lo rfl) rfl rfl rfl), ⟨(rn_int rfl), ⟨(rn_int rfl), trivial⟩⟩⟩⟩ rfl (entl_b (use_own rfl) rfl (by simp) (rb_cells ⟨(rn_loose (use_lo rfl) rfl rfl rfl), (rn_int rfl), trivial⟩) (entl_bor (use_lo rfl) rfl rfl entl_nil))))
theorem b19_0 (aq nq mq : Nat) (tq : Nat → ByteArray) (vq gq : Nat → Int) (de : Int) (Kst : KS) (Kret : KR) (x : St19 ⊕ Rt19) (hS : HS 1 400 ((I19 aq nq mq tq vq gq de)) Kst x) (hR : HR 1 400 ((V19 aq nq mq tq vq gq de)) (fun r => [newL (1 + 1) ((N19 aq nq mq tq vq gq de) r) ++ [(0, (false, .cols mq [.str tq, .int .i64 vq, .int .i64 gq]))]]) Kret x) (x0 : Int) (h : (bif (decide (x0 < (↑nq : Int)))
 then (bif (decide ((0 : Int) ≤ x0 ∧ x0 < (↑nq : Int)))
 then (bif (decide (Int.toNat x0 + aq < mq))
 then (bif (S.isNam (tq (Int.toNat x0 + aq)))
 then (bif (decide ((0 : Int) ≤ Option.getD Option.none (0 : Int) ∧ (0 : Int) ≤ x0 ∧ x0 ≤ (↑nq : Int)))
 then (bif (decide (0 + aq + Int.toNat x0 ≤ mq ∧ Int.toNat x0 ≤ 1000000))
 then (bif (S.any (fun j => S.eqS (tq (j + (0 + aq))) (tq (Int.toNat x0 + aq))) (Int.toNat x0))
 then (some (.inr ((5 : Int))))
 else (bif (decide (vq (Int.toNat x0 + aq) ≥ (0 : Int)))
 then (bif (decide (vq (Int.toNat x0 + aq) ≤ (1000000 : Int)))
 then (bif (decide (gq (Int.toNat x0 + aq) ≥ (0 : Int)))
 then (bif (decide (gq (Int.toNat x0 + aq) ≤ (1000000 : Int)))
 then (bif (lim IntKind.i64 (x0 + (1 : Int)))
 then (some (.inl (.h0 (x0 + (1 : Int)))))
 else (none))
 else (some (.inr ((6 : Int)))))
 else (some (.inr ((6 : Int)))))
 else (some (.inr ((6 : Int)))))
 else (some (.inr ((6 : Int))))))
 else (none))
 else (none))
 else (some (.inr ((2 : Int)))))
 else (none))
 else (none))
 else (bif (decide (de ≥ (0 : Int)))
 then (bif (decide (de ≤ (1000000 : Int)))
 then (some (.inr ((0 : Int))))
 else (some (.inr ((6 : Int)))))
 else (some (.inr ((6 : Int))))) : Option (St19 ⊕ Rt19)) = some x) : T19_0 cond Kst Kret aq nq mq tq vq gq de x0 := by
  unfold T19_0
  refine bif_split h
   (fun c0 h => bif_split h
   (fun c1 h => bif_split h
   (fun c2 h => cond_yes c2 (cond_yes c2 (cond_yes rfl (bif_split h
   (fun c3 h => bif_split h
   (fun c4 h => bif_split h
   (fun c5 h => bif_split h
   (fun c6 h => ?_)
   (fun c6 h => bif_split h
   (fun c7 h => bif_split h
   (fun c8 h => bif_split h
   (fun c9 h => bif_split h
   (fun c10 h => bif_split h
   (fun c11 h => stop_at hS _ h (fun n => bif Nat.beq n 1 then 1 else n) rfl rfl rfl ⟨(rn_ptr (use_own rfl) rfl rfl), ⟨(rn_loose (use_lo rfl) rfl rfl rfl), ⟨(rn_int rfl), ⟨(rn_int rfl), trivial⟩⟩⟩⟩ rfl (entl_b (use_own rfl) rfl (by simp) (rb_cells ⟨(rn_loose (use_lo rfl) rfl rfl rfl), (rn_int rfl), trivial⟩) (entl_bor (use_lo rfl) rfl rfl entl_nil)))
   (fun c11 h => ?_))
   (fun c10 h => ?_))
   (fun c9 h => ?_))
   (fun c8 h => ?_))
   (fun c7 h => ?_)))
   (fun c5 h => ?_))
   (fun c4 h => ?_))
   (fun c3 h => ?_)))))
   (fun c2 h => ?_))
   (fun c1 h => ?_))
   (fun c0 h => bif_split h
   (fun c1 h => bif_split h
   (fun c2 h => ?_)
   (fun c2 h => ?_))
   (fun c1 h => ?_))
  all_goals first
    | exact ret_at hR _ h (fun n => n) rfl rfl rfl (rn_int rfl) rfl (entl_bor (use_lo rfl) rfl rfl entl_nil)
    | exact no_some h
theorem a19 (aq nq mq : Nat) (tq : Nat → ByteArray) (vq gq : Nat → Int) (de : Int) {r : Rt19} (h : Goes ((q19 aq nq mq tq vq gq de)) ((p19 aq nq mq tq vq gq de)) r) : CallR Try.prog 19 [.agg [.loose ⟨0, 3, aq, 0⟩ nq, .int .i64 de]] [[(0, (false, .cols mq [.str tq, .int .i64 vq, .int .i64 gq]))]] 1 ((V19 aq nq mq tq vq gq de) r) ((fun r => [newL (1 + 1) ((N19 aq nq mq tq vq gq de) r) ++ [(0, (false, .cols mq [.str tq, .int .i64 vq, .int .i64 gq]))]]) r) 400 ∧ ∃ F, Try.prog.funcs[19]? = some F ∧ F.body.isSome = true ∧ (F.name == "runtime.NumGoroutine") = false := by
  refine dec_calls (f := 19) (lo := 1) (hi := 400) (H := [[(0, (false, .cols mq [.str tq, .int .i64 vq, .int .i64 gq]))]]) (args := [.agg [.loose ⟨0, 3, aq, 0⟩ nq, .int .i64 de]]) Try.envOk Try.mixed xF_ok ((I19 aq nq mq tq vq gq de)) ((V19 aq nq mq tq vq gq de)) (fun r => [newL (1 + 1) ((N19 aq nq mq tq vq gq de) r) ++ [(0, (false, .cols mq [.str tq, .int .i64 vq, .int .i64 gq]))]]) (fn := mkFn Try.f19) (ts := [1, 14, 15, 16]) (n := 400) rfl (by decide) (by simp) (names_of rfl) ?_ ?_ ?_ h
  · intro s; cases s <;> exact ⟨hd_ok _ _, by simp [I19], names_of rfl, Nat.le_of_ble_eq_true rfl⟩
  · intro Kst Kret x hS hR h
    exact Holds.eq (te19 cond Kst Kret aq nq mq tq vq gq de) (be19 aq nq mq tq vq gq de Kst Kret x hS hR h)
  · intro Kst Kret x hS hR s h
    cases s with
    | h0 x0 => exact Holds.eq (t19_0 cond Kst Kret aq nq mq tq vq gq de x0) (b19_0 aq nq mq tq vq gq de Kst Kret x hS hR x0 h)
noncomputable def k19  : Con := ⟨19, [.agg [.list [.str, .int .i64, .int .i64], .plain (.int .i64)]], fun (x : ((Nat × Nat × Nat × (Nat → ByteArray) × (Nat → Int) × (Nat → Int) × Unit) × Int × Unit) × Unit) => (fun (aq nq mq : Nat) (tq : Nat → ByteArray) (vq : Nat → Int) (gq : Nat → Int) (de : Int) => decide (aq + nq ≤ mq ∧ nq ≤ 1000000)) x.1.1.1 x.1.1.2.1 x.1.1.2.2.1 x.1.1.2.2.2.1 x.1.1.2.2.2.2.1 x.1.1.2.2.2.2.2.1 x.1.2.1, fun (x : ((Nat × Nat × Nat × (Nat → ByteArray) × (Nat → Int) × (Nat → Int) × Unit) × Int × Unit) × Unit) => (fun (aq nq mq : Nat) (tq : Nat → ByteArray) (vq : Nat → Int) (gq : Nat → Int) (de : Int) => (V19 aq nq mq tq vq gq de) ((S.netE nq (fun j => tq (j + aq)) (fun j => vq (j + aq)) (fun j => gq (j + aq)) de))) x.1.1.1 x.1.1.2.1 x.1.1.2.2.1 x.1.1.2.2.2.1 x.1.1.2.2.2.2.1 x.1.1.2.2.2.2.2.1 x.1.2.1, fun (x : ((Nat × Nat × Nat × (Nat → ByteArray) × (Nat → Int) × (Nat → Int) × Unit) × Int × Unit) × Unit) => (fun (aq nq mq : Nat) (tq : Nat → ByteArray) (vq : Nat → Int) (gq : Nat → Int) (de : Int) => (N19 aq nq mq tq vq gq de) ((S.netE nq (fun j => tq (j + aq)) (fun j => vq (j + aq)) (fun j => gq (j + aq)) de))) x.1.1.1 x.1.1.2.1 x.1.1.2.2.1 x.1.1.2.2.2.1 x.1.1.2.2.2.2.1 x.1.1.2.2.2.2.2.1 x.1.2.1, fun _ _ => .dead⟩
theorem s19' (aq nq mq : Nat) (tq : Nat → ByteArray) (vq gq : Nat → Int) (de : Int) (hp1 : aq + nq ≤ mq) (hn : nq ≤ 12) : ∀ k i : Nat, i + k = nq → Comes (q19 aq nq mq tq vq gq de) (.h0 (i : Int)) (S.staE (if 0 ≤ de ∧ de ≤ 1000000 then 0 else 6) (fun j => tq (j + aq)) (fun j => vq (j + aq)) (fun j => gq (j + aq)) i k) := by
  intro k
  induction k with
  | zero =>
    intro i hi
    simp only [S.staE]
    apply Comes.of
    show Goes _ _ _
    (first | rw [q19] | unfold q19)
    repeat' first
      | with_reducible refine goes_if (fun h => ?_) (fun h => ?_) <;> (try simp only [SH] at h)
      | exact goes_none.mpr (by omega)
    all_goals first
      | (exfalso; omega)
      | (refine goes_inr.mpr ?_; first | rfl | (rw [if_pos (by omega)]; done) | (rw [if_neg (by omega)]; done))
  | succ k ih =>
    intro i hi
    have ih := ih (i + 1) (by omega)
    rw [staE_e]
    by_cases h1 : S.isNam (tq (i + aq)) = true
    · by_cases h2 : S.any (fun j => S.eqS (tq (j + aq)) (tq (i + aq))) i = true
      · rw [if_pos h1, if_pos h2]
        apply Comes.of
        show Goes _ _ _
        (first | rw [q19] | unfold q19)
        try simp only [Nat.zero_add, Int.toNat_natCast, h1, h2]
        try show Goes _ _ _
        repeat' first
          | with_reducible refine goes_if (fun h => ?_) (fun h => ?_) <;> (try simp only [SH] at h)
          | exact goes_none.mpr (by omega)
        all_goals first | (exfalso; omega) | exact goes_inr.mpr rfl | (exfalso; simp_all; done)
      · rw [if_pos h1, if_neg h2]
        rw [Bool.not_eq_true] at h2
        apply Comes.of
        show Goes _ _ _
        (first | rw [q19] | unfold q19)
        try simp only [Nat.zero_add, Int.toNat_natCast, h1, h2]
        try show Goes _ _ _
        repeat' first
          | with_reducible refine goes_if (fun h => ?_) (fun h => ?_) <;> (try simp only [SH] at h)
          | exact goes_none.mpr (by omega)
        all_goals first | (exfalso; omega) | (rw [if_pos (by omega)]; exact ih) | (rw [if_neg (by omega)]; exact goes_inr.mpr rfl) | (exfalso; simp_all; done)
    · rw [if_neg h1]
      rw [Bool.not_eq_true] at h1
      apply Comes.of
      show Goes _ _ _
      (first | rw [q19] | unfold q19)
      try simp only [Nat.zero_add, Int.toNat_natCast, h1]
      try show Goes _ _ _
      repeat' first
        | with_reducible refine goes_if (fun h => ?_) (fun h => ?_) <;> (try simp only [SH] at h)
        | exact goes_none.mpr (by omega)
      all_goals first | (exfalso; omega) | exact goes_inr.mpr rfl | (exfalso; simp_all; done)
theorem s19 (aq nq mq : Nat) (tq : Nat → ByteArray) (vq gq : Nat → Int) (de : Int) (hp : aq + nq ≤ mq ∧ nq ≤ 1000000) : Goes ((q19 aq nq mq tq vq gq de)) ((p19 aq nq mq tq vq gq de)) ((S.netE nq (fun j => tq (j + aq)) (fun j => vq (j + aq)) (fun j => gq (j + aq)) de)) := by
  obtain ⟨hp1, hp2⟩ := hp
  unfold S.netE
  by_cases h0 : nq = 0
  · rw [if_pos h0]
    show Goes _ _ _
    unfold p19
    repeat' first
      | with_reducible refine goes_if (fun h => ?_) (fun h => ?_) <;> (try simp only [SH] at h)
      | exact goes_none.mpr (by omega)
    all_goals first | (exfalso; omega) | exact goes_inr.mpr rfl
  · rw [if_neg h0]
    by_cases h1 : 12 < nq
    · rw [if_pos h1]
      show Goes _ _ _
      unfold p19
      repeat' first
        | with_reducible refine goes_if (fun h => ?_) (fun h => ?_) <;> (try simp only [SH] at h)
        | exact goes_none.mpr (by omega)
      all_goals first | (exfalso; omega) | exact goes_inr.mpr rfl
    · rw [if_neg h1]
      have hm := s19' aq nq mq tq vq gq de hp1 (by omega) nq 0 (Nat.zero_add _)
      show Goes _ _ _
      unfold p19
      repeat' first
        | with_reducible refine goes_if (fun h => ?_) (fun h => ?_) <;> (try simp only [SH] at h)
        | exact goes_none.mpr (by omega)
      all_goals first | (exfalso; omega) | exact hm
theorem k19_ok  : k19.ok Try.prog := by
  intro x hx
  obtain ⟨⟨⟨aq, nq, mq, tq, vq, gq, _⟩, de, _⟩, _⟩ := x
  obtain ⟨h1, h2⟩ := a19 aq nq mq tq vq gq de (s19 aq nq mq tq vq gq de (of_dec hx rfl))
  exact ⟨⟨400, (by decide : 1 + 1 + 0 ≤ 400), h1⟩, h2⟩
inductive St20 where
  | h0 (x0 : Int)
  | h1 (x0 : Int) (x1 : Int) (x2 : ByteArray) (x3 : Int) (x4 : Int)
abbrev Rt20  := Int
noncomputable def V20 (aq nq mq : Nat) (tq : Nat → ByteArray) (vq gq : Nat → Int) (de : Int) (r : Rt20) : PV := PV.int IntKind.i64 r
noncomputable def N20 (aq nq mq : Nat) (tq : Nat → ByteArray) (vq gq : Nat → Int) (de : Int) (r : Rt20) : List Blk := []
noncomputable def I20 (aq nq mq : Nat) (tq : Nat → ByteArray) (vq gq : Nat → Int) (de : Int) : St20 → Hd
  | .h0 x0 => ⟨hd Try.f20 0, [PV.ptr (PA.mk (1) (0) (0) (0)), PV.int IntKind.i64 x0,
 PV.unk, PV.unk], [[(1, (true, Blk.cells [PV.loose (PA.mk (0) (3) aq (0)) nq, PV.int IntKind.i64 de]))], [(0, (false, .cols mq [.str tq, .int .i64 vq, .int .i64 gq]))]], 2⟩
  | .h1 x0 x1 x2 x3 x4 => ⟨hd Try.f20 1, [PV.ptr (PA.mk (1) (0) (0) (0)), PV.int IntKind.i64 x0,
 PV.ptr (PA.mk (2) (0) (0) (0)), PV.int IntKind.i64 x1], [[(1, (true, Blk.cells [PV.loose (PA.mk (0) (3) aq (0)) nq, PV.int IntKind.i64 de])), (2, (true, Blk.cells [PV.str x2, PV.int IntKind.i64 x3, PV.int IntKind.i64 x4]))], [(0, (false, .cols mq [.str tq, .int .i64 vq, .int .i64 gq]))]], 3⟩
noncomputable def q20 (aq nq mq : Nat) (tq : Nat → ByteArray) (vq gq : Nat → Int) (de : Int) : St20 → Option (St20 ⊕ Rt20)
  | .h0 x0 => bif (decide (x0 < (↑nq : Int)))
 then (bif (decide ((0 : Int) ≤ x0 ∧ x0 < (↑nq : Int)))
 then (bif (decide (Int.toNat x0 + aq < mq))
 then (bif (S.isNam (tq (Int.toNat x0 + aq)))
 then (some (.inl (.h1 (x0) ((0 : Int)) (tq (Int.toNat x0 + aq)) (vq (Int.toNat x0 + aq)) (gq (Int.toNat x0 + aq)))))
 else (some (.inr ((2 : Int)))))
 else (none))
 else (none))
 else (bif (decide (de < (0 : Int)))
 then (some (.inr ((6 : Int))))
 else (bif (decide (de > (1000000 : Int)))
 then (some (.inr ((6 : Int))))
 else (some (.inr ((0 : Int))))))
  | .h1 x0 x1 x2 x3 x4 => bif (decide (x1 < x0))
 then (bif (decide ((0 : Int) ≤ x1 ∧ x1 < (↑nq : Int)))
 then (bif (decide (Int.toNat x1 + aq < mq))
 then (bif (S.eqS (tq (Int.toNat x1 + aq)) x2)
 then (some (.inr ((5 : Int))))
 else (bif (lim IntKind.i64 (x1 + (1 : Int)))
 then (some (.inl (.h1 (x0) (x1 + (1 : Int)) (x2) (x3) (x4))))
 else (none)))
 else (none))
 else (none))
 else (bif (decide (x3 < (0 : Int)))
 then (some (.inr ((6 : Int))))
 else (bif (decide (x3 > (1000000 : Int)))
 then (some (.inr ((6 : Int))))
 else (bif (decide (x4 < (0 : Int)))
 then (some (.inr ((6 : Int))))
 else (bif (decide (x4 > (1000000 : Int)))
 then (some (.inr ((6 : Int))))
 else (bif (lim IntKind.i64 (x0 + (1 : Int)))
 then (some (.inl (.h0 (x0 + (1 : Int)))))
 else (none))))))
noncomputable def p20 (aq nq mq : Nat) (tq : Nat → ByteArray) (vq gq : Nat → Int) (de : Int) : Option (St20 ⊕ Rt20) := bif ((↑nq : Int) == (0 : Int))
 then (some (.inr ((7 : Int))))
 else (bif (decide ((↑nq : Int) > (12 : Int)))
 then (some (.inr ((3 : Int))))
 else (some (.inl (.h0 ((0 : Int))))))
noncomputable def Te20 (test : Bool → Prop → Prop → Prop) (Kst : KS) (Kret : KR) (aq nq mq : Nat) (tq : Nat → ByteArray) (vq gq : Nat → Int) (de : Int) : Prop :=
  test ((↑nq : Int) == (0 : Int))
 (Kret (PV.int IntKind.i64 (7 : Int)) ([[(0, false,
 Blk.cols mq [Col.str tq, Col.int IntKind.i64 vq, Col.int IntKind.i64 gq])]]) (2))
 (test (decide ((↑nq : Int) > (12 : Int)))
 (Kret (PV.int IntKind.i64 (3 : Int)) ([[(0, false,
 Blk.cols mq [Col.str tq, Col.int IntKind.i64 vq, Col.int IntKind.i64 gq])]]) (2))
 (Kst (hd Try.f20 0) ([PV.ptr (PA.mk (1) (0) (0) (0)), PV.int IntKind.i64 (0 : Int),
 PV.unk, PV.unk]) ([[(0, false,
 Blk.cols mq [Col.str tq, Col.int IntKind.i64 vq, Col.int IntKind.i64 gq]),
 (1, true,
 Blk.cells
 [PV.loose (PA.mk (0) (3) aq (0)) nq, PV.int IntKind.i64 de])]]) (2)))
theorem te20 (test : Bool → Prop → Prop → Prop) (Kst : KS) (Kret : KR) (aq nq mq : Nat) (tq : Nat → ByteArray) (vq gq : Nat → Int) (de : Int) : run test Try.env true (xF test) true 400 ⟨20, [.cd (mkFn Try.f20).body], argT 0 [.agg [.loose ⟨0, 3, aq, 0⟩ nq, .int .i64 de]], [[], [(0, (false, .cols mq [.str tq, .int .i64 vq, .int .i64 gq]))]], 1⟩ (proj 1 [1, 3, 4, 5] Kst Kret) =
  Te20 test Kst Kret aq nq mq tq vq gq de := by kernel_rfl
noncomputable def T20_0 (test : Bool → Prop → Prop → Prop) (Kst : KS) (Kret : KR) (aq nq mq : Nat) (tq : Nat → ByteArray) (vq gq : Nat → Int) (de x0 : Int) : Prop :=
  test (decide (x0 < (↑nq : Int)))
 (test (decide ((0 : Int) ≤ x0 ∧ x0 < (↑nq : Int)))
 (test (decide (Int.toNat x0 + aq < mq))
 (test (decide (Int.toNat x0 + aq < mq))
 (test (decide (Int.toNat x0 + aq < mq))
 (test (true)
 (test (S.isNam (tq (Int.toNat x0 + aq)))
 (Kst (hd Try.f20 1) ([PV.ptr (PA.mk (1) (0) (0) (0)), PV.int IntKind.i64 x0,
 PV.ptr (PA.mk (2) (0) (0) (0)), PV.int IntKind.i64 (0 : Int)]) ([[(0, false,
 Blk.cols mq [Col.str tq, Col.int IntKind.i64 vq, Col.int IntKind.i64 gq]),
 (2, true,
 Blk.cells
 [PV.str (tq (Int.toNat x0 + aq)), PV.int IntKind.i64 (vq (Int.toNat x0 + aq)),
 PV.int IntKind.i64 (gq (Int.toNat x0 + aq))]),
 (1, true,
 Blk.cells
 [PV.loose (PA.mk (0) (3) aq (0)) nq, PV.int IntKind.i64 de])]]) (4))
 (Kret (PV.int IntKind.i64 (2 : Int)) ([[(0, false,
 Blk.cols mq [Col.str tq, Col.int IntKind.i64 vq, Col.int IntKind.i64 gq])]]) (4)))
 (False))
 (False))
 (False))
 (False))
 (False))
 (test (decide (de < (0 : Int)))
 (Kret (PV.int IntKind.i64 (6 : Int)) ([[(0, false,
 Blk.cols mq [Col.str tq, Col.int IntKind.i64 vq, Col.int IntKind.i64 gq])]]) (2))
 (test (decide (de > (1000000 : Int)))
 (Kret (PV.int IntKind.i64 (6 : Int)) ([[(0, false,
 Blk.cols mq [Col.str tq, Col.int IntKind.i64 vq, Col.int IntKind.i64 gq])]]) (2))
 (Kret (PV.int IntKind.i64 (0 : Int)) ([[(0, false,
 Blk.cols mq [Col.str tq, Col.int IntKind.i64 vq, Col.int IntKind.i64 gq])]]) (2))))
theorem t20_0 (test : Bool → Prop → Prop → Prop) (Kst : KS) (Kret : KR) (aq nq mq : Nat) (tq : Nat → ByteArray) (vq gq : Nat → Int) (de x0 : Int) : run test Try.env true (xF test) true 400 ⟨20, hd Try.f20 0, zipT [1, 3, 4, 5] [PV.ptr (PA.mk (1) (0) (0) (0)), PV.int IntKind.i64 x0,
 PV.unk, PV.unk], [[(1, (true, Blk.cells [PV.loose (PA.mk (0) (3) aq (0)) nq, PV.int IntKind.i64 de]))], [(0, (false, .cols mq [.str tq, .int .i64 vq, .int .i64 gq]))]], 2⟩ (proj 1 [1, 3, 4, 5] Kst Kret) =
  T20_0 test Kst Kret aq nq mq tq vq gq de x0 := by kernel_rfl
noncomputable def T20_1 (test : Bool → Prop → Prop → Prop) (Kst : KS) (Kret : KR) (aq nq mq : Nat) (tq : Nat → ByteArray) (vq gq : Nat → Int) (de x0 x1 : Int) (x2 : ByteArray) (x3 x4 : Int) : Prop :=
  test (decide (x1 < x0))
 (test (decide ((0 : Int) ≤ x1 ∧ x1 < (↑nq : Int)))
 (test (decide (Int.toNat x1 + aq < mq))
 (test (S.eqS (tq (Int.toNat x1 + aq)) x2)
 (Kret (PV.int IntKind.i64 (5 : Int)) ([[(0, false,
 Blk.cols mq [Col.str tq, Col.int IntKind.i64 vq, Col.int IntKind.i64 gq])]]) (3))
 (test (lim IntKind.i64 (x1 + (1 : Int)))
 (Kst (hd Try.f20 1) ([PV.ptr (PA.mk (1) (0) (0) (0)), PV.int IntKind.i64 x0,
 PV.ptr (PA.mk (2) (0) (0) (0)),
 PV.int IntKind.i64 (x1 + (1 : Int))]) ([[(0, false,
 Blk.cols mq [Col.str tq, Col.int IntKind.i64 vq, Col.int IntKind.i64 gq]),
 (2, true,
 Blk.cells [PV.str x2, PV.int IntKind.i64 x3, PV.int IntKind.i64 x4]),
 (1, true,
 Blk.cells
 [PV.loose (PA.mk (0) (3) aq (0)) nq, PV.int IntKind.i64 de])]]) (3))
 (False)))
 (False))
 (False))
 (test (decide (x3 < (0 : Int)))
 (Kret (PV.int IntKind.i64 (6 : Int)) ([[(0, false,
 Blk.cols mq [Col.str tq, Col.int IntKind.i64 vq, Col.int IntKind.i64 gq])]]) (3))
 (test (decide (x3 > (1000000 : Int)))
 (Kret (PV.int IntKind.i64 (6 : Int)) ([[(0, false,
 Blk.cols mq [Col.str tq, Col.int IntKind.i64 vq, Col.int IntKind.i64 gq])]]) (3))
 (test (decide (x4 < (0 : Int)))
 (Kret (PV.int IntKind.i64 (6 : Int)) ([[(0, false,
 Blk.cols mq [Col.str tq, Col.int IntKind.i64 vq, Col.int IntKind.i64 gq])]]) (3))
 (test (decide (x4 > (1000000 : Int)))
 (Kret (PV.int IntKind.i64 (6 : Int)) ([[(0, false,
 Blk.cols mq [Col.str tq, Col.int IntKind.i64 vq, Col.int IntKind.i64 gq])]]) (3))
 (test (lim IntKind.i64 (x0 + (1 : Int)))
 (Kst (hd Try.f20 0) ([PV.ptr (PA.mk (1) (0) (0) (0)),
 PV.int IntKind.i64 (x0 + (1 : Int)),
 PV.ptr (PA.mk (2) (0) (0) (0)), PV.int IntKind.i64 x1]) ([[(0, false,
 Blk.cols mq [Col.str tq, Col.int IntKind.i64 vq, Col.int IntKind.i64 gq]),
 (2, true,
 Blk.cells [PV.str x2, PV.int IntKind.i64 x3, PV.int IntKind.i64 x4]),
 (1, true,
 Blk.cells
 [PV.loose (PA.mk (0) (3) aq (0)) nq, PV.int IntKind.i64 de])]]) (3))
 (False))))))
theorem t20_1 (test : Bool → Prop → Prop → Prop) (Kst : KS) (Kret : KR) (aq nq mq : Nat) (tq : Nat → ByteArray) (vq gq : Nat → Int) (de x0 x1 : Int) (x2 : ByteArray) (x3 x4 : Int) : run test Try.env true (xF test) true 400 ⟨20, hd Try.f20 1, zipT [1, 3, 4, 5] [PV.ptr (PA.mk (1) (0) (0) (0)), PV.int IntKind.i64 x0,
 PV.ptr (PA.mk (2) (0) (0) (0)), PV.int IntKind.i64 x1], [[(1, (true, Blk.cells [PV.loose (PA.mk (0) (3) aq (0)) nq, PV.int IntKind.i64 de])), (2, (true, Blk.cells [PV.str x2, PV.int IntKind.i64 x3, PV.int IntKind.i64 x4]))], [(0, (false, .cols mq [.str tq, .int .i64 vq, .int .i64 gq]))]], 3⟩ (proj 1 [1, 3, 4, 5] Kst Kret) =
  T20_1 test Kst Kret aq nq mq tq vq gq de x0 x1 x2 x3 x4 := by kernel_rfl
theorem be20 (aq nq mq : Nat) (tq : Nat → ByteArray) (vq gq : Nat → Int) (de : Int) (Kst : KS) (Kret : KR) (x : St20 ⊕ Rt20) (hS : HS 1 400 ((I20 aq nq mq tq vq gq de)) Kst x) (hR : HR 1 400 ((V20 aq nq mq tq vq gq de)) (fun r => [newL (1 + 1) ((N20 aq nq mq tq vq gq de) r) ++ [(0, (false, .cols mq [.str tq, .int .i64 vq, .int .i64 gq]))]]) Kret x) (h : p20 aq nq mq tq vq gq de = some x) : Te20 cond Kst Kret aq nq mq tq vq gq de := by
  unfold Te20
  unfold p20 at h
  refine bif_split h
   (fun c0 h => ret_at hR _ h (fun n => n) rfl rfl rfl (rn_int rfl) rfl (entl_bor (use_lo rfl) rfl rfl entl_nil))
   (fun c0 h => bif_split h
   (fun c1 h => ret_at hR _ h (fun n => n) rfl rfl rfl (rn_int rfl) rfl (entl_bor (use_lo rfl) rfl rfl entl_nil))
   (fun c1 h => stop_at hS _ h (fun n => bif Nat.beq n 1 then 1 else n) rfl rfl rfl ⟨(rn_ptr (use_own rfl) rfl rfl), ⟨(rn_int rfl), ⟨(rn_unk _), ⟨(rn_unk _), trivial⟩⟩⟩⟩ rfl (entl_b (use_own rfl) rfl (by simp) (rb_cells ⟨(rn_loose (use_lo rfl) rfl rfl rfl), (rn_int rfl), trivial⟩) (entl_bor (use_lo rfl) rfl rfl entl_nil))))
theorem b20_0 (aq nq mq : Nat) (tq : Nat → ByteArray) (vq gq : Nat → Int) (de : Int) (Kst : KS) (Kret : KR) (x : St20 ⊕ Rt20) (hS : HS 1 400 ((I20 aq nq mq tq vq gq de)) Kst x) (hR : HR 1 400 ((V20 aq nq mq tq vq gq de)) (fun r => [newL (1 + 1) ((N20 aq nq mq tq vq gq de) r) ++ [(0, (false, .cols mq [.str tq, .int .i64 vq, .int .i64 gq]))]]) Kret x) (x0 : Int) (h : (bif (decide (x0 < (↑nq : Int)))
 then (bif (decide ((0 : Int) ≤ x0 ∧ x0 < (↑nq : Int)))
 then (bif (decide (Int.toNat x0 + aq < mq))
 then (bif (S.isNam (tq (Int.toNat x0 + aq)))
 then (some (.inl (.h1 (x0) ((0 : Int)) (tq (Int.toNat x0 + aq)) (vq (Int.toNat x0 + aq)) (gq (Int.toNat x0 + aq)))))
 else (some (.inr ((2 : Int)))))
 else (none))
 else (none))
 else (bif (decide (de < (0 : Int)))
 then (some (.inr ((6 : Int))))
 else (bif (decide (de > (1000000 : Int)))
 then (some (.inr ((6 : Int))))
 else (some (.inr ((0 : Int)))))) : Option (St20 ⊕ Rt20)) = some x) : T20_0 cond Kst Kret aq nq mq tq vq gq de x0 := by
  unfold T20_0
  exact bif_split h
   (fun c0 h => bif_split h
   (fun c1 h => bif_split h
   (fun c2 h => cond_yes c2 (cond_yes c2 (cond_yes rfl (bif_split h
   (fun c3 h => stop_at hS _ h (fun n => bif Nat.beq n 1 then 1 else bif Nat.beq n 2 then 2 else n) rfl rfl rfl ⟨(rn_ptr (use_own rfl) rfl rfl), ⟨(rn_int rfl), ⟨(rn_ptr (use_own rfl) rfl rfl), ⟨(rn_int rfl), trivial⟩⟩⟩⟩ rfl (entl_b (use_own rfl) rfl (by simp) (rb_cells ⟨(rn_loose (use_lo rfl) rfl rfl rfl), (rn_int rfl), trivial⟩) (entl_b (use_own rfl) rfl (by simp) (rb_cells ⟨(rn_str rfl), (rn_int rfl), (rn_int rfl), trivial⟩) (entl_bor (use_lo rfl) rfl rfl entl_nil))))
   (fun c3 h => ret_at hR _ h (fun n => n) rfl rfl rfl (rn_int rfl) rfl (entl_bor (use_lo rfl) rfl rfl entl_nil))))))
   (fun c2 h => no_some h))
   (fun c1 h => no_some h))
   (fun c0 h => bif_split h
   (fun c1 h => ret_at hR _ h (fun n => n) rfl rfl rfl (rn_int rfl) rfl (entl_bor (use_lo rfl) rfl rfl entl_nil))
   (fun c1 h => bif_split h
   (fun c2 h => ret_at hR _ h (fun n => n) rfl rfl rfl (rn_int rfl) rfl (entl_bor (use_lo rfl) rfl rfl entl_nil))
   (fun c2 h => ret_at hR _ h (fun n => n) rfl rfl rfl (rn_int rfl) rfl (entl_bor (use_lo rfl) rfl rfl entl_nil))))
theorem b20_1 (aq nq mq : Nat) (tq : Nat → ByteArray) (vq gq : Nat → Int) (de : Int) (Kst : KS) (Kret : KR) (x : St20 ⊕ Rt20) (hS : HS 1 400 ((I20 aq nq mq tq vq gq de)) Kst x) (hR : HR 1 400 ((V20 aq nq mq tq vq gq de)) (fun r => [newL (1 + 1) ((N20 aq nq mq tq vq gq de) r) ++ [(0, (false, .cols mq [.str tq, .int .i64 vq, .int .i64 gq]))]]) Kret x) (x0 x1 : Int) (x2 : ByteArray) (x3 x4 : Int) (h : (bif (decide (x1 < x0))
 then (bif (decide ((0 : Int) ≤ x1 ∧ x1 < (↑nq : Int)))
 then (bif (decide (Int.toNat x1 + aq < mq))
 then (bif (S.eqS (tq (Int.toNat x1 + aq)) x2)
 then (some (.inr ((5 : Int))))
 else (bif (lim IntKind.i64 (x1 + (1 : Int)))
 then (some (.inl (.h1 (x0) (x1 + (1 : Int)) (x2) (x3) (x4))))
 else (none)))
 else (none))
 else (none))
 else (bif (decide (x3 < (0 : Int)))
 then (some (.inr ((6 : Int))))
 else (bif (decide (x3 > (1000000 : Int)))
 then (some (.inr ((6 : Int))))
 else (bif (decide (x4 < (0 : Int)))
 then (some (.inr ((6 : Int))))
 else (bif (decide (x4 > (1000000 : Int)))
 then (some (.inr ((6 : Int))))
 else (bif (lim IntKind.i64 (x0 + (1 : Int)))
 then (some (.inl (.h0 (x0 + (1 : Int)))))
 else (none)))))) : Option (St20 ⊕ Rt20)) = some x) : T20_1 cond Kst Kret aq nq mq tq vq gq de x0 x1 x2 x3 x4 := by
  unfold T20_1
  refine bif_split h
   (fun c0 h => bif_split h
   (fun c1 h => bif_split h
   (fun c2 h => bif_split h
   (fun c3 h => ?_)
   (fun c3 h => bif_split h
   (fun c4 h => stop_at hS _ h (fun n => bif Nat.beq n 1 then 1 else bif Nat.beq n 2 then 2 else n) rfl rfl rfl ⟨(rn_ptr (use_own rfl) rfl rfl), ⟨(rn_int rfl), ⟨(rn_ptr (use_own rfl) rfl rfl), ⟨(rn_int rfl), trivial⟩⟩⟩⟩ rfl (entl_b (use_own rfl) rfl (by simp) (rb_cells ⟨(rn_loose (use_lo rfl) rfl rfl rfl), (rn_int rfl), trivial⟩) (entl_b (use_own rfl) rfl (by simp) (rb_cells ⟨(rn_str rfl), (rn_int rfl), (rn_int rfl), trivial⟩) (entl_bor (use_lo rfl) rfl rfl entl_nil))))
   (fun c4 h => ?_)))
   (fun c2 h => ?_))
   (fun c1 h => ?_))
   (fun c0 h => bif_split h
   (fun c1 h => ?_)
   (fun c1 h => bif_split h
   (fun c2 h => ?_)
   (fun c2 h => bif_split h
   (fun c3 h => ?_)
   (fun c3 h => bif_split h
   (fun c4 h => ?_)
   (fun c4 h => bif_split h
   (fun c5 h => stop_at hS _ h (fun n => bif Nat.beq n 1 then 1 else n) rfl rfl rfl ⟨(rn_ptr (use_own rfl) rfl rfl), ⟨(rn_int rfl), ⟨(rn_unk _), ⟨(rn_unk _), trivial⟩⟩⟩⟩ rfl (entl_b (use_own rfl) rfl (by simp) (rb_cells ⟨(rn_loose (use_lo rfl) rfl rfl rfl), (rn_int rfl), trivial⟩) (entl_bor (use_lo rfl) rfl rfl entl_nil)))
   (fun c5 h => ?_))))))
  all_goals first
    | exact ret_at hR _ h (fun n => n) rfl rfl rfl (rn_int rfl) rfl (entl_bor (use_lo rfl) rfl rfl entl_nil)
    | exact no_some h
theorem a20 (aq nq mq : Nat) (tq : Nat → ByteArray) (vq gq : Nat → Int) (de : Int) {r : Rt20} (h : Goes ((q20 aq nq mq tq vq gq de)) ((p20 aq nq mq tq vq gq de)) r) : CallR Try.prog 20 [.agg [.loose ⟨0, 3, aq, 0⟩ nq, .int .i64 de]] [[(0, (false, .cols mq [.str tq, .int .i64 vq, .int .i64 gq]))]] 1 ((V20 aq nq mq tq vq gq de) r) ((fun r => [newL (1 + 1) ((N20 aq nq mq tq vq gq de) r) ++ [(0, (false, .cols mq [.str tq, .int .i64 vq, .int .i64 gq]))]]) r) 400 ∧ ∃ F, Try.prog.funcs[20]? = some F ∧ F.body.isSome = true ∧ (F.name == "runtime.NumGoroutine") = false := by
  refine dec_calls (f := 20) (lo := 1) (hi := 400) (H := [[(0, (false, .cols mq [.str tq, .int .i64 vq, .int .i64 gq]))]]) (args := [.agg [.loose ⟨0, 3, aq, 0⟩ nq, .int .i64 de]]) Try.envOk Try.mixed xF_ok ((I20 aq nq mq tq vq gq de)) ((V20 aq nq mq tq vq gq de)) (fun r => [newL (1 + 1) ((N20 aq nq mq tq vq gq de) r) ++ [(0, (false, .cols mq [.str tq, .int .i64 vq, .int .i64 gq]))]]) (fn := mkFn Try.f20) (ts := [1, 3, 4, 5]) (n := 400) rfl (by decide) (by simp) (names_of rfl) ?_ ?_ ?_ h
  · intro s; cases s <;> exact ⟨hd_ok _ _, by simp [I20], names_of rfl, Nat.le_of_ble_eq_true rfl⟩
  · intro Kst Kret x hS hR h
    exact Holds.eq (te20 cond Kst Kret aq nq mq tq vq gq de) (be20 aq nq mq tq vq gq de Kst Kret x hS hR h)
  · intro Kst Kret x hS hR s h
    cases s with
    | h0 x0 => exact Holds.eq (t20_0 cond Kst Kret aq nq mq tq vq gq de x0) (b20_0 aq nq mq tq vq gq de Kst Kret x hS hR x0 h)
    | h1 x0 x1 x2 x3 x4 => exact Holds.eq (t20_1 cond Kst Kret aq nq mq tq vq gq de x0 x1 x2 x3 x4) (b20_1 aq nq mq tq vq gq de Kst Kret x hS hR x0 x1 x2 x3 x4 h)
noncomputable def k20  : Con := ⟨20, [.agg [.list [.str, .int .i64, .int .i64], .plain (.int .i64)]], fun (x : ((Nat × Nat × Nat × (Nat → ByteArray) × (Nat → Int) × (Nat → Int) × Unit) × Int × Unit) × Unit) => (fun (aq nq mq : Nat) (tq : Nat → ByteArray) (vq : Nat → Int) (gq : Nat → Int) (de : Int) => decide (aq + nq ≤ mq ∧ nq ≤ 1000000)) x.1.1.1 x.1.1.2.1 x.1.1.2.2.1 x.1.1.2.2.2.1 x.1.1.2.2.2.2.1 x.1.1.2.2.2.2.2.1 x.1.2.1, fun (x : ((Nat × Nat × Nat × (Nat → ByteArray) × (Nat → Int) × (Nat → Int) × Unit) × Int × Unit) × Unit) => (fun (aq nq mq : Nat) (tq : Nat → ByteArray) (vq : Nat → Int) (gq : Nat → Int) (de : Int) => (V20 aq nq mq tq vq gq de) ((S.netE nq (fun j => tq (j + aq)) (fun j => vq (j + aq)) (fun j => gq (j + aq)) de))) x.1.1.1 x.1.1.2.1 x.1.1.2.2.1 x.1.1.2.2.2.1 x.1.1.2.2.2.2.1 x.1.1.2.2.2.2.2.1 x.1.2.1, fun (x : ((Nat × Nat × Nat × (Nat → ByteArray) × (Nat → Int) × (Nat → Int) × Unit) × Int × Unit) × Unit) => (fun (aq nq mq : Nat) (tq : Nat → ByteArray) (vq : Nat → Int) (gq : Nat → Int) (de : Int) => (N20 aq nq mq tq vq gq de) ((S.netE nq (fun j => tq (j + aq)) (fun j => vq (j + aq)) (fun j => gq (j + aq)) de))) x.1.1.1 x.1.1.2.1 x.1.1.2.2.1 x.1.1.2.2.2.1 x.1.1.2.2.2.2.1 x.1.1.2.2.2.2.2.1 x.1.2.1, fun _ _ => .dead⟩
theorem s20i (aq nq mq : Nat) (tq : Nat → ByteArray) (vq gq : Nat → Int) (de : Int) (hp1 : aq + nq ≤ mq) (hn : nq ≤ 12) (i : Nat) (hi : i < nq) (nm : ByteArray) (vi gi R : Int) (hR : Comes (q20 aq nq mq tq vq gq de) (.h0 (((i + 1 : Nat)) : Int)) R) : ∀ k c : Nat, c + k = i → (∀ j, j < c → S.eqS (tq (j + aq)) nm = false) → Comes (q20 aq nq mq tq vq gq de) (.h1 (i : Int) (c : Int) nm vi gi) (if S.any (fun j => S.eqS (tq (j + aq)) nm) i = true then 5 else (if (0 ≤ vi ∧ vi ≤ 1000000) ∧ 0 ≤ gi ∧ gi ≤ 1000000 then R else 6)) := by
  intro k
  induction k with
  | zero =>
    intro c hc hj
    obtain rfl : c = i := by omega
    rw [any_no.mpr hj, if_neg Bool.false_ne_true]
    apply Comes.of
    show Goes _ _ _
    (first | rw [q20] | unfold q20)
    repeat' first
      | with_reducible refine goes_if (fun h => ?_) (fun h => ?_) <;> (try simp only [SH] at h)
      | exact goes_none.mpr (by omega)
    all_goals first | (exfalso; omega) | (rw [if_pos (by omega)]; exact hR) | (rw [if_neg (by omega)]; exact goes_inr.mpr rfl)
  | succ k ih =>
    intro c hc hj
    by_cases h1 : S.eqS (tq (c + aq)) nm = true
    · rw [if_pos (any_iff.mpr ⟨c, by omega, h1⟩)]
      apply Comes.of
      show Goes _ _ _
      (first | rw [q20] | unfold q20)
      try simp only [Int.toNat_natCast, h1]
      try show Goes _ _ _
      repeat' first
        | with_reducible refine goes_if (fun h => ?_) (fun h => ?_) <;> (try simp only [SH] at h)
        | exact goes_none.mpr (by omega)
      all_goals first | (exfalso; omega) | exact goes_inr.mpr rfl | (exfalso; simp_all; done)
    · rw [Bool.not_eq_true] at h1
      have ih := ih (c + 1) (by omega) (fun j hlt => by
        rcases Nat.lt_or_eq_of_le (Nat.le_of_lt_succ hlt) with h2 | h2
        · exact hj j h2
        · subst h2; exact h1)
      apply Comes.of
      show Goes _ _ _
      (first | rw [q20] | unfold q20)
      try simp only [Int.toNat_natCast, h1]
      try show Goes _ _ _
      repeat' first
        | with_reducible refine goes_if (fun h => ?_) (fun h => ?_) <;> (try simp only [SH] at h)
        | exact goes_none.mpr (by omega)
      all_goals first | (exfalso; omega) | exact ih | (exfalso; simp_all; done)
theorem s20' (aq nq mq : Nat) (tq : Nat → ByteArray) (vq gq : Nat → Int) (de : Int) (hp1 : aq + nq ≤ mq) (hn : nq ≤ 12) : ∀ k i : Nat, i + k = nq → Comes (q20 aq nq mq tq vq gq de) (.h0 (i : Int)) (S.staE (if 0 ≤ de ∧ de ≤ 1000000 then 0 else 6) (fun j => tq (j + aq)) (fun j => vq (j + aq)) (fun j => gq (j + aq)) i k) := by
  intro k
  induction k with
  | zero =>
    intro i hi
    simp only [S.staE]
    apply Comes.of
    show Goes _ _ _
    (first | rw [q20] | unfold q20)
    repeat' first
      | with_reducible refine goes_if (fun h => ?_) (fun h => ?_) <;> (try simp only [SH] at h)
      | exact goes_none.mpr (by omega)
    all_goals first
      | (exfalso; omega)
      | (refine goes_inr.mpr ?_; first | rfl | (rw [if_pos (by omega)]; done) | (rw [if_neg (by omega)]; done))
  | succ k ih =>
    intro i hi
    have ih := ih (i + 1) (by omega)
    have hm := fun nm vi gi => s20i aq nq mq tq vq gq de hp1 hn i (by omega) nm vi gi _ ih i 0 (Nat.zero_add _) (fun j hj => absurd hj (Nat.not_lt_zero j))
    rw [staE_e]
    by_cases h1 : S.isNam (tq (i + aq)) = true
    · rw [if_pos h1]
      apply Comes.of
      show Goes _ _ _
      (first | rw [q20] | unfold q20)
      try simp only [Nat.zero_add, Int.toNat_natCast, h1]
      try show Goes _ _ _
      repeat' first
        | with_reducible refine goes_if (fun h => ?_) (fun h => ?_) <;> (try simp only [SH] at h)
        | exact goes_none.mpr (by omega)
      all_goals first | (exfalso; omega) | exact hm _ _ _ | (exfalso; simp_all; done)
    · rw [if_neg h1]
      rw [Bool.not_eq_true] at h1
      apply Comes.of
      show Goes _ _ _
      (first | rw [q20] | unfold q20)
      try simp only [Nat.zero_add, Int.toNat_natCast, h1]
      try show Goes _ _ _
      repeat' first
        | with_reducible refine goes_if (fun h => ?_) (fun h => ?_) <;> (try simp only [SH] at h)
        | exact goes_none.mpr (by omega)
      all_goals first | (exfalso; omega) | exact goes_inr.mpr rfl | (exfalso; simp_all; done)
theorem s20 (aq nq mq : Nat) (tq : Nat → ByteArray) (vq gq : Nat → Int) (de : Int) (hp : aq + nq ≤ mq ∧ nq ≤ 1000000) : Goes ((q20 aq nq mq tq vq gq de)) ((p20 aq nq mq tq vq gq de)) ((S.netE nq (fun j => tq (j + aq)) (fun j => vq (j + aq)) (fun j => gq (j + aq)) de)) := by
  obtain ⟨hp1, hp2⟩ := hp
  unfold S.netE
  by_cases h0 : nq = 0
  · rw [if_pos h0]
    show Goes _ _ _
    unfold p20
    repeat' first
      | with_reducible refine goes_if (fun h => ?_) (fun h => ?_) <;> (try simp only [SH] at h)
      | exact goes_none.mpr (by omega)
    all_goals first | (exfalso; omega) | exact goes_inr.mpr rfl
  · rw [if_neg h0]
    by_cases h1 : 12 < nq
    · rw [if_pos h1]
      show Goes _ _ _
      unfold p20
      repeat' first
        | with_reducible refine goes_if (fun h => ?_) (fun h => ?_) <;> (try simp only [SH] at h)
        | exact goes_none.mpr (by omega)
      all_goals first | (exfalso; omega) | exact goes_inr.mpr rfl
    · rw [if_neg h1]
      have hm := s20' aq nq mq tq vq gq de hp1 (by omega) nq 0 (Nat.zero_add _)
      show Goes _ _ _
      unfold p20
      repeat' first
        | with_reducible refine goes_if (fun h => ?_) (fun h => ?_) <;> (try simp only [SH] at h)
        | exact goes_none.mpr (by omega)
      all_goals first | (exfalso; omega) | exact hm
theorem k20_ok  : k20.ok Try.prog := by
  intro x hx
  obtain ⟨⟨⟨aq, nq, mq, tq, vq, gq, _⟩, de, _⟩, _⟩ := x
  obtain ⟨h1, h2⟩ := a20 aq nq mq tq vq gq de (s20 aq nq mq tq vq gq de (of_dec hx rfl))
  exact ⟨⟨400, (by decide : 1 + 1 + 0 ≤ 400), h1⟩, h2⟩
abbrev St13  := Empty
abbrev Rt13  := Bool
noncomputable def V13 (aq nq mq : Nat) (tq : Nat → ByteArray) (vq gq : Nat → Int) (de : Int) (r : Rt13) : PV := PV.bool r
noncomputable def N13 (aq nq mq : Nat) (tq : Nat → ByteArray) (vq gq : Nat → Int) (de : Int) (r : Rt13) : List Blk := []
noncomputable def I13 (aq nq mq : Nat) (tq : Nat → ByteArray) (vq gq : Nat → Int) (de : Int) : St13 → Hd := fun s => s.elim
noncomputable def q13 (aq nq mq : Nat) (tq : Nat → ByteArray) (vq gq : Nat → Int) (de : Int) : St13 → Option (St13 ⊕ Rt13) := fun s => s.elim
noncomputable def p13 (aq nq mq : Nat) (tq : Nat → ByteArray) (vq gq : Nat → Int) (de : Int) : Option (St13 ⊕ Rt13) := bif (decide ((↑nq : Int) ≤ (20 : Int)))
 then (bif (decide (aq + nq ≤ mq ∧ nq ≤ 1000000))
 then (bif (S.any (fun j => decide ((↑(ByteArray.size (tq (j + aq))) : Int) > (60 : Int))) nq)
 then (some (.inr (false)))
 else (some (.inr (true))))
 else (none))
 else (some (.inr (false)))
noncomputable def Te13 (test : Bool → Prop → Prop → Prop) (Kst : KS) (Kret : KR) (aq nq mq : Nat) (tq : Nat → ByteArray) (vq gq : Nat → Int) (de : Int) : Prop :=
  test (decide ((↑nq : Int) ≤ (20 : Int)))
 (test (decide (aq + nq ≤ mq ∧ nq ≤ 1000000))
 (test (S.any (fun j => decide ((↑(ByteArray.size (tq (j + aq))) : Int) > (60 : Int))) nq)
 (Kret (PV.tf false) ([[(0, false,
 Blk.cols mq [Col.str tq, Col.int IntKind.i64 vq, Col.int IntKind.i64 gq])]]) (3))
 (Kret (PV.tf true) ([[(0, false,
 Blk.cols mq [Col.str tq, Col.int IntKind.i64 vq, Col.int IntKind.i64 gq])]]) (3)))
 (False))
 (Kret (PV.tf false) ([[(0, false,
 Blk.cols mq [Col.str tq, Col.int IntKind.i64 vq, Col.int IntKind.i64 gq])]]) (2))
theorem te13 (test : Bool → Prop → Prop → Prop) (Kst : KS) (Kret : KR) (aq nq mq : Nat) (tq : Nat → ByteArray) (vq gq : Nat → Int) (de : Int) : run test Try.env true (xF test) true 400 ⟨13, [.cd (mkFn Try.f13).body], argT 0 [.agg [.loose ⟨0, 3, aq, 0⟩ nq, .int .i64 de]], [[], [(0, (false, .cols mq [.str tq, .int .i64 vq, .int .i64 gq]))]], 1⟩ (proj 1 [] Kst Kret) =
  Te13 test Kst Kret aq nq mq tq vq gq de := by kernel_rfl
theorem be13 (aq nq mq : Nat) (tq : Nat → ByteArray) (vq gq : Nat → Int) (de : Int) (Kst : KS) (Kret : KR) (x : St13 ⊕ Rt13) (hS : HS 1 400 ((I13 aq nq mq tq vq gq de)) Kst x) (hR : HR 1 400 ((V13 aq nq mq tq vq gq de)) (fun r => [newL (1 + 1) ((N13 aq nq mq tq vq gq de) r) ++ [(0, (false, .cols mq [.str tq, .int .i64 vq, .int .i64 gq]))]]) Kret x) (h : p13 aq nq mq tq vq gq de = some x) : Te13 cond Kst Kret aq nq mq tq vq gq de := by
  unfold Te13
  unfold p13 at h
  refine bif_split h
   (fun c0 h => bif_split h
   (fun c1 h => bif_split h
   (fun c2 h => ret_at hR _ h (fun n => n) rfl rfl rfl (rn_bool_tf rfl) rfl (entl_bor (use_lo rfl) rfl rfl entl_nil))
   (fun c2 h => ret_at hR _ h (fun n => n) rfl rfl rfl (rn_bool_tf rfl) rfl (entl_bor (use_lo rfl) rfl rfl entl_nil)))
   (fun c1 h => no_some h))
   (fun c0 h => ret_at hR _ h (fun n => n) rfl rfl rfl (rn_bool_tf rfl) rfl (entl_bor (use_lo rfl) rfl rfl entl_nil))
theorem a13 (aq nq mq : Nat) (tq : Nat → ByteArray) (vq gq : Nat → Int) (de : Int) {r : Rt13} (h : Goes ((q13 aq nq mq tq vq gq de)) ((p13 aq nq mq tq vq gq de)) r) : CallR Try.prog 13 [.agg [.loose ⟨0, 3, aq, 0⟩ nq, .int .i64 de]] [[(0, (false, .cols mq [.str tq, .int .i64 vq, .int .i64 gq]))]] 1 ((V13 aq nq mq tq vq gq de) r) ((fun r => [newL (1 + 1) ((N13 aq nq mq tq vq gq de) r) ++ [(0, (false, .cols mq [.str tq, .int .i64 vq, .int .i64 gq]))]]) r) 400 ∧ ∃ F, Try.prog.funcs[13]? = some F ∧ F.body.isSome = true ∧ (F.name == "runtime.NumGoroutine") = false := by
  refine dec_calls (f := 13) (lo := 1) (hi := 400) (H := [[(0, (false, .cols mq [.str tq, .int .i64 vq, .int .i64 gq]))]]) (args := [.agg [.loose ⟨0, 3, aq, 0⟩ nq, .int .i64 de]]) Try.envOk Try.mixed xF_ok ((I13 aq nq mq tq vq gq de)) ((V13 aq nq mq tq vq gq de)) (fun r => [newL (1 + 1) ((N13 aq nq mq tq vq gq de) r) ++ [(0, (false, .cols mq [.str tq, .int .i64 vq, .int .i64 gq]))]]) (fn := mkFn Try.f13) (ts := []) (n := 400) rfl (by decide) (by simp) (names_of rfl) ?_ ?_ ?_ h
  · intro s; exact s.elim
  · intro Kst Kret x hS hR h
    exact Holds.eq (te13 cond Kst Kret aq nq mq tq vq gq de) (be13 aq nq mq tq vq gq de Kst Kret x hS hR h)
  · intro Kst Kret x hS hR s h; exact s.elim
noncomputable def k13  : Con := ⟨13, [.agg [.list [.str, .int .i64, .int .i64], .plain (.int .i64)]], fun (x : ((Nat × Nat × Nat × (Nat → ByteArray) × (Nat → Int) × (Nat → Int) × Unit) × Int × Unit) × Unit) => (fun (aq nq mq : Nat) (tq : Nat → ByteArray) (vq : Nat → Int) (gq : Nat → Int) (de : Int) => decide (aq + nq ≤ mq)) x.1.1.1 x.1.1.2.1 x.1.1.2.2.1 x.1.1.2.2.2.1 x.1.1.2.2.2.2.1 x.1.1.2.2.2.2.2.1 x.1.2.1, fun (x : ((Nat × Nat × Nat × (Nat → ByteArray) × (Nat → Int) × (Nat → Int) × Unit) × Int × Unit) × Unit) => (fun (aq nq mq : Nat) (tq : Nat → ByteArray) (vq : Nat → Int) (gq : Nat → Int) (de : Int) => (V13 aq nq mq tq vq gq de) (S.fewB nq (fun j => tq (j + aq)))) x.1.1.1 x.1.1.2.1 x.1.1.2.2.1 x.1.1.2.2.2.1 x.1.1.2.2.2.2.1 x.1.1.2.2.2.2.2.1 x.1.2.1, fun (x : ((Nat × Nat × Nat × (Nat → ByteArray) × (Nat → Int) × (Nat → Int) × Unit) × Int × Unit) × Unit) => (fun (aq nq mq : Nat) (tq : Nat → ByteArray) (vq : Nat → Int) (gq : Nat → Int) (de : Int) => (N13 aq nq mq tq vq gq de) (S.fewB nq (fun j => tq (j + aq)))) x.1.1.1 x.1.1.2.1 x.1.1.2.2.1 x.1.1.2.2.2.1 x.1.1.2.2.2.2.1 x.1.1.2.2.2.2.2.1 x.1.2.1, fun _ _ => .dead⟩
theorem s13 (aq nq mq : Nat) (tq : Nat → ByteArray) (vq gq : Nat → Int) (de : Int) (hp : aq + nq ≤ mq) : Goes ((q13 aq nq mq tq vq gq de)) ((p13 aq nq mq tq vq gq de)) (S.fewB nq (fun j => tq (j + aq))) := by
  unfold S.fewB p13
  generalize S.any (fun j => decide (((tq (j + aq)).size : Int) > 60)) nq = A
  show Goes _ _ _
  by_cases h0 : nq ≤ 20
  · rw [decide_eq_true h0, Bool.true_and]
    cases A
    all_goals
     repeat' first
      | with_reducible exact goes_inr.mpr rfl
      | with_reducible refine goes_if (fun h => ?_) (fun h => ?_) <;> (try simp only [SH] at h)
      | exact goes_none.mpr (by omega)
     all_goals first | (exfalso; omega) | rfl
  · rw [decide_eq_false h0, Bool.false_and]
    repeat' first
      | with_reducible exact goes_inr.mpr rfl
      | with_reducible refine goes_if (fun h => ?_) (fun h => ?_) <;> (try simp only [SH] at h)
      | exact goes_none.mpr (by omega)
    all_goals first | (exfalso; omega) | rfl
theorem k13_ok  : k13.ok Try.prog := by
  intro x hx
  obtain ⟨⟨⟨aq, nq, mq, tq, vq, gq, _⟩, de, _⟩, _⟩ := x
  obtain ⟨h1, h2⟩ := a13 aq nq mq tq vq gq de (s13 aq nq mq tq vq gq de (of_dec hx rfl))
  exact ⟨⟨400, (by decide : 1 + 1 + 0 ≤ 400), h1⟩, h2⟩
namespace S
def fcl (k l : Int) : Nat → Nat → List (Int × Int × Int) → List (Int × Int × Int)
  | _, 0, L => L
  | i, c + 1, L => fcl k l (i + 1) c (snoc L (k, l, (i : Int)))
def failL (n : Nat) : List (Int × Int × Int) := snoc (snoc (fcl 3 0 0 n (fcl 2 2 0 n (fcl 2 1 0 n (fcl 1 2 0 n (fcl 1 1 0 n []))))) (4, 1, 0)) (4, 2, 0)
def okF (n : Nat) (k l p : Int) : Prop := (k = 0 ∧ l = 0 ∧ p = 0) ∨ ((k = 1 ∨ k = 2) ∧ (l = 1 ∨ l = 2) ∧ 0 ≤ p ∧ p < n) ∨ (k = 3 ∧ l = 0 ∧ 0 ≤ p ∧ p < n) ∨ (k = 4 ∧ (l = 1 ∨ l = 2) ∧ p = 0)
instance {n : Nat} {k l p : Int} : Decidable (okF n k l p) := by unfold okF; infer_instance
def failE (n : Nat) (k l p : Int) : Int := if okF n k l p then 0 else 1
def hasF (nf : Nat) (k l p : Nat → Int) (a b c : Int) : Bool := any (fun j => decide (k j = a) && decide (l j = b) && decide (p j = c)) nf
def opP (lp : Int) (loc : Nat → Bool) (nf : Nat) (k l p : Nat → Int) (i : Nat) : Bool := hasF nf k l p 2 lp i || hasF nf k l p 3 0 i || (!loc i && !hasF nf k l p 1 lp i)
def opnB (lp : Int) (n : Nat) (loc : Nat → Bool) (nf : Nat) (k l p : Nat → Int) : Bool := !hasF nf k l p 4 lp 0 && any (opP lp loc nf k l p) n
end S
theorem fcl_len  {k l : Int} : ∀ {c i : Nat} {L : List (Int × Int × Int)}, (S.fcl k l i c L).length = L.length + c
  | 0, i, L => rfl
  | c + 1, i, L => by rw [S.fcl, fcl_len, snoc_len]; omega
theorem fcl_mem  {k l : Int} {y : Int × Int × Int} : ∀ {c i : Nat} {L : List (Int × Int × Int)}, y ∈ S.fcl k l i c L ↔ y ∈ L ∨ ∃ j : Nat, i ≤ j ∧ j < i + c ∧ y = (k, l, (j : Int))
  | 0, i, L => ⟨fun h => .inl h, fun h => h.elim id fun ⟨j, h1, h2, _⟩ => by omega⟩
  | c + 1, i, L => by
    rw [S.fcl, fcl_mem, S.snoc, List.mem_append, List.mem_singleton]
    constructor
    · rintro ((h | h) | ⟨j, h1, h2, h3⟩)
      · exact .inl h
      · exact .inr ⟨i, Nat.le_refl _, by omega, h⟩
      · exact .inr ⟨j, by omega, by omega, h3⟩
    · rintro (h | ⟨j, h1, h2, h3⟩)
      · exact .inl (.inl h)
      · rcases Nat.lt_or_ge i j with h4 | h4
        · exact .inr ⟨j, h4, by omega, h3⟩
        · obtain rfl : j = i := by omega
          exact .inl (.inr h3)
theorem fail_len  {n : Nat} : (S.failL n).length = 5 * n + 2 := by
  unfold S.failL
  rw [snoc_len, snoc_len, fcl_len, fcl_len, fcl_len, fcl_len, fcl_len, List.length_nil]; omega
theorem fail_mem  {n : Nat} {k l p : Int} : (k, l, p) ∈ S.failL n ↔ S.okF n k l p ∧ k ≠ 0 := by
  unfold S.failL S.okF
  rw [S.snoc, S.snoc, List.mem_append, List.mem_append, List.mem_singleton, List.mem_singleton, fcl_mem, fcl_mem, fcl_mem, fcl_mem, fcl_mem]
  simp only [List.not_mem_nil, false_or, Prod.mk.injEq]
  constructor
  · rintro (((((( ⟨j, h1, h2, h3⟩ | ⟨j, h1, h2, h3⟩) | ⟨j, h1, h2, h3⟩) | ⟨j, h1, h2, h3⟩) | ⟨j, h1, h2, h3⟩) | h) | h) <;> omega
  · rintro ⟨h1 | ⟨h1, h2, h3⟩ | ⟨h1, h2, h3⟩ | ⟨h1, h2, h3⟩, h0⟩
    · omega
    · rcases h1 with h1 | h1 <;> rcases h2 with h2 | h2
      · exact .inl (.inl (.inl (.inl (.inl (.inl ⟨p.toNat, by omega, by omega, h1, h2, by omega⟩)))))
      · exact .inl (.inl (.inl (.inl (.inl (.inr ⟨p.toNat, by omega, by omega, h1, h2, by omega⟩)))))
      · exact .inl (.inl (.inl (.inl (.inr ⟨p.toNat, by omega, by omega, h1, h2, by omega⟩))))
      · exact .inl (.inl (.inl (.inr ⟨p.toNat, by omega, by omega, h1, h2, by omega⟩)))
    · exact .inl (.inl (.inr ⟨p.toNat, by omega, by omega, h1, h2, by omega⟩))
    · omega
theorem snoc_two  {α β γ : Type} [Inhabited α] [Inhabited β] [Inhabited γ] {L : List (α × β × γ)} {a1 a2 : α} {b1 b2 : β} {c1 c2 : γ} : (S.mkl (L.length + 2) fun j => (bif Nat.blt j L.length then (S.at' L j).1 else bif Nat.blt (j - L.length) 1 then a1 else a2, bif Nat.blt j L.length then (S.at' L j).2.1 else bif Nat.blt (j - L.length) 1 then b1 else b2, bif Nat.blt j L.length then (S.at' L j).2.2 else bif Nat.blt (j - L.length) 1 then c1 else c2)) = S.snoc (S.snoc L (a1, b1, c1)) (a2, b2, c2) := by
  have n1 : ∀ {x y : Nat}, ¬ x < y → Nat.blt x y = false := fun {x y} h => by cases hb : Nat.blt x y; rfl; exact absurd (lt_ok hb) h
  have y1 : ∀ {x y : Nat}, x < y → Nat.blt x y = true := fun {x y} h => by rw [Nat.blt_eq]; exact h
  rw [mkl_succ, mkl_succ]
  congr 1
  · congr 1
    · refine mkl_eq rfl fun j hj => ?_
      simp only [y1 hj, cond_true]
    · simp only [n1 (Nat.lt_irrefl L.length), cond_false, Nat.sub_self, y1 (show 0 < 1 by decide), cond_true]
  · simp only [n1 (show ¬ L.length + 1 < L.length by omega), cond_false, show L.length + 1 - L.length = 1 by omega, n1 (show ¬ 1 < 1 by decide)]
theorem hasF_congr  {nf : Nat} {k l p k' l' p' : Nat → Int} {a b c : Int} (h : ∀ j, j < nf → k j = k' j ∧ l j = l' j ∧ p j = p' j) : S.hasF nf k l p a b c = S.hasF nf k' l' p' a b c :=
  any_congr fun j hj => by obtain ⟨h1, h2, h3⟩ := h j hj; rw [h1, h2, h3]
theorem opnB_congr  {lp : Int} {n nf : Nat} {loc loc' : Nat → Bool} {k l p k' l' p' : Nat → Int} (hl : ∀ j, j < n → loc j = loc' j) (h : ∀ j, j < nf → k j = k' j ∧ l j = l' j ∧ p j = p' j) : S.opnB lp n loc nf k l p = S.opnB lp n loc' nf k' l' p' := by
  unfold S.opnB
  rw [hasF_congr h]
  congr 1
  refine any_congr fun j hj => ?_
  unfold S.opP
  rw [hasF_congr h, hasF_congr h, hasF_congr h, hl j hj]
inductive St83 where
  | h0 (x0 : Int)
abbrev Rt83  := Int
noncomputable def V83 (al nl ml : Nat) (tl vl gl : Nat → Int) (k0 k1 k2 : Int) (r : Rt83) : PV := PV.int IntKind.i64 r
noncomputable def N83 (al nl ml : Nat) (tl vl gl : Nat → Int) (k0 k1 k2 : Int) (r : Rt83) : List Blk := []
noncomputable def I83 (al nl ml : Nat) (tl vl gl : Nat → Int) (k0 k1 k2 : Int) : St83 → Hd
  | .h0 x0 => ⟨hd Try.f83 0, [PV.loose (PA.mk (0) (3) al (0)) nl,
 PV.ptr (PA.mk (1) (0) (0) (0)), PV.int IntKind.i64 (↑nl : Int),
 PV.int IntKind.i64 x0], [[(1, (true, Blk.cells [PV.int IntKind.i64 k0, PV.int IntKind.i64 k1, PV.int IntKind.i64 k2]))], [(0, (false, .cols ml [.int .i64 tl, .int .i64 vl, .int .i64 gl]))]], 2⟩
noncomputable def q83 (al nl ml : Nat) (tl vl gl : Nat → Int) (k0 k1 k2 : Int) : St83 → Option (St83 ⊕ Rt83)
  | .h0 x0 => bif (decide (x0 < (↑nl : Int)))
 then (bif (decide ((0 : Int) ≤ x0 ∧ x0 < (↑nl : Int)))
 then (bif (decide (Int.toNat x0 + al < ml))
 then (bif (k0 == tl (Int.toNat x0 + al) && (k1 == vl (Int.toNat x0 + al) && (k2 == gl (Int.toNat x0 + al) && true)))
 then (some (.inr (x0)))
 else (bif (lim IntKind.i64 (x0 + (1 : Int)))
 then (some (.inl (.h0 (x0 + (1 : Int)))))
 else (none)))
 else (none))
 else (none))
 else (some (.inr ((-1 : Int))))
noncomputable def p83 (al nl ml : Nat) (tl vl gl : Nat → Int) (k0 k1 k2 : Int) : Option (St83 ⊕ Rt83) := some (.inl (.h0 ((0 : Int))))
noncomputable def Te83 (test : Bool → Prop → Prop → Prop) (Kst : KS) (Kret : KR) (al nl ml : Nat) (tl vl gl : Nat → Int) (k0 k1 k2 : Int) : Prop :=
  Kst (hd Try.f83 0) ([PV.loose (PA.mk (0) (3) al (0)) nl,
 PV.ptr (PA.mk (1) (0) (0) (0)), PV.int IntKind.i64 (↑nl : Int),
 PV.int IntKind.i64 (0 : Int)]) ([[(0, false,
 Blk.cols ml
 [Col.int IntKind.i64 tl, Col.int IntKind.i64 vl, Col.int IntKind.i64 gl]),
 (1, true,
 Blk.cells
 [PV.int IntKind.i64 k0, PV.int IntKind.i64 k1, PV.int IntKind.i64 k2])]]) (2)
theorem te83 (test : Bool → Prop → Prop → Prop) (Kst : KS) (Kret : KR) (al nl ml : Nat) (tl vl gl : Nat → Int) (k0 k1 k2 : Int) : run test Try.env true noX true 400 ⟨83, [.cd (mkFn Try.f83).body], argT 0 [.loose ⟨0, 3, al, 0⟩ nl, .agg [.int .i64 k0, .int .i64 k1, .int .i64 k2]], [[], [(0, (false, .cols ml [.int .i64 tl, .int .i64 vl, .int .i64 gl]))]], 1⟩ (proj 1 [0, 3, 7, 8] Kst Kret) =
  Te83 test Kst Kret al nl ml tl vl gl k0 k1 k2 := by kernel_rfl
noncomputable def T83_0 (test : Bool → Prop → Prop → Prop) (Kst : KS) (Kret : KR) (al nl ml : Nat) (tl vl gl : Nat → Int) (k0 k1 k2 x0 : Int) : Prop :=
  test (decide (x0 < (↑nl : Int)))
 (test (decide ((0 : Int) ≤ x0 ∧ x0 < (↑nl : Int)))
 (test (decide (Int.toNat x0 + al < ml))
 (test (decide (Int.toNat x0 + al < ml))
 (test (decide (Int.toNat x0 + al < ml))
 (test (k0 == tl (Int.toNat x0 + al) && (k1 == vl (Int.toNat x0 + al) && (k2 == gl (Int.toNat x0 + al) && true)))
 (Kret (PV.int IntKind.i64 x0) ([[(0, false,
 Blk.cols ml
 [Col.int IntKind.i64 tl, Col.int IntKind.i64 vl, Col.int IntKind.i64 gl])]]) (2))
 (test (lim IntKind.i64 (x0 + (1 : Int)))
 (Kst (hd Try.f83 0) ([PV.loose (PA.mk (0) (3) al (0)) nl,
 PV.ptr (PA.mk (1) (0) (0) (0)), PV.int IntKind.i64 (↑nl : Int),
 PV.int IntKind.i64 (x0 + (1 : Int))]) ([[(0, false,
 Blk.cols ml
 [Col.int IntKind.i64 tl, Col.int IntKind.i64 vl, Col.int IntKind.i64 gl]),
 (1, true,
 Blk.cells
 [PV.int IntKind.i64 k0, PV.int IntKind.i64 k1, PV.int IntKind.i64 k2])]]) (2))
 (False)))
 (False))
 (False))
 (False))
 (False))
 (Kret (PV.int IntKind.i64 (-1 : Int)) ([[(0, false,
 Blk.cols ml
 [Col.int IntKind.i64 tl, Col.int IntKind.i64 vl, Col.int IntKind.i64 gl])]]) (2))
theorem t83_0 (test : Bool → Prop → Prop → Prop) (Kst : KS) (Kret : KR) (al nl ml : Nat) (tl vl gl : Nat → Int) (k0 k1 k2 x0 : Int) : run test Try.env true noX true 400 ⟨83, hd Try.f83 0, zipT [0, 3, 7, 8] [PV.loose (PA.mk (0) (3) al (0)) nl,
 PV.ptr (PA.mk (1) (0) (0) (0)), PV.int IntKind.i64 (↑nl : Int),
 PV.int IntKind.i64 x0], [[(1, (true, Blk.cells [PV.int IntKind.i64 k0, PV.int IntKind.i64 k1, PV.int IntKind.i64 k2]))], [(0, (false, .cols ml [.int .i64 tl, .int .i64 vl, .int .i64 gl]))]], 2⟩ (proj 1 [0, 3, 7, 8] Kst Kret) =
  T83_0 test Kst Kret al nl ml tl vl gl k0 k1 k2 x0 := by kernel_rfl
theorem be83 (al nl ml : Nat) (tl vl gl : Nat → Int) (k0 k1 k2 : Int) (Kst : KS) (Kret : KR) (x : St83 ⊕ Rt83) (hS : HS 1 400 ((I83 al nl ml tl vl gl k0 k1 k2)) Kst x) (hR : HR 1 400 ((V83 al nl ml tl vl gl k0 k1 k2)) (fun r => [newL (1 + 1) ((N83 al nl ml tl vl gl k0 k1 k2) r) ++ [(0, (false, .cols ml [.int .i64 tl, .int .i64 vl, .int .i64 gl]))]]) Kret x) (h : (some (.inl (.h0 ((0 : Int)))) : Option (St83 ⊕ Rt83)) = some x) : Te83 cond Kst Kret al nl ml tl vl gl k0 k1 k2 := by
  unfold Te83
  exact stop_at hS _ h (fun n => bif Nat.beq n 1 then 1 else n) rfl rfl rfl ⟨(rn_loose (use_lo rfl) rfl rfl rfl), ⟨(rn_ptr (use_own rfl) rfl rfl), ⟨(rn_int rfl), ⟨(rn_int rfl), trivial⟩⟩⟩⟩ rfl (entl_b (use_own rfl) rfl (by simp) (rb_cells ⟨(rn_int rfl), (rn_int rfl), (rn_int rfl), trivial⟩) (entl_bor (use_lo rfl) rfl rfl entl_nil))
theorem b83_0 (al nl ml : Nat) (tl vl gl : Nat → Int) (k0 k1 k2 : Int) (Kst : KS) (Kret : KR) (x : St83 ⊕ Rt83) (hS : HS 1 400 ((I83 al nl ml tl vl gl k0 k1 k2)) Kst x) (hR : HR 1 400 ((V83 al nl ml tl vl gl k0 k1 k2)) (fun r => [newL (1 + 1) ((N83 al nl ml tl vl gl k0 k1 k2) r) ++ [(0, (false, .cols ml [.int .i64 tl, .int .i64 vl, .int .i64 gl]))]]) Kret x) (x0 : Int) (h : (bif (decide (x0 < (↑nl : Int)))
 then (bif (decide ((0 : Int) ≤ x0 ∧ x0 < (↑nl : Int)))
 then (bif (decide (Int.toNat x0 + al < ml))
 then (bif (k0 == tl (Int.toNat x0 + al) && (k1 == vl (Int.toNat x0 + al) && (k2 == gl (Int.toNat x0 + al) && true)))
 then (some (.inr (x0)))
 else (bif (lim IntKind.i64 (x0 + (1 : Int)))
 then (some (.inl (.h0 (x0 + (1 : Int)))))
 else (none)))
 else (none))
 else (none))
 else (some (.inr ((-1 : Int)))) : Option (St83 ⊕ Rt83)) = some x) : T83_0 cond Kst Kret al nl ml tl vl gl k0 k1 k2 x0 := by
  unfold T83_0
  exact bif_split h
   (fun c0 h => bif_split h
   (fun c1 h => bif_split h
   (fun c2 h => cond_yes c2 (cond_yes c2 (bif_split h
   (fun c3 h => ret_at hR _ h (fun n => n) rfl rfl rfl (rn_int rfl) rfl (entl_bor (use_lo rfl) rfl rfl entl_nil))
   (fun c3 h => bif_split h
   (fun c4 h => stop_at hS _ h (fun n => bif Nat.beq n 1 then 1 else n) rfl rfl rfl ⟨(rn_loose (use_lo rfl) rfl rfl rfl), ⟨(rn_ptr (use_own rfl) rfl rfl), ⟨(rn_int rfl), ⟨(rn_int rfl), trivial⟩⟩⟩⟩ rfl (entl_b (use_own rfl) rfl (by simp) (rb_cells ⟨(rn_int rfl), (rn_int rfl), (rn_int rfl), trivial⟩) (entl_bor (use_lo rfl) rfl rfl entl_nil)))
   (fun c4 h => no_some h)))))
   (fun c2 h => no_some h))
   (fun c1 h => no_some h))
   (fun c0 h => ret_at hR _ h (fun n => n) rfl rfl rfl (rn_int rfl) rfl (entl_bor (use_lo rfl) rfl rfl entl_nil))
theorem a83 (al nl ml : Nat) (tl vl gl : Nat → Int) (k0 k1 k2 : Int) {r : Rt83} (h : Goes ((q83 al nl ml tl vl gl k0 k1 k2)) ((p83 al nl ml tl vl gl k0 k1 k2)) r) : CallR Try.prog 83 [.loose ⟨0, 3, al, 0⟩ nl, .agg [.int .i64 k0, .int .i64 k1, .int .i64 k2]] [[(0, (false, .cols ml [.int .i64 tl, .int .i64 vl, .int .i64 gl]))]] 1 ((V83 al nl ml tl vl gl k0 k1 k2) r) ((fun r => [newL (1 + 1) ((N83 al nl ml tl vl gl k0 k1 k2) r) ++ [(0, (false, .cols ml [.int .i64 tl, .int .i64 vl, .int .i64 gl]))]]) r) 400 ∧ ∃ F, Try.prog.funcs[83]? = some F ∧ F.body.isSome = true ∧ (F.name == "runtime.NumGoroutine") = false := by
  refine dec_calls (f := 83) (lo := 1) (hi := 400) (H := [[(0, (false, .cols ml [.int .i64 tl, .int .i64 vl, .int .i64 gl]))]]) (args := [.loose ⟨0, 3, al, 0⟩ nl, .agg [.int .i64 k0, .int .i64 k1, .int .i64 k2]]) Try.envOk Try.mixed noX_ok ((I83 al nl ml tl vl gl k0 k1 k2)) ((V83 al nl ml tl vl gl k0 k1 k2)) (fun r => [newL (1 + 1) ((N83 al nl ml tl vl gl k0 k1 k2) r) ++ [(0, (false, .cols ml [.int .i64 tl, .int .i64 vl, .int .i64 gl]))]]) (fn := mkFn Try.f83) (ts := [0, 3, 7, 8]) (n := 400) rfl (by decide) (by simp) (names_of rfl) ?_ ?_ ?_ h
  · intro s; cases s <;> exact ⟨hd_ok _ _, by simp [I83], names_of rfl, Nat.le_of_ble_eq_true rfl⟩
  · intro Kst Kret x hS hR h
    exact Holds.eq (te83 cond Kst Kret al nl ml tl vl gl k0 k1 k2) (be83 al nl ml tl vl gl k0 k1 k2 Kst Kret x hS hR h)
  · intro Kst Kret x hS hR s h
    cases s with
    | h0 x0 => exact Holds.eq (t83_0 cond Kst Kret al nl ml tl vl gl k0 k1 k2 x0) (b83_0 al nl ml tl vl gl k0 k1 k2 Kst Kret x hS hR x0 h)
noncomputable def k83  : Con := ⟨83, [.one (.list [.int .i64, .int .i64, .int .i64]), .agg [.plain (.int .i64), .plain (.int .i64), .plain (.int .i64)]], fun (x : (Nat × Nat × Nat × (Nat → Int) × (Nat → Int) × (Nat → Int) × Unit) × (Int × Int × Int × Unit) × Unit) => (fun (al nl ml : Nat) (tl : Nat → Int) (vl : Nat → Int) (gl : Nat → Int) (k0 : Int) (k1 : Int) (k2 : Int) => decide (al + nl ≤ ml ∧ nl ≤ 1000000)) x.1.1 x.1.2.1 x.1.2.2.1 x.1.2.2.2.1 x.1.2.2.2.2.1 x.1.2.2.2.2.2.1 x.2.1.1 x.2.1.2.1 x.2.1.2.2.1, fun (x : (Nat × Nat × Nat × (Nat → Int) × (Nat → Int) × (Nat → Int) × Unit) × (Int × Int × Int × Unit) × Unit) => (fun (al nl ml : Nat) (tl : Nat → Int) (vl : Nat → Int) (gl : Nat → Int) (k0 : Int) (k1 : Int) (k2 : Int) => (V83 al nl ml tl vl gl k0 k1 k2) (S.idx (fun j => decide (tl (j + al) = k0) && decide (vl (j + al) = k1) && decide (gl (j + al) = k2)) 0 nl)) x.1.1 x.1.2.1 x.1.2.2.1 x.1.2.2.2.1 x.1.2.2.2.2.1 x.1.2.2.2.2.2.1 x.2.1.1 x.2.1.2.1 x.2.1.2.2.1, fun (x : (Nat × Nat × Nat × (Nat → Int) × (Nat → Int) × (Nat → Int) × Unit) × (Int × Int × Int × Unit) × Unit) => (fun (al nl ml : Nat) (tl : Nat → Int) (vl : Nat → Int) (gl : Nat → Int) (k0 : Int) (k1 : Int) (k2 : Int) => (N83 al nl ml tl vl gl k0 k1 k2) (S.idx (fun j => decide (tl (j + al) = k0) && decide (vl (j + al) = k1) && decide (gl (j + al) = k2)) 0 nl)) x.1.1 x.1.2.1 x.1.2.2.1 x.1.2.2.2.1 x.1.2.2.2.2.1 x.1.2.2.2.2.2.1 x.2.1.1 x.2.1.2.1 x.2.1.2.2.1, fun _ _ => .dead⟩
theorem s83' (al nl ml : Nat) (tl vl gl : Nat → Int) (k0 k1 k2 : Int) (hp : al + nl ≤ ml ∧ nl ≤ 1000000) : ∀ k i : Nat, i + k = nl → Comes (q83 al nl ml tl vl gl k0 k1 k2) (.h0 (i : Int)) (S.idx (fun j => decide (tl (j + al) = k0) && decide (vl (j + al) = k1) && decide (gl (j + al) = k2)) i k) := by
  obtain ⟨hp1, hp2⟩ := hp
  intro k
  induction k with
  | zero =>
    intro i hi
    apply Comes.of
    show Goes _ _ _
    (first | rw [q83] | unfold q83)
    repeat' first
      | with_reducible refine goes_if (fun h => ?_) (fun h => ?_) <;> (try simp only [SH] at h)
      | exact goes_none.mpr (by omega)
    all_goals first | (exfalso; omega) | rfl | (refine Eq.mpr (congrArg (Comes _ _) ?_) True; simp only [S.idx, Bool.and_eq_true, Bool.or_eq_true, decide_eq_true_eq]; (repeat' split) <;> first | rfl | omega | (exfalso; omega) | (exfalso; simp_all; done) | (exfalso; simp_all; omega) | simp_all) | (refine goes_inr.mpr ?_; simp only [S.idx, Bool.and_eq_true, Bool.or_eq_true, decide_eq_true_eq]; (repeat' split) <;> first | rfl | omega | (exfalso; omega) | (exfalso; simp_all; done) | (exfalso; simp_all; omega) | simp_all)
  | succ k ih =>
    intro i hi
    have ih := ih (i + 1) (by omega)
    apply Comes.of
    show Goes _ _ _
    (first | rw [q83] | unfold q83)
    repeat' first
      | with_reducible refine goes_if (fun h => ?_) (fun h => ?_) <;> (try simp only [SH] at h)
      | exact goes_none.mpr (by omega)
    all_goals first | (exfalso; omega) | rfl | (refine Eq.mpr (congrArg (Comes _ _) ?_) ih; simp only [S.idx, Bool.and_eq_true, Bool.or_eq_true, decide_eq_true_eq]; (repeat' split) <;> first | rfl | omega | (exfalso; omega) | (exfalso; simp_all; done) | (exfalso; simp_all; omega) | simp_all) | (refine goes_inr.mpr ?_; simp only [S.idx, Bool.and_eq_true, Bool.or_eq_true, decide_eq_true_eq]; (repeat' split) <;> first | rfl | omega | (exfalso; omega) | (exfalso; simp_all; done) | (exfalso; simp_all; omega) | simp_all)
theorem s83 (al nl ml : Nat) (tl vl gl : Nat → Int) (k0 k1 k2 : Int) (hp : al + nl ≤ ml ∧ nl ≤ 1000000) : Goes ((q83 al nl ml tl vl gl k0 k1 k2)) ((p83 al nl ml tl vl gl k0 k1 k2)) (S.idx (fun j => decide (tl (j + al) = k0) && decide (vl (j + al) = k1) && decide (gl (j + al) = k2)) 0 nl) := by
  exact s83' al nl ml tl vl gl k0 k1 k2 hp nl 0 (by omega)
theorem k83_ok  : k83.ok Try.prog := by
  intro x hx
  obtain ⟨⟨al, nl, ml, tl, vl, gl, _⟩, ⟨k0, k1, k2, _⟩, _⟩ := x
  obtain ⟨h1, h2⟩ := a83 al nl ml tl vl gl k0 k1 k2 (s83 al nl ml tl vl gl k0 k1 k2 (of_dec hx rfl))
  exact ⟨⟨400, (by decide : 1 + 1 + 0 ≤ 400), h1⟩, h2⟩
inductive St67 where
  | h0 (x0 : Int)
abbrev Rt67  := Int
noncomputable def V67 (al nl ml : Nat) (tl : Nat → Bool) (k1 : Bool) (r : Rt67) : PV := PV.int IntKind.i64 r
noncomputable def N67 (al nl ml : Nat) (tl : Nat → Bool) (k1 : Bool) (r : Rt67) : List Blk := []
noncomputable def I67 (al nl ml : Nat) (tl : Nat → Bool) (k1 : Bool) : St67 → Hd
  | .h0 x0 => ⟨hd Try.f67 0, [PV.loose (PA.mk (0) (1) al (0)) nl, PV.bool k1,
 PV.int IntKind.i64 (↑nl : Int), PV.int IntKind.i64 x0], [[], [(0, (false, .cols ml [.bool tl]))]], 1⟩
noncomputable def q67 (al nl ml : Nat) (tl : Nat → Bool) (k1 : Bool) : St67 → Option (St67 ⊕ Rt67)
  | .h0 x0 => bif (decide (x0 < (↑nl : Int)))
 then (bif (k1)
 then (bif (decide ((0 : Int) ≤ x0 ∧ x0 < (↑nl : Int)))
 then (bif (decide (Int.toNat x0 + al < ml))
 then (bif (tl (Int.toNat x0 + al))
 then (some (.inr (x0)))
 else (bif (lim IntKind.i64 (x0 + (1 : Int)))
 then (some (.inl (.h0 (x0 + (1 : Int)))))
 else (none)))
 else (none))
 else (none))
 else (bif (decide ((0 : Int) ≤ x0 ∧ x0 < (↑nl : Int)))
 then (bif (decide (Int.toNat x0 + al < ml))
 then (bif (tl (Int.toNat x0 + al))
 then (bif (lim IntKind.i64 (x0 + (1 : Int)))
 then (some (.inl (.h0 (x0 + (1 : Int)))))
 else (none))
 else (some (.inr (x0))))
 else (none))
 else (none)))
 else (some (.inr ((-1 : Int))))
noncomputable def p67 (al nl ml : Nat) (tl : Nat → Bool) (k1 : Bool) : Option (St67 ⊕ Rt67) := some (.inl (.h0 ((0 : Int))))
noncomputable def Te67 (test : Bool → Prop → Prop → Prop) (Kst : KS) (Kret : KR) (al nl ml : Nat) (tl : Nat → Bool) (k1 : Bool) : Prop :=
  Kst (hd Try.f67 0) ([PV.loose (PA.mk (0) (1) al (0)) nl, PV.bool k1,
 PV.int IntKind.i64 (↑nl : Int), PV.int IntKind.i64 (0 : Int)]) ([[(0, false, Blk.cols ml [Col.bool tl])]]) (1)
theorem te67 (test : Bool → Prop → Prop → Prop) (Kst : KS) (Kret : KR) (al nl ml : Nat) (tl : Nat → Bool) (k1 : Bool) : run test Try.env true noX true 400 ⟨67, [.cd (mkFn Try.f67).body], argT 0 [.loose ⟨0, 1, al, 0⟩ nl, .bool k1], [[], [(0, (false, .cols ml [.bool tl]))]], 1⟩ (proj 1 [0, 1, 7, 8] Kst Kret) =
  Te67 test Kst Kret al nl ml tl k1 := by kernel_rfl
noncomputable def T67_0 (test : Bool → Prop → Prop → Prop) (Kst : KS) (Kret : KR) (al nl ml : Nat) (tl : Nat → Bool) (k1 : Bool) (x0 : Int) : Prop :=
  test (decide (x0 < (↑nl : Int)))
 (test (k1)
 (test (decide ((0 : Int) ≤ x0 ∧ x0 < (↑nl : Int)))
 (test (decide (Int.toNat x0 + al < ml))
 (test (tl (Int.toNat x0 + al))
 (Kret (PV.int IntKind.i64 x0) ([[(0, false, Blk.cols ml [Col.bool tl])]]) (1))
 (test (lim IntKind.i64 (x0 + (1 : Int)))
 (Kst (hd Try.f67 0) ([PV.loose (PA.mk (0) (1) al (0)) nl, PV.bool k1,
 PV.int IntKind.i64 (↑nl : Int), PV.int IntKind.i64 (x0 + (1 : Int))]) ([[(0, false, Blk.cols ml [Col.bool tl])]]) (1))
 (False)))
 (False))
 (False))
 (test (decide ((0 : Int) ≤ x0 ∧ x0 < (↑nl : Int)))
 (test (decide (Int.toNat x0 + al < ml))
 (test (tl (Int.toNat x0 + al))
 (test (lim IntKind.i64 (x0 + (1 : Int)))
 (Kst (hd Try.f67 0) ([PV.loose (PA.mk (0) (1) al (0)) nl, PV.bool k1,
 PV.int IntKind.i64 (↑nl : Int), PV.int IntKind.i64 (x0 + (1 : Int))]) ([[(0, false, Blk.cols ml [Col.bool tl])]]) (1))
 (False))
 (Kret (PV.int IntKind.i64 x0) ([[(0, false, Blk.cols ml [Col.bool tl])]]) (1)))
 (False))
 (False)))
 (Kret (PV.int IntKind.i64 (-1 : Int)) ([[(0, false, Blk.cols ml [Col.bool tl])]]) (1))
theorem t67_0 (test : Bool → Prop → Prop → Prop) (Kst : KS) (Kret : KR) (al nl ml : Nat) (tl : Nat → Bool) (k1 : Bool) (x0 : Int) : run test Try.env true noX true 400 ⟨67, hd Try.f67 0, zipT [0, 1, 7, 8] [PV.loose (PA.mk (0) (1) al (0)) nl, PV.bool k1,
 PV.int IntKind.i64 (↑nl : Int), PV.int IntKind.i64 x0], [[], [(0, (false, .cols ml [.bool tl]))]], 1⟩ (proj 1 [0, 1, 7, 8] Kst Kret) =
  T67_0 test Kst Kret al nl ml tl k1 x0 := by kernel_rfl
theorem be67 (al nl ml : Nat) (tl : Nat → Bool) (k1 : Bool) (Kst : KS) (Kret : KR) (x : St67 ⊕ Rt67) (hS : HS 1 400 ((I67 al nl ml tl k1)) Kst x) (hR : HR 1 400 ((V67 al nl ml tl k1)) (fun r => [newL (1 + 1) ((N67 al nl ml tl k1) r) ++ [(0, (false, .cols ml [.bool tl]))]]) Kret x) (h : (some (.inl (.h0 ((0 : Int)))) : Option (St67 ⊕ Rt67)) = some x) : Te67 cond Kst Kret al nl ml tl k1 := by
  unfold Te67
  exact stop_at hS _ h (fun n => n) rfl rfl rfl ⟨(rn_loose (use_lo rfl) rfl rfl rfl), ⟨(rn_bool rfl), ⟨(rn_int rfl), ⟨(rn_int rfl), trivial⟩⟩⟩⟩ rfl (entl_bor (use_lo rfl) rfl rfl entl_nil)
theorem b67_0 (al nl ml : Nat) (tl : Nat → Bool) (k1 : Bool) (Kst : KS) (Kret : KR) (x : St67 ⊕ Rt67) (hS : HS 1 400 ((I67 al nl ml tl k1)) Kst x) (hR : HR 1 400 ((V67 al nl ml tl k1)) (fun r => [newL (1 + 1) ((N67 al nl ml tl k1) r) ++ [(0, (false, .cols ml [.bool tl]))]]) Kret x) (x0 : Int) (h : (bif (decide (x0 < (↑nl : Int)))
 then (bif (k1)
 then (bif (decide ((0 : Int) ≤ x0 ∧ x0 < (↑nl : Int)))
 then (bif (decide (Int.toNat x0 + al < ml))
 then (bif (tl (Int.toNat x0 + al))
 then (some (.inr (x0)))
 else (bif (lim IntKind.i64 (x0 + (1 : Int)))
 then (some (.inl (.h0 (x0 + (1 : Int)))))
 else (none)))
 else (none))
 else (none))
 else (bif (decide ((0 : Int) ≤ x0 ∧ x0 < (↑nl : Int)))
 then (bif (decide (Int.toNat x0 + al < ml))
 then (bif (tl (Int.toNat x0 + al))
 then (bif (lim IntKind.i64 (x0 + (1 : Int)))
 then (some (.inl (.h0 (x0 + (1 : Int)))))
 else (none))
 else (some (.inr (x0))))
 else (none))
 else (none)))
 else (some (.inr ((-1 : Int)))) : Option (St67 ⊕ Rt67)) = some x) : T67_0 cond Kst Kret al nl ml tl k1 x0 := by
  unfold T67_0
  refine bif_split h
   (fun c0 h => bif_split h
   (fun c1 h => bif_split h
   (fun c2 h => bif_split h
   (fun c3 h => bif_split h
   (fun c4 h => ?_)
   (fun c4 h => bif_split h
   (fun c5 h => ?_)
   (fun c5 h => ?_)))
   (fun c3 h => ?_))
   (fun c2 h => ?_))
   (fun c1 h => bif_split h
   (fun c2 h => bif_split h
   (fun c3 h => bif_split h
   (fun c4 h => bif_split h
   (fun c5 h => ?_)
   (fun c5 h => ?_))
   (fun c4 h => ?_))
   (fun c3 h => ?_))
   (fun c2 h => ?_)))
   (fun c0 h => ?_)
  all_goals first
    | exact no_some h
    | exact ret_at hR _ h (fun n => n) rfl rfl rfl (rn_int rfl) rfl (entl_bor (use_lo rfl) rfl rfl entl_nil)
    | exact stop_at hS _ h (fun n => n) rfl rfl rfl ⟨(rn_loose (use_lo rfl) rfl rfl rfl), ⟨(rn_bool rfl), ⟨(rn_int rfl), ⟨(rn_int rfl), trivial⟩⟩⟩⟩ rfl (entl_bor (use_lo rfl) rfl rfl entl_nil)
theorem a67 (al nl ml : Nat) (tl : Nat → Bool) (k1 : Bool) {r : Rt67} (h : Goes ((q67 al nl ml tl k1)) ((p67 al nl ml tl k1)) r) : CallR Try.prog 67 [.loose ⟨0, 1, al, 0⟩ nl, .bool k1] [[(0, (false, .cols ml [.bool tl]))]] 1 ((V67 al nl ml tl k1) r) ((fun r => [newL (1 + 1) ((N67 al nl ml tl k1) r) ++ [(0, (false, .cols ml [.bool tl]))]]) r) 400 ∧ ∃ F, Try.prog.funcs[67]? = some F ∧ F.body.isSome = true ∧ (F.name == "runtime.NumGoroutine") = false := by
  refine dec_calls (f := 67) (lo := 1) (hi := 400) (H := [[(0, (false, .cols ml [.bool tl]))]]) (args := [.loose ⟨0, 1, al, 0⟩ nl, .bool k1]) Try.envOk Try.mixed noX_ok ((I67 al nl ml tl k1)) ((V67 al nl ml tl k1)) (fun r => [newL (1 + 1) ((N67 al nl ml tl k1) r) ++ [(0, (false, .cols ml [.bool tl]))]]) (fn := mkFn Try.f67) (ts := [0, 1, 7, 8]) (n := 400) rfl (by decide) (by simp) (names_of rfl) ?_ ?_ ?_ h
  · intro s; cases s <;> exact ⟨hd_ok _ _, by simp [I67], names_of rfl, Nat.le_of_ble_eq_true rfl⟩
  · intro Kst Kret x hS hR h
    exact Holds.eq (te67 cond Kst Kret al nl ml tl k1) (be67 al nl ml tl k1 Kst Kret x hS hR h)
  · intro Kst Kret x hS hR s h
    cases s with
    | h0 x0 => exact Holds.eq (t67_0 cond Kst Kret al nl ml tl k1 x0) (b67_0 al nl ml tl k1 Kst Kret x hS hR x0 h)
noncomputable def k67  : Con := ⟨67, [.one (.list [.bool]), .one (.plain (.bool))], fun (x : (Nat × Nat × Nat × (Nat → Bool) × Unit) × Bool × Unit) => (fun (al nl ml : Nat) (tl : Nat → Bool) (k1 : Bool) => decide (al + nl ≤ ml ∧ nl ≤ 1000000)) x.1.1 x.1.2.1 x.1.2.2.1 x.1.2.2.2.1 x.2.1, fun (x : (Nat × Nat × Nat × (Nat → Bool) × Unit) × Bool × Unit) => (fun (al nl ml : Nat) (tl : Nat → Bool) (k1 : Bool) => (V67 al nl ml tl k1) (S.idx (fun j => (tl (j + al) == k1)) 0 nl)) x.1.1 x.1.2.1 x.1.2.2.1 x.1.2.2.2.1 x.2.1, fun (x : (Nat × Nat × Nat × (Nat → Bool) × Unit) × Bool × Unit) => (fun (al nl ml : Nat) (tl : Nat → Bool) (k1 : Bool) => (N67 al nl ml tl k1) (S.idx (fun j => (tl (j + al) == k1)) 0 nl)) x.1.1 x.1.2.1 x.1.2.2.1 x.1.2.2.2.1 x.2.1, fun _ _ => .dead⟩
theorem s67' (al nl ml : Nat) (tl : Nat → Bool) (k1 : Bool) (hp : al + nl ≤ ml ∧ nl ≤ 1000000) : ∀ k i : Nat, i + k = nl → Comes (q67 al nl ml tl k1) (.h0 (i : Int)) (S.idx (fun j => (tl (j + al) == k1)) i k) := by
  obtain ⟨hp1, hp2⟩ := hp
  intro k
  induction k with
  | zero =>
    intro i hi
    apply Comes.of
    show Goes _ _ _
    (first | rw [q67] | unfold q67)
    repeat' first
      | with_reducible refine goes_if (fun h => ?_) (fun h => ?_) <;> (try simp only [SH] at h)
      | exact goes_none.mpr (by omega)
    all_goals first | (exfalso; omega) | rfl | (refine Eq.mpr (congrArg (Comes _ _) ?_) True; simp only [S.idx, Bool.and_eq_true, Bool.or_eq_true, decide_eq_true_eq]; (repeat' split) <;> first | rfl | omega | (exfalso; omega) | (exfalso; simp_all; done) | (exfalso; simp_all; omega) | simp_all) | (refine goes_inr.mpr ?_; simp only [S.idx, Bool.and_eq_true, Bool.or_eq_true, decide_eq_true_eq]; (repeat' split) <;> first | rfl | omega | (exfalso; omega) | (exfalso; simp_all; done) | (exfalso; simp_all; omega) | simp_all)
  | succ k ih =>
    intro i hi
    have ih := ih (i + 1) (by omega)
    apply Comes.of
    show Goes _ _ _
    (first | rw [q67] | unfold q67)
    repeat' first
      | with_reducible refine goes_if (fun h => ?_) (fun h => ?_) <;> (try simp only [SH] at h)
      | exact goes_none.mpr (by omega)
    all_goals first | (exfalso; omega) | rfl | (refine Eq.mpr (congrArg (Comes _ _) ?_) ih; simp only [S.idx, Bool.and_eq_true, Bool.or_eq_true, decide_eq_true_eq]; (repeat' split) <;> first | rfl | omega | (exfalso; omega) | (exfalso; simp_all; done) | (exfalso; simp_all; omega) | simp_all) | (refine goes_inr.mpr ?_; simp only [S.idx, Bool.and_eq_true, Bool.or_eq_true, decide_eq_true_eq]; (repeat' split) <;> first | rfl | omega | (exfalso; omega) | (exfalso; simp_all; done) | (exfalso; simp_all; omega) | simp_all)
theorem s67 (al nl ml : Nat) (tl : Nat → Bool) (k1 : Bool) (hp : al + nl ≤ ml ∧ nl ≤ 1000000) : Goes ((q67 al nl ml tl k1)) ((p67 al nl ml tl k1)) (S.idx (fun j => (tl (j + al) == k1)) 0 nl) := by
  exact s67' al nl ml tl k1 hp nl 0 (by omega)
theorem k67_ok  : k67.ok Try.prog := by
  intro x hx
  obtain ⟨⟨al, nl, ml, tl, _⟩, k1, _⟩ := x
  obtain ⟨h1, h2⟩ := a67 al nl ml tl k1 (s67 al nl ml tl k1 (of_dec hx rfl))
  exact ⟨⟨400, (by decide : 1 + 1 + 0 ≤ 400), h1⟩, h2⟩
noncomputable def xI (test : Bool → Prop → Prop → Prop) : Ext := consX test [k83, k67]
theorem xI_ok  : ExtOk Try.prog (xI cond) := consX_ok ⟨k83_ok, k67_ok, trivial⟩
abbrev St76  := Empty
abbrev Rt76  := Bool
noncomputable def V76 (al nl ml : Nat) (tl vl gl : Nat → Int) (k0 k1 k2 : Int) (r : Rt76) : PV := PV.bool r
noncomputable def N76 (al nl ml : Nat) (tl vl gl : Nat → Int) (k0 k1 k2 : Int) (r : Rt76) : List Blk := []
noncomputable def I76 (al nl ml : Nat) (tl vl gl : Nat → Int) (k0 k1 k2 : Int) : St76 → Hd := fun s => s.elim
noncomputable def q76 (al nl ml : Nat) (tl vl gl : Nat → Int) (k0 k1 k2 : Int) : St76 → Option (St76 ⊕ Rt76) := fun s => s.elim
noncomputable def p76 (al nl ml : Nat) (tl vl gl : Nat → Int) (k0 k1 k2 : Int) : Option (St76 ⊕ Rt76) := bif (decide (al + nl ≤ ml ∧ nl ≤ 1000000))
 then (bif (decide
 (S.idx
 (fun j =>
 decide (tl (j + al) = k0) && decide (vl (j + al) = k1) &&
 decide (gl (j + al) = k2))
 (0) nl ≥
 (0 : Int)))
 then (some (.inr (true)))
 else (some (.inr (false))))
 else (none)
noncomputable def Te76 (test : Bool → Prop → Prop → Prop) (Kst : KS) (Kret : KR) (al nl ml : Nat) (tl vl gl : Nat → Int) (k0 k1 k2 : Int) : Prop :=
  test (decide (al + nl ≤ ml ∧ nl ≤ 1000000))
 (test (decide
 (S.idx
 (fun j =>
 decide (tl (j + al) = k0) && decide (vl (j + al) = k1) &&
 decide (gl (j + al) = k2))
 (0) nl ≥
 (0 : Int)))
 (Kret (PV.tf true) ([[(0, false,
 Blk.cols ml
 [Col.int IntKind.i64 tl, Col.int IntKind.i64 vl, Col.int IntKind.i64 gl])]]) (3))
 (Kret (PV.tf false) ([[(0, false,
 Blk.cols ml
 [Col.int IntKind.i64 tl, Col.int IntKind.i64 vl, Col.int IntKind.i64 gl])]]) (3)))
 (False)
theorem te76 (test : Bool → Prop → Prop → Prop) (Kst : KS) (Kret : KR) (al nl ml : Nat) (tl vl gl : Nat → Int) (k0 k1 k2 : Int) : run test Try.env true (xI test) true 400 ⟨76, [.cd (mkFn Try.f76).body], argT 0 [.loose ⟨0, 3, al, 0⟩ nl, .agg [.int .i64 k0, .int .i64 k1, .int .i64 k2]], [[], [(0, (false, .cols ml [.int .i64 tl, .int .i64 vl, .int .i64 gl]))]], 1⟩ (proj 1 [] Kst Kret) =
  Te76 test Kst Kret al nl ml tl vl gl k0 k1 k2 := by kernel_rfl
theorem be76 (al nl ml : Nat) (tl vl gl : Nat → Int) (k0 k1 k2 : Int) (Kst : KS) (Kret : KR) (x : St76 ⊕ Rt76) (hS : HS 1 400 ((I76 al nl ml tl vl gl k0 k1 k2)) Kst x) (hR : HR 1 400 ((V76 al nl ml tl vl gl k0 k1 k2)) (fun r => [newL (1 + 1) ((N76 al nl ml tl vl gl k0 k1 k2) r) ++ [(0, (false, .cols ml [.int .i64 tl, .int .i64 vl, .int .i64 gl]))]]) Kret x) (h : p76 al nl ml tl vl gl k0 k1 k2 = some x) : Te76 cond Kst Kret al nl ml tl vl gl k0 k1 k2 := by
  unfold Te76
  unfold p76 at h
  refine bif_split h
   (fun c0 h => bif_split h
   (fun c1 h => ret_at hR _ h (fun n => n) rfl rfl rfl (rn_bool_tf rfl) rfl (entl_bor (use_lo rfl) rfl rfl entl_nil))
   (fun c1 h => ret_at hR _ h (fun n => n) rfl rfl rfl (rn_bool_tf rfl) rfl (entl_bor (use_lo rfl) rfl rfl entl_nil)))
   (fun c0 h => no_some h)
theorem a76 (al nl ml : Nat) (tl vl gl : Nat → Int) (k0 k1 k2 : Int) {r : Rt76} (h : Goes ((q76 al nl ml tl vl gl k0 k1 k2)) ((p76 al nl ml tl vl gl k0 k1 k2)) r) : CallR Try.prog 76 [.loose ⟨0, 3, al, 0⟩ nl, .agg [.int .i64 k0, .int .i64 k1, .int .i64 k2]] [[(0, (false, .cols ml [.int .i64 tl, .int .i64 vl, .int .i64 gl]))]] 1 ((V76 al nl ml tl vl gl k0 k1 k2) r) ((fun r => [newL (1 + 1) ((N76 al nl ml tl vl gl k0 k1 k2) r) ++ [(0, (false, .cols ml [.int .i64 tl, .int .i64 vl, .int .i64 gl]))]]) r) 400 ∧ ∃ F, Try.prog.funcs[76]? = some F ∧ F.body.isSome = true ∧ (F.name == "runtime.NumGoroutine") = false := by
  refine dec_calls (f := 76) (lo := 1) (hi := 400) (H := [[(0, (false, .cols ml [.int .i64 tl, .int .i64 vl, .int .i64 gl]))]]) (args := [.loose ⟨0, 3, al, 0⟩ nl, .agg [.int .i64 k0, .int .i64 k1, .int .i64 k2]]) Try.envOk Try.mixed xI_ok ((I76 al nl ml tl vl gl k0 k1 k2)) ((V76 al nl ml tl vl gl k0 k1 k2)) (fun r => [newL (1 + 1) ((N76 al nl ml tl vl gl k0 k1 k2) r) ++ [(0, (false, .cols ml [.int .i64 tl, .int .i64 vl, .int .i64 gl]))]]) (fn := mkFn Try.f76) (ts := []) (n := 400) rfl (by decide) (by simp) (names_of rfl) ?_ ?_ ?_ h
  · intro s; exact s.elim
  · intro Kst Kret x hS hR h
    exact Holds.eq (te76 cond Kst Kret al nl ml tl vl gl k0 k1 k2) (be76 al nl ml tl vl gl k0 k1 k2 Kst Kret x hS hR h)
  · intro Kst Kret x hS hR s h; exact s.elim
noncomputable def k76  : Con := ⟨76, [.one (.list [.int .i64, .int .i64, .int .i64]), .agg [.plain (.int .i64), .plain (.int .i64), .plain (.int .i64)]], fun (x : (Nat × Nat × Nat × (Nat → Int) × (Nat → Int) × (Nat → Int) × Unit) × (Int × Int × Int × Unit) × Unit) => (fun (al nl ml : Nat) (tl : Nat → Int) (vl : Nat → Int) (gl : Nat → Int) (k0 : Int) (k1 : Int) (k2 : Int) => decide (al + nl ≤ ml ∧ nl ≤ 1000000)) x.1.1 x.1.2.1 x.1.2.2.1 x.1.2.2.2.1 x.1.2.2.2.2.1 x.1.2.2.2.2.2.1 x.2.1.1 x.2.1.2.1 x.2.1.2.2.1, fun (x : (Nat × Nat × Nat × (Nat → Int) × (Nat → Int) × (Nat → Int) × Unit) × (Int × Int × Int × Unit) × Unit) => (fun (al nl ml : Nat) (tl : Nat → Int) (vl : Nat → Int) (gl : Nat → Int) (k0 : Int) (k1 : Int) (k2 : Int) => (V76 al nl ml tl vl gl k0 k1 k2) (S.any (fun j => decide (tl (j + al) = k0) && decide (vl (j + al) = k1) && decide (gl (j + al) = k2)) nl)) x.1.1 x.1.2.1 x.1.2.2.1 x.1.2.2.2.1 x.1.2.2.2.2.1 x.1.2.2.2.2.2.1 x.2.1.1 x.2.1.2.1 x.2.1.2.2.1, fun (x : (Nat × Nat × Nat × (Nat → Int) × (Nat → Int) × (Nat → Int) × Unit) × (Int × Int × Int × Unit) × Unit) => (fun (al nl ml : Nat) (tl : Nat → Int) (vl : Nat → Int) (gl : Nat → Int) (k0 : Int) (k1 : Int) (k2 : Int) => (N76 al nl ml tl vl gl k0 k1 k2) (S.any (fun j => decide (tl (j + al) = k0) && decide (vl (j + al) = k1) && decide (gl (j + al) = k2)) nl)) x.1.1 x.1.2.1 x.1.2.2.1 x.1.2.2.2.1 x.1.2.2.2.2.1 x.1.2.2.2.2.2.1 x.2.1.1 x.2.1.2.1 x.2.1.2.2.1, fun _ _ => .dead⟩
theorem s76 (al nl ml : Nat) (tl vl gl : Nat → Int) (k0 k1 k2 : Int) (hp : al + nl ≤ ml ∧ nl ≤ 1000000) : Goes ((q76 al nl ml tl vl gl k0 k1 k2)) ((p76 al nl ml tl vl gl k0 k1 k2)) (S.any (fun j => decide (tl (j + al) = k0) && decide (vl (j + al) = k1) && decide (gl (j + al) = k2)) nl) := by
  have hp' := hp
  obtain ⟨hp1, hp2⟩ := hp
  rw [← idx_any (p := (fun j => decide (tl (j + al) = k0) && decide (vl (j + al) = k1) && decide (gl (j + al) = k2))) (n := nl)]
  show Goes _ _ _
  unfold p76
  repeat' first
    | with_reducible refine goes_if (fun h => ?_) (fun h => ?_) <;> (try simp only [SH] at h)
    | exact goes_none.mpr (by omega)
  all_goals first | (exfalso; omega) | (exfalso; simp_all; done) | (refine goes_inr.mpr ?_; first | rfl | (symm; simp_all; done) | (symm; simp_all; omega))
theorem k76_ok  : k76.ok Try.prog := by
  intro x hx
  obtain ⟨⟨al, nl, ml, tl, vl, gl, _⟩, ⟨k0, k1, k2, _⟩, _⟩ := x
  obtain ⟨h1, h2⟩ := a76 al nl ml tl vl gl k0 k1 k2 (s76 al nl ml tl vl gl k0 k1 k2 (of_dec hx rfl))
  exact ⟨⟨400, (by decide : 1 + 1 + 0 ≤ 400), h1⟩, h2⟩
abbrev St41  := Empty
abbrev Rt41  := Bool
noncomputable def V41 (al nl ml : Nat) (tl : Nat → Bool) (k1 : Bool) (r : Rt41) : PV := PV.bool r
noncomputable def N41 (al nl ml : Nat) (tl : Nat → Bool) (k1 : Bool) (r : Rt41) : List Blk := []
noncomputable def I41 (al nl ml : Nat) (tl : Nat → Bool) (k1 : Bool) : St41 → Hd := fun s => s.elim
noncomputable def q41 (al nl ml : Nat) (tl : Nat → Bool) (k1 : Bool) : St41 → Option (St41 ⊕ Rt41) := fun s => s.elim
noncomputable def p41 (al nl ml : Nat) (tl : Nat → Bool) (k1 : Bool) : Option (St41 ⊕ Rt41) := bif (k1)
 then (bif (decide (al + nl ≤ ml ∧ nl ≤ 1000000))
 then (bif (decide (S.idx (fun j => tl (j + al) == true) (0) nl ≥ (0 : Int)))
 then (some (.inr (true)))
 else (some (.inr (false))))
 else (none))
 else (bif (decide (al + nl ≤ ml ∧ nl ≤ 1000000))
 then (bif (decide (S.idx (fun j => tl (j + al) == false) (0) nl ≥ (0 : Int)))
 then (some (.inr (true)))
 else (some (.inr (false))))
 else (none))
noncomputable def Te41 (test : Bool → Prop → Prop → Prop) (Kst : KS) (Kret : KR) (al nl ml : Nat) (tl : Nat → Bool) (k1 : Bool) : Prop :=
  test (k1)
 (test (decide (al + nl ≤ ml ∧ nl ≤ 1000000))
 (test (decide (S.idx (fun j => tl (j + al) == true) (0) nl ≥ (0 : Int)))
 (Kret (PV.tf true) ([[(0, false, Blk.cols ml [Col.bool tl])]]) (2))
 (Kret (PV.tf false) ([[(0, false, Blk.cols ml [Col.bool tl])]]) (2)))
 (False))
 (test (decide (al + nl ≤ ml ∧ nl ≤ 1000000))
 (test (decide (S.idx (fun j => tl (j + al) == false) (0) nl ≥ (0 : Int)))
 (Kret (PV.tf true) ([[(0, false, Blk.cols ml [Col.bool tl])]]) (2))
 (Kret (PV.tf false) ([[(0, false, Blk.cols ml [Col.bool tl])]]) (2)))
 (False))
theorem te41 (test : Bool → Prop → Prop → Prop) (Kst : KS) (Kret : KR) (al nl ml : Nat) (tl : Nat → Bool) (k1 : Bool) : run test Try.env true (xI test) true 400 ⟨41, [.cd (mkFn Try.f41).body], argT 0 [.loose ⟨0, 1, al, 0⟩ nl, .bool k1], [[], [(0, (false, .cols ml [.bool tl]))]], 1⟩ (proj 1 [] Kst Kret) =
  Te41 test Kst Kret al nl ml tl k1 := by kernel_rfl
theorem be41 (al nl ml : Nat) (tl : Nat → Bool) (k1 : Bool) (Kst : KS) (Kret : KR) (x : St41 ⊕ Rt41) (hS : HS 1 400 ((I41 al nl ml tl k1)) Kst x) (hR : HR 1 400 ((V41 al nl ml tl k1)) (fun r => [newL (1 + 1) ((N41 al nl ml tl k1) r) ++ [(0, (false, .cols ml [.bool tl]))]]) Kret x) (h : p41 al nl ml tl k1 = some x) : Te41 cond Kst Kret al nl ml tl k1 := by
  unfold Te41
  unfold p41 at h
  refine bif_split h
   (fun c0 h => bif_split h
   (fun c1 h => bif_split h
   (fun c2 h => ?_)
   (fun c2 h => ?_))
   (fun c1 h => ?_))
   (fun c0 h => bif_split h
   (fun c1 h => bif_split h
   (fun c2 h => ?_)
   (fun c2 h => ?_))
   (fun c1 h => ?_))
  all_goals first
    | exact ret_at hR _ h (fun n => n) rfl rfl rfl (rn_bool_tf rfl) rfl (entl_bor (use_lo rfl) rfl rfl entl_nil)
    | exact no_some h
theorem a41 (al nl ml : Nat) (tl : Nat → Bool) (k1 : Bool) {r : Rt41} (h : Goes ((q41 al nl ml tl k1)) ((p41 al nl ml tl k1)) r) : CallR Try.prog 41 [.loose ⟨0, 1, al, 0⟩ nl, .bool k1] [[(0, (false, .cols ml [.bool tl]))]] 1 ((V41 al nl ml tl k1) r) ((fun r => [newL (1 + 1) ((N41 al nl ml tl k1) r) ++ [(0, (false, .cols ml [.bool tl]))]]) r) 400 ∧ ∃ F, Try.prog.funcs[41]? = some F ∧ F.body.isSome = true ∧ (F.name == "runtime.NumGoroutine") = false := by
  refine dec_calls (f := 41) (lo := 1) (hi := 400) (H := [[(0, (false, .cols ml [.bool tl]))]]) (args := [.loose ⟨0, 1, al, 0⟩ nl, .bool k1]) Try.envOk Try.mixed xI_ok ((I41 al nl ml tl k1)) ((V41 al nl ml tl k1)) (fun r => [newL (1 + 1) ((N41 al nl ml tl k1) r) ++ [(0, (false, .cols ml [.bool tl]))]]) (fn := mkFn Try.f41) (ts := []) (n := 400) rfl (by decide) (by simp) (names_of rfl) ?_ ?_ ?_ h
  · intro s; exact s.elim
  · intro Kst Kret x hS hR h
    exact Holds.eq (te41 cond Kst Kret al nl ml tl k1) (be41 al nl ml tl k1 Kst Kret x hS hR h)
  · intro Kst Kret x hS hR s h; exact s.elim
noncomputable def k41  : Con := ⟨41, [.one (.list [.bool]), .one (.plain (.bool))], fun (x : (Nat × Nat × Nat × (Nat → Bool) × Unit) × Bool × Unit) => (fun (al nl ml : Nat) (tl : Nat → Bool) (k1 : Bool) => decide (al + nl ≤ ml ∧ nl ≤ 1000000)) x.1.1 x.1.2.1 x.1.2.2.1 x.1.2.2.2.1 x.2.1, fun (x : (Nat × Nat × Nat × (Nat → Bool) × Unit) × Bool × Unit) => (fun (al nl ml : Nat) (tl : Nat → Bool) (k1 : Bool) => (V41 al nl ml tl k1) (S.any (fun j => (tl (j + al) == k1)) nl)) x.1.1 x.1.2.1 x.1.2.2.1 x.1.2.2.2.1 x.2.1, fun (x : (Nat × Nat × Nat × (Nat → Bool) × Unit) × Bool × Unit) => (fun (al nl ml : Nat) (tl : Nat → Bool) (k1 : Bool) => (N41 al nl ml tl k1) (S.any (fun j => (tl (j + al) == k1)) nl)) x.1.1 x.1.2.1 x.1.2.2.1 x.1.2.2.2.1 x.2.1, fun _ _ => .dead⟩
theorem s41 (al nl ml : Nat) (tl : Nat → Bool) (k1 : Bool) (hp : al + nl ≤ ml ∧ nl ≤ 1000000) : Goes ((q41 al nl ml tl k1)) ((p41 al nl ml tl k1)) (S.any (fun j => (tl (j + al) == k1)) nl) := by
  have hp' := hp
  obtain ⟨hp1, hp2⟩ := hp
  rw [← idx_any (p := (fun j => (tl (j + al) == k1))) (n := nl)]
  show Goes _ _ _
  unfold p41
  repeat' first
    | with_reducible refine goes_if (fun h => ?_) (fun h => ?_) <;> (try simp only [SH] at h)
    | exact goes_none.mpr (by omega)
  all_goals first | (exfalso; omega) | (exfalso; simp_all; done) | (refine goes_inr.mpr ?_; first | rfl | (symm; simp_all; done) | (symm; simp_all; omega))
theorem k41_ok  : k41.ok Try.prog := by
  intro x hx
  obtain ⟨⟨al, nl, ml, tl, _⟩, k1, _⟩ := x
  obtain ⟨h1, h2⟩ := a41 al nl ml tl k1 (s41 al nl ml tl k1 (of_dec hx rfl))
  exact ⟨⟨400, (by decide : 1 + 1 + 0 ≤ 400), h1⟩, h2⟩
inductive St44 where
  | h0 (x0 : Int) (x1 : List Int) (x2 : List (Int × Int × Int))
  | h1 (x0 : Int) (x1 : Int) (x2 : Int) (x3 : List Int) (x4 : List Int) (x5 : List (Int × Int × Int))
  | h2 (x0 : Int) (x1 : Int) (x2 : Int) (x3 : Int) (x4 : Int) (x5 : List Int) (x6 : List Int) (x7 : List (Int × Int × Int))
  | h3 (x0 : Int) (x1 : List (Int × Int × Int))
abbrev Rt44  := List (Int × Int × Int)
noncomputable def V44 (aq nq mq : Nat) (tq : Nat → ByteArray) (vq gq : Nat → Int) (de : Int) (r : Rt44) : PV := PV.own (2) (3) (List.length r)
noncomputable def N44 (aq nq mq : Nat) (tq : Nat → ByteArray) (vq gq : Nat → Int) (de : Int) (r : Rt44) : List Blk := [Blk.cols (List.length r)
 [Col.int IntKind.i64 fun j => (S.at' r j).1,
 Col.int IntKind.i64 fun j => (S.at' r j).2.1,
 Col.int IntKind.i64 fun j => (S.at' r j).2.2]]
noncomputable def I44 (aq nq mq : Nat) (tq : Nat → ByteArray) (vq gq : Nat → Int) (de : Int) : St44 → Hd
  | .h0 x0 x1 x2 => ⟨hd Try.f44 0, [PV.ptr (PA.mk (1) (0) (0) (0)),
 PV.own (3) (3) (List.length x2), PV.unk, PV.unk,
 PV.own (2) (1) (List.length x1), PV.int IntKind.i64 (2 : Int),
 PV.int IntKind.i64 x0, PV.unk, PV.unk, PV.unk, PV.unk, PV.unk, PV.unk,
 PV.unk], [[(1, (true, Blk.cells [PV.loose (PA.mk (0) (3) aq (0)) nq, PV.int IntKind.i64 de])), (2, (true, Blk.cols (List.length x1) [Col.int IntKind.i64 fun j => S.at' x1 j])), (3, (true, Blk.cols (List.length x2)
 [Col.int IntKind.i64 fun j => (S.at' x2 j).1,
 Col.int IntKind.i64 fun j => (S.at' x2 j).2.1,
 Col.int IntKind.i64 fun j => (S.at' x2 j).2.2]))], [(0, (false, .cols mq [.str tq, .int .i64 vq, .int .i64 gq]))]], 4⟩
  | .h1 x0 x1 x2 x3 x4 x5 => ⟨hd Try.f44 1, [PV.ptr (PA.mk (1) (0) (0) (0)),
 PV.own (4) (3) (List.length x5), PV.int IntKind.i64 x0, PV.unk,
 PV.own (2) (1) (List.length x3), PV.int IntKind.i64 (2 : Int),
 PV.int IntKind.i64 x1, PV.own (3) (1) (List.length x4),
 PV.int IntKind.i64 (2 : Int), PV.int IntKind.i64 x2, PV.unk, PV.unk, PV.unk,
 PV.unk], [[(1, (true, Blk.cells [PV.loose (PA.mk (0) (3) aq (0)) nq, PV.int IntKind.i64 de])), (2, (true, Blk.cols (List.length x3) [Col.int IntKind.i64 fun j => S.at' x3 j])), (3, (true, Blk.cols (List.length x4) [Col.int IntKind.i64 fun j => S.at' x4 j])), (4, (true, Blk.cols (List.length x5)
 [Col.int IntKind.i64 fun j => (S.at' x5 j).1,
 Col.int IntKind.i64 fun j => (S.at' x5 j).2.1,
 Col.int IntKind.i64 fun j => (S.at' x5 j).2.2]))], [(0, (false, .cols mq [.str tq, .int .i64 vq, .int .i64 gq]))]], 5⟩
  | .h2 x0 x1 x2 x3 x4 x5 x6 x7 => ⟨hd Try.f44 2, [PV.ptr (PA.mk (1) (0) (0) (0)),
 PV.own (4) (3) (List.length x7), PV.int IntKind.i64 x0, PV.int IntKind.i64 x1,
 PV.own (2) (1) (List.length x5), PV.int IntKind.i64 (2 : Int),
 PV.int IntKind.i64 x2, PV.own (3) (1) (List.length x6),
 PV.int IntKind.i64 (2 : Int), PV.int IntKind.i64 x3, PV.int IntKind.i64 (↑nq : Int),
 PV.int IntKind.i64 x4, PV.unk, PV.unk], [[(1, (true, Blk.cells [PV.loose (PA.mk (0) (3) aq (0)) nq, PV.int IntKind.i64 de])), (2, (true, Blk.cols (List.length x5) [Col.int IntKind.i64 fun j => S.at' x5 j])), (3, (true, Blk.cols (List.length x6) [Col.int IntKind.i64 fun j => S.at' x6 j])), (4, (true, Blk.cols (List.length x7)
 [Col.int IntKind.i64 fun j => (S.at' x7 j).1,
 Col.int IntKind.i64 fun j => (S.at' x7 j).2.1,
 Col.int IntKind.i64 fun j => (S.at' x7 j).2.2]))], [(0, (false, .cols mq [.str tq, .int .i64 vq, .int .i64 gq]))]], 5⟩
  | .h3 x0 x1 => ⟨hd Try.f44 3, [PV.unk, PV.own (1) (3) (List.length x1), PV.unk, PV.unk, PV.unk,
 PV.unk, PV.unk, PV.unk, PV.unk, PV.unk, PV.unk, PV.unk,
 PV.int IntKind.i64 (↑nq : Int), PV.int IntKind.i64 x0], [[(1, (true, Blk.cols (List.length x1)
 [Col.int IntKind.i64 fun j => (S.at' x1 j).1,
 Col.int IntKind.i64 fun j => (S.at' x1 j).2.1,
 Col.int IntKind.i64 fun j => (S.at' x1 j).2.2]))], [(0, (false, .cols mq [.str tq, .int .i64 vq, .int .i64 gq]))]], 2⟩
noncomputable def q44 (aq nq mq : Nat) (tq : Nat → ByteArray) (vq gq : Nat → Int) (de : Int) : St44 → Option (St44 ⊕ Rt44)
  | .h0 x0 x1 x2 => bif (decide (x0 < (2 : Int)))
 then (bif (decide ((0 : Int) ≤ x0 ∧ x0 < (↑(List.length x1) : Int)))
 then (bif (decide (Int.toNat x0 < List.length x1))
 then (some (.inl (.h1 (S.at' x1 (Int.toNat x0)) (x0) ((0 : Int)) (x1) ([(1 : Int), (2 : Int)]) (x2))))
 else (none))
 else (none))
 else (some (.inl (.h3 ((0 : Int)) (x2))))
  | .h1 x0 x1 x2 x3 x4 x5 => bif (decide (x2 < (2 : Int)))
 then (bif (decide ((0 : Int) ≤ x2 ∧ x2 < (↑(List.length x4) : Int)))
 then (bif (decide (Int.toNat x2 < List.length x4))
 then (some (.inl (.h2 (x0) (S.at' x4 (Int.toNat x2)) (x1) (x2) ((0 : Int)) (x3) (x4) (x5))))
 else (none))
 else (none))
 else (bif (lim IntKind.i64 (x1 + (1 : Int)))
 then (some (.inl (.h0 (x1 + (1 : Int)) (x3) (x5))))
 else (none))
  | .h2 x0 x1 x2 x3 x4 x5 x6 x7 => bif (decide (x4 < (↑nq : Int)))
 then (bif (decide (List.length x7 + 1 ≤ 1000000))
 then (bif (decide (List.length x7 ≤ List.length x7))
 then (bif (lim IntKind.i64 (x4 + (1 : Int)))
 then (some (.inl (.h2 (x0) (x1) (x2) (x3) (x4 + (1 : Int)) (x5) (x6) (S.snoc x7 (x0, x1, x4)))))
 else (none))
 else (none))
 else (none))
 else (bif (lim IntKind.i64 (x3 + (1 : Int)))
 then (some (.inl (.h1 (x0) (x2) (x3 + (1 : Int)) (x5) (x6) (x7))))
 else (none))
  | .h3 x0 x1 => bif (decide (x0 < (↑nq : Int)))
 then (bif (decide (List.length x1 + 1 ≤ 1000000))
 then (bif (decide (List.length x1 ≤ List.length x1))
 then (bif (lim IntKind.i64 (x0 + (1 : Int)))
 then (some (.inl (.h3 (x0 + (1 : Int)) (S.snoc x1 ((3 : Int), (0 : Int), x0)))))
 else (none))
 else (none))
 else (none))
 else (bif (decide (List.length x1 + 2 ≤ 1000000))
 then (bif (decide (List.length x1 ≤ List.length x1))
 then (some (.inr (S.mkl (List.length x1 + 2) fun j =>
 (bif Nat.blt j (List.length x1) then (S.at' x1 j).1
 else bif Nat.blt (j - List.length x1) (1) then (4 : Int) else (4 : Int),
 bif Nat.blt j (List.length x1) then (S.at' x1 j).2.1
 else bif Nat.blt (j - List.length x1) (1) then (1 : Int) else (2 : Int),
 bif Nat.blt j (List.length x1) then (S.at' x1 j).2.2
 else bif Nat.blt (j - List.length x1) (1) then (0 : Int) else (0 : Int)))))
 else (none))
 else (none))
end Go.Ev
