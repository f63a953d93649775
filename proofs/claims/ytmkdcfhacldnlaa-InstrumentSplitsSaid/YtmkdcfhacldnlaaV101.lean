/-
  The parts that the statement needs, 1 of 1.
-/
import Derived.Test.YtmkdcfhacldnlaaEnv
import Derived.Test.YtmkdcfhacldnlaaEvY
import Derived.Test.YtmkdcfhacldnlaaKit
namespace Go.Ev
open Go.Proofs
set_option linter.unusedVariables false
set_option linter.unusedSimpArgs false
set_option maxRecDepth 100000
theorem SH : type_of% (And.intro @lim64 (And.intro @imp_false (And.intro @decide_eq_true_eq (And.intro @decide_eq_false_iff_not (And.intro @Int.toNat_natCast (And.intro @toNat_pred (And.intro @toNat_succ (And.intro @Option.getD_some.{0} (And.intro @Option.getD_none.{0} (And.intro @Bool.not_eq_true' (And.intro @Bool.not_eq_false' (And.intro @Bool.and_eq_true (And.intro @Bool.or_eq_true (And.intro @Bool.and_eq_false_iff (And.intro @Bool.or_eq_false_iff (And.intro @bne_iff_ne.{0} (And.intro @beq_iff_eq.{0} (And.intro @bne_eq_false_iff_eq.{0} (And.intro @beq_eq_false_iff_ne.{0} (And.intro @ne_eq.{1} (And.intro @not_and (And.intro @Int.not_le (And.intro @Int.not_lt (And.intro @ge_iff_le.{0} (And.intro @gt_iff_lt.{0} (And.intro @Nat.not_lt (And.intro @Nat.not_le (And.intro @Bool.not_eq_true (And.intro @Bool.not_eq_false (And.intro @Bool.true_eq_false (And.intro @Bool.false_eq_true (And.intro @not_false_eq_true @not_true_eq_false)))))))))))))))))))))))))))))))) :=
  (And.intro @lim64 (And.intro @imp_false (And.intro @decide_eq_true_eq (And.intro @decide_eq_false_iff_not (And.intro @Int.toNat_natCast (And.intro @toNat_pred (And.intro @toNat_succ (And.intro @Option.getD_some.{0} (And.intro @Option.getD_none.{0} (And.intro @Bool.not_eq_true' (And.intro @Bool.not_eq_false' (And.intro @Bool.and_eq_true (And.intro @Bool.or_eq_true (And.intro @Bool.and_eq_false_iff (And.intro @Bool.or_eq_false_iff (And.intro @bne_iff_ne.{0} (And.intro @beq_iff_eq.{0} (And.intro @bne_eq_false_iff_eq.{0} (And.intro @beq_eq_false_iff_ne.{0} (And.intro @ne_eq.{1} (And.intro @not_and (And.intro @Int.not_le (And.intro @Int.not_lt (And.intro @ge_iff_le.{0} (And.intro @gt_iff_lt.{0} (And.intro @Nat.not_lt (And.intro @Nat.not_le (And.intro @Bool.not_eq_true (And.intro @Bool.not_eq_false (And.intro @Bool.true_eq_false (And.intro @Bool.false_eq_true (And.intro @not_false_eq_true @not_true_eq_false))))))))))))))))))))))))))))))))
namespace S
def any (p : Nat → Bool) (n : Nat) : Bool := (List.range n).any p
end S
namespace S
def all (p : Nat → Bool) (n : Nat) : Bool := (List.range n).all p
def sumN (t : Nat → Int) : Nat → Int
  | 0 => 0
  | n + 1 => sumN t n + t n
def max0 (t : Nat → Int) : Nat → Int
  | 0 => 0
  | n + 1 => max (max0 t n) (t n)
end S
theorem all_iff  {p : Nat → Bool} {n : Nat} : S.all p n = true ↔ ∀ j, j < n → p j = true := by simp [S.all]
theorem all_no  {p : Nat → Bool} {n i : Nat} (hi : i < n) (h : p i = false) : ¬ S.all p n = true := fun e => by rw [all_iff.mp e i hi] at h; cases h
theorem all_congr  {p q : Nat → Bool} {n : Nat} (h : ∀ j, j < n → p j = q j) : S.all p n = S.all q n := by
  rw [Bool.eq_iff_iff, all_iff, all_iff]
  constructor
  · intro h1 j hj; rw [← h j hj]; exact h1 j hj
  · intro h1 j hj; rw [h j hj]; exact h1 j hj
theorem sumN_congr  {t u : Nat → Int} : ∀ {n : Nat}, (∀ j, j < n → t j = u j) → S.sumN t n = S.sumN u n
  | 0, _ => rfl
  | n + 1, h => by
    have e : S.sumN t n = S.sumN u n := sumN_congr fun j hj => h j (by omega)
    simp only [S.sumN, e, h n (Nat.lt_succ_self _)]
namespace S
def insE (kd pc pn of rs rg re : Int) : Int :=
  if kd = 1 ∨ kd = 2 ∨ kd = 3 then
    if ((kd = 1 ∧ (1 ≤ pn ∧ pn ≤ 2) ∧ (-1000000000000 ≤ of ∧ of ≤ 1000000000000) ∧ (1 ≤ rs ∧ rs ≤ 1000000000) ∧ re = 0) ∨ (kd = 2 ∧ pn = 0 ∧ of = 0 ∧ (1 ≤ rs ∧ rs ≤ 1000000) ∧ (0 ≤ re ∧ re ≤ 199)) ∨ (kd = 3 ∧ pn = 0 ∧ (-1000000000000 ≤ of ∧ of ≤ 1000000000000) ∧ (1 ≤ rs ∧ rs ≤ 1000000) ∧ re = 0)) ∧ (0 ≤ pc ∧ pc ≤ 199) ∧ (1 ≤ rg ∧ rg ≤ 1000000000000) then 0 else 6
  else 1
def kinE (kd pc pn of rs rg re want : Int) : Int := if insE kd pc pn of rs rg re = 0 then (if kd = want then 0 else 8) else insE kd pc pn of rs rg re
end S
noncomputable def k13  : Con := ⟨13, [.one (.list [.int .i64])], fun (x : (Nat × Nat × Nat × (Nat → Int) × Unit) × Unit) => (fun (aa na ma : Nat) (ta : Nat → Int) => decide (aa + na ≤ ma ∧ na ≤ 1000000)) x.1.1 x.1.2.1 x.1.2.2.1 x.1.2.2.2.1, fun (x : (Nat × Nat × Nat × (Nat → Int) × Unit) × Unit) => (fun (aa na ma : Nat) (ta : Nat → Int) => .own 2 1 na) x.1.1 x.1.2.1 x.1.2.2.1 x.1.2.2.2.1, fun (x : (Nat × Nat × Nat × (Nat → Int) × Unit) × Unit) => (fun (aa na ma : Nat) (ta : Nat → Int) => [.cols na [.int .i64 (fun j => ta (j + aa))]]) x.1.1 x.1.2.1 x.1.2.2.1 x.1.2.2.2.1, fun _ _ => .dead⟩
theorem e13s (test : Bool → Prop → Prop → Prop) (Kst : List It → List PV → Heap → Nat → Prop) (Kret : PV → Heap → Nat → Prop) (aa na ma : Nat) (ta : Nat → Int) :
  (run test Try.env true noX true 300 ⟨13, [.cd (mkFn Try.f13).body], argT 0 [.sl ⟨0, 1, aa, 0⟩ na], [[], [(0, (false, .cols ma [.int .i64 ta]))]], 1⟩ (proj 1 [] Kst Kret)) =
  (test (decide (0 + na ≤ 1000000))
  (test true
    (test (decide (aa + na ≤ ma))
      (Kret (PV.own (2) (1) (0 + na))
        [[(0, false, Blk.cols ma [Col.int IntKind.i64 ta]),
            (2, true, Blk.cols (0 + na) [Col.int IntKind.i64 fun j => ta (j + aa)])]]
        (3))
      False)
    False)
  False) := by kernel_rfl
theorem c13s (aa na ma : Nat) (ta : Nat → Int) (hp : aa + na ≤ ma ∧ na ≤ 1000000) (h0 : 0 < na) : CallR Try.prog 13 [.sl ⟨0, 1, aa, 0⟩ na] [[(0, (false, .cols ma [.int .i64 ta]))]] 1 (.own 2 1 na) [(2, (true, .cols na [.int .i64 (fun j => ta (j + aa))])) :: [(0, (false, .cols ma [.int .i64 ta]))]] 40 ∧ ∃ F, Try.prog.funcs[13]? = some F ∧ F.body.isSome = true ∧ (F.name == "runtime.NumGoroutine") = false := by
  refine @ret_eq _ _ Try.envOk Try.mixed _ noX_ok 13 (mkFn Try.f13) [.sl ⟨0, 1, aa, 0⟩ na] [[(0, (false, .cols ma [.int .i64 ta]))]] [(2, (true, .cols na [.int .i64 (fun j => ta (j + aa))])) :: [(0, (false, .cols ma [.int .i64 ta]))]] 1 40 (.own 2 1 na) true 300 rfl (by decide) (by simp) (names_of rfl) _ (e13s cond _ _ aa na ma ta) ?_
  repeat' first
    | with_reducible refine cond_yes rfl ?_
    | with_reducible refine cond_no rfl ?_
    | (with_reducible refine cond_intro (fun h => ?_) (fun h => ?_)) <;> (try simp only [lim64, decide_eq_true_eq, decide_eq_false_iff_not, reduceCtorEq, Int.toNat_natCast, Bool.not_eq_true', Bool.not_eq_false', Bool.and_eq_true, Bool.or_eq_true, Bool.and_eq_false_iff, Bool.or_eq_false_iff, bne_iff_ne, beq_iff_eq, bne_eq_false_iff_eq, beq_eq_false_iff_ne, ne_eq] at h)
  all_goals first
    | with_reducible apply ret_k
    | omega
  repeat' first
    | with_reducible exact rns_nil
    | with_reducible refine rns_cons ?_ ?_
    | with_reducible refine rn_tup ?_
    | with_reducible refine rn_agg ?_
    | with_reducible refine rn_int ?_
    | with_reducible refine rn_tf ?_
    | with_reducible refine rn_bool_tf ?_
    | with_reducible refine rn_bool ?_
    | with_reducible refine rn_str ?_
    | with_reducible exact rn_nils
    | with_reducible refine rn_own_nils ?_
    | with_reducible refine rn_own ?_ ?_ ?_
    | with_reducible refine rn_own_sl ?_ ?_ ?_ ?_ ?_
    | with_reducible refine rn_own_loose ?_ ?_ ?_ ?_
    | with_reducible refine rn_loose ?_ ?_ ?_ ?_
    | with_reducible refine rn_loose_sl ?_ ?_ ?_ ?_
    | exact use_lo rfl
    | exact use_own rfl
    | exact nm_k rfl
    | exact nm_lo rfl
    | ((with_reducible refine (id : pos _ = pos _ → _) ?_); exact rfl)
    | ((with_reducible refine (id : pos _ = 0 → _) ?_); exact rfl)
    | ((with_reducible refine (id : Nat.ble _ _ = true → _) ?_); exact rfl)
    | ((with_reducible refine (id : injL _ _ = true → _) ?_); exact rfl)
    | ((with_reducible refine (id : plainC _ = true → _) ?_); exact rfl)
    | ((with_reducible refine (id : hget _ _ = some _ → _) ?_); exact rfl)
    | with_reducible exact (id : (_ : Bool) = true → _ = true)
    | with_reducible exact entl_nil
    | with_reducible refine entl_bor ?_ ?_ ?_ ?_
    | refine entl_new (use_own rfl) (by rfl) ?_ ?_ ?_
    | refine entl_rows (use_own rfl) (by rfl) rfl ?_ (nthc_all ?_) ?_
    | refine entl_zero (use_own rfl) (by rfl) (by simp) (by omega) ?_
    | with_reducible exact rcs_nil
    | with_reducible refine rcs_int (fun j hj => ?_) ?_
    | with_reducible refine rcs_bool (fun j hj => ?_) ?_
    | with_reducible refine rcs_str (fun j hj => ?_) ?_
    | refine entl_fresh (k := 2) (use_own rfl) (fresh_ok (n := 39) rfl) ?_
    | with_reducible rfl
  all_goals try exact (0 : Nat)
  all_goals try ((with_reducible refine (id : injL _ _ = true → _) ?_); exact rfl)
  all_goals first
    | omega
    | skip
theorem e13z (test : Bool → Prop → Prop → Prop) (Kst : List It → List PV → Heap → Nat → Prop) (Kret : PV → Heap → Nat → Prop) (aa na ma : Nat) (ta : Nat → Int) :
  (run test Try.env true noX true 300 ⟨13, [.cd (mkFn Try.f13).body], argT 0 [.zer true], [[], [(0, (false, .cols ma [.int .i64 ta]))]], 1⟩ (proj 1 [] Kst Kret)) =
  (Kret (PV.own (1) (1) (0))
  [[(0, false, Blk.cols ma [Col.int IntKind.i64 ta]), (1, true, Blk.cells [])]] (2)) := by kernel_rfl
theorem c13z (aa na ma : Nat) (ta : Nat → Int) (hp : aa + na ≤ ma ∧ na ≤ 1000000) (h0 : na = 0) : CallR Try.prog 13 [.zer true] [[(0, (false, .cols ma [.int .i64 ta]))]] 1 (.own 2 1 na) [(2, (true, .cols na [.int .i64 (fun j => ta (j + aa))])) :: [(0, (false, .cols ma [.int .i64 ta]))]] 40 ∧ ∃ F, Try.prog.funcs[13]? = some F ∧ F.body.isSome = true ∧ (F.name == "runtime.NumGoroutine") = false := by
  refine @ret_eq _ _ Try.envOk Try.mixed _ noX_ok 13 (mkFn Try.f13) [.zer true] [[(0, (false, .cols ma [.int .i64 ta]))]] [(2, (true, .cols na [.int .i64 (fun j => ta (j + aa))])) :: [(0, (false, .cols ma [.int .i64 ta]))]] 1 40 (.own 2 1 na) true 300 rfl (by decide) (by simp) (names_of rfl) _ (e13z cond _ _ aa na ma ta) ?_
  repeat' first
    | with_reducible refine cond_yes rfl ?_
    | with_reducible refine cond_no rfl ?_
    | (with_reducible refine cond_intro (fun h => ?_) (fun h => ?_)) <;> (try simp only [lim64, decide_eq_true_eq, decide_eq_false_iff_not, reduceCtorEq, Int.toNat_natCast, Bool.not_eq_true', Bool.not_eq_false', Bool.and_eq_true, Bool.or_eq_true, Bool.and_eq_false_iff, Bool.or_eq_false_iff, bne_iff_ne, beq_iff_eq, bne_eq_false_iff_eq, beq_eq_false_iff_ne, ne_eq] at h)
  all_goals first
    | with_reducible apply ret_k
    | omega
  repeat' first
    | with_reducible exact rns_nil
    | with_reducible refine rns_cons ?_ ?_
    | with_reducible refine rn_tup ?_
    | with_reducible refine rn_agg ?_
    | with_reducible refine rn_int ?_
    | with_reducible refine rn_tf ?_
    | with_reducible refine rn_bool_tf ?_
    | with_reducible refine rn_bool ?_
    | with_reducible refine rn_str ?_
    | with_reducible exact rn_nils
    | with_reducible refine rn_own_nils ?_
    | with_reducible refine rn_own ?_ ?_ ?_
    | with_reducible refine rn_own_sl ?_ ?_ ?_ ?_ ?_
    | with_reducible refine rn_own_loose ?_ ?_ ?_ ?_
    | with_reducible refine rn_loose ?_ ?_ ?_ ?_
    | with_reducible refine rn_loose_sl ?_ ?_ ?_ ?_
    | exact use_lo rfl
    | exact use_own rfl
    | exact nm_k rfl
    | exact nm_lo rfl
    | ((with_reducible refine (id : pos _ = pos _ → _) ?_); exact rfl)
    | ((with_reducible refine (id : pos _ = 0 → _) ?_); exact rfl)
    | ((with_reducible refine (id : Nat.ble _ _ = true → _) ?_); exact rfl)
    | ((with_reducible refine (id : injL _ _ = true → _) ?_); exact rfl)
    | ((with_reducible refine (id : plainC _ = true → _) ?_); exact rfl)
    | ((with_reducible refine (id : hget _ _ = some _ → _) ?_); exact rfl)
    | with_reducible exact (id : (_ : Bool) = true → _ = true)
    | with_reducible exact entl_nil
    | with_reducible refine entl_bor ?_ ?_ ?_ ?_
    | refine entl_new (use_own rfl) (by rfl) ?_ ?_ ?_
    | refine entl_rows (use_own rfl) (by rfl) rfl ?_ (nthc_all ?_) ?_
    | refine entl_zero (use_own rfl) (by rfl) (by simp) (by omega) ?_
    | with_reducible exact rcs_nil
    | with_reducible refine rcs_int (fun j hj => ?_) ?_
    | with_reducible refine rcs_bool (fun j hj => ?_) ?_
    | with_reducible refine rcs_str (fun j hj => ?_) ?_
    | refine entl_fresh (k := 2) (use_own rfl) (fresh_ok (n := 39) rfl) ?_
    | with_reducible rfl
  all_goals try exact (0 : Nat)
  all_goals try ((with_reducible refine (id : injL _ _ = true → _) ?_); exact rfl)
  all_goals first
    | omega
    | skip
theorem e13y (test : Bool → Prop → Prop → Prop) (Kst : List It → List PV → Heap → Nat → Prop) (Kret : PV → Heap → Nat → Prop) (aa na ma : Nat) (ta : Nat → Int) :
  (run test Try.env true noX true 300 ⟨13, [.cd (mkFn Try.f13).body], argT 0 [.zer false], [[], [(0, (false, .cols ma [.int .i64 ta]))]], 1⟩ (proj 1 [] Kst Kret)) =
  (Kret PV.nils [[(0, false, Blk.cols ma [Col.int IntKind.i64 ta])]] (1)) := by kernel_rfl
theorem c13y (aa na ma : Nat) (ta : Nat → Int) (hp : aa + na ≤ ma ∧ na ≤ 1000000) (h0 : na = 0) : CallR Try.prog 13 [.zer false] [[(0, (false, .cols ma [.int .i64 ta]))]] 1 (.own 2 1 na) [(2, (true, .cols na [.int .i64 (fun j => ta (j + aa))])) :: [(0, (false, .cols ma [.int .i64 ta]))]] 40 ∧ ∃ F, Try.prog.funcs[13]? = some F ∧ F.body.isSome = true ∧ (F.name == "runtime.NumGoroutine") = false := by
  refine @ret_eq _ _ Try.envOk Try.mixed _ noX_ok 13 (mkFn Try.f13) [.zer false] [[(0, (false, .cols ma [.int .i64 ta]))]] [(2, (true, .cols na [.int .i64 (fun j => ta (j + aa))])) :: [(0, (false, .cols ma [.int .i64 ta]))]] 1 40 (.own 2 1 na) true 300 rfl (by decide) (by simp) (names_of rfl) _ (e13y cond _ _ aa na ma ta) ?_
  repeat' first
    | with_reducible refine cond_yes rfl ?_
    | with_reducible refine cond_no rfl ?_
    | (with_reducible refine cond_intro (fun h => ?_) (fun h => ?_)) <;> (try simp only [lim64, decide_eq_true_eq, decide_eq_false_iff_not, reduceCtorEq, Int.toNat_natCast, Bool.not_eq_true', Bool.not_eq_false', Bool.and_eq_true, Bool.or_eq_true, Bool.and_eq_false_iff, Bool.or_eq_false_iff, bne_iff_ne, beq_iff_eq, bne_eq_false_iff_eq, beq_eq_false_iff_ne, ne_eq] at h)
  all_goals first
    | with_reducible apply ret_k
    | omega
  repeat' first
    | with_reducible exact rns_nil
    | with_reducible refine rns_cons ?_ ?_
    | with_reducible refine rn_tup ?_
    | with_reducible refine rn_agg ?_
    | with_reducible refine rn_int ?_
    | with_reducible refine rn_tf ?_
    | with_reducible refine rn_bool_tf ?_
    | with_reducible refine rn_bool ?_
    | with_reducible refine rn_str ?_
    | with_reducible exact rn_nils
    | with_reducible refine rn_own_nils ?_
    | with_reducible refine rn_own ?_ ?_ ?_
    | with_reducible refine rn_own_sl ?_ ?_ ?_ ?_ ?_
    | with_reducible refine rn_own_loose ?_ ?_ ?_ ?_
    | with_reducible refine rn_loose ?_ ?_ ?_ ?_
    | with_reducible refine rn_loose_sl ?_ ?_ ?_ ?_
    | exact use_lo rfl
    | exact use_own rfl
    | exact nm_k rfl
    | exact nm_lo rfl
    | ((with_reducible refine (id : pos _ = pos _ → _) ?_); exact rfl)
    | ((with_reducible refine (id : pos _ = 0 → _) ?_); exact rfl)
    | ((with_reducible refine (id : Nat.ble _ _ = true → _) ?_); exact rfl)
    | ((with_reducible refine (id : injL _ _ = true → _) ?_); exact rfl)
    | ((with_reducible refine (id : plainC _ = true → _) ?_); exact rfl)
    | ((with_reducible refine (id : hget _ _ = some _ → _) ?_); exact rfl)
    | with_reducible exact (id : (_ : Bool) = true → _ = true)
    | with_reducible exact entl_nil
    | with_reducible refine entl_bor ?_ ?_ ?_ ?_
    | refine entl_new (use_own rfl) (by rfl) ?_ ?_ ?_
    | refine entl_rows (use_own rfl) (by rfl) rfl ?_ (nthc_all ?_) ?_
    | refine entl_zero (use_own rfl) (by rfl) (by simp) (by omega) ?_
    | with_reducible exact rcs_nil
    | with_reducible refine rcs_int (fun j hj => ?_) ?_
    | with_reducible refine rcs_bool (fun j hj => ?_) ?_
    | with_reducible refine rcs_str (fun j hj => ?_) ?_
    | refine entl_fresh (k := 2) (use_own rfl) (fresh_ok (n := 39) rfl) ?_
    | with_reducible rfl
  all_goals try exact (0 : Nat)
  all_goals try ((with_reducible refine (id : injL _ _ = true → _) ?_); exact rfl)
  all_goals first
    | omega
    | skip
theorem c13 (aa na ma : Nat) (ta : Nat → Int) (hp : aa + na ≤ ma ∧ na ≤ 1000000) : CallR Try.prog 13 [.loose ⟨0, 1, aa, 0⟩ na] [[(0, (false, .cols ma [.int .i64 ta]))]] 1 (.own 2 1 na) [(2, (true, .cols na [.int .i64 (fun j => ta (j + aa))])) :: [(0, (false, .cols ma [.int .i64 ta]))]] 40 ∧ ∃ F, Try.prog.funcs[13]? = some F ∧ F.body.isSome = true ∧ (F.name == "runtime.NumGoroutine") = false :=
  ⟨loose_cases (fun h => (c13s aa na ma ta hp h).1) (fun h b => by cases b; exact (c13y aa na ma ta hp h).1; exact (c13z aa na ma ta hp h).1), by
    rcases Nat.eq_zero_or_pos na with h | h
    · exact (c13y aa na ma ta hp h).2
    · exact (c13s aa na ma ta hp h).2⟩
theorem k13_ok  : k13.ok Try.prog := by
  intro x hx
  obtain ⟨⟨aa, na, ma, ta, _⟩, _⟩ := x
  have hp : aa + na ≤ ma ∧ na ≤ 1000000 := of_decide_eq_true hx
  obtain ⟨h1, h2⟩ := c13 aa na ma ta hp
  exact ⟨⟨40, (by decide : 1 + 1 + 1 ≤ 40), h1⟩, h2⟩
theorem e18s (test : Bool → Prop → Prop → Prop) (Kst : List It → List PV → Heap → Nat → Prop) (Kret : PV → Heap → Nat → Prop) (aa na ma : Nat) (ta va ga wa xa ya za : Nat → Int) :
  (run test Try.env true noX true 300 ⟨18, [.cd (mkFn Try.f18).body], argT 0 [.sl ⟨0, 7, aa, 0⟩ na], [[], [(0, (false, .cols ma [.int .i64 ta, .int .i64 va, .int .i64 ga, .int .i64 wa, .int .i64 xa, .int .i64 ya, .int .i64 za]))]], 1⟩ (proj 1 [] Kst Kret)) =
  (test (decide (0 + na ≤ 1000000))
  (test true
    (test (decide (aa + na ≤ ma))
      (Kret (PV.own (2) (7) (0 + na))
        [[(0, false,
              Blk.cols ma
                [Col.int IntKind.i64 ta, Col.int IntKind.i64 va, Col.int IntKind.i64 ga, Col.int IntKind.i64 wa,
                  Col.int IntKind.i64 xa, Col.int IntKind.i64 ya, Col.int IntKind.i64 za]),
            (2, true,
              Blk.cols (0 + na)
                [Col.int IntKind.i64 fun j => ta (j + aa), Col.int IntKind.i64 fun j => va (j + aa),
                  Col.int IntKind.i64 fun j => ga (j + aa), Col.int IntKind.i64 fun j => wa (j + aa),
                  Col.int IntKind.i64 fun j => xa (j + aa), Col.int IntKind.i64 fun j => ya (j + aa),
                  Col.int IntKind.i64 fun j => za (j + aa)])]]
        (3))
      False)
    False)
  False) := by kernel_rfl
theorem c18s (aa na ma : Nat) (ta va ga wa xa ya za : Nat → Int) (hp : aa + na ≤ ma ∧ na ≤ 1000000) (h0 : 0 < na) : CallR Try.prog 18 [.sl ⟨0, 7, aa, 0⟩ na] [[(0, (false, .cols ma [.int .i64 ta, .int .i64 va, .int .i64 ga, .int .i64 wa, .int .i64 xa, .int .i64 ya, .int .i64 za]))]] 1 (.own 2 7 na) [(2, (true, .cols na [.int .i64 (fun j => ta (j + aa)), .int .i64 (fun j => va (j + aa)), .int .i64 (fun j => ga (j + aa)), .int .i64 (fun j => wa (j + aa)), .int .i64 (fun j => xa (j + aa)), .int .i64 (fun j => ya (j + aa)), .int .i64 (fun j => za (j + aa))])) :: [(0, (false, .cols ma [.int .i64 ta, .int .i64 va, .int .i64 ga, .int .i64 wa, .int .i64 xa, .int .i64 ya, .int .i64 za]))]] 40 ∧ ∃ F, Try.prog.funcs[18]? = some F ∧ F.body.isSome = true ∧ (F.name == "runtime.NumGoroutine") = false := by
  refine @ret_eq _ _ Try.envOk Try.mixed _ noX_ok 18 (mkFn Try.f18) [.sl ⟨0, 7, aa, 0⟩ na] [[(0, (false, .cols ma [.int .i64 ta, .int .i64 va, .int .i64 ga, .int .i64 wa, .int .i64 xa, .int .i64 ya, .int .i64 za]))]] [(2, (true, .cols na [.int .i64 (fun j => ta (j + aa)), .int .i64 (fun j => va (j + aa)), .int .i64 (fun j => ga (j + aa)), .int .i64 (fun j => wa (j + aa)), .int .i64 (fun j => xa (j + aa)), .int .i64 (fun j => ya (j + aa)), .int .i64 (fun j => za (j + aa))])) :: [(0, (false, .cols ma [.int .i64 ta, .int .i64 va, .int .i64 ga, .int .i64 wa, .int .i64 xa, .int .i64 ya, .int .i64 za]))]] 1 40 (.own 2 7 na) true 300 rfl (by decide) (by simp) (names_of rfl) _ (e18s cond _ _ aa na ma ta va ga wa xa ya za) ?_
  repeat' first
    | with_reducible refine cond_yes rfl ?_
    | with_reducible refine cond_no rfl ?_
    | (with_reducible refine cond_intro (fun h => ?_) (fun h => ?_)) <;> (try simp only [lim64, decide_eq_true_eq, decide_eq_false_iff_not, reduceCtorEq, Int.toNat_natCast, Bool.not_eq_true', Bool.not_eq_false', Bool.and_eq_true, Bool.or_eq_true, Bool.and_eq_false_iff, Bool.or_eq_false_iff, bne_iff_ne, beq_iff_eq, bne_eq_false_iff_eq, beq_eq_false_iff_ne, ne_eq] at h)
  all_goals first
    | with_reducible apply ret_k
    | omega
  repeat' first
    | with_reducible exact rns_nil
    | with_reducible refine rns_cons ?_ ?_
    | with_reducible refine rn_tup ?_
    | with_reducible refine rn_agg ?_
    | with_reducible refine rn_int ?_
    | with_reducible refine rn_tf ?_
    | with_reducible refine rn_bool_tf ?_
    | with_reducible refine rn_bool ?_
    | with_reducible refine rn_str ?_
    | with_reducible exact rn_nils
    | with_reducible refine rn_own_nils ?_
    | with_reducible refine rn_own ?_ ?_ ?_
    | with_reducible refine rn_own_sl ?_ ?_ ?_ ?_ ?_
    | with_reducible refine rn_own_loose ?_ ?_ ?_ ?_
    | with_reducible refine rn_loose ?_ ?_ ?_ ?_
    | with_reducible refine rn_loose_sl ?_ ?_ ?_ ?_
    | exact use_lo rfl
    | exact use_own rfl
    | exact nm_k rfl
    | exact nm_lo rfl
    | ((with_reducible refine (id : pos _ = pos _ → _) ?_); exact rfl)
    | ((with_reducible refine (id : pos _ = 0 → _) ?_); exact rfl)
    | ((with_reducible refine (id : Nat.ble _ _ = true → _) ?_); exact rfl)
    | ((with_reducible refine (id : injL _ _ = true → _) ?_); exact rfl)
    | ((with_reducible refine (id : plainC _ = true → _) ?_); exact rfl)
    | ((with_reducible refine (id : hget _ _ = some _ → _) ?_); exact rfl)
    | with_reducible exact (id : (_ : Bool) = true → _ = true)
    | with_reducible exact entl_nil
    | with_reducible refine entl_bor ?_ ?_ ?_ ?_
    | refine entl_new (use_own rfl) (by rfl) ?_ ?_ ?_
    | refine entl_rows (use_own rfl) (by rfl) rfl ?_ (nthc_all ?_) ?_
    | refine entl_zero (use_own rfl) (by rfl) (by simp) (by omega) ?_
    | with_reducible exact rcs_nil
    | with_reducible refine rcs_int (fun j hj => ?_) ?_
    | with_reducible refine rcs_bool (fun j hj => ?_) ?_
    | with_reducible refine rcs_str (fun j hj => ?_) ?_
    | refine entl_fresh (k := 2) (use_own rfl) (fresh_ok (n := 39) rfl) ?_
    | with_reducible rfl
  all_goals try exact (0 : Nat)
  all_goals try ((with_reducible refine (id : injL _ _ = true → _) ?_); exact rfl)
  all_goals first
    | omega
    | skip
theorem e18z (test : Bool → Prop → Prop → Prop) (Kst : List It → List PV → Heap → Nat → Prop) (Kret : PV → Heap → Nat → Prop) (aa na ma : Nat) (ta va ga wa xa ya za : Nat → Int) :
  (run test Try.env true noX true 300 ⟨18, [.cd (mkFn Try.f18).body], argT 0 [.zer true], [[], [(0, (false, .cols ma [.int .i64 ta, .int .i64 va, .int .i64 ga, .int .i64 wa, .int .i64 xa, .int .i64 ya, .int .i64 za]))]], 1⟩ (proj 1 [] Kst Kret)) =
  (Kret (PV.own (1) (7) (0))
  [[(0, false,
        Blk.cols ma
          [Col.int IntKind.i64 ta, Col.int IntKind.i64 va, Col.int IntKind.i64 ga, Col.int IntKind.i64 wa,
            Col.int IntKind.i64 xa, Col.int IntKind.i64 ya, Col.int IntKind.i64 za]),
      (1, true, Blk.cells [])]]
  (2)) := by kernel_rfl
theorem c18z (aa na ma : Nat) (ta va ga wa xa ya za : Nat → Int) (hp : aa + na ≤ ma ∧ na ≤ 1000000) (h0 : na = 0) : CallR Try.prog 18 [.zer true] [[(0, (false, .cols ma [.int .i64 ta, .int .i64 va, .int .i64 ga, .int .i64 wa, .int .i64 xa, .int .i64 ya, .int .i64 za]))]] 1 (.own 2 7 na) [(2, (true, .cols na [.int .i64 (fun j => ta (j + aa)), .int .i64 (fun j => va (j + aa)), .int .i64 (fun j => ga (j + aa)), .int .i64 (fun j => wa (j + aa)), .int .i64 (fun j => xa (j + aa)), .int .i64 (fun j => ya (j + aa)), .int .i64 (fun j => za (j + aa))])) :: [(0, (false, .cols ma [.int .i64 ta, .int .i64 va, .int .i64 ga, .int .i64 wa, .int .i64 xa, .int .i64 ya, .int .i64 za]))]] 40 ∧ ∃ F, Try.prog.funcs[18]? = some F ∧ F.body.isSome = true ∧ (F.name == "runtime.NumGoroutine") = false := by
  refine @ret_eq _ _ Try.envOk Try.mixed _ noX_ok 18 (mkFn Try.f18) [.zer true] [[(0, (false, .cols ma [.int .i64 ta, .int .i64 va, .int .i64 ga, .int .i64 wa, .int .i64 xa, .int .i64 ya, .int .i64 za]))]] [(2, (true, .cols na [.int .i64 (fun j => ta (j + aa)), .int .i64 (fun j => va (j + aa)), .int .i64 (fun j => ga (j + aa)), .int .i64 (fun j => wa (j + aa)), .int .i64 (fun j => xa (j + aa)), .int .i64 (fun j => ya (j + aa)), .int .i64 (fun j => za (j + aa))])) :: [(0, (false, .cols ma [.int .i64 ta, .int .i64 va, .int .i64 ga, .int .i64 wa, .int .i64 xa, .int .i64 ya, .int .i64 za]))]] 1 40 (.own 2 7 na) true 300 rfl (by decide) (by simp) (names_of rfl) _ (e18z cond _ _ aa na ma ta va ga wa xa ya za) ?_
  repeat' first
    | with_reducible refine cond_yes rfl ?_
    | with_reducible refine cond_no rfl ?_
    | (with_reducible refine cond_intro (fun h => ?_) (fun h => ?_)) <;> (try simp only [lim64, decide_eq_true_eq, decide_eq_false_iff_not, reduceCtorEq, Int.toNat_natCast, Bool.not_eq_true', Bool.not_eq_false', Bool.and_eq_true, Bool.or_eq_true, Bool.and_eq_false_iff, Bool.or_eq_false_iff, bne_iff_ne, beq_iff_eq, bne_eq_false_iff_eq, beq_eq_false_iff_ne, ne_eq] at h)
  all_goals first
    | with_reducible apply ret_k
    | omega
  repeat' first
    | with_reducible exact rns_nil
    | with_reducible refine rns_cons ?_ ?_
    | with_reducible refine rn_tup ?_
    | with_reducible refine rn_agg ?_
    | with_reducible refine rn_int ?_
    | with_reducible refine rn_tf ?_
    | with_reducible refine rn_bool_tf ?_
    | with_reducible refine rn_bool ?_
    | with_reducible refine rn_str ?_
    | with_reducible exact rn_nils
    | with_reducible refine rn_own_nils ?_
    | with_reducible refine rn_own ?_ ?_ ?_
    | with_reducible refine rn_own_sl ?_ ?_ ?_ ?_ ?_
    | with_reducible refine rn_own_loose ?_ ?_ ?_ ?_
    | with_reducible refine rn_loose ?_ ?_ ?_ ?_
    | with_reducible refine rn_loose_sl ?_ ?_ ?_ ?_
    | exact use_lo rfl
    | exact use_own rfl
    | exact nm_k rfl
    | exact nm_lo rfl
    | ((with_reducible refine (id : pos _ = pos _ → _) ?_); exact rfl)
    | ((with_reducible refine (id : pos _ = 0 → _) ?_); exact rfl)
    | ((with_reducible refine (id : Nat.ble _ _ = true → _) ?_); exact rfl)
    | ((with_reducible refine (id : injL _ _ = true → _) ?_); exact rfl)
    | ((with_reducible refine (id : plainC _ = true → _) ?_); exact rfl)
    | ((with_reducible refine (id : hget _ _ = some _ → _) ?_); exact rfl)
    | with_reducible exact (id : (_ : Bool) = true → _ = true)
    | with_reducible exact entl_nil
    | with_reducible refine entl_bor ?_ ?_ ?_ ?_
    | refine entl_new (use_own rfl) (by rfl) ?_ ?_ ?_
    | refine entl_rows (use_own rfl) (by rfl) rfl ?_ (nthc_all ?_) ?_
    | refine entl_zero (use_own rfl) (by rfl) (by simp) (by omega) ?_
    | with_reducible exact rcs_nil
    | with_reducible refine rcs_int (fun j hj => ?_) ?_
    | with_reducible refine rcs_bool (fun j hj => ?_) ?_
    | with_reducible refine rcs_str (fun j hj => ?_) ?_
    | refine entl_fresh (k := 2) (use_own rfl) (fresh_ok (n := 39) rfl) ?_
    | with_reducible rfl
  all_goals try exact (0 : Nat)
  all_goals try ((with_reducible refine (id : injL _ _ = true → _) ?_); exact rfl)
  all_goals first
    | omega
    | skip
theorem e18y (test : Bool → Prop → Prop → Prop) (Kst : List It → List PV → Heap → Nat → Prop) (Kret : PV → Heap → Nat → Prop) (aa na ma : Nat) (ta va ga wa xa ya za : Nat → Int) :
  (run test Try.env true noX true 300 ⟨18, [.cd (mkFn Try.f18).body], argT 0 [.zer false], [[], [(0, (false, .cols ma [.int .i64 ta, .int .i64 va, .int .i64 ga, .int .i64 wa, .int .i64 xa, .int .i64 ya, .int .i64 za]))]], 1⟩ (proj 1 [] Kst Kret)) =
  (Kret PV.nils
  [[(0, false,
        Blk.cols ma
          [Col.int IntKind.i64 ta, Col.int IntKind.i64 va, Col.int IntKind.i64 ga, Col.int IntKind.i64 wa,
            Col.int IntKind.i64 xa, Col.int IntKind.i64 ya, Col.int IntKind.i64 za])]]
  (1)) := by kernel_rfl
theorem c18y (aa na ma : Nat) (ta va ga wa xa ya za : Nat → Int) (hp : aa + na ≤ ma ∧ na ≤ 1000000) (h0 : na = 0) : CallR Try.prog 18 [.zer false] [[(0, (false, .cols ma [.int .i64 ta, .int .i64 va, .int .i64 ga, .int .i64 wa, .int .i64 xa, .int .i64 ya, .int .i64 za]))]] 1 (.own 2 7 na) [(2, (true, .cols na [.int .i64 (fun j => ta (j + aa)), .int .i64 (fun j => va (j + aa)), .int .i64 (fun j => ga (j + aa)), .int .i64 (fun j => wa (j + aa)), .int .i64 (fun j => xa (j + aa)), .int .i64 (fun j => ya (j + aa)), .int .i64 (fun j => za (j + aa))])) :: [(0, (false, .cols ma [.int .i64 ta, .int .i64 va, .int .i64 ga, .int .i64 wa, .int .i64 xa, .int .i64 ya, .int .i64 za]))]] 40 ∧ ∃ F, Try.prog.funcs[18]? = some F ∧ F.body.isSome = true ∧ (F.name == "runtime.NumGoroutine") = false := by
  refine @ret_eq _ _ Try.envOk Try.mixed _ noX_ok 18 (mkFn Try.f18) [.zer false] [[(0, (false, .cols ma [.int .i64 ta, .int .i64 va, .int .i64 ga, .int .i64 wa, .int .i64 xa, .int .i64 ya, .int .i64 za]))]] [(2, (true, .cols na [.int .i64 (fun j => ta (j + aa)), .int .i64 (fun j => va (j + aa)), .int .i64 (fun j => ga (j + aa)), .int .i64 (fun j => wa (j + aa)), .int .i64 (fun j => xa (j + aa)), .int .i64 (fun j => ya (j + aa)), .int .i64 (fun j => za (j + aa))])) :: [(0, (false, .cols ma [.int .i64 ta, .int .i64 va, .int .i64 ga, .int .i64 wa, .int .i64 xa, .int .i64 ya, .int .i64 za]))]] 1 40 (.own 2 7 na) true 300 rfl (by decide) (by simp) (names_of rfl) _ (e18y cond _ _ aa na ma ta va ga wa xa ya za) ?_
  repeat' first
    | with_reducible refine cond_yes rfl ?_
    | with_reducible refine cond_no rfl ?_
    | (with_reducible refine cond_intro (fun h => ?_) (fun h => ?_)) <;> (try simp only [lim64, decide_eq_true_eq, decide_eq_false_iff_not, reduceCtorEq, Int.toNat_natCast, Bool.not_eq_true', Bool.not_eq_false', Bool.and_eq_true, Bool.or_eq_true, Bool.and_eq_false_iff, Bool.or_eq_false_iff, bne_iff_ne, beq_iff_eq, bne_eq_false_iff_eq, beq_eq_false_iff_ne, ne_eq] at h)
  all_goals first
    | with_reducible apply ret_k
    | omega
  repeat' first
    | with_reducible exact rns_nil
    | with_reducible refine rns_cons ?_ ?_
    | with_reducible refine rn_tup ?_
    | with_reducible refine rn_agg ?_
    | with_reducible refine rn_int ?_
    | with_reducible refine rn_tf ?_
    | with_reducible refine rn_bool_tf ?_
    | with_reducible refine rn_bool ?_
    | with_reducible refine rn_str ?_
    | with_reducible exact rn_nils
    | with_reducible refine rn_own_nils ?_
    | with_reducible refine rn_own ?_ ?_ ?_
    | with_reducible refine rn_own_sl ?_ ?_ ?_ ?_ ?_
    | with_reducible refine rn_own_loose ?_ ?_ ?_ ?_
    | with_reducible refine rn_loose ?_ ?_ ?_ ?_
    | with_reducible refine rn_loose_sl ?_ ?_ ?_ ?_
    | exact use_lo rfl
    | exact use_own rfl
    | exact nm_k rfl
    | exact nm_lo rfl
    | ((with_reducible refine (id : pos _ = pos _ → _) ?_); exact rfl)
    | ((with_reducible refine (id : pos _ = 0 → _) ?_); exact rfl)
    | ((with_reducible refine (id : Nat.ble _ _ = true → _) ?_); exact rfl)
    | ((with_reducible refine (id : injL _ _ = true → _) ?_); exact rfl)
    | ((with_reducible refine (id : plainC _ = true → _) ?_); exact rfl)
    | ((with_reducible refine (id : hget _ _ = some _ → _) ?_); exact rfl)
    | with_reducible exact (id : (_ : Bool) = true → _ = true)
    | with_reducible exact entl_nil
    | with_reducible refine entl_bor ?_ ?_ ?_ ?_
    | refine entl_new (use_own rfl) (by rfl) ?_ ?_ ?_
    | refine entl_rows (use_own rfl) (by rfl) rfl ?_ (nthc_all ?_) ?_
    | refine entl_zero (use_own rfl) (by rfl) (by simp) (by omega) ?_
    | with_reducible exact rcs_nil
    | with_reducible refine rcs_int (fun j hj => ?_) ?_
    | with_reducible refine rcs_bool (fun j hj => ?_) ?_
    | with_reducible refine rcs_str (fun j hj => ?_) ?_
    | refine entl_fresh (k := 2) (use_own rfl) (fresh_ok (n := 39) rfl) ?_
    | with_reducible rfl
  all_goals try exact (0 : Nat)
  all_goals try ((with_reducible refine (id : injL _ _ = true → _) ?_); exact rfl)
  all_goals first
    | omega
    | skip
theorem c18 (aa na ma : Nat) (ta va ga wa xa ya za : Nat → Int) (hp : aa + na ≤ ma ∧ na ≤ 1000000) : CallR Try.prog 18 [.loose ⟨0, 7, aa, 0⟩ na] [[(0, (false, .cols ma [.int .i64 ta, .int .i64 va, .int .i64 ga, .int .i64 wa, .int .i64 xa, .int .i64 ya, .int .i64 za]))]] 1 (.own 2 7 na) [(2, (true, .cols na [.int .i64 (fun j => ta (j + aa)), .int .i64 (fun j => va (j + aa)), .int .i64 (fun j => ga (j + aa)), .int .i64 (fun j => wa (j + aa)), .int .i64 (fun j => xa (j + aa)), .int .i64 (fun j => ya (j + aa)), .int .i64 (fun j => za (j + aa))])) :: [(0, (false, .cols ma [.int .i64 ta, .int .i64 va, .int .i64 ga, .int .i64 wa, .int .i64 xa, .int .i64 ya, .int .i64 za]))]] 40 ∧ ∃ F, Try.prog.funcs[18]? = some F ∧ F.body.isSome = true ∧ (F.name == "runtime.NumGoroutine") = false :=
  ⟨loose_cases (fun h => (c18s aa na ma ta va ga wa xa ya za hp h).1) (fun h b => by cases b; exact (c18y aa na ma ta va ga wa xa ya za hp h).1; exact (c18z aa na ma ta va ga wa xa ya za hp h).1), by
    rcases Nat.eq_zero_or_pos na with h | h
    · exact (c18y aa na ma ta va ga wa xa ya za hp h).2
    · exact (c18s aa na ma ta va ga wa xa ya za hp h).2⟩
abbrev St15  := Empty
abbrev Rt15  := Int
noncomputable def V15 (kd pc pn of rs rg re : Int) (r : Rt15) : PV := PV.int IntKind.i64 r
noncomputable def N15 (kd pc pn of rs rg re : Int) (r : Rt15) : List Blk := []
noncomputable def I15 (kd pc pn of rs rg re : Int) : St15 → Hd := fun s => s.elim
noncomputable def q15 (kd pc pn of rs rg re : Int) : St15 → Option (St15 ⊕ Rt15) := fun s => s.elim
noncomputable def p15 (kd pc pn of rs rg re : Int) : Option (St15 ⊕ Rt15) := bif (kd == (1 : Int))
 then (bif (decide (pn ≥ (1 : Int)))
 then (bif (decide (pn ≤ (2 : Int)))
 then (bif (decide (of ≥ (-1000000000000 : Int)))
 then (bif (decide (of ≤ (1000000000000 : Int)))
 then (bif (decide (rs ≥ (1 : Int)))
 then (bif (decide (rs ≤ (1000000000 : Int)))
 then (bif (re == (0 : Int))
 then (bif (decide (pc ≥ (0 : Int)))
 then (bif (decide (pc ≤ (199 : Int)))
 then (bif (decide (rg ≥ (1 : Int)))
 then (bif (decide (rg ≤ (1000000000000 : Int)))
 then (some (.inr ((0 : Int))))
 else (some (.inr ((6 : Int)))))
 else (some (.inr ((6 : Int)))))
 else (some (.inr ((6 : Int)))))
 else (some (.inr ((6 : Int)))))
 else (some (.inr ((6 : Int)))))
 else (some (.inr ((6 : Int)))))
 else (some (.inr ((6 : Int)))))
 else (some (.inr ((6 : Int)))))
 else (some (.inr ((6 : Int)))))
 else (some (.inr ((6 : Int)))))
 else (some (.inr ((6 : Int)))))
 else (bif (kd == (2 : Int))
 then (bif (pn == (0 : Int))
 then (bif (of == (0 : Int))
 then (bif (decide (rs ≥ (1 : Int)))
 then (bif (decide (rs ≤ (1000000 : Int)))
 then (bif (decide (re ≥ (0 : Int)))
 then (bif (decide (re ≤ (199 : Int)))
 then (bif (decide (pc ≥ (0 : Int)))
 then (bif (decide (pc ≤ (199 : Int)))
 then (bif (decide (rg ≥ (1 : Int)))
 then (bif (decide (rg ≤ (1000000000000 : Int)))
 then (some (.inr ((0 : Int))))
 else (some (.inr ((6 : Int)))))
 else (some (.inr ((6 : Int)))))
 else (some (.inr ((6 : Int)))))
 else (some (.inr ((6 : Int)))))
 else (some (.inr ((6 : Int)))))
 else (some (.inr ((6 : Int)))))
 else (some (.inr ((6 : Int)))))
 else (some (.inr ((6 : Int)))))
 else (some (.inr ((6 : Int)))))
 else (some (.inr ((6 : Int)))))
 else (bif (kd == (3 : Int))
 then (bif (pn == (0 : Int))
 then (bif (decide (of ≥ (-1000000000000 : Int)))
 then (bif (decide (of ≤ (1000000000000 : Int)))
 then (bif (decide (rs ≥ (1 : Int)))
 then (bif (decide (rs ≤ (1000000 : Int)))
 then (bif (re == (0 : Int))
 then (bif (decide (pc ≥ (0 : Int)))
 then (bif (decide (pc ≤ (199 : Int)))
 then (bif (decide (rg ≥ (1 : Int)))
 then (bif (decide (rg ≤ (1000000000000 : Int)))
 then (some (.inr ((0 : Int))))
 else (some (.inr ((6 : Int)))))
 else (some (.inr ((6 : Int)))))
 else (some (.inr ((6 : Int)))))
 else (some (.inr ((6 : Int)))))
 else (some (.inr ((6 : Int)))))
 else (some (.inr ((6 : Int)))))
 else (some (.inr ((6 : Int)))))
 else (some (.inr ((6 : Int)))))
 else (some (.inr ((6 : Int)))))
 else (some (.inr ((6 : Int)))))
 else (some (.inr ((1 : Int))))))
noncomputable def Te15 (test : Bool → Prop → Prop → Prop) (Kst : KS) (Kret : KR) (kd pc pn of rs rg re : Int) : Prop :=
  test (kd == (1 : Int))
 (test (decide (pn ≥ (1 : Int)))
 (test (decide (pn ≤ (2 : Int)))
 (test (true)
 (test (decide (of ≥ (-1000000000000 : Int)))
 (test (decide (of ≤ (1000000000000 : Int)))
 (test (decide (rs ≥ (1 : Int)))
 (test (decide (rs ≤ (1000000000 : Int)))
 (test (re == (0 : Int))
 (test (decide (pc ≥ (0 : Int)))
 (test (decide (pc ≤ (199 : Int)))
 (test (decide (rg ≥ (1 : Int)))
 (test (decide (rg ≤ (1000000000000 : Int)))
 (Kret (PV.int IntKind.i64 (0 : Int)) ([[]]) (1))
 (Kret (PV.int IntKind.i64 (6 : Int)) ([[]]) (1)))
 (Kret (PV.int IntKind.i64 (6 : Int)) ([[]]) (1)))
 (Kret (PV.int IntKind.i64 (6 : Int)) ([[]]) (1)))
 (Kret (PV.int IntKind.i64 (6 : Int)) ([[]]) (1)))
 (Kret (PV.int IntKind.i64 (6 : Int)) ([[]]) (1)))
 (Kret (PV.int IntKind.i64 (6 : Int)) ([[]]) (1)))
 (Kret (PV.int IntKind.i64 (6 : Int)) ([[]]) (1)))
 (Kret (PV.int IntKind.i64 (6 : Int)) ([[]]) (1)))
 (Kret (PV.int IntKind.i64 (6 : Int)) ([[]]) (1)))
 (False))
 (Kret (PV.int IntKind.i64 (6 : Int)) ([[]]) (1)))
 (Kret (PV.int IntKind.i64 (6 : Int)) ([[]]) (1)))
 (test (kd == (2 : Int))
 (test (pn == (0 : Int))
 (test (of == (0 : Int))
 (test (decide (rs ≥ (1 : Int)))
 (test (decide (rs ≤ (1000000 : Int)))
 (test (decide (re ≥ (0 : Int)))
 (test (decide (re ≤ (199 : Int)))
 (test (decide (pc ≥ (0 : Int)))
 (test (decide (pc ≤ (199 : Int)))
 (test (decide (rg ≥ (1 : Int)))
 (test (decide (rg ≤ (1000000000000 : Int)))
 (Kret (PV.int IntKind.i64 (0 : Int)) ([[]]) (1))
 (Kret (PV.int IntKind.i64 (6 : Int)) ([[]]) (1)))
 (Kret (PV.int IntKind.i64 (6 : Int)) ([[]]) (1)))
 (Kret (PV.int IntKind.i64 (6 : Int)) ([[]]) (1)))
 (Kret (PV.int IntKind.i64 (6 : Int)) ([[]]) (1)))
 (Kret (PV.int IntKind.i64 (6 : Int)) ([[]]) (1)))
 (Kret (PV.int IntKind.i64 (6 : Int)) ([[]]) (1)))
 (Kret (PV.int IntKind.i64 (6 : Int)) ([[]]) (1)))
 (Kret (PV.int IntKind.i64 (6 : Int)) ([[]]) (1)))
 (Kret (PV.int IntKind.i64 (6 : Int)) ([[]]) (1)))
 (Kret (PV.int IntKind.i64 (6 : Int)) ([[]]) (1)))
 (test (kd == (3 : Int))
 (test (pn == (0 : Int))
 (test (true)
 (test (decide (of ≥ (-1000000000000 : Int)))
 (test (decide (of ≤ (1000000000000 : Int)))
 (test (decide (rs ≥ (1 : Int)))
 (test (decide (rs ≤ (1000000 : Int)))
 (test (re == (0 : Int))
 (test (decide (pc ≥ (0 : Int)))
 (test (decide (pc ≤ (199 : Int)))
 (test (decide (rg ≥ (1 : Int)))
 (test (decide (rg ≤ (1000000000000 : Int)))
 (Kret (PV.int IntKind.i64 (0 : Int)) ([[]]) (1))
 (Kret (PV.int IntKind.i64 (6 : Int)) ([[]]) (1)))
 (Kret (PV.int IntKind.i64 (6 : Int)) ([[]]) (1)))
 (Kret (PV.int IntKind.i64 (6 : Int)) ([[]]) (1)))
 (Kret (PV.int IntKind.i64 (6 : Int)) ([[]]) (1)))
 (Kret (PV.int IntKind.i64 (6 : Int)) ([[]]) (1)))
 (Kret (PV.int IntKind.i64 (6 : Int)) ([[]]) (1)))
 (Kret (PV.int IntKind.i64 (6 : Int)) ([[]]) (1)))
 (Kret (PV.int IntKind.i64 (6 : Int)) ([[]]) (1)))
 (Kret (PV.int IntKind.i64 (6 : Int)) ([[]]) (1)))
 (False))
 (Kret (PV.int IntKind.i64 (6 : Int)) ([[]]) (1)))
 (Kret (PV.int IntKind.i64 (1 : Int)) ([[]]) (1))))
theorem te15 (test : Bool → Prop → Prop → Prop) (Kst : KS) (Kret : KR) (kd pc pn of rs rg re : Int) : run test Try.env true noX true 400 ⟨15, [.cd (mkFn Try.f15).body], argT 0 [.agg [.int .i64 kd, .int .i64 pc, .int .i64 pn, .int .i64 of, .int .i64 rs, .int .i64 rg, .int .i64 re]], [[], []], 0⟩ (proj 0 [] Kst Kret) =
  Te15 test Kst Kret kd pc pn of rs rg re := by kernel_rfl
theorem be15 (kd pc pn of rs rg re : Int) (Kst : KS) (Kret : KR) (x : St15 ⊕ Rt15) (hS : HS 0 400 ((I15 kd pc pn of rs rg re)) Kst x) (hR : HR 0 400 ((V15 kd pc pn of rs rg re)) (fun r => [newL (0 + 1) ((N15 kd pc pn of rs rg re) r) ++ []]) Kret x) (h : p15 kd pc pn of rs rg re = some x) : Te15 cond Kst Kret kd pc pn of rs rg re := by
  unfold Te15
  unfold p15 at h
  refine bif_split h
   (fun c0 h => bif_split h
   (fun c1 h => bif_split h
   (fun c2 h => cond_yes rfl (bif_split h
   (fun c3 h => bif_split h
   (fun c4 h => bif_split h
   (fun c5 h => bif_split h
   (fun c6 h => bif_split h
   (fun c7 h => bif_split h
   (fun c8 h => bif_split h
   (fun c9 h => bif_split h
   (fun c10 h => bif_split h
   (fun c11 h => ?_)
   (fun c11 h => ?_))
   (fun c10 h => ?_))
   (fun c9 h => ?_))
   (fun c8 h => ?_))
   (fun c7 h => ?_))
   (fun c6 h => ?_))
   (fun c5 h => ?_))
   (fun c4 h => ?_))
   (fun c3 h => ?_)))
   (fun c2 h => ?_))
   (fun c1 h => ?_))
   (fun c0 h => bif_split h
   (fun c1 h => bif_split h
   (fun c2 h => bif_split h
   (fun c3 h => bif_split h
   (fun c4 h => bif_split h
   (fun c5 h => bif_split h
   (fun c6 h => bif_split h
   (fun c7 h => bif_split h
   (fun c8 h => bif_split h
   (fun c9 h => bif_split h
   (fun c10 h => bif_split h
   (fun c11 h => ?_)
   (fun c11 h => ?_))
   (fun c10 h => ?_))
   (fun c9 h => ?_))
   (fun c8 h => ?_))
   (fun c7 h => ?_))
   (fun c6 h => ?_))
   (fun c5 h => ?_))
   (fun c4 h => ?_))
   (fun c3 h => ?_))
   (fun c2 h => ?_))
   (fun c1 h => bif_split h
   (fun c2 h => bif_split h
   (fun c3 h => cond_yes rfl (bif_split h
   (fun c4 h => bif_split h
   (fun c5 h => bif_split h
   (fun c6 h => bif_split h
   (fun c7 h => bif_split h
   (fun c8 h => bif_split h
   (fun c9 h => bif_split h
   (fun c10 h => bif_split h
   (fun c11 h => bif_split h
   (fun c12 h => ?_)
   (fun c12 h => ?_))
   (fun c11 h => ?_))
   (fun c10 h => ?_))
   (fun c9 h => ?_))
   (fun c8 h => ?_))
   (fun c7 h => ?_))
   (fun c6 h => ?_))
   (fun c5 h => ?_))
   (fun c4 h => ?_)))
   (fun c3 h => ?_))
   (fun c2 h => ?_)))
  all_goals first
    | exact ret_at hR _ h (fun n => n) rfl rfl rfl (rn_int rfl) rfl entl_nil
theorem a15 (kd pc pn of rs rg re : Int) {r : Rt15} (h : Goes ((q15 kd pc pn of rs rg re)) ((p15 kd pc pn of rs rg re)) r) : CallR Try.prog 15 [.agg [.int .i64 kd, .int .i64 pc, .int .i64 pn, .int .i64 of, .int .i64 rs, .int .i64 rg, .int .i64 re]] [[]] 0 ((V15 kd pc pn of rs rg re) r) ((fun r => [newL (0 + 1) ((N15 kd pc pn of rs rg re) r) ++ []]) r) 400 ∧ ∃ F, Try.prog.funcs[15]? = some F ∧ F.body.isSome = true ∧ (F.name == "runtime.NumGoroutine") = false := by
  refine dec_calls (f := 15) (lo := 0) (hi := 400) (H := [[]]) (args := [.agg [.int .i64 kd, .int .i64 pc, .int .i64 pn, .int .i64 of, .int .i64 rs, .int .i64 rg, .int .i64 re]]) Try.envOk Try.mixed noX_ok ((I15 kd pc pn of rs rg re)) ((V15 kd pc pn of rs rg re)) (fun r => [newL (0 + 1) ((N15 kd pc pn of rs rg re) r) ++ []]) (fn := mkFn Try.f15) (ts := []) (n := 400) rfl (by decide) (by simp) (names_of rfl) ?_ ?_ ?_ h
  · intro s; exact s.elim
  · intro Kst Kret x hS hR h
    exact Holds.eq (te15 cond Kst Kret kd pc pn of rs rg re) (be15 kd pc pn of rs rg re Kst Kret x hS hR h)
  · intro Kst Kret x hS hR s h; exact s.elim
noncomputable def k15  : Con := ⟨15, [.agg [.plain (.int .i64), .plain (.int .i64), .plain (.int .i64), .plain (.int .i64), .plain (.int .i64), .plain (.int .i64), .plain (.int .i64)]], fun (x : (Int × Int × Int × Int × Int × Int × Int × Unit) × Unit) => (fun (kd : Int) (pc : Int) (pn : Int) (of : Int) (rs : Int) (rg : Int) (re : Int) => decide (True)) x.1.1 x.1.2.1 x.1.2.2.1 x.1.2.2.2.1 x.1.2.2.2.2.1 x.1.2.2.2.2.2.1 x.1.2.2.2.2.2.2.1, fun (x : (Int × Int × Int × Int × Int × Int × Int × Unit) × Unit) => (fun (kd : Int) (pc : Int) (pn : Int) (of : Int) (rs : Int) (rg : Int) (re : Int) => (V15 kd pc pn of rs rg re) (S.insE kd pc pn of rs rg re)) x.1.1 x.1.2.1 x.1.2.2.1 x.1.2.2.2.1 x.1.2.2.2.2.1 x.1.2.2.2.2.2.1 x.1.2.2.2.2.2.2.1, fun (x : (Int × Int × Int × Int × Int × Int × Int × Unit) × Unit) => (fun (kd : Int) (pc : Int) (pn : Int) (of : Int) (rs : Int) (rg : Int) (re : Int) => (N15 kd pc pn of rs rg re) (S.insE kd pc pn of rs rg re)) x.1.1 x.1.2.1 x.1.2.2.1 x.1.2.2.2.1 x.1.2.2.2.2.1 x.1.2.2.2.2.2.1 x.1.2.2.2.2.2.2.1, fun _ _ => .dead⟩
theorem s15 (kd pc pn of rs rg re : Int) (hp : True) : Goes ((q15 kd pc pn of rs rg re)) ((p15 kd pc pn of rs rg re)) (S.insE kd pc pn of rs rg re) := by
  unfold S.insE
  show Goes _ _ _
  unfold p15
  repeat' first
    | with_reducible refine goes_if (fun h => ?_) (fun h => ?_) <;> (try simp only [SH] at h)
    | exact goes_none.mpr (by omega)
  all_goals first
    | (exfalso; omega)
    | (refine goes_inr.mpr ?_; (repeat' split) <;> first | rfl | (exfalso; omega))
theorem k15_ok  : k15.ok Try.prog := by
  intro x hx
  obtain ⟨⟨kd, pc, pn, of, rs, rg, re, _⟩, _⟩ := x
  obtain ⟨h1, h2⟩ := a15 kd pc pn of rs rg re (s15 kd pc pn of rs rg re (of_dec hx rfl))
  exact ⟨⟨400, (by decide : 0 + 1 + 0 ≤ 400), h1⟩, h2⟩
noncomputable def xA0 (test : Bool → Prop → Prop → Prop) : Ext := consX test [k15]
theorem xA0_ok  : ExtOk Try.prog (xA0 cond) := consX_ok ⟨k15_ok, trivial⟩
namespace S
def parB (x1 x2 x3 x4 d l t : Int) : Bool := decide ((-1000000000000 ≤ x1 ∧ x1 ≤ 1000000000000) ∧ (-1000000000000 ≤ x2 ∧ x2 ≤ 1000000000000) ∧ (-1000000000000 ≤ x3 ∧ x3 ≤ 1000000000000) ∧ (-1000000000000 ≤ x4 ∧ x4 ≤ 1000000000000) ∧ (-1000000 ≤ d ∧ d ≤ 1000000) ∧ (-1 ≤ l ∧ l ≤ 199) ∧ 0 ≤ t ∧ t ≤ 1000000)
def parN (p : Nat → Bool) : Nat → Nat → Int
  | _, 0 => 0
  | i, k + 1 => if p i = true then parN p (i + 1) k else 6
def parE (n : Nat) (x1 x2 x3 x4 d l t : Nat → Int) : Int := if n > 50 then 3 else parN (fun j => parB (x1 j) (x2 j) (x3 j) (x4 j) (d j) (l j) (t j)) 0 n
def losT (t : Nat → Int) (pc re : Int) (j : Nat) : Int := if (j : Int) - pc ≤ re ∧ pc - (j : Int) ≤ re then t j else 0
def losB (t : Nat → Int) (j : Nat) : Bool := decide (0 ≤ t j ∧ t j ≤ 1000)
def losS (kd pc pn of rs rg re : Int) (n : Nat) (t : Nat → Int) : Int × Bool × Int :=
  if kinE kd pc pn of rs rg re 2 = 0 then
    if n > 200 then (0, false, 3) else
    if all (losB t) n = true then
      if rs * sumN (losT t pc re) n ≤ rg then (rs * sumN (losT t pc re) n, true, 0) else (rg, false, 0)
    else (0, false, 6)
  else (0, false, kinE kd pc pn of rs rg re 2)
end S
theorem los_bnd  {t : Nat → Int} {pc re : Int} : ∀ {n : Nat}, (∀ j, j < n → 0 ≤ t j ∧ t j ≤ 1000) → 0 ≤ S.sumN (S.losT t pc re) n ∧ S.sumN (S.losT t pc re) n ≤ 1000 * n
  | 0, _ => ⟨Int.le_refl _, Int.le_refl _⟩
  | n + 1, h => by
    have h1 := los_bnd (n := n) (pc := pc) (re := re) fun j hj => h j (by omega)
    have h2 := h n (by omega)
    have e : S.sumN (S.losT t pc re) (n + 1) = S.sumN (S.losT t pc re) n + S.losT t pc re n := rfl
    rw [e]
    unfold S.losT at *
    split <;> omega
theorem ins_ok  {kd pc pn of rs rg re want : Int} (h : S.kinE kd pc pn of rs rg re want = 0) : kd = want ∧ S.insE kd pc pn of rs rg re = 0 ∧ (0 ≤ pc ∧ pc ≤ 199) ∧ (1 ≤ rg ∧ rg ≤ 1000000000000) ∧ (1 ≤ rs ∧ rs ≤ 1000000000) ∧ (0 ≤ re ∧ re ≤ 199) ∧ (-1000000000000 ≤ of ∧ of ≤ 1000000000000) ∧ (kd = 1 ∨ rs ≤ 1000000) ∧ (kd = 1 → 1 ≤ pn ∧ pn ≤ 2) := by
  unfold S.kinE at h
  split at h
  · rename_i h0
    split at h
    · rename_i h1
      have h2 := h0
      unfold S.insE at h2
      split at h2
      · split at h2
        · rename_i h3
          refine ⟨h1, h0, ?_⟩
          omega
        · cases h2
      · cases h2
    · cases h
  · rename_i h0
    exact absurd h h0
inductive St12 where
  | h0 (x0 : Int) (x1 : Int)
abbrev Rt12  := Int × Bool × Int
noncomputable def V12 (kd pc pn of rs rg re : Int) (al nl ml : Nat) (tl : Nat → Int) (r : Rt12) : PV := PV.tup
 [PV.agg [PV.int IntKind.i64 (0 : Int), PV.int IntKind.i64 r.1, PV.bool r.2.1],
 PV.int IntKind.i64 r.2.2]
noncomputable def N12 (kd pc pn of rs rg re : Int) (al nl ml : Nat) (tl : Nat → Int) (r : Rt12) : List Blk := []
noncomputable def I12 (kd pc pn of rs rg re : Int) (al nl ml : Nat) (tl : Nat → Int) : St12 → Hd
  | .h0 x0 x1 => ⟨hd Try.f12 0, [PV.ptr (PA.mk (1) (0) (0) (0)),
 PV.ptr (PA.mk (2) (0) (0) (0)), PV.int IntKind.i64 x0,
 PV.loose (PA.mk (0) (1) al (0)) nl, PV.int IntKind.i64 (↑nl : Int),
 PV.int IntKind.i64 x1], [[(1, (true, Blk.cells
 [PV.int IntKind.i64 kd, PV.int IntKind.i64 pc, PV.int IntKind.i64 pn,
 PV.int IntKind.i64 of, PV.int IntKind.i64 rs, PV.int IntKind.i64 rg,
 PV.int IntKind.i64 re])), (2, (true, Blk.cells [PV.int IntKind.i64 (0 : Int), PV.int IntKind.i64 (0 : Int), PV.tf false]))], [(0, (false, .cols ml [.int .i64 tl]))]], 3⟩
noncomputable def q12 (kd pc pn of rs rg re : Int) (al nl ml : Nat) (tl : Nat → Int) : St12 → Option (St12 ⊕ Rt12)
  | .h0 x0 x1 => bif (decide (x1 < (↑nl : Int)))
 then (bif (decide ((0 : Int) ≤ x1 ∧ x1 < (↑nl : Int)))
 then (bif (decide (Int.toNat x1 + al < ml))
 then (bif (decide (tl (Int.toNat x1 + al) ≥ (0 : Int)))
 then (bif (decide (tl (Int.toNat x1 + al) ≤ (1000 : Int)))
 then (bif (lim IntKind.i64 (x1 - pc))
 then (bif (lim IntKind.i64 (-re))
 then (bif (decide (x1 - pc ≥ -re))
 then (bif (decide (x1 - pc ≤ re))
 then (bif (lim IntKind.i64 (x0 + tl (Int.toNat x1 + al)))
 then (bif (lim IntKind.i64 (x1 + (1 : Int)))
 then (some (.inl (.h0 (x0 + tl (Int.toNat x1 + al)) (x1 + (1 : Int)))))
 else (none))
 else (none))
 else (bif (lim IntKind.i64 (x1 + (1 : Int)))
 then (some (.inl (.h0 (x0) (x1 + (1 : Int)))))
 else (none)))
 else (bif (lim IntKind.i64 (x1 + (1 : Int)))
 then (some (.inl (.h0 (x0) (x1 + (1 : Int)))))
 else (none)))
 else (none))
 else (none))
 else (some (.inr ((0 : Int), false, (6 : Int)))))
 else (some (.inr ((0 : Int), false, (6 : Int)))))
 else (none))
 else (none))
 else (bif (lim IntKind.i64 (rs * x0))
 then (bif (decide (rs * x0 ≤ rg))
 then (some (.inr (rs * x0, true, (0 : Int))))
 else (some (.inr (rg, false, (0 : Int)))))
 else (none))
noncomputable def p12 (kd pc pn of rs rg re : Int) (al nl ml : Nat) (tl : Nat → Int) : Option (St12 ⊕ Rt12) := bif (S.insE kd pc pn of rs rg re != (0 : Int))
 then (some (.inr ((0 : Int), false, S.insE kd pc pn of rs rg re)))
 else (bif (kd != (2 : Int))
 then (some (.inr ((0 : Int), false, (8 : Int))))
 else (bif (decide ((↑nl : Int) > (200 : Int)))
 then (some (.inr ((0 : Int), false, (3 : Int))))
 else (some (.inl (.h0 ((0 : Int)) ((0 : Int)))))))
noncomputable def Te12 (test : Bool → Prop → Prop → Prop) (Kst : KS) (Kret : KR) (kd pc pn of rs rg re : Int) (al nl ml : Nat) (tl : Nat → Int) : Prop :=
  test (true)
 (test (S.insE kd pc pn of rs rg re != (0 : Int))
 (test (S.insE kd pc pn of rs rg re != (0 : Int))
 (Kret (PV.tup
 [PV.agg [PV.int IntKind.i64 (0 : Int), PV.int IntKind.i64 (0 : Int), PV.tf false],
 PV.int IntKind.i64 (S.insE kd pc pn of rs rg re)]) ([[(0, false, Blk.cols ml [Col.int IntKind.i64 tl])]]) (5))
 (test (decide ((↑nl : Int) > (200 : Int)))
 (Kret (PV.tup
 [PV.agg [PV.int IntKind.i64 (0 : Int), PV.int IntKind.i64 (0 : Int), PV.tf false],
 PV.int IntKind.i64 (3 : Int)]) ([[(0, false, Blk.cols ml [Col.int IntKind.i64 tl])]]) (5))
 (Kst (hd Try.f12 0) ([PV.ptr (PA.mk (1) (0) (0) (0)),
 PV.ptr (PA.mk (2) (0) (0) (0)), PV.int IntKind.i64 (0 : Int),
 PV.loose (PA.mk (0) (1) al (0)) nl, PV.int IntKind.i64 (↑nl : Int),
 PV.int IntKind.i64 (0 : Int)]) ([[(0, false, Blk.cols ml [Col.int IntKind.i64 tl]),
 (2, true,
 Blk.cells
 [PV.int IntKind.i64 (0 : Int), PV.int IntKind.i64 (0 : Int), PV.tf false]),
 (1, true,
 Blk.cells
 [PV.int IntKind.i64 kd, PV.int IntKind.i64 pc, PV.int IntKind.i64 pn,
 PV.int IntKind.i64 of, PV.int IntKind.i64 rs, PV.int IntKind.i64 rg,
 PV.int IntKind.i64 re])]]) (5))))
 (test (kd != (2 : Int))
 (test (true)
 (Kret (PV.tup
 [PV.agg [PV.int IntKind.i64 (0 : Int), PV.int IntKind.i64 (0 : Int), PV.tf false],
 PV.int IntKind.i64 (8 : Int)]) ([[(0, false, Blk.cols ml [Col.int IntKind.i64 tl])]]) (5))
 (test (decide ((↑nl : Int) > (200 : Int)))
 (Kret (PV.tup
 [PV.agg [PV.int IntKind.i64 (0 : Int), PV.int IntKind.i64 (0 : Int), PV.tf false],
 PV.int IntKind.i64 (3 : Int)]) ([[(0, false, Blk.cols ml [Col.int IntKind.i64 tl])]]) (5))
 (Kst (hd Try.f12 0) ([PV.ptr (PA.mk (1) (0) (0) (0)),
 PV.ptr (PA.mk (2) (0) (0) (0)), PV.int IntKind.i64 (0 : Int),
 PV.loose (PA.mk (0) (1) al (0)) nl, PV.int IntKind.i64 (↑nl : Int),
 PV.int IntKind.i64 (0 : Int)]) ([[(0, false, Blk.cols ml [Col.int IntKind.i64 tl]),
 (2, true,
 Blk.cells
 [PV.int IntKind.i64 (0 : Int), PV.int IntKind.i64 (0 : Int), PV.tf false]),
 (1, true,
 Blk.cells
 [PV.int IntKind.i64 kd, PV.int IntKind.i64 pc, PV.int IntKind.i64 pn,
 PV.int IntKind.i64 of, PV.int IntKind.i64 rs, PV.int IntKind.i64 rg,
 PV.int IntKind.i64 re])]]) (5))))
 (test (false)
 (Kret (PV.tup
 [PV.agg [PV.int IntKind.i64 (0 : Int), PV.int IntKind.i64 (0 : Int), PV.tf false],
 PV.int IntKind.i64 (0 : Int)]) ([[(0, false, Blk.cols ml [Col.int IntKind.i64 tl])]]) (5))
 (test (decide ((↑nl : Int) > (200 : Int)))
 (Kret (PV.tup
 [PV.agg [PV.int IntKind.i64 (0 : Int), PV.int IntKind.i64 (0 : Int), PV.tf false],
 PV.int IntKind.i64 (3 : Int)]) ([[(0, false, Blk.cols ml [Col.int IntKind.i64 tl])]]) (5))
 (Kst (hd Try.f12 0) ([PV.ptr (PA.mk (1) (0) (0) (0)),
 PV.ptr (PA.mk (2) (0) (0) (0)), PV.int IntKind.i64 (0 : Int),
 PV.loose (PA.mk (0) (1) al (0)) nl, PV.int IntKind.i64 (↑nl : Int),
 PV.int IntKind.i64 (0 : Int)]) ([[(0, false, Blk.cols ml [Col.int IntKind.i64 tl]),
 (2, true,
 Blk.cells
 [PV.int IntKind.i64 (0 : Int), PV.int IntKind.i64 (0 : Int), PV.tf false]),
 (1, true,
 Blk.cells
 [PV.int IntKind.i64 kd, PV.int IntKind.i64 pc, PV.int IntKind.i64 pn,
 PV.int IntKind.i64 of, PV.int IntKind.i64 rs, PV.int IntKind.i64 rg,
 PV.int IntKind.i64 re])]]) (5))))))
 (False)
theorem te12 (test : Bool → Prop → Prop → Prop) (Kst : KS) (Kret : KR) (kd pc pn of rs rg re : Int) (al nl ml : Nat) (tl : Nat → Int) : run test Try.env true (xA0 test) true 400 ⟨12, [.cd (mkFn Try.f12).body], argT 0 [.agg [.int .i64 kd, .int .i64 pc, .int .i64 pn, .int .i64 of, .int .i64 rs, .int .i64 rg, .int .i64 re], .loose ⟨0, 1, al, 0⟩ nl], [[], [(0, (false, .cols ml [.int .i64 tl]))]], 1⟩ (proj 1 [2, 4, 7, 21, 22, 23] Kst Kret) =
  Te12 test Kst Kret kd pc pn of rs rg re al nl ml tl := by kernel_rfl
noncomputable def T12_0 (test : Bool → Prop → Prop → Prop) (Kst : KS) (Kret : KR) (kd pc pn of rs rg re : Int) (al nl ml : Nat) (tl : Nat → Int) (x0 x1 : Int) : Prop :=
  test (decide (x1 < (↑nl : Int)))
 (test (decide ((0 : Int) ≤ x1 ∧ x1 < (↑nl : Int)))
 (test (decide (Int.toNat x1 + al < ml))
 (test (decide (tl (Int.toNat x1 + al) ≥ (0 : Int)))
 (test (decide (tl (Int.toNat x1 + al) ≤ (1000 : Int)))
 (test (lim IntKind.i64 (x1 - pc))
 (test (lim IntKind.i64 (-re))
 (test (decide (x1 - pc ≥ -re))
 (test (decide (x1 - pc ≤ re))
 (test (lim IntKind.i64 (x0 + tl (Int.toNat x1 + al)))
 (test (lim IntKind.i64 (x1 + (1 : Int)))
 (Kst (hd Try.f12 0) ([PV.ptr (PA.mk (1) (0) (0) (0)),
 PV.ptr (PA.mk (2) (0) (0) (0)),
 PV.int IntKind.i64 (x0 + tl (Int.toNat x1 + al)),
 PV.loose (PA.mk (0) (1) al (0)) nl, PV.int IntKind.i64 (↑nl : Int),
 PV.int IntKind.i64 (x1 + (1 : Int))]) ([[(0, false, Blk.cols ml [Col.int IntKind.i64 tl]),
 (2, true,
 Blk.cells
 [PV.int IntKind.i64 (0 : Int), PV.int IntKind.i64 (0 : Int), PV.tf false]),
 (1, true,
 Blk.cells
 [PV.int IntKind.i64 kd, PV.int IntKind.i64 pc, PV.int IntKind.i64 pn,
 PV.int IntKind.i64 of, PV.int IntKind.i64 rs, PV.int IntKind.i64 rg,
 PV.int IntKind.i64 re])]]) (3))
 (False))
 (False))
 (test (lim IntKind.i64 (x1 + (1 : Int)))
 (Kst (hd Try.f12 0) ([PV.ptr (PA.mk (1) (0) (0) (0)),
 PV.ptr (PA.mk (2) (0) (0) (0)), PV.int IntKind.i64 x0,
 PV.loose (PA.mk (0) (1) al (0)) nl, PV.int IntKind.i64 (↑nl : Int),
 PV.int IntKind.i64 (x1 + (1 : Int))]) ([[(0, false, Blk.cols ml [Col.int IntKind.i64 tl]),
 (2, true,
 Blk.cells
 [PV.int IntKind.i64 (0 : Int), PV.int IntKind.i64 (0 : Int), PV.tf false]),
 (1, true,
 Blk.cells
 [PV.int IntKind.i64 kd, PV.int IntKind.i64 pc, PV.int IntKind.i64 pn,
 PV.int IntKind.i64 of, PV.int IntKind.i64 rs, PV.int IntKind.i64 rg,
 PV.int IntKind.i64 re])]]) (3))
 (False)))
 (test (lim IntKind.i64 (x1 + (1 : Int)))
 (Kst (hd Try.f12 0) ([PV.ptr (PA.mk (1) (0) (0) (0)),
 PV.ptr (PA.mk (2) (0) (0) (0)), PV.int IntKind.i64 x0,
 PV.loose (PA.mk (0) (1) al (0)) nl, PV.int IntKind.i64 (↑nl : Int),
 PV.int IntKind.i64 (x1 + (1 : Int))]) ([[(0, false, Blk.cols ml [Col.int IntKind.i64 tl]),
 (2, true,
 Blk.cells
 [PV.int IntKind.i64 (0 : Int), PV.int IntKind.i64 (0 : Int), PV.tf false]),
 (1, true,
 Blk.cells
 [PV.int IntKind.i64 kd, PV.int IntKind.i64 pc, PV.int IntKind.i64 pn,
 PV.int IntKind.i64 of, PV.int IntKind.i64 rs, PV.int IntKind.i64 rg,
 PV.int IntKind.i64 re])]]) (3))
 (False)))
 (False))
 (False))
 (Kret (PV.tup
 [PV.agg [PV.int IntKind.i64 (0 : Int), PV.int IntKind.i64 (0 : Int), PV.tf false],
 PV.int IntKind.i64 (6 : Int)]) ([[(0, false, Blk.cols ml [Col.int IntKind.i64 tl])]]) (3)))
 (Kret (PV.tup
 [PV.agg [PV.int IntKind.i64 (0 : Int), PV.int IntKind.i64 (0 : Int), PV.tf false],
 PV.int IntKind.i64 (6 : Int)]) ([[(0, false, Blk.cols ml [Col.int IntKind.i64 tl])]]) (3)))
 (False))
 (False))
 (test (lim IntKind.i64 (rs * x0))
 (test (decide (rs * x0 ≤ rg))
 (Kret (PV.tup
 [PV.agg [PV.int IntKind.i64 (0 : Int), PV.int IntKind.i64 (rs * x0), PV.tf true],
 PV.int IntKind.i64 (0 : Int)]) ([[(0, false, Blk.cols ml [Col.int IntKind.i64 tl])]]) (3))
 (Kret (PV.tup
 [PV.agg [PV.int IntKind.i64 (0 : Int), PV.int IntKind.i64 rg, PV.tf false],
 PV.int IntKind.i64 (0 : Int)]) ([[(0, false, Blk.cols ml [Col.int IntKind.i64 tl])]]) (3)))
 (False))
theorem t12_0 (test : Bool → Prop → Prop → Prop) (Kst : KS) (Kret : KR) (kd pc pn of rs rg re : Int) (al nl ml : Nat) (tl : Nat → Int) (x0 x1 : Int) : run test Try.env true (xA0 test) true 400 ⟨12, hd Try.f12 0, zipT [2, 4, 7, 21, 22, 23] [PV.ptr (PA.mk (1) (0) (0) (0)),
 PV.ptr (PA.mk (2) (0) (0) (0)), PV.int IntKind.i64 x0,
 PV.loose (PA.mk (0) (1) al (0)) nl, PV.int IntKind.i64 (↑nl : Int),
 PV.int IntKind.i64 x1], [[(1, (true, Blk.cells
 [PV.int IntKind.i64 kd, PV.int IntKind.i64 pc, PV.int IntKind.i64 pn,
 PV.int IntKind.i64 of, PV.int IntKind.i64 rs, PV.int IntKind.i64 rg,
 PV.int IntKind.i64 re])), (2, (true, Blk.cells [PV.int IntKind.i64 (0 : Int), PV.int IntKind.i64 (0 : Int), PV.tf false]))], [(0, (false, .cols ml [.int .i64 tl]))]], 3⟩ (proj 1 [2, 4, 7, 21, 22, 23] Kst Kret) =
  T12_0 test Kst Kret kd pc pn of rs rg re al nl ml tl x0 x1 := by kernel_rfl
theorem be12 (kd pc pn of rs rg re : Int) (al nl ml : Nat) (tl : Nat → Int) (Kst : KS) (Kret : KR) (x : St12 ⊕ Rt12) (hS : HS 1 400 ((I12 kd pc pn of rs rg re al nl ml tl)) Kst x) (hR : HR 1 400 ((V12 kd pc pn of rs rg re al nl ml tl)) (fun r => [newL (1 + 1) ((N12 kd pc pn of rs rg re al nl ml tl) r) ++ [(0, (false, .cols ml [.int .i64 tl]))]]) Kret x) (h : (bif (S.insE kd pc pn of rs rg re != (0 : Int))
 then (some (.inr ((0 : Int), false, S.insE kd pc pn of rs rg re)))
 else (bif (kd != (2 : Int))
 then (some (.inr ((0 : Int), false, (8 : Int))))
 else (bif (decide ((↑nl : Int) > (200 : Int)))
 then (some (.inr ((0 : Int), false, (3 : Int))))
 else (some (.inl (.h0 ((0 : Int)) ((0 : Int))))))) : Option (St12 ⊕ Rt12)) = some x) : Te12 cond Kst Kret kd pc pn of rs rg re al nl ml tl := by
  unfold Te12
  exact cond_yes rfl (bif_split h
   (fun c0 h => cond_yes c0 (ret_at hR _ h (fun n => n) rfl rfl rfl (rn_tup ⟨(rn_agg ⟨(rn_int rfl), (rn_int rfl), (rn_bool_tf rfl), trivial⟩), (rn_int rfl), trivial⟩) rfl (entl_bor (use_lo rfl) rfl rfl entl_nil)))
   (fun c0 h => bif_split h
   (fun c1 h => cond_yes rfl (ret_at hR _ h (fun n => n) rfl rfl rfl (rn_tup ⟨(rn_agg ⟨(rn_int rfl), (rn_int rfl), (rn_bool_tf rfl), trivial⟩), (rn_int rfl), trivial⟩) rfl (entl_bor (use_lo rfl) rfl rfl entl_nil)))
   (fun c1 h => cond_no rfl (bif_split h
   (fun c2 h => ret_at hR _ h (fun n => n) rfl rfl rfl (rn_tup ⟨(rn_agg ⟨(rn_int rfl), (rn_int rfl), (rn_bool_tf rfl), trivial⟩), (rn_int rfl), trivial⟩) rfl (entl_bor (use_lo rfl) rfl rfl entl_nil))
   (fun c2 h => stop_at hS _ h (fun n => bif Nat.beq n 1 then 1 else bif Nat.beq n 2 then 2 else n) rfl rfl rfl ⟨(rn_ptr (use_own rfl) rfl rfl), ⟨(rn_ptr (use_own rfl) rfl rfl), ⟨(rn_int rfl), ⟨(rn_loose (use_lo rfl) rfl rfl rfl), ⟨(rn_int rfl), ⟨(rn_int rfl), trivial⟩⟩⟩⟩⟩⟩ rfl (entl_b (use_own rfl) rfl (by simp) (rb_cells ⟨(rn_int rfl), (rn_int rfl), (rn_int rfl), (rn_int rfl), (rn_int rfl), (rn_int rfl), (rn_int rfl), trivial⟩) (entl_b (use_own rfl) rfl (by simp) (rb_cells ⟨(rn_int rfl), (rn_int rfl), (rn_tf rfl), trivial⟩) (entl_bor (use_lo rfl) rfl rfl entl_nil))))))))
theorem b12_0 (kd pc pn of rs rg re : Int) (al nl ml : Nat) (tl : Nat → Int) (Kst : KS) (Kret : KR) (x : St12 ⊕ Rt12) (hS : HS 1 400 ((I12 kd pc pn of rs rg re al nl ml tl)) Kst x) (hR : HR 1 400 ((V12 kd pc pn of rs rg re al nl ml tl)) (fun r => [newL (1 + 1) ((N12 kd pc pn of rs rg re al nl ml tl) r) ++ [(0, (false, .cols ml [.int .i64 tl]))]]) Kret x) (x0 x1 : Int) (h : (bif (decide (x1 < (↑nl : Int)))
 then (bif (decide ((0 : Int) ≤ x1 ∧ x1 < (↑nl : Int)))
 then (bif (decide (Int.toNat x1 + al < ml))
 then (bif (decide (tl (Int.toNat x1 + al) ≥ (0 : Int)))
 then (bif (decide (tl (Int.toNat x1 + al) ≤ (1000 : Int)))
 then (bif (lim IntKind.i64 (x1 - pc))
 then (bif (lim IntKind.i64 (-re))
 then (bif (decide (x1 - pc ≥ -re))
 then (bif (decide (x1 - pc ≤ re))
 then (bif (lim IntKind.i64 (x0 + tl (Int.toNat x1 + al)))
 then (bif (lim IntKind.i64 (x1 + (1 : Int)))
 then (some (.inl (.h0 (x0 + tl (Int.toNat x1 + al)) (x1 + (1 : Int)))))
 else (none))
 else (none))
 else (bif (lim IntKind.i64 (x1 + (1 : Int)))
 then (some (.inl (.h0 (x0) (x1 + (1 : Int)))))
 else (none)))
 else (bif (lim IntKind.i64 (x1 + (1 : Int)))
 then (some (.inl (.h0 (x0) (x1 + (1 : Int)))))
 else (none)))
 else (none))
 else (none))
 else (some (.inr ((0 : Int), false, (6 : Int)))))
 else (some (.inr ((0 : Int), false, (6 : Int)))))
 else (none))
 else (none))
 else (bif (lim IntKind.i64 (rs * x0))
 then (bif (decide (rs * x0 ≤ rg))
 then (some (.inr (rs * x0, true, (0 : Int))))
 else (some (.inr (rg, false, (0 : Int)))))
 else (none)) : Option (St12 ⊕ Rt12)) = some x) : T12_0 cond Kst Kret kd pc pn of rs rg re al nl ml tl x0 x1 := by
  unfold T12_0
  refine bif_split h
   (fun c0 h => bif_split h
   (fun c1 h => bif_split h
   (fun c2 h => bif_split h
   (fun c3 h => bif_split h
   (fun c4 h => bif_split h
   (fun c5 h => bif_split h
   (fun c6 h => bif_split h
   (fun c7 h => bif_split h
   (fun c8 h => bif_split h
   (fun c9 h => bif_split h
   (fun c10 h => ?_)
   (fun c10 h => ?_))
   (fun c9 h => ?_))
   (fun c8 h => bif_split h
   (fun c9 h => ?_)
   (fun c9 h => ?_)))
   (fun c7 h => bif_split h
   (fun c8 h => ?_)
   (fun c8 h => ?_)))
   (fun c6 h => ?_))
   (fun c5 h => ?_))
   (fun c4 h => ?_))
   (fun c3 h => ?_))
   (fun c2 h => ?_))
   (fun c1 h => ?_))
   (fun c0 h => bif_split h
   (fun c1 h => bif_split h
   (fun c2 h => ?_)
   (fun c2 h => ?_))
   (fun c1 h => ?_))
  all_goals first
    | exact no_some h
    | exact ret_at hR _ h (fun n => n) rfl rfl rfl (rn_tup ⟨(rn_agg ⟨(rn_int rfl), (rn_int rfl), (rn_bool_tf rfl), trivial⟩), (rn_int rfl), trivial⟩) rfl (entl_bor (use_lo rfl) rfl rfl entl_nil)
    | exact stop_at hS _ h (fun n => bif Nat.beq n 1 then 1 else bif Nat.beq n 2 then 2 else n) rfl rfl rfl ⟨(rn_ptr (use_own rfl) rfl rfl), ⟨(rn_ptr (use_own rfl) rfl rfl), ⟨(rn_int rfl), ⟨(rn_loose (use_lo rfl) rfl rfl rfl), ⟨(rn_int rfl), ⟨(rn_int rfl), trivial⟩⟩⟩⟩⟩⟩ rfl (entl_b (use_own rfl) rfl (by simp) (rb_cells ⟨(rn_int rfl), (rn_int rfl), (rn_int rfl), (rn_int rfl), (rn_int rfl), (rn_int rfl), (rn_int rfl), trivial⟩) (entl_b (use_own rfl) rfl (by simp) (rb_cells ⟨(rn_int rfl), (rn_int rfl), (rn_tf rfl), trivial⟩) (entl_bor (use_lo rfl) rfl rfl entl_nil)))
theorem a12 (kd pc pn of rs rg re : Int) (al nl ml : Nat) (tl : Nat → Int) {r : Rt12} (h : Goes ((q12 kd pc pn of rs rg re al nl ml tl)) ((p12 kd pc pn of rs rg re al nl ml tl)) r) : CallR Try.prog 12 [.agg [.int .i64 kd, .int .i64 pc, .int .i64 pn, .int .i64 of, .int .i64 rs, .int .i64 rg, .int .i64 re], .loose ⟨0, 1, al, 0⟩ nl] [[(0, (false, .cols ml [.int .i64 tl]))]] 1 ((V12 kd pc pn of rs rg re al nl ml tl) r) ((fun r => [newL (1 + 1) ((N12 kd pc pn of rs rg re al nl ml tl) r) ++ [(0, (false, .cols ml [.int .i64 tl]))]]) r) 400 ∧ ∃ F, Try.prog.funcs[12]? = some F ∧ F.body.isSome = true ∧ (F.name == "runtime.NumGoroutine") = false := by
  refine dec_calls (f := 12) (lo := 1) (hi := 400) (H := [[(0, (false, .cols ml [.int .i64 tl]))]]) (args := [.agg [.int .i64 kd, .int .i64 pc, .int .i64 pn, .int .i64 of, .int .i64 rs, .int .i64 rg, .int .i64 re], .loose ⟨0, 1, al, 0⟩ nl]) Try.envOk Try.mixed xA0_ok ((I12 kd pc pn of rs rg re al nl ml tl)) ((V12 kd pc pn of rs rg re al nl ml tl)) (fun r => [newL (1 + 1) ((N12 kd pc pn of rs rg re al nl ml tl) r) ++ [(0, (false, .cols ml [.int .i64 tl]))]]) (fn := mkFn Try.f12) (ts := [2, 4, 7, 21, 22, 23]) (n := 400) rfl (by decide) (by simp) (names_of rfl) ?_ ?_ ?_ h
  · intro s; cases s <;> exact ⟨hd_ok _ _, by simp [I12], names_of rfl, Nat.le_of_ble_eq_true rfl⟩
  · intro Kst Kret x hS hR h
    exact Holds.eq (te12 cond Kst Kret kd pc pn of rs rg re al nl ml tl) (be12 kd pc pn of rs rg re al nl ml tl Kst Kret x hS hR h)
  · intro Kst Kret x hS hR s h
    cases s with
    | h0 x0 x1 => exact Holds.eq (t12_0 cond Kst Kret kd pc pn of rs rg re al nl ml tl x0 x1) (b12_0 kd pc pn of rs rg re al nl ml tl Kst Kret x hS hR x0 x1 h)
noncomputable def k12  : Con := ⟨12, [.agg [.plain (.int .i64), .plain (.int .i64), .plain (.int .i64), .plain (.int .i64), .plain (.int .i64), .plain (.int .i64), .plain (.int .i64)], .one (.list [.int .i64])], fun (x : (Int × Int × Int × Int × Int × Int × Int × Unit) × (Nat × Nat × Nat × (Nat → Int) × Unit) × Unit) => (fun (kd : Int) (pc : Int) (pn : Int) (of : Int) (rs : Int) (rg : Int) (re : Int) (al nl ml : Nat) (tl : Nat → Int) => decide (al + nl ≤ ml ∧ nl ≤ 1000000)) x.1.1 x.1.2.1 x.1.2.2.1 x.1.2.2.2.1 x.1.2.2.2.2.1 x.1.2.2.2.2.2.1 x.1.2.2.2.2.2.2.1 x.2.1.1 x.2.1.2.1 x.2.1.2.2.1 x.2.1.2.2.2.1, fun (x : (Int × Int × Int × Int × Int × Int × Int × Unit) × (Nat × Nat × Nat × (Nat → Int) × Unit) × Unit) => (fun (kd : Int) (pc : Int) (pn : Int) (of : Int) (rs : Int) (rg : Int) (re : Int) (al nl ml : Nat) (tl : Nat → Int) => (V12 kd pc pn of rs rg re al nl ml tl) (S.losS kd pc pn of rs rg re nl (fun j => tl (j + al)))) x.1.1 x.1.2.1 x.1.2.2.1 x.1.2.2.2.1 x.1.2.2.2.2.1 x.1.2.2.2.2.2.1 x.1.2.2.2.2.2.2.1 x.2.1.1 x.2.1.2.1 x.2.1.2.2.1 x.2.1.2.2.2.1, fun (x : (Int × Int × Int × Int × Int × Int × Int × Unit) × (Nat × Nat × Nat × (Nat → Int) × Unit) × Unit) => (fun (kd : Int) (pc : Int) (pn : Int) (of : Int) (rs : Int) (rg : Int) (re : Int) (al nl ml : Nat) (tl : Nat → Int) => (N12 kd pc pn of rs rg re al nl ml tl) (S.losS kd pc pn of rs rg re nl (fun j => tl (j + al)))) x.1.1 x.1.2.1 x.1.2.2.1 x.1.2.2.2.1 x.1.2.2.2.2.1 x.1.2.2.2.2.2.1 x.1.2.2.2.2.2.2.1 x.2.1.1 x.2.1.2.1 x.2.1.2.2.1 x.2.1.2.2.2.1, fun _ _ => .dead⟩
theorem s12' (kd pc pn of rs rg re : Int) (al nl ml : Nat) (tl : Nat → Int) (hp : al + nl ≤ ml ∧ nl ≤ 1000000) (hn : nl ≤ 200) (hi : S.kinE kd pc pn of rs rg re 2 = 0) : ∀ (k i : Nat), i + k = nl → (∀ j, j < i → S.losB (fun j => tl (j + al)) j = true) → Comes (q12 kd pc pn of rs rg re al nl ml tl) (.h0 (S.sumN (S.losT (fun j => tl (j + al)) pc re) i) (i : Int)) (if S.all (S.losB (fun j => tl (j + al))) nl = true then (if rs * S.sumN (S.losT (fun j => tl (j + al)) pc re) nl ≤ rg then (rs * S.sumN (S.losT (fun j => tl (j + al)) pc re) nl, true, 0) else (rg, false, 0)) else (0, false, 6)) := by
  obtain ⟨hp1, hp2⟩ := hp
  obtain ⟨i1, i2, i3, i4, i5, i6, i7, i8, i9⟩ := ins_ok hi
  intro k
  induction k with
  | zero =>
    intro i hi hj
    obtain rfl : nl = i := by omega
    rw [if_pos (all_iff.mpr hj)]
    have hb := los_bnd (t := (fun j => tl (j + al))) (pc := pc) (re := re) (n := nl) fun j h => of_decide_eq_true (hj j h)
    have hm : rs * S.sumN (S.losT (fun j => tl (j + al)) pc re) nl ≤ 1000000 * (1000 * nl) := Int.le_trans (Int.mul_le_mul_of_nonneg_right (show rs ≤ 1000000 by omega) hb.1) (Int.mul_le_mul_of_nonneg_left hb.2 (by decide))
    have hm0 : 0 ≤ rs * S.sumN (S.losT (fun j => tl (j + al)) pc re) nl := Int.mul_nonneg (by omega) hb.1
    have hcm := Int.mul_comm (S.sumN (S.losT (fun j => tl (j + al)) pc re) nl) rs
    generalize S.sumN (S.losT (fun j => tl (j + al)) pc re) nl = v at *
    apply Comes.of
    show Goes _ _ _
    (first | rw [q12] | unfold q12)
    repeat' first
      | with_reducible refine goes_if (fun h => ?_) (fun h => ?_) <;> (try simp only [SH, hcm] at h)
      | exact goes_none.mpr (by omega)
    all_goals (try rw [hcm])
    all_goals first | (exfalso; omega) | (refine goes_inr.mpr ?_; first | (rw [if_pos (by omega)]) | (rw [if_neg (by omega)]))
  | succ k ih =>
    intro i hi hj
    have ih := ih (i + 1) (by omega)
    have hb := los_bnd (t := (fun j => tl (j + al))) (pc := pc) (re := re) (n := i) fun j h => of_decide_eq_true (hj j h)
    by_cases hc : S.losB (fun j => tl (j + al)) i = true
    · have ih := ih (fun j hlt => by
        rcases Nat.lt_or_eq_of_le (Nat.le_of_lt_succ hlt) with h2 | h2
        · exact hj j h2
        · subst h2; exact hc)
      have hc := of_decide_eq_true hc
      dsimp only at hc
      have e : S.sumN (S.losT (fun j => tl (j + al)) pc re) (i + 1) = S.sumN (S.losT (fun j => tl (j + al)) pc re) i + S.losT (fun j => tl (j + al)) pc re i := rfl
      rw [e] at ih
      unfold S.losT at ih hb ⊢
      dsimp only at ih ⊢
      generalize S.sumN _ i = v at *
      apply Comes.of
      show Goes _ _ _
      (first | rw [q12] | unfold q12)
      repeat' first
        | with_reducible refine goes_if (fun h => ?_) (fun h => ?_) <;> (try simp only [SH] at h)
        | exact goes_none.mpr (by omega)
      all_goals first
        | (exfalso; omega)
        | (rw [if_pos (by omega)] at ih; exact ih)
        | (rw [if_neg (by omega), Int.add_zero] at ih; exact ih)
    · rw [if_neg (all_no (show i < nl by omega) (by simpa using hc))]
      have hc : ¬ (0 ≤ tl (i + al) ∧ tl (i + al) ≤ 1000) := fun h => hc (decide_eq_true h)
      generalize S.sumN _ i = v at *
      apply Comes.of
      show Goes _ _ _
      (first | rw [q12] | unfold q12)
      repeat' first
        | with_reducible refine goes_if (fun h => ?_) (fun h => ?_) <;> (try simp only [SH] at h)
        | exact goes_none.mpr (by omega)
      all_goals first | (exfalso; omega) | exact goes_inr.mpr rfl
theorem s12 (kd pc pn of rs rg re : Int) (al nl ml : Nat) (tl : Nat → Int) (hp : al + nl ≤ ml ∧ nl ≤ 1000000) : Goes ((q12 kd pc pn of rs rg re al nl ml tl)) ((p12 kd pc pn of rs rg re al nl ml tl)) (S.losS kd pc pn of rs rg re nl (fun j => tl (j + al))) := by
  unfold S.losS
  by_cases hi : S.kinE kd pc pn of rs rg re 2 = 0
  · rw [if_pos hi]
    have hi' := ins_ok hi
    by_cases hn : nl > 200
    · rw [if_pos hn]
      show Goes _ _ _
      unfold p12
      repeat' first
        | with_reducible refine goes_if (fun h => ?_) (fun h => ?_) <;> (try simp only [SH] at h)
        | exact goes_none.mpr (by omega)
      all_goals first | (exfalso; omega) | exact goes_inr.mpr rfl
    · rw [if_neg hn]
      have hm := s12' kd pc pn of rs rg re al nl ml tl hp (by omega) hi nl 0 (by omega) (fun j hj => absurd hj (Nat.not_lt_zero j))
      show Goes _ _ _
      unfold p12
      repeat' first
        | with_reducible refine goes_if (fun h => ?_) (fun h => ?_) <;> (try simp only [SH] at h)
        | exact goes_none.mpr (by omega)
      all_goals first | (exfalso; omega) | exact hm
  · rw [if_neg hi]
    unfold S.kinE at *
    show Goes _ _ _
    unfold p12
    repeat' first
      | with_reducible refine goes_if (fun h => ?_) (fun h => ?_) <;> (try simp only [SH] at h)
      | exact goes_none.mpr (by omega)
    all_goals first
      | (exfalso; omega)
      | (rw [if_neg (by omega)]; exact goes_inr.mpr rfl)
      | (rw [if_pos (by omega), if_neg (by omega)]; exact goes_inr.mpr rfl)
      | (exfalso; apply hi; rw [if_pos (by omega), if_pos (by omega)])
theorem k12_ok  : k12.ok Try.prog := by
  intro x hx
  obtain ⟨⟨kd, pc, pn, of, rs, rg, re, _⟩, ⟨al, nl, ml, tl, _⟩, _⟩ := x
  obtain ⟨h1, h2⟩ := a12 kd pc pn of rs rg re al nl ml tl (s12 kd pc pn of rs rg re al nl ml tl (of_dec hx rfl))
  exact ⟨⟨400, (by decide : 1 + 1 + 0 ≤ 400), h1⟩, h2⟩
theorem par_all  {p : Nat → Bool} : ∀ {k i : Nat}, S.parN p i k = 0 → ∀ j, i ≤ j → j < i + k → p j = true
  | 0, i, _, j, h1, h2 => by omega
  | k + 1, i, h, j, h1, h2 => by
    simp only [S.parN] at h
    split at h
    · rename_i h0
      rcases Nat.lt_or_ge i j with h3 | h3
      · exact par_all h j (by omega) (by omega)
      · obtain rfl : j = i := by omega
        exact h0
    · cases h
inductive St46 where
  | h0 (x0 : Int)
abbrev Rt46  := Int
noncomputable def V46 (al nl ml : Nat) (tl vl gl wl xl yl zl : Nat → Int) (r : Rt46) : PV := PV.int IntKind.i64 r
noncomputable def N46 (al nl ml : Nat) (tl vl gl wl xl yl zl : Nat → Int) (r : Rt46) : List Blk := []
noncomputable def I46 (al nl ml : Nat) (tl vl gl wl xl yl zl : Nat → Int) : St46 → Hd
  | .h0 x0 => ⟨hd Try.f46 0, [PV.loose (PA.mk (0) (7) al (0)) nl, PV.int IntKind.i64 (↑nl : Int),
 PV.int IntKind.i64 x0], [[], [(0, (false, .cols ml [.int .i64 tl, .int .i64 vl, .int .i64 gl, .int .i64 wl, .int .i64 xl, .int .i64 yl, .int .i64 zl]))]], 1⟩
noncomputable def q46 (al nl ml : Nat) (tl vl gl wl xl yl zl : Nat → Int) : St46 → Option (St46 ⊕ Rt46)
  | .h0 x0 => bif (decide (x0 < (↑nl : Int)))
 then (bif (decide ((0 : Int) ≤ x0 ∧ x0 < (↑nl : Int)))
 then (bif (decide (Int.toNat x0 + al < ml))
 then (bif (decide (tl (Int.toNat x0 + al) ≥ (-1000000000000 : Int)))
 then (bif (decide (tl (Int.toNat x0 + al) ≤ (1000000000000 : Int)))
 then (bif (decide (vl (Int.toNat x0 + al) ≥ (-1000000000000 : Int)))
 then (bif (decide (vl (Int.toNat x0 + al) ≤ (1000000000000 : Int)))
 then (bif (decide (gl (Int.toNat x0 + al) ≥ (-1000000000000 : Int)))
 then (bif (decide (gl (Int.toNat x0 + al) ≤ (1000000000000 : Int)))
 then (bif (decide (wl (Int.toNat x0 + al) ≥ (-1000000000000 : Int)))
 then (bif (decide (wl (Int.toNat x0 + al) ≤ (1000000000000 : Int)))
 then (bif (decide (xl (Int.toNat x0 + al) ≥ (-1000000 : Int)))
 then (bif (decide (xl (Int.toNat x0 + al) ≤ (1000000 : Int)))
 then (bif (decide (yl (Int.toNat x0 + al) ≥ (-1 : Int)))
 then (bif (decide (yl (Int.toNat x0 + al) ≤ (199 : Int)))
 then (bif (decide (zl (Int.toNat x0 + al) ≥ (0 : Int)))
 then (bif (decide (zl (Int.toNat x0 + al) ≤ (1000000 : Int)))
 then (bif (lim IntKind.i64 (x0 + (1 : Int)))
 then (some (.inl (.h0 (x0 + (1 : Int)))))
 else (none))
 else (some (.inr ((6 : Int)))))
 else (some (.inr ((6 : Int)))))
 else (some (.inr ((6 : Int)))))
 else (some (.inr ((6 : Int)))))
 else (some (.inr ((6 : Int)))))
 else (some (.inr ((6 : Int)))))
 else (some (.inr ((6 : Int)))))
 else (some (.inr ((6 : Int)))))
 else (some (.inr ((6 : Int)))))
 else (some (.inr ((6 : Int)))))
 else (some (.inr ((6 : Int)))))
 else (some (.inr ((6 : Int)))))
 else (some (.inr ((6 : Int)))))
 else (some (.inr ((6 : Int)))))
 else (none))
 else (none))
 else (some (.inr ((0 : Int))))
noncomputable def p46 (al nl ml : Nat) (tl vl gl wl xl yl zl : Nat → Int) : Option (St46 ⊕ Rt46) := bif (decide ((↑nl : Int) > (50 : Int)))
 then (some (.inr ((3 : Int))))
 else (some (.inl (.h0 ((0 : Int)))))
noncomputable def Te46 (test : Bool → Prop → Prop → Prop) (Kst : KS) (Kret : KR) (al nl ml : Nat) (tl vl gl wl xl yl zl : Nat → Int) : Prop :=
  test (decide ((↑nl : Int) > (50 : Int)))
 (Kret (PV.int IntKind.i64 (3 : Int)) ([[(0, false,
 Blk.cols ml
 [Col.int IntKind.i64 tl, Col.int IntKind.i64 vl, Col.int IntKind.i64 gl,
 Col.int IntKind.i64 wl, Col.int IntKind.i64 xl, Col.int IntKind.i64 yl,
 Col.int IntKind.i64 zl])]]) (1))
 (Kst (hd Try.f46 0) ([PV.loose (PA.mk (0) (7) al (0)) nl, PV.int IntKind.i64 (↑nl : Int),
 PV.int IntKind.i64 (0 : Int)]) ([[(0, false,
 Blk.cols ml
 [Col.int IntKind.i64 tl, Col.int IntKind.i64 vl, Col.int IntKind.i64 gl,
 Col.int IntKind.i64 wl, Col.int IntKind.i64 xl, Col.int IntKind.i64 yl,
 Col.int IntKind.i64 zl])]]) (1))
theorem te46 (test : Bool → Prop → Prop → Prop) (Kst : KS) (Kret : KR) (al nl ml : Nat) (tl vl gl wl xl yl zl : Nat → Int) : run test Try.env true (xA0 test) true 400 ⟨46, [.cd (mkFn Try.f46).body], argT 0 [.loose ⟨0, 7, al, 0⟩ nl], [[], [(0, (false, .cols ml [.int .i64 tl, .int .i64 vl, .int .i64 gl, .int .i64 wl, .int .i64 xl, .int .i64 yl, .int .i64 zl]))]], 1⟩ (proj 1 [8, 9, 10] Kst Kret) =
  Te46 test Kst Kret al nl ml tl vl gl wl xl yl zl := by kernel_rfl
noncomputable def T46_0 (test : Bool → Prop → Prop → Prop) (Kst : KS) (Kret : KR) (al nl ml : Nat) (tl vl gl wl xl yl zl : Nat → Int) (x0 : Int) : Prop :=
  test (decide (x0 < (↑nl : Int)))
 (test (decide ((0 : Int) ≤ x0 ∧ x0 < (↑nl : Int)))
 (test (decide (Int.toNat x0 + al < ml))
 (test (decide (Int.toNat x0 + al < ml))
 (test (decide (Int.toNat x0 + al < ml))
 (test (decide (Int.toNat x0 + al < ml))
 (test (decide (Int.toNat x0 + al < ml))
 (test (decide (Int.toNat x0 + al < ml))
 (test (decide (Int.toNat x0 + al < ml))
 (test (true)
 (test (decide (tl (Int.toNat x0 + al) ≥ (-1000000000000 : Int)))
 (test (decide (tl (Int.toNat x0 + al) ≤ (1000000000000 : Int)))
 (test (true)
 (test (decide (vl (Int.toNat x0 + al) ≥ (-1000000000000 : Int)))
 (test (decide (vl (Int.toNat x0 + al) ≤ (1000000000000 : Int)))
 (test (true)
 (test (decide (gl (Int.toNat x0 + al) ≥ (-1000000000000 : Int)))
 (test (decide (gl (Int.toNat x0 + al) ≤ (1000000000000 : Int)))
 (test (true)
 (test (decide (wl (Int.toNat x0 + al) ≥ (-1000000000000 : Int)))
 (test (decide (wl (Int.toNat x0 + al) ≤ (1000000000000 : Int)))
 (test (true)
 (test (decide (xl (Int.toNat x0 + al) ≥ (-1000000 : Int)))
 (test (decide (xl (Int.toNat x0 + al) ≤ (1000000 : Int)))
 (test (decide (yl (Int.toNat x0 + al) ≥ (-1 : Int)))
 (test (decide (yl (Int.toNat x0 + al) ≤ (199 : Int)))
 (test (decide (zl (Int.toNat x0 + al) ≥ (0 : Int)))
 (test (decide (zl (Int.toNat x0 + al) ≤ (1000000 : Int)))
 (test (lim IntKind.i64 (x0 + (1 : Int)))
 (Kst (hd Try.f46 0) ([PV.loose (PA.mk (0) (7) al (0)) nl, PV.int IntKind.i64 (↑nl : Int),
 PV.int IntKind.i64 (x0 + (1 : Int))]) ([[(0, false,
 Blk.cols ml
 [Col.int IntKind.i64 tl, Col.int IntKind.i64 vl, Col.int IntKind.i64 gl,
 Col.int IntKind.i64 wl, Col.int IntKind.i64 xl, Col.int IntKind.i64 yl,
 Col.int IntKind.i64 zl])]]) (2))
 (False))
 (Kret (PV.int IntKind.i64 (6 : Int)) ([[(0, false,
 Blk.cols ml
 [Col.int IntKind.i64 tl, Col.int IntKind.i64 vl, Col.int IntKind.i64 gl,
 Col.int IntKind.i64 wl, Col.int IntKind.i64 xl, Col.int IntKind.i64 yl,
 Col.int IntKind.i64 zl])]]) (2)))
 (Kret (PV.int IntKind.i64 (6 : Int)) ([[(0, false,
 Blk.cols ml
 [Col.int IntKind.i64 tl, Col.int IntKind.i64 vl, Col.int IntKind.i64 gl,
 Col.int IntKind.i64 wl, Col.int IntKind.i64 xl, Col.int IntKind.i64 yl,
 Col.int IntKind.i64 zl])]]) (2)))
 (Kret (PV.int IntKind.i64 (6 : Int)) ([[(0, false,
 Blk.cols ml
 [Col.int IntKind.i64 tl, Col.int IntKind.i64 vl, Col.int IntKind.i64 gl,
 Col.int IntKind.i64 wl, Col.int IntKind.i64 xl, Col.int IntKind.i64 yl,
 Col.int IntKind.i64 zl])]]) (2)))
 (Kret (PV.int IntKind.i64 (6 : Int)) ([[(0, false,
 Blk.cols ml
 [Col.int IntKind.i64 tl, Col.int IntKind.i64 vl, Col.int IntKind.i64 gl,
 Col.int IntKind.i64 wl, Col.int IntKind.i64 xl, Col.int IntKind.i64 yl,
 Col.int IntKind.i64 zl])]]) (2)))
 (Kret (PV.int IntKind.i64 (6 : Int)) ([[(0, false,
 Blk.cols ml
 [Col.int IntKind.i64 tl, Col.int IntKind.i64 vl, Col.int IntKind.i64 gl,
 Col.int IntKind.i64 wl, Col.int IntKind.i64 xl, Col.int IntKind.i64 yl,
 Col.int IntKind.i64 zl])]]) (2)))
 (Kret (PV.int IntKind.i64 (6 : Int)) ([[(0, false,
 Blk.cols ml
 [Col.int IntKind.i64 tl, Col.int IntKind.i64 vl, Col.int IntKind.i64 gl,
 Col.int IntKind.i64 wl, Col.int IntKind.i64 xl, Col.int IntKind.i64 yl,
 Col.int IntKind.i64 zl])]]) (2)))
 (False))
 (Kret (PV.int IntKind.i64 (6 : Int)) ([[(0, false,
 Blk.cols ml
 [Col.int IntKind.i64 tl, Col.int IntKind.i64 vl, Col.int IntKind.i64 gl,
 Col.int IntKind.i64 wl, Col.int IntKind.i64 xl, Col.int IntKind.i64 yl,
 Col.int IntKind.i64 zl])]]) (2)))
 (Kret (PV.int IntKind.i64 (6 : Int)) ([[(0, false,
 Blk.cols ml
 [Col.int IntKind.i64 tl, Col.int IntKind.i64 vl, Col.int IntKind.i64 gl,
 Col.int IntKind.i64 wl, Col.int IntKind.i64 xl, Col.int IntKind.i64 yl,
 Col.int IntKind.i64 zl])]]) (2)))
 (False))
 (Kret (PV.int IntKind.i64 (6 : Int)) ([[(0, false,
 Blk.cols ml
 [Col.int IntKind.i64 tl, Col.int IntKind.i64 vl, Col.int IntKind.i64 gl,
 Col.int IntKind.i64 wl, Col.int IntKind.i64 xl, Col.int IntKind.i64 yl,
 Col.int IntKind.i64 zl])]]) (2)))
 (Kret (PV.int IntKind.i64 (6 : Int)) ([[(0, false,
 Blk.cols ml
 [Col.int IntKind.i64 tl, Col.int IntKind.i64 vl, Col.int IntKind.i64 gl,
 Col.int IntKind.i64 wl, Col.int IntKind.i64 xl, Col.int IntKind.i64 yl,
 Col.int IntKind.i64 zl])]]) (2)))
 (False))
 (Kret (PV.int IntKind.i64 (6 : Int)) ([[(0, false,
 Blk.cols ml
 [Col.int IntKind.i64 tl, Col.int IntKind.i64 vl, Col.int IntKind.i64 gl,
 Col.int IntKind.i64 wl, Col.int IntKind.i64 xl, Col.int IntKind.i64 yl,
 Col.int IntKind.i64 zl])]]) (2)))
 (Kret (PV.int IntKind.i64 (6 : Int)) ([[(0, false,
 Blk.cols ml
 [Col.int IntKind.i64 tl, Col.int IntKind.i64 vl, Col.int IntKind.i64 gl,
 Col.int IntKind.i64 wl, Col.int IntKind.i64 xl, Col.int IntKind.i64 yl,
 Col.int IntKind.i64 zl])]]) (2)))
 (False))
 (Kret (PV.int IntKind.i64 (6 : Int)) ([[(0, false,
 Blk.cols ml
 [Col.int IntKind.i64 tl, Col.int IntKind.i64 vl, Col.int IntKind.i64 gl,
 Col.int IntKind.i64 wl, Col.int IntKind.i64 xl, Col.int IntKind.i64 yl,
 Col.int IntKind.i64 zl])]]) (2)))
 (Kret (PV.int IntKind.i64 (6 : Int)) ([[(0, false,
 Blk.cols ml
 [Col.int IntKind.i64 tl, Col.int IntKind.i64 vl, Col.int IntKind.i64 gl,
 Col.int IntKind.i64 wl, Col.int IntKind.i64 xl, Col.int IntKind.i64 yl,
 Col.int IntKind.i64 zl])]]) (2)))
 (False))
 (False))
 (False))
 (False))
 (False))
 (False))
 (False))
 (False))
 (False))
 (Kret (PV.int IntKind.i64 (0 : Int)) ([[(0, false,
 Blk.cols ml
 [Col.int IntKind.i64 tl, Col.int IntKind.i64 vl, Col.int IntKind.i64 gl,
 Col.int IntKind.i64 wl, Col.int IntKind.i64 xl, Col.int IntKind.i64 yl,
 Col.int IntKind.i64 zl])]]) (1))
theorem t46_0 (test : Bool → Prop → Prop → Prop) (Kst : KS) (Kret : KR) (al nl ml : Nat) (tl vl gl wl xl yl zl : Nat → Int) (x0 : Int) : run test Try.env true (xA0 test) true 400 ⟨46, hd Try.f46 0, zipT [8, 9, 10] [PV.loose (PA.mk (0) (7) al (0)) nl, PV.int IntKind.i64 (↑nl : Int),
 PV.int IntKind.i64 x0], [[], [(0, (false, .cols ml [.int .i64 tl, .int .i64 vl, .int .i64 gl, .int .i64 wl, .int .i64 xl, .int .i64 yl, .int .i64 zl]))]], 1⟩ (proj 1 [8, 9, 10] Kst Kret) =
  T46_0 test Kst Kret al nl ml tl vl gl wl xl yl zl x0 := by kernel_rfl
theorem be46 (al nl ml : Nat) (tl vl gl wl xl yl zl : Nat → Int) (Kst : KS) (Kret : KR) (x : St46 ⊕ Rt46) (hS : HS 1 400 ((I46 al nl ml tl vl gl wl xl yl zl)) Kst x) (hR : HR 1 400 ((V46 al nl ml tl vl gl wl xl yl zl)) (fun r => [newL (1 + 1) ((N46 al nl ml tl vl gl wl xl yl zl) r) ++ [(0, (false, .cols ml [.int .i64 tl, .int .i64 vl, .int .i64 gl, .int .i64 wl, .int .i64 xl, .int .i64 yl, .int .i64 zl]))]]) Kret x) (h : p46 al nl ml tl vl gl wl xl yl zl = some x) : Te46 cond Kst Kret al nl ml tl vl gl wl xl yl zl := by
  unfold Te46
  unfold p46 at h
  refine bif_split h
   (fun c0 h => ret_at hR _ h (fun n => n) rfl rfl rfl (rn_int rfl) rfl (entl_bor (use_lo rfl) rfl rfl entl_nil))
   (fun c0 h => stop_at hS _ h (fun n => n) rfl rfl rfl ⟨(rn_loose (use_lo rfl) rfl rfl rfl), ⟨(rn_int rfl), ⟨(rn_int rfl), trivial⟩⟩⟩ rfl (entl_bor (use_lo rfl) rfl rfl entl_nil))
theorem b46_0 (al nl ml : Nat) (tl vl gl wl xl yl zl : Nat → Int) (Kst : KS) (Kret : KR) (x : St46 ⊕ Rt46) (hS : HS 1 400 ((I46 al nl ml tl vl gl wl xl yl zl)) Kst x) (hR : HR 1 400 ((V46 al nl ml tl vl gl wl xl yl zl)) (fun r => [newL (1 + 1) ((N46 al nl ml tl vl gl wl xl yl zl) r) ++ [(0, (false, .cols ml [.int .i64 tl, .int .i64 vl, .int .i64 gl, .int .i64 wl, .int .i64 xl, .int .i64 yl, .int .i64 zl]))]]) Kret x) (x0 : Int) (h : (bif (decide (x0 < (↑nl : Int)))
 then (bif (decide ((0 : Int) ≤ x0 ∧ x0 < (↑nl : Int)))
 then (bif (decide (Int.toNat x0 + al < ml))
 then (bif (decide (tl (Int.toNat x0 + al) ≥ (-1000000000000 : Int)))
 then (bif (decide (tl (Int.toNat x0 + al) ≤ (1000000000000 : Int)))
 then (bif (decide (vl (Int.toNat x0 + al) ≥ (-1000000000000 : Int)))
 then (bif (decide (vl (Int.toNat x0 + al) ≤ (1000000000000 : Int)))
 then (bif (decide (gl (Int.toNat x0 + al) ≥ (-1000000000000 : Int)))
 then (bif (decide (gl (Int.toNat x0 + al) ≤ (1000000000000 : Int)))
 then (bif (decide (wl (Int.toNat x0 + al) ≥ (-1000000000000 : Int)))
 then (bif (decide (wl (Int.toNat x0 + al) ≤ (1000000000000 : Int)))
 then (bif (decide (xl (Int.toNat x0 + al) ≥ (-1000000 : Int)))
 then (bif (decide (xl (Int.toNat x0 + al) ≤ (1000000 : Int)))
 then (bif (decide (yl (Int.toNat x0 + al) ≥ (-1 : Int)))
 then (bif (decide (yl (Int.toNat x0 + al) ≤ (199 : Int)))
 then (bif (decide (zl (Int.toNat x0 + al) ≥ (0 : Int)))
 then (bif (decide (zl (Int.toNat x0 + al) ≤ (1000000 : Int)))
 then (bif (lim IntKind.i64 (x0 + (1 : Int)))
 then (some (.inl (.h0 (x0 + (1 : Int)))))
 else (none))
 else (some (.inr ((6 : Int)))))
 else (some (.inr ((6 : Int)))))
 else (some (.inr ((6 : Int)))))
 else (some (.inr ((6 : Int)))))
 else (some (.inr ((6 : Int)))))
 else (some (.inr ((6 : Int)))))
 else (some (.inr ((6 : Int)))))
 else (some (.inr ((6 : Int)))))
 else (some (.inr ((6 : Int)))))
 else (some (.inr ((6 : Int)))))
 else (some (.inr ((6 : Int)))))
 else (some (.inr ((6 : Int)))))
 else (some (.inr ((6 : Int)))))
 else (some (.inr ((6 : Int)))))
 else (none))
 else (none))
 else (some (.inr ((0 : Int)))) : Option (St46 ⊕ Rt46)) = some x) : T46_0 cond Kst Kret al nl ml tl vl gl wl xl yl zl x0 := by
  unfold T46_0
  refine bif_split h
   (fun c0 h => bif_split h
   (fun c1 h => bif_split h
   (fun c2 h => cond_yes c2 (cond_yes c2 (cond_yes c2 (cond_yes c2 (cond_yes c2 (cond_yes c2 (cond_yes rfl (bif_split h
   (fun c3 h => bif_split h
   (fun c4 h => cond_yes rfl (bif_split h
   (fun c5 h => bif_split h
   (fun c6 h => cond_yes rfl (bif_split h
   (fun c7 h => bif_split h
   (fun c8 h => cond_yes rfl (bif_split h
   (fun c9 h => bif_split h
   (fun c10 h => cond_yes rfl (bif_split h
   (fun c11 h => bif_split h
   (fun c12 h => bif_split h
   (fun c13 h => bif_split h
   (fun c14 h => bif_split h
   (fun c15 h => bif_split h
   (fun c16 h => bif_split h
   (fun c17 h => stop_at hS _ h (fun n => n) rfl rfl rfl ⟨(rn_loose (use_lo rfl) rfl rfl rfl), ⟨(rn_int rfl), ⟨(rn_int rfl), trivial⟩⟩⟩ rfl (entl_bor (use_lo rfl) rfl rfl entl_nil))
   (fun c17 h => ?_))
   (fun c16 h => ?_))
   (fun c15 h => ?_))
   (fun c14 h => ?_))
   (fun c13 h => ?_))
   (fun c12 h => ?_))
   (fun c11 h => ?_)))
   (fun c10 h => ?_))
   (fun c9 h => ?_)))
   (fun c8 h => ?_))
   (fun c7 h => ?_)))
   (fun c6 h => ?_))
   (fun c5 h => ?_)))
   (fun c4 h => ?_))
   (fun c3 h => ?_)))))))))
   (fun c2 h => ?_))
   (fun c1 h => ?_))
   (fun c0 h => ?_)
  all_goals first
    | exact ret_at hR _ h (fun n => n) rfl rfl rfl (rn_int rfl) rfl (entl_bor (use_lo rfl) rfl rfl entl_nil)
    | exact no_some h
theorem a46 (al nl ml : Nat) (tl vl gl wl xl yl zl : Nat → Int) {r : Rt46} (h : Goes ((q46 al nl ml tl vl gl wl xl yl zl)) ((p46 al nl ml tl vl gl wl xl yl zl)) r) : CallR Try.prog 46 [.loose ⟨0, 7, al, 0⟩ nl] [[(0, (false, .cols ml [.int .i64 tl, .int .i64 vl, .int .i64 gl, .int .i64 wl, .int .i64 xl, .int .i64 yl, .int .i64 zl]))]] 1 ((V46 al nl ml tl vl gl wl xl yl zl) r) ((fun r => [newL (1 + 1) ((N46 al nl ml tl vl gl wl xl yl zl) r) ++ [(0, (false, .cols ml [.int .i64 tl, .int .i64 vl, .int .i64 gl, .int .i64 wl, .int .i64 xl, .int .i64 yl, .int .i64 zl]))]]) r) 400 ∧ ∃ F, Try.prog.funcs[46]? = some F ∧ F.body.isSome = true ∧ (F.name == "runtime.NumGoroutine") = false := by
  refine dec_calls (f := 46) (lo := 1) (hi := 400) (H := [[(0, (false, .cols ml [.int .i64 tl, .int .i64 vl, .int .i64 gl, .int .i64 wl, .int .i64 xl, .int .i64 yl, .int .i64 zl]))]]) (args := [.loose ⟨0, 7, al, 0⟩ nl]) Try.envOk Try.mixed xA0_ok ((I46 al nl ml tl vl gl wl xl yl zl)) ((V46 al nl ml tl vl gl wl xl yl zl)) (fun r => [newL (1 + 1) ((N46 al nl ml tl vl gl wl xl yl zl) r) ++ [(0, (false, .cols ml [.int .i64 tl, .int .i64 vl, .int .i64 gl, .int .i64 wl, .int .i64 xl, .int .i64 yl, .int .i64 zl]))]]) (fn := mkFn Try.f46) (ts := [8, 9, 10]) (n := 400) rfl (by decide) (by simp) (names_of rfl) ?_ ?_ ?_ h
  · intro s; cases s <;> exact ⟨hd_ok _ _, by simp [I46], names_of rfl, Nat.le_of_ble_eq_true rfl⟩
  · intro Kst Kret x hS hR h
    exact Holds.eq (te46 cond Kst Kret al nl ml tl vl gl wl xl yl zl) (be46 al nl ml tl vl gl wl xl yl zl Kst Kret x hS hR h)
  · intro Kst Kret x hS hR s h
    cases s with
    | h0 x0 => exact Holds.eq (t46_0 cond Kst Kret al nl ml tl vl gl wl xl yl zl x0) (b46_0 al nl ml tl vl gl wl xl yl zl Kst Kret x hS hR x0 h)
noncomputable def k46  : Con := ⟨46, [.one (.list [.int .i64, .int .i64, .int .i64, .int .i64, .int .i64, .int .i64, .int .i64])], fun (x : (Nat × Nat × Nat × (Nat → Int) × (Nat → Int) × (Nat → Int) × (Nat → Int) × (Nat → Int) × (Nat → Int) × (Nat → Int) × Unit) × Unit) => (fun (al nl ml : Nat) (tl : Nat → Int) (vl : Nat → Int) (gl : Nat → Int) (wl : Nat → Int) (xl : Nat → Int) (yl : Nat → Int) (zl : Nat → Int) => decide (al + nl ≤ ml ∧ nl ≤ 1000000)) x.1.1 x.1.2.1 x.1.2.2.1 x.1.2.2.2.1 x.1.2.2.2.2.1 x.1.2.2.2.2.2.1 x.1.2.2.2.2.2.2.1 x.1.2.2.2.2.2.2.2.1 x.1.2.2.2.2.2.2.2.2.1 x.1.2.2.2.2.2.2.2.2.2.1, fun (x : (Nat × Nat × Nat × (Nat → Int) × (Nat → Int) × (Nat → Int) × (Nat → Int) × (Nat → Int) × (Nat → Int) × (Nat → Int) × Unit) × Unit) => (fun (al nl ml : Nat) (tl : Nat → Int) (vl : Nat → Int) (gl : Nat → Int) (wl : Nat → Int) (xl : Nat → Int) (yl : Nat → Int) (zl : Nat → Int) => (V46 al nl ml tl vl gl wl xl yl zl) (S.parE nl (fun j => tl (j + al)) (fun j => vl (j + al)) (fun j => gl (j + al)) (fun j => wl (j + al)) (fun j => xl (j + al)) (fun j => yl (j + al)) (fun j => zl (j + al)))) x.1.1 x.1.2.1 x.1.2.2.1 x.1.2.2.2.1 x.1.2.2.2.2.1 x.1.2.2.2.2.2.1 x.1.2.2.2.2.2.2.1 x.1.2.2.2.2.2.2.2.1 x.1.2.2.2.2.2.2.2.2.1 x.1.2.2.2.2.2.2.2.2.2.1, fun (x : (Nat × Nat × Nat × (Nat → Int) × (Nat → Int) × (Nat → Int) × (Nat → Int) × (Nat → Int) × (Nat → Int) × (Nat → Int) × Unit) × Unit) => (fun (al nl ml : Nat) (tl : Nat → Int) (vl : Nat → Int) (gl : Nat → Int) (wl : Nat → Int) (xl : Nat → Int) (yl : Nat → Int) (zl : Nat → Int) => (N46 al nl ml tl vl gl wl xl yl zl) (S.parE nl (fun j => tl (j + al)) (fun j => vl (j + al)) (fun j => gl (j + al)) (fun j => wl (j + al)) (fun j => xl (j + al)) (fun j => yl (j + al)) (fun j => zl (j + al)))) x.1.1 x.1.2.1 x.1.2.2.1 x.1.2.2.2.1 x.1.2.2.2.2.1 x.1.2.2.2.2.2.1 x.1.2.2.2.2.2.2.1 x.1.2.2.2.2.2.2.2.1 x.1.2.2.2.2.2.2.2.2.1 x.1.2.2.2.2.2.2.2.2.2.1, fun _ _ => .dead⟩
theorem s46' (al nl ml : Nat) (tl vl gl wl xl yl zl : Nat → Int) (hp : al + nl ≤ ml ∧ nl ≤ 1000000) : ∀ (k i : Nat), i + k = nl → Comes (q46 al nl ml tl vl gl wl xl yl zl) (.h0 (i : Int)) (S.parN (fun j => S.parB (tl (j + al)) (vl (j + al)) (gl (j + al)) (wl (j + al)) (xl (j + al)) (yl (j + al)) (zl (j + al))) i k) := by
  obtain ⟨hp1, hp2⟩ := hp
  intro k
  induction k with
  | zero =>
    intro i hi
    apply Comes.of
    show Goes _ _ _
    (first | rw [q46] | unfold q46)
    repeat' first
      | with_reducible refine goes_if (fun h => ?_) (fun h => ?_) <;> (try simp only [SH] at h)
      | exact goes_none.mpr (by omega)
    all_goals first | (exfalso; omega) | exact goes_inr.mpr rfl
  | succ k ih =>
    intro i hi
    have ih := ih (i + 1) (by omega)
    have e : S.parN (fun j => S.parB (tl (j + al)) (vl (j + al)) (gl (j + al)) (wl (j + al)) (xl (j + al)) (yl (j + al)) (zl (j + al))) i (k + 1) = if (fun j => S.parB (tl (j + al)) (vl (j + al)) (gl (j + al)) (wl (j + al)) (xl (j + al)) (yl (j + al)) (zl (j + al))) i = true then S.parN (fun j => S.parB (tl (j + al)) (vl (j + al)) (gl (j + al)) (wl (j + al)) (xl (j + al)) (yl (j + al)) (zl (j + al))) (i + 1) k else 6 := rfl
    rw [e]
    unfold S.parB at ih ⊢
    simp only [decide_eq_true_eq]
    apply Comes.of
    show Goes _ _ _
    (first | rw [q46] | unfold q46)
    repeat' first
      | with_reducible refine goes_if (fun h => ?_) (fun h => ?_) <;> (try simp only [SH] at h)
      | exact goes_none.mpr (by omega)
    all_goals first
      | (exfalso; omega)
      | (rw [if_pos (by omega)]; exact ih)
      | (rw [if_neg (by omega)]; exact goes_inr.mpr rfl)
theorem s46 (al nl ml : Nat) (tl vl gl wl xl yl zl : Nat → Int) (hp : al + nl ≤ ml ∧ nl ≤ 1000000) : Goes ((q46 al nl ml tl vl gl wl xl yl zl)) ((p46 al nl ml tl vl gl wl xl yl zl)) (S.parE nl (fun j => tl (j + al)) (fun j => vl (j + al)) (fun j => gl (j + al)) (fun j => wl (j + al)) (fun j => xl (j + al)) (fun j => yl (j + al)) (fun j => zl (j + al))) := by
  unfold S.parE
  by_cases hn : nl > 50
  · rw [if_pos hn]
    show Goes _ _ _
    unfold p46
    repeat' first
      | with_reducible refine goes_if (fun h => ?_) (fun h => ?_) <;> (try simp only [SH] at h)
      | exact goes_none.mpr (by omega)
    all_goals first | (exfalso; omega) | exact goes_inr.mpr rfl
  · rw [if_neg hn]
    have hm := s46' al nl ml tl vl gl wl xl yl zl hp nl 0 (by omega)
    show Goes _ _ _
    unfold p46
    repeat' first
      | with_reducible refine goes_if (fun h => ?_) (fun h => ?_) <;> (try simp only [SH] at h)
      | exact goes_none.mpr (by omega)
    all_goals first | (exfalso; omega) | exact hm
theorem k46_ok  : k46.ok Try.prog := by
  intro x hx
  obtain ⟨⟨al, nl, ml, tl, vl, gl, wl, xl, yl, zl, _⟩, _⟩ := x
  obtain ⟨h1, h2⟩ := a46 al nl ml tl vl gl wl xl yl zl (s46 al nl ml tl vl gl wl xl yl zl (of_dec hx rfl))
  exact ⟨⟨400, (by decide : 1 + 1 + 0 ≤ 400), h1⟩, h2⟩
inductive St47 where
  | h0 (x0 : Int) (x1 : Int)
abbrev Rt47  := Int
noncomputable def V47 (al nl ml : Nat) (tl vl gl wl xl yl zl : Nat → Int) (r : Rt47) : PV := PV.int IntKind.i64 r
noncomputable def N47 (al nl ml : Nat) (tl vl gl wl xl yl zl : Nat → Int) (r : Rt47) : List Blk := []
noncomputable def I47 (al nl ml : Nat) (tl vl gl wl xl yl zl : Nat → Int) : St47 → Hd
  | .h0 x0 x1 => ⟨hd Try.f47 0, [PV.int IntKind.i64 x0, PV.loose (PA.mk (0) (7) al (0)) nl,
 PV.int IntKind.i64 (↑nl : Int), PV.int IntKind.i64 x1], [[], [(0, (false, .cols ml [.int .i64 tl, .int .i64 vl, .int .i64 gl, .int .i64 wl, .int .i64 xl, .int .i64 yl, .int .i64 zl]))]], 1⟩
noncomputable def q47 (al nl ml : Nat) (tl vl gl wl xl yl zl : Nat → Int) : St47 → Option (St47 ⊕ Rt47)
  | .h0 x0 x1 => bif (decide (x1 < (↑nl : Int)))
 then (bif (decide ((0 : Int) ≤ x1 ∧ x1 < (↑nl : Int)))
 then (bif (decide (Int.toNat x1 + al < ml))
 then (bif (lim IntKind.i64 (x1 + (1 : Int)))
 then (some (.inl (.h0 (Max.max x0 (zl (Int.toNat x1 + al))) (x1 + (1 : Int)))))
 else (none))
 else (none))
 else (none))
 else (some (.inr (x0)))
noncomputable def p47 (al nl ml : Nat) (tl vl gl wl xl yl zl : Nat → Int) : Option (St47 ⊕ Rt47) := some (.inl (.h0 ((0 : Int)) ((0 : Int))))
noncomputable def Te47 (test : Bool → Prop → Prop → Prop) (Kst : KS) (Kret : KR) (al nl ml : Nat) (tl vl gl wl xl yl zl : Nat → Int) : Prop :=
  Kst (hd Try.f47 0) ([PV.int IntKind.i64 (0 : Int), PV.loose (PA.mk (0) (7) al (0)) nl,
 PV.int IntKind.i64 (↑nl : Int), PV.int IntKind.i64 (0 : Int)]) ([[(0, false,
 Blk.cols ml
 [Col.int IntKind.i64 tl, Col.int IntKind.i64 vl, Col.int IntKind.i64 gl,
 Col.int IntKind.i64 wl, Col.int IntKind.i64 xl, Col.int IntKind.i64 yl,
 Col.int IntKind.i64 zl])]]) (1)
theorem te47 (test : Bool → Prop → Prop → Prop) (Kst : KS) (Kret : KR) (al nl ml : Nat) (tl vl gl wl xl yl zl : Nat → Int) : run test Try.env true (xA0 test) true 400 ⟨47, [.cd (mkFn Try.f47).body], argT 0 [.loose ⟨0, 7, al, 0⟩ nl], [[], [(0, (false, .cols ml [.int .i64 tl, .int .i64 vl, .int .i64 gl, .int .i64 wl, .int .i64 xl, .int .i64 yl, .int .i64 zl]))]], 1⟩ (proj 1 [3, 6, 7, 8] Kst Kret) =
  Te47 test Kst Kret al nl ml tl vl gl wl xl yl zl := by kernel_rfl
noncomputable def T47_0 (test : Bool → Prop → Prop → Prop) (Kst : KS) (Kret : KR) (al nl ml : Nat) (tl vl gl wl xl yl zl : Nat → Int) (x0 x1 : Int) : Prop :=
  test (decide (x1 < (↑nl : Int)))
 (test (decide ((0 : Int) ≤ x1 ∧ x1 < (↑nl : Int)))
 (test (decide (Int.toNat x1 + al < ml))
 (test (decide (Int.toNat x1 + al < ml))
 (test (decide (Int.toNat x1 + al < ml))
 (test (decide (Int.toNat x1 + al < ml))
 (test (decide (Int.toNat x1 + al < ml))
 (test (decide (Int.toNat x1 + al < ml))
 (test (decide (Int.toNat x1 + al < ml))
 (test (lim IntKind.i64 (x1 + (1 : Int)))
 (Kst (hd Try.f47 0) ([PV.int IntKind.i64 (Max.max x0 (zl (Int.toNat x1 + al))),
 PV.loose (PA.mk (0) (7) al (0)) nl, PV.int IntKind.i64 (↑nl : Int),
 PV.int IntKind.i64 (x1 + (1 : Int))]) ([[(0, false,
 Blk.cols ml
 [Col.int IntKind.i64 tl, Col.int IntKind.i64 vl, Col.int IntKind.i64 gl,
 Col.int IntKind.i64 wl, Col.int IntKind.i64 xl, Col.int IntKind.i64 yl,
 Col.int IntKind.i64 zl])]]) (2))
 (False))
 (False))
 (False))
 (False))
 (False))
 (False))
 (False))
 (False))
 (False))
 (Kret (PV.int IntKind.i64 x0) ([[(0, false,
 Blk.cols ml
 [Col.int IntKind.i64 tl, Col.int IntKind.i64 vl, Col.int IntKind.i64 gl,
 Col.int IntKind.i64 wl, Col.int IntKind.i64 xl, Col.int IntKind.i64 yl,
 Col.int IntKind.i64 zl])]]) (1))
theorem t47_0 (test : Bool → Prop → Prop → Prop) (Kst : KS) (Kret : KR) (al nl ml : Nat) (tl vl gl wl xl yl zl : Nat → Int) (x0 x1 : Int) : run test Try.env true (xA0 test) true 400 ⟨47, hd Try.f47 0, zipT [3, 6, 7, 8] [PV.int IntKind.i64 x0, PV.loose (PA.mk (0) (7) al (0)) nl,
 PV.int IntKind.i64 (↑nl : Int), PV.int IntKind.i64 x1], [[], [(0, (false, .cols ml [.int .i64 tl, .int .i64 vl, .int .i64 gl, .int .i64 wl, .int .i64 xl, .int .i64 yl, .int .i64 zl]))]], 1⟩ (proj 1 [3, 6, 7, 8] Kst Kret) =
  T47_0 test Kst Kret al nl ml tl vl gl wl xl yl zl x0 x1 := by kernel_rfl
theorem be47 (al nl ml : Nat) (tl vl gl wl xl yl zl : Nat → Int) (Kst : KS) (Kret : KR) (x : St47 ⊕ Rt47) (hS : HS 1 400 ((I47 al nl ml tl vl gl wl xl yl zl)) Kst x) (hR : HR 1 400 ((V47 al nl ml tl vl gl wl xl yl zl)) (fun r => [newL (1 + 1) ((N47 al nl ml tl vl gl wl xl yl zl) r) ++ [(0, (false, .cols ml [.int .i64 tl, .int .i64 vl, .int .i64 gl, .int .i64 wl, .int .i64 xl, .int .i64 yl, .int .i64 zl]))]]) Kret x) (h : (some (.inl (.h0 ((0 : Int)) ((0 : Int)))) : Option (St47 ⊕ Rt47)) = some x) : Te47 cond Kst Kret al nl ml tl vl gl wl xl yl zl := by
  unfold Te47
  exact stop_at hS _ h (fun n => n) rfl rfl rfl ⟨(rn_int rfl), ⟨(rn_loose (use_lo rfl) rfl rfl rfl), ⟨(rn_int rfl), ⟨(rn_int rfl), trivial⟩⟩⟩⟩ rfl (entl_bor (use_lo rfl) rfl rfl entl_nil)
theorem b47_0 (al nl ml : Nat) (tl vl gl wl xl yl zl : Nat → Int) (Kst : KS) (Kret : KR) (x : St47 ⊕ Rt47) (hS : HS 1 400 ((I47 al nl ml tl vl gl wl xl yl zl)) Kst x) (hR : HR 1 400 ((V47 al nl ml tl vl gl wl xl yl zl)) (fun r => [newL (1 + 1) ((N47 al nl ml tl vl gl wl xl yl zl) r) ++ [(0, (false, .cols ml [.int .i64 tl, .int .i64 vl, .int .i64 gl, .int .i64 wl, .int .i64 xl, .int .i64 yl, .int .i64 zl]))]]) Kret x) (x0 x1 : Int) (h : (bif (decide (x1 < (↑nl : Int)))
 then (bif (decide ((0 : Int) ≤ x1 ∧ x1 < (↑nl : Int)))
 then (bif (decide (Int.toNat x1 + al < ml))
 then (bif (lim IntKind.i64 (x1 + (1 : Int)))
 then (some (.inl (.h0 (Max.max x0 (zl (Int.toNat x1 + al))) (x1 + (1 : Int)))))
 else (none))
 else (none))
 else (none))
 else (some (.inr (x0))) : Option (St47 ⊕ Rt47)) = some x) : T47_0 cond Kst Kret al nl ml tl vl gl wl xl yl zl x0 x1 := by
  unfold T47_0
  exact bif_split h
   (fun c0 h => bif_split h
   (fun c1 h => bif_split h
   (fun c2 h => cond_yes c2 (cond_yes c2 (cond_yes c2 (cond_yes c2 (cond_yes c2 (cond_yes c2 (bif_split h
   (fun c3 h => stop_at hS _ h (fun n => n) rfl rfl rfl ⟨(rn_int rfl), ⟨(rn_loose (use_lo rfl) rfl rfl rfl), ⟨(rn_int rfl), ⟨(rn_int rfl), trivial⟩⟩⟩⟩ rfl (entl_bor (use_lo rfl) rfl rfl entl_nil))
   (fun c3 h => no_some h))))))))
   (fun c2 h => no_some h))
   (fun c1 h => no_some h))
   (fun c0 h => ret_at hR _ h (fun n => n) rfl rfl rfl (rn_int rfl) rfl (entl_bor (use_lo rfl) rfl rfl entl_nil))
theorem a47 (al nl ml : Nat) (tl vl gl wl xl yl zl : Nat → Int) {r : Rt47} (h : Goes ((q47 al nl ml tl vl gl wl xl yl zl)) ((p47 al nl ml tl vl gl wl xl yl zl)) r) : CallR Try.prog 47 [.loose ⟨0, 7, al, 0⟩ nl] [[(0, (false, .cols ml [.int .i64 tl, .int .i64 vl, .int .i64 gl, .int .i64 wl, .int .i64 xl, .int .i64 yl, .int .i64 zl]))]] 1 ((V47 al nl ml tl vl gl wl xl yl zl) r) ((fun r => [newL (1 + 1) ((N47 al nl ml tl vl gl wl xl yl zl) r) ++ [(0, (false, .cols ml [.int .i64 tl, .int .i64 vl, .int .i64 gl, .int .i64 wl, .int .i64 xl, .int .i64 yl, .int .i64 zl]))]]) r) 400 ∧ ∃ F, Try.prog.funcs[47]? = some F ∧ F.body.isSome = true ∧ (F.name == "runtime.NumGoroutine") = false := by
  refine dec_calls (f := 47) (lo := 1) (hi := 400) (H := [[(0, (false, .cols ml [.int .i64 tl, .int .i64 vl, .int .i64 gl, .int .i64 wl, .int .i64 xl, .int .i64 yl, .int .i64 zl]))]]) (args := [.loose ⟨0, 7, al, 0⟩ nl]) Try.envOk Try.mixed xA0_ok ((I47 al nl ml tl vl gl wl xl yl zl)) ((V47 al nl ml tl vl gl wl xl yl zl)) (fun r => [newL (1 + 1) ((N47 al nl ml tl vl gl wl xl yl zl) r) ++ [(0, (false, .cols ml [.int .i64 tl, .int .i64 vl, .int .i64 gl, .int .i64 wl, .int .i64 xl, .int .i64 yl, .int .i64 zl]))]]) (fn := mkFn Try.f47) (ts := [3, 6, 7, 8]) (n := 400) rfl (by decide) (by simp) (names_of rfl) ?_ ?_ ?_ h
  · intro s; cases s <;> exact ⟨hd_ok _ _, by simp [I47], names_of rfl, Nat.le_of_ble_eq_true rfl⟩
  · intro Kst Kret x hS hR h
    exact Holds.eq (te47 cond Kst Kret al nl ml tl vl gl wl xl yl zl) (be47 al nl ml tl vl gl wl xl yl zl Kst Kret x hS hR h)
  · intro Kst Kret x hS hR s h
    cases s with
    | h0 x0 x1 => exact Holds.eq (t47_0 cond Kst Kret al nl ml tl vl gl wl xl yl zl x0 x1) (b47_0 al nl ml tl vl gl wl xl yl zl Kst Kret x hS hR x0 x1 h)
noncomputable def k47  : Con := ⟨47, [.one (.list [.int .i64, .int .i64, .int .i64, .int .i64, .int .i64, .int .i64, .int .i64])], fun (x : (Nat × Nat × Nat × (Nat → Int) × (Nat → Int) × (Nat → Int) × (Nat → Int) × (Nat → Int) × (Nat → Int) × (Nat → Int) × Unit) × Unit) => (fun (al nl ml : Nat) (tl : Nat → Int) (vl : Nat → Int) (gl : Nat → Int) (wl : Nat → Int) (xl : Nat → Int) (yl : Nat → Int) (zl : Nat → Int) => decide (al + nl ≤ ml ∧ nl ≤ 1000000)) x.1.1 x.1.2.1 x.1.2.2.1 x.1.2.2.2.1 x.1.2.2.2.2.1 x.1.2.2.2.2.2.1 x.1.2.2.2.2.2.2.1 x.1.2.2.2.2.2.2.2.1 x.1.2.2.2.2.2.2.2.2.1 x.1.2.2.2.2.2.2.2.2.2.1, fun (x : (Nat × Nat × Nat × (Nat → Int) × (Nat → Int) × (Nat → Int) × (Nat → Int) × (Nat → Int) × (Nat → Int) × (Nat → Int) × Unit) × Unit) => (fun (al nl ml : Nat) (tl : Nat → Int) (vl : Nat → Int) (gl : Nat → Int) (wl : Nat → Int) (xl : Nat → Int) (yl : Nat → Int) (zl : Nat → Int) => (V47 al nl ml tl vl gl wl xl yl zl) (S.max0 (fun j => zl (j + al)) nl)) x.1.1 x.1.2.1 x.1.2.2.1 x.1.2.2.2.1 x.1.2.2.2.2.1 x.1.2.2.2.2.2.1 x.1.2.2.2.2.2.2.1 x.1.2.2.2.2.2.2.2.1 x.1.2.2.2.2.2.2.2.2.1 x.1.2.2.2.2.2.2.2.2.2.1, fun (x : (Nat × Nat × Nat × (Nat → Int) × (Nat → Int) × (Nat → Int) × (Nat → Int) × (Nat → Int) × (Nat → Int) × (Nat → Int) × Unit) × Unit) => (fun (al nl ml : Nat) (tl : Nat → Int) (vl : Nat → Int) (gl : Nat → Int) (wl : Nat → Int) (xl : Nat → Int) (yl : Nat → Int) (zl : Nat → Int) => (N47 al nl ml tl vl gl wl xl yl zl) (S.max0 (fun j => zl (j + al)) nl)) x.1.1 x.1.2.1 x.1.2.2.1 x.1.2.2.2.1 x.1.2.2.2.2.1 x.1.2.2.2.2.2.1 x.1.2.2.2.2.2.2.1 x.1.2.2.2.2.2.2.2.1 x.1.2.2.2.2.2.2.2.2.1 x.1.2.2.2.2.2.2.2.2.2.1, fun _ _ => .dead⟩
theorem s47' (al nl ml : Nat) (tl vl gl wl xl yl zl : Nat → Int) (hp : al + nl ≤ ml ∧ nl ≤ 1000000) : ∀ (k i : Nat), i + k = nl → Comes (q47 al nl ml tl vl gl wl xl yl zl) (.h0 (S.max0 (fun j => zl (j + al)) i) (i : Int)) (S.max0 (fun j => zl (j + al)) nl) := by
  obtain ⟨hp1, hp2⟩ := hp
  intro k
  induction k with
  | zero =>
    intro i hi
    obtain rfl : nl = i := by omega
    generalize S.max0 _ _ = v
    apply Comes.of
    show Goes _ _ _
    (first | rw [q47] | unfold q47)
    repeat' first
      | with_reducible refine goes_if (fun h => ?_) (fun h => ?_) <;> (try simp only [SH] at h)
      | exact goes_none.mpr (by omega)
    all_goals first | (exfalso; omega) | exact goes_inr.mpr rfl
  | succ k ih =>
    intro i hi
    have ih := ih (i + 1) (by omega)
    have e : S.max0 (fun j => zl (j + al)) (i + 1) = max (S.max0 (fun j => zl (j + al)) i) (zl (i + al)) := rfl
    rw [e] at ih
    generalize S.max0 _ i = v at *
    apply Comes.of
    show Goes _ _ _
    (first | rw [q47] | unfold q47)
    repeat' first
      | with_reducible refine goes_if (fun h => ?_) (fun h => ?_) <;> (try simp only [SH] at h)
      | exact goes_none.mpr (by omega)
    all_goals first | (exfalso; omega) | exact ih
theorem s47 (al nl ml : Nat) (tl vl gl wl xl yl zl : Nat → Int) (hp : al + nl ≤ ml ∧ nl ≤ 1000000) : Goes ((q47 al nl ml tl vl gl wl xl yl zl)) ((p47 al nl ml tl vl gl wl xl yl zl)) (S.max0 (fun j => zl (j + al)) nl) := by
  have hm := s47' al nl ml tl vl gl wl xl yl zl hp nl 0 (by omega)
  exact hm
theorem k47_ok  : k47.ok Try.prog := by
  intro x hx
  obtain ⟨⟨al, nl, ml, tl, vl, gl, wl, xl, yl, zl, _⟩, _⟩ := x
  obtain ⟨h1, h2⟩ := a47 al nl ml tl vl gl wl xl yl zl (s47 al nl ml tl vl gl wl xl yl zl (of_dec hx rfl))
  exact ⟨⟨400, (by decide : 1 + 1 + 0 ≤ 400), h1⟩, h2⟩
namespace S
def fdv (a b : Int) : Int := a / b
end S
theorem div_at  {p q c m : Int} (h0 : 0 ≤ m) (h1 : m < q) (h : p = q * c + m) : p / q = c := by
  rw [h, Int.add_comm, Int.add_mul_ediv_left _ _ (by omega), Int.ediv_eq_zero_of_lt h0 h1, Int.zero_add]
theorem fdv_eq  {p q : Int} (hq : 0 < q) : S.fdv p q = if p.tmod q < 0 then p.tdiv q - 1 else p.tdiv q := by
  have h4 := Int.mul_tdiv_add_tmod p q
  have h5 : p.tmod q < q := Int.tmod_lt_of_pos p hq
  have h6 : -q < p.tmod q := Int.lt_tmod_of_pos p hq
  unfold S.fdv
  split
  · refine div_at (m := p.tmod q + q) (by omega) (by omega) ?_
    rw [Int.mul_sub, Int.mul_one]
    omega
  · exact div_at (m := p.tmod q) (by omega) (by omega) (by omega)
theorem tdv_abs (p q : Int) : (p.tdiv q).natAbs ≤ p.natAbs := by
  rw [Int.natAbs_tdiv]
  exact Nat.div_le_self _ _
abbrev St48  := Empty
abbrev Rt48  := Int
noncomputable def V48 (p q : Int) (r : Rt48) : PV := PV.int IntKind.i64 r
noncomputable def N48 (p q : Int) (r : Rt48) : List Blk := []
noncomputable def I48 (p q : Int) : St48 → Hd := fun s => s.elim
noncomputable def q48 (p q : Int) : St48 → Option (St48 ⊕ Rt48) := fun s => s.elim
noncomputable def p48 (p q : Int) : Option (St48 ⊕ Rt48) := bif (decide (q = (0 : Int)))
 then (none)
 else (bif (lim IntKind.i64 (Int.tdiv p q))
 then (bif (decide (Int.tmod p q < (0 : Int)))
 then (bif (lim IntKind.i64 (Int.tdiv p q - (1 : Int)))
 then (some (.inr (Int.tdiv p q - (1 : Int))))
 else (none))
 else (some (.inr (Int.tdiv p q))))
 else (none))
noncomputable def Te48 (test : Bool → Prop → Prop → Prop) (Kst : KS) (Kret : KR) (p q : Int) : Prop :=
  test (decide (q = (0 : Int)))
 (False)
 (test (lim IntKind.i64 (Int.tdiv p q))
 (test (decide (q = (0 : Int)))
 (False)
 (test (decide (Int.tmod p q < (0 : Int)))
 (test (lim IntKind.i64 (Int.tdiv p q - (1 : Int)))
 (Kret (PV.int IntKind.i64 (Int.tdiv p q - (1 : Int))) ([[]]) (0))
 (False))
 (Kret (PV.int IntKind.i64 (Int.tdiv p q)) ([[]]) (0))))
 (False))
theorem te48 (test : Bool → Prop → Prop → Prop) (Kst : KS) (Kret : KR) (p q : Int) : run test Try.env true noX true 400 ⟨48, [.cd (mkFn Try.f48).body], argT 0 [.int .i64 p, .int .i64 q], [[], []], 0⟩ (proj 0 [] Kst Kret) =
  Te48 test Kst Kret p q := by kernel_rfl
theorem be48 (p q : Int) (Kst : KS) (Kret : KR) (x : St48 ⊕ Rt48) (hS : HS 0 400 ((I48 p q)) Kst x) (hR : HR 0 400 ((V48 p q)) (fun r => [newL (0 + 1) ((N48 p q) r) ++ []]) Kret x) (h : p48 p q = some x) : Te48 cond Kst Kret p q := by
  unfold Te48
  unfold p48 at h
  refine bif_split h
   (fun c0 h => no_some h)
   (fun c0 h => bif_split h
   (fun c1 h => cond_no c0 (bif_split h
   (fun c2 h => bif_split h
   (fun c3 h => ret_at hR _ h (fun n => n) rfl rfl rfl (rn_int rfl) rfl entl_nil)
   (fun c3 h => no_some h))
   (fun c2 h => ret_at hR _ h (fun n => n) rfl rfl rfl (rn_int rfl) rfl entl_nil)))
   (fun c1 h => no_some h))
theorem a48 (p q : Int) {r : Rt48} (h : Goes ((q48 p q)) ((p48 p q)) r) : CallR Try.prog 48 [.int .i64 p, .int .i64 q] [[]] 0 ((V48 p q) r) ((fun r => [newL (0 + 1) ((N48 p q) r) ++ []]) r) 400 ∧ ∃ F, Try.prog.funcs[48]? = some F ∧ F.body.isSome = true ∧ (F.name == "runtime.NumGoroutine") = false := by
  refine dec_calls (f := 48) (lo := 0) (hi := 400) (H := [[]]) (args := [.int .i64 p, .int .i64 q]) Try.envOk Try.mixed noX_ok ((I48 p q)) ((V48 p q)) (fun r => [newL (0 + 1) ((N48 p q) r) ++ []]) (fn := mkFn Try.f48) (ts := []) (n := 400) rfl (by decide) (by simp) (names_of rfl) ?_ ?_ ?_ h
  · intro s; exact s.elim
  · intro Kst Kret x hS hR h
    exact Holds.eq (te48 cond Kst Kret p q) (be48 p q Kst Kret x hS hR h)
  · intro Kst Kret x hS hR s h; exact s.elim
noncomputable def k48  : Con := ⟨48, [.one (.plain (.int .i64)), .one (.plain (.int .i64))], fun (x : Int × Int × Unit) => (fun (p : Int) (q : Int) => decide ((-4611686018427387904 ≤ p ∧ p ≤ 4611686018427387904) ∧ 0 < q ∧ q ≤ 4611686018427387904)) x.1 x.2.1, fun (x : Int × Int × Unit) => (fun (p : Int) (q : Int) => (V48 p q) (S.fdv p q)) x.1 x.2.1, fun (x : Int × Int × Unit) => (fun (p : Int) (q : Int) => (N48 p q) (S.fdv p q)) x.1 x.2.1, fun _ _ => .dead⟩
theorem s48 (p q : Int) (hp : (-4611686018427387904 ≤ p ∧ p ≤ 4611686018427387904) ∧ 0 < q ∧ q ≤ 4611686018427387904) : Goes ((q48 p q)) ((p48 p q)) (S.fdv p q) := by
  have ha := tdv_abs p q
  rw [fdv_eq hp.2.1]
  unfold p48
  generalize p.tdiv q = d at *
  generalize p.tmod q = m at *
  repeat' first
    | with_reducible refine goes_if (fun h => ?_) (fun h => ?_) <;> (try simp only [SH] at h)
    | exact goes_none.mpr (by omega)
  all_goals first | (exfalso; omega) | (rw [if_pos (by omega)]; exact goes_inr.mpr rfl) | (rw [if_neg (by omega)]; exact goes_inr.mpr rfl)
theorem k48_ok  : k48.ok Try.prog := by
  intro x hx
  obtain ⟨p, q, _⟩ := x
  obtain ⟨h1, h2⟩ := a48 p q (s48 p q (of_dec hx rfl))
  exact ⟨⟨400, (by decide : 0 + 1 + 0 ≤ 400), h1⟩, h2⟩
noncomputable def xC (test : Bool → Prop → Prop → Prop) : Ext := consX test [k12, k15, k46, k47, k48]
theorem xC_ok  : ExtOk Try.prog (xC cond) := consX_ok ⟨k12_ok, k15_ok, k46_ok, k47_ok, k48_ok, trivial⟩
namespace S
def cntN (p : Nat → Bool) : Nat → Int
  | 0 => 0
  | n + 1 => if p n = true then cntN p n + 1 else cntN p n
def liv (y : Nat → Int) (j : Nat) : Bool := decide (y j < 0)
def good (T v rg : Int) : Int × Int × Bool × Int := if -rg ≤ v ∧ v ≤ rg then (T, v, true, 0) else (T, 0, false, 0)
def posT (pn : Int) (x1 x3 l : Nat → Int) (j : Nat) : Int := if l j < 0 then (if pn = 1 then x1 j else x3 j) else 0
def posV (of rs n s : Int) : Int := rs * fdv (2 * (s + n * of) + n * rs) (2 * n * rs)
def posR (of rs rg T n s : Int) : Int × Int × Bool × Int := if n = 0 then (T, 0, false, 0) else good T (posV of rs n s) rg
def posS (kd pc pn of rs rg re : Int) (n : Nat) (x1 x2 x3 x4 d l t : Nat → Int) : Int × Int × Bool × Int :=
  if kinE kd pc pn of rs rg re 1 = 0 then
    if parE n x1 x2 x3 x4 d l t = 0 then posR of rs rg (max0 t n) (cntN (liv l) n) (sumN (posT pn x1 x3 l) n) else (0, 0, false, parE n x1 x2 x3 x4 d l t)
  else (0, 0, false, kinE kd pc pn of rs rg re 1)
end S
theorem cnt_bnd  {p : Nat → Bool} : ∀ {n : Nat}, 0 ≤ S.cntN p n ∧ S.cntN p n ≤ n
  | 0 => ⟨Int.le_refl _, Int.le_refl _⟩
  | n + 1 => by
    have := cnt_bnd (p := p) (n := n)
    simp only [S.cntN]
    split <;> omega
theorem par_ok  {n : Nat} {x1 x2 x3 x4 d l t : Nat → Int} (h : S.parE n x1 x2 x3 x4 d l t = 0) : n ≤ 50 ∧ ∀ j, j < n → (-1000000000000 ≤ x1 j ∧ x1 j ≤ 1000000000000) ∧ (-1000000000000 ≤ x3 j ∧ x3 j ≤ 1000000000000) ∧ (-1 ≤ l j ∧ l j ≤ 199) := by
  unfold S.parE at h
  split at h
  · cases h
  · refine ⟨by omega, fun j hj => ?_⟩
    have := par_all h j (Nat.zero_le _) (by omega)
    have := of_decide_eq_true this
    omega
theorem pos_bnd  {pn : Int} {x1 x3 l : Nat → Int} : ∀ {n : Nat}, (∀ j, j < n → (-1000000000000 ≤ x1 j ∧ x1 j ≤ 1000000000000) ∧ (-1000000000000 ≤ x3 j ∧ x3 j ≤ 1000000000000) ∧ (-1 ≤ l j ∧ l j ≤ 199)) → -1000000000000 * S.cntN (S.liv l) n ≤ S.sumN (S.posT pn x1 x3 l) n ∧ S.sumN (S.posT pn x1 x3 l) n ≤ 1000000000000 * S.cntN (S.liv l) n
  | 0, _ => ⟨Int.le_refl _, Int.le_refl _⟩
  | n + 1, h => by
    have h1 := pos_bnd (n := n) (pn := pn) fun j hj => h j (by omega)
    have h2 := h n (by omega)
    have e : S.sumN (S.posT pn x1 x3 l) (n + 1) = S.sumN (S.posT pn x1 x3 l) n + S.posT pn x1 x3 l n := rfl
    have e2 : S.cntN (S.liv l) (n + 1) = if l n < 0 then S.cntN (S.liv l) n + 1 else S.cntN (S.liv l) n := by
      simp only [S.cntN, S.liv, decide_eq_true_eq]
    rw [e, e2]
    generalize S.sumN (S.posT pn x1 x3 l) n = u at *
    generalize S.cntN (S.liv l) n = v at *
    unfold S.posT
    (repeat' split) <;> omega
theorem fdv_b  {a q : Int} (hq : 0 < q) : q * S.fdv a q ≤ a ∧ a < q * S.fdv a q + q := by
  have h1 := Int.emod_nonneg a (show q ≠ 0 by omega)
  have h2 := Int.emod_lt_of_pos a hq
  have h3 := Int.mul_ediv_add_emod a q
  unfold S.fdv
  omega
theorem pv_b  {of rs n s : Int} (hn : 1 ≤ n ∧ n ≤ 50) (hs : -1000000000000 * n ≤ s ∧ s ≤ 1000000000000 * n) (ho : -1000000000000 ≤ of ∧ of ≤ 1000000000000) (hr : 1 ≤ rs ∧ rs ≤ 1000000000) :
    (-50000000000000 ≤ n * of ∧ n * of ≤ 50000000000000) ∧ (1 ≤ n * rs ∧ n * rs ≤ 50000000000) ∧ 2 * n * rs = 2 * (n * rs) ∧ (-3000000000000 ≤ S.posV of rs n s ∧ S.posV of rs n s ≤ 3000000000000) := by
  have a1 : n * of ≤ n * 1000000000000 := Int.mul_le_mul_of_nonneg_left ho.2 (by omega)
  have a2 : n * (-1000000000000) ≤ n * of := Int.mul_le_mul_of_nonneg_left ho.1 (by omega)
  have a3 : n * rs ≤ n * 1000000000 := Int.mul_le_mul_of_nonneg_left hr.2 (by omega)
  have a4 : n * 1 ≤ n * rs := Int.mul_le_mul_of_nonneg_left hr.1 (by omega)
  have a5 : 2 * n * rs = 2 * (n * rs) := Int.mul_assoc _ _ _
  refine ⟨by omega, by omega, a5, ?_⟩
  unfold S.posV
  obtain ⟨b1, b2⟩ := fdv_b (a := 2 * (s + n * of) + n * rs) (q := 2 * n * rs) (by omega)
  generalize S.fdv (2 * (s + n * of) + n * rs) (2 * n * rs) = f at *
  have e : 2 * n * rs * f = 2 * (n * (rs * f)) := by rw [Int.mul_assoc, Int.mul_assoc]
  rw [e] at b1 b2
  generalize rs * f = v at *
  have c1 : n * (v - 3000000000000) ≤ 0 := by rw [Int.mul_sub]; omega
  have c2 : 0 ≤ n * (v + 3000000000000) := by rw [Int.mul_add]; omega
  constructor
  · refine Int.not_lt.mp fun h => ?_
    have := Int.mul_neg_of_pos_of_neg (show 0 < n by omega) (show v + 3000000000000 < 0 by omega)
    omega
  · refine Int.not_lt.mp fun h => ?_
    have := Int.mul_pos (show 0 < n by omega) (show 0 < v - 3000000000000 by omega)
    omega
inductive St17 where
  | h0 (x0 : Int) (x1 : Int) (x2 : Int)
abbrev Rt17  := Int × Int × Bool × Int
noncomputable def V17 (kd pc pn of rs rg re : Int) (al nl ml : Nat) (tl vl gl wl xl yl zl : Nat → Int) (r : Rt17) : PV := PV.tup
 [PV.agg [PV.int IntKind.i64 r.1, PV.int IntKind.i64 r.2.1, PV.bool r.2.2.1],
 PV.int IntKind.i64 r.2.2.2]
noncomputable def N17 (kd pc pn of rs rg re : Int) (al nl ml : Nat) (tl vl gl wl xl yl zl : Nat → Int) (r : Rt17) : List Blk := []
noncomputable def I17 (kd pc pn of rs rg re : Int) (al nl ml : Nat) (tl vl gl wl xl yl zl : Nat → Int) : St17 → Hd
  | .h0 x0 x1 x2 => ⟨hd Try.f17 0, [PV.loose (PA.mk (0) (7) al (0)) nl,
 PV.ptr (PA.mk (1) (0) (0) (0)),
 PV.ptr (PA.mk (2) (0) (0) (0)), PV.int IntKind.i64 x0,
 PV.int IntKind.i64 x1, PV.loose (PA.mk (0) (7) al (0)) nl,
 PV.int IntKind.i64 (↑nl : Int), PV.int IntKind.i64 x2], [[(1, (true, Blk.cells
 [PV.int IntKind.i64 kd, PV.int IntKind.i64 pc, PV.int IntKind.i64 pn,
 PV.int IntKind.i64 of, PV.int IntKind.i64 rs, PV.int IntKind.i64 rg,
 PV.int IntKind.i64 re])), (2, (true, Blk.cells [PV.int IntKind.i64 (0 : Int), PV.int IntKind.i64 (0 : Int), PV.tf false]))], [(0, (false, .cols ml [.int .i64 tl, .int .i64 vl, .int .i64 gl, .int .i64 wl, .int .i64 xl, .int .i64 yl, .int .i64 zl]))]], 3⟩
noncomputable def q17 (kd pc pn of rs rg re : Int) (al nl ml : Nat) (tl vl gl wl xl yl zl : Nat → Int) : St17 → Option (St17 ⊕ Rt17)
  | .h0 x0 x1 x2 => bif (decide (x2 < (↑nl : Int)))
 then (bif (decide ((0 : Int) ≤ x2 ∧ x2 < (↑nl : Int)))
 then (bif (decide (Int.toNat x2 + al < ml))
 then (bif (decide (yl (Int.toNat x2 + al) ≥ (0 : Int)))
 then (bif (lim IntKind.i64 (x2 + (1 : Int)))
 then (some (.inl (.h0 (x0) (x1) (x2 + (1 : Int)))))
 else (none))
 else (bif (lim IntKind.i64 (x1 + (1 : Int)))
 then (bif (pn == (1 : Int))
 then (bif (lim IntKind.i64 (x0 + tl (Int.toNat x2 + al)))
 then (bif (lim IntKind.i64 (x2 + (1 : Int)))
 then (some (.inl (.h0 (x0 + tl (Int.toNat x2 + al)) (x1 + (1 : Int)) (x2 + (1 : Int)))))
 else (none))
 else (none))
 else (bif (lim IntKind.i64 (x0 + gl (Int.toNat x2 + al)))
 then (bif (lim IntKind.i64 (x2 + (1 : Int)))
 then (some (.inl (.h0 (x0 + gl (Int.toNat x2 + al)) (x1 + (1 : Int)) (x2 + (1 : Int)))))
 else (none))
 else (none)))
 else (none)))
 else (none))
 else (none))
 else (bif (decide (al + nl ≤ ml ∧ nl ≤ 1000000))
 then (bif (x1 == (0 : Int))
 then (some (.inr (S.max0 (fun j => zl (j + al)) nl, (0 : Int), false, (0 : Int))))
 else (bif (lim IntKind.i64 (x1 * of))
 then (bif (lim IntKind.i64 (x0 + x1 * of))
 then (bif (lim IntKind.i64 ((2 : Int) * (x0 + x1 * of)))
 then (bif (lim IntKind.i64 (x1 * rs))
 then (bif (lim IntKind.i64 ((2 : Int) * (x0 + x1 * of) + x1 * rs))
 then (bif (lim IntKind.i64 ((2 : Int) * x1))
 then (bif (lim IntKind.i64 ((2 : Int) * x1 * rs))
 then (bif (decide
 (((-4611686018427387904 : Int) ≤ (2 : Int) * (x0 + x1 * of) + x1 * rs ∧
 (2 : Int) * (x0 + x1 * of) + x1 * rs ≤ (4611686018427387904 : Int)) ∧
 (0 : Int) < (2 : Int) * x1 * rs ∧ (2 : Int) * x1 * rs ≤ (4611686018427387904 : Int)))
 then (bif (lim IntKind.i64 (rs * S.fdv ((2 : Int) * (x0 + x1 * of) + x1 * rs) ((2 : Int) * x1 * rs)))
 then (bif (lim IntKind.i64 (-rg))
 then (bif (decide (rs * S.fdv ((2 : Int) * (x0 + x1 * of) + x1 * rs) ((2 : Int) * x1 * rs) ≥ -rg))
 then (bif (decide (rs * S.fdv ((2 : Int) * (x0 + x1 * of) + x1 * rs) ((2 : Int) * x1 * rs) ≤ rg))
 then (some (.inr (S.max0 (fun j => zl (j + al)) nl, rs * S.fdv ((2 : Int) * (x0 + x1 * of) + x1 * rs) ((2 : Int) * x1 * rs), true, (0 : Int))))
 else (some (.inr (S.max0 (fun j => zl (j + al)) nl, (0 : Int), false, (0 : Int)))))
 else (some (.inr (S.max0 (fun j => zl (j + al)) nl, (0 : Int), false, (0 : Int)))))
 else (none))
 else (none))
 else (none))
 else (none))
 else (none))
 else (none))
 else (none))
 else (none))
 else (none))
 else (none)))
 else (none))
noncomputable def p17 (kd pc pn of rs rg re : Int) (al nl ml : Nat) (tl vl gl wl xl yl zl : Nat → Int) : Option (St17 ⊕ Rt17) := bif (S.insE kd pc pn of rs rg re != (0 : Int))
 then (some (.inr ((0 : Int), (0 : Int), false, S.insE kd pc pn of rs rg re)))
 else (bif (kd != (1 : Int))
 then (some (.inr ((0 : Int), (0 : Int), false, (8 : Int))))
 else (bif (decide (al + nl ≤ ml ∧ nl ≤ 1000000))
 then (bif ((S.parE nl (fun j => tl (j + al)) (fun j => vl (j + al)) (fun j => gl (j + al))
 (fun j => wl (j + al)) (fun j => xl (j + al)) (fun j => yl (j + al)) fun j =>
 zl (j + al)) !=
 (0 : Int))
 then (some (.inr ((0 : Int), (0 : Int), false, S.parE nl (fun j => tl (j + al)) (fun j => vl (j + al)) (fun j => gl (j + al))
 (fun j => wl (j + al)) (fun j => xl (j + al)) (fun j => yl (j + al)) fun j =>
 zl (j + al))))
 else (some (.inl (.h0 ((0 : Int)) ((0 : Int)) ((0 : Int))))))
 else (none)))
noncomputable def Te17 (test : Bool → Prop → Prop → Prop) (Kst : KS) (Kret : KR) (kd pc pn of rs rg re : Int) (al nl ml : Nat) (tl vl gl wl xl yl zl : Nat → Int) : Prop :=
  test (true)
 (test (S.insE kd pc pn of rs rg re != (0 : Int))
 (test (S.insE kd pc pn of rs rg re != (0 : Int))
 (Kret (PV.tup
 [PV.agg [PV.int IntKind.i64 (0 : Int), PV.int IntKind.i64 (0 : Int), PV.tf false],
 PV.int IntKind.i64 (S.insE kd pc pn of rs rg re)]) ([[(0, false,
 Blk.cols ml
 [Col.int IntKind.i64 tl, Col.int IntKind.i64 vl, Col.int IntKind.i64 gl,
 Col.int IntKind.i64 wl, Col.int IntKind.i64 xl, Col.int IntKind.i64 yl,
 Col.int IntKind.i64 zl])]]) (5))
 (test (decide (al + nl ≤ ml ∧ nl ≤ 1000000))
 (test ((S.parE nl (fun j => tl (j + al)) (fun j => vl (j + al)) (fun j => gl (j + al))
 (fun j => wl (j + al)) (fun j => xl (j + al)) (fun j => yl (j + al)) fun j =>
 zl (j + al)) !=
 (0 : Int))
 (Kret (PV.tup
 [PV.agg [PV.int IntKind.i64 (0 : Int), PV.int IntKind.i64 (0 : Int), PV.tf false],
 PV.int IntKind.i64
 (S.parE nl (fun j => tl (j + al)) (fun j => vl (j + al)) (fun j => gl (j + al))
 (fun j => wl (j + al)) (fun j => xl (j + al)) (fun j => yl (j + al)) fun j =>
 zl (j + al))]) ([[(0, false,
 Blk.cols ml
 [Col.int IntKind.i64 tl, Col.int IntKind.i64 vl, Col.int IntKind.i64 gl,
 Col.int IntKind.i64 wl, Col.int IntKind.i64 xl, Col.int IntKind.i64 yl,
 Col.int IntKind.i64 zl])]]) (6))
 (Kst (hd Try.f17 0) ([PV.loose (PA.mk (0) (7) al (0)) nl,
 PV.ptr (PA.mk (1) (0) (0) (0)),
 PV.ptr (PA.mk (2) (0) (0) (0)), PV.int IntKind.i64 (0 : Int),
 PV.int IntKind.i64 (0 : Int), PV.loose (PA.mk (0) (7) al (0)) nl,
 PV.int IntKind.i64 (↑nl : Int), PV.int IntKind.i64 (0 : Int)]) ([[(0, false,
 Blk.cols ml
 [Col.int IntKind.i64 tl, Col.int IntKind.i64 vl, Col.int IntKind.i64 gl,
 Col.int IntKind.i64 wl, Col.int IntKind.i64 xl, Col.int IntKind.i64 yl,
 Col.int IntKind.i64 zl]),
 (2, true,
 Blk.cells
 [PV.int IntKind.i64 (0 : Int), PV.int IntKind.i64 (0 : Int), PV.tf false]),
 (1, true,
 Blk.cells
 [PV.int IntKind.i64 kd, PV.int IntKind.i64 pc, PV.int IntKind.i64 pn,
 PV.int IntKind.i64 of, PV.int IntKind.i64 rs, PV.int IntKind.i64 rg,
 PV.int IntKind.i64 re])]]) (6)))
 (False)))
 (test (kd != (1 : Int))
 (test (true)
 (Kret (PV.tup
 [PV.agg [PV.int IntKind.i64 (0 : Int), PV.int IntKind.i64 (0 : Int), PV.tf false],
 PV.int IntKind.i64 (8 : Int)]) ([[(0, false,
 Blk.cols ml
 [Col.int IntKind.i64 tl, Col.int IntKind.i64 vl, Col.int IntKind.i64 gl,
 Col.int IntKind.i64 wl, Col.int IntKind.i64 xl, Col.int IntKind.i64 yl,
 Col.int IntKind.i64 zl])]]) (5))
 (test (decide (al + nl ≤ ml ∧ nl ≤ 1000000))
 (test ((S.parE nl (fun j => tl (j + al)) (fun j => vl (j + al)) (fun j => gl (j + al))
 (fun j => wl (j + al)) (fun j => xl (j + al)) (fun j => yl (j + al)) fun j =>
 zl (j + al)) !=
 (0 : Int))
 (Kret (PV.tup
 [PV.agg [PV.int IntKind.i64 (0 : Int), PV.int IntKind.i64 (0 : Int), PV.tf false],
 PV.int IntKind.i64
 (S.parE nl (fun j => tl (j + al)) (fun j => vl (j + al)) (fun j => gl (j + al))
 (fun j => wl (j + al)) (fun j => xl (j + al)) (fun j => yl (j + al)) fun j =>
 zl (j + al))]) ([[(0, false,
 Blk.cols ml
 [Col.int IntKind.i64 tl, Col.int IntKind.i64 vl, Col.int IntKind.i64 gl,
 Col.int IntKind.i64 wl, Col.int IntKind.i64 xl, Col.int IntKind.i64 yl,
 Col.int IntKind.i64 zl])]]) (6))
 (Kst (hd Try.f17 0) ([PV.loose (PA.mk (0) (7) al (0)) nl,
 PV.ptr (PA.mk (1) (0) (0) (0)),
 PV.ptr (PA.mk (2) (0) (0) (0)), PV.int IntKind.i64 (0 : Int),
 PV.int IntKind.i64 (0 : Int), PV.loose (PA.mk (0) (7) al (0)) nl,
 PV.int IntKind.i64 (↑nl : Int), PV.int IntKind.i64 (0 : Int)]) ([[(0, false,
 Blk.cols ml
 [Col.int IntKind.i64 tl, Col.int IntKind.i64 vl, Col.int IntKind.i64 gl,
 Col.int IntKind.i64 wl, Col.int IntKind.i64 xl, Col.int IntKind.i64 yl,
 Col.int IntKind.i64 zl]),
 (2, true,
 Blk.cells
 [PV.int IntKind.i64 (0 : Int), PV.int IntKind.i64 (0 : Int), PV.tf false]),
 (1, true,
 Blk.cells
 [PV.int IntKind.i64 kd, PV.int IntKind.i64 pc, PV.int IntKind.i64 pn,
 PV.int IntKind.i64 of, PV.int IntKind.i64 rs, PV.int IntKind.i64 rg,
 PV.int IntKind.i64 re])]]) (6)))
 (False)))
 (test (false)
 (Kret (PV.tup
 [PV.agg [PV.int IntKind.i64 (0 : Int), PV.int IntKind.i64 (0 : Int), PV.tf false],
 PV.int IntKind.i64 (0 : Int)]) ([[(0, false,
 Blk.cols ml
 [Col.int IntKind.i64 tl, Col.int IntKind.i64 vl, Col.int IntKind.i64 gl,
 Col.int IntKind.i64 wl, Col.int IntKind.i64 xl, Col.int IntKind.i64 yl,
 Col.int IntKind.i64 zl])]]) (5))
 (test (decide (al + nl ≤ ml ∧ nl ≤ 1000000))
 (test ((S.parE nl (fun j => tl (j + al)) (fun j => vl (j + al)) (fun j => gl (j + al))
 (fun j => wl (j + al)) (fun j => xl (j + al)) (fun j => yl (j + al)) fun j =>
 zl (j + al)) !=
 (0 : Int))
 (Kret (PV.tup
 [PV.agg [PV.int IntKind.i64 (0 : Int), PV.int IntKind.i64 (0 : Int), PV.tf false],
 PV.int IntKind.i64
 (S.parE nl (fun j => tl (j + al)) (fun j => vl (j + al)) (fun j => gl (j + al))
 (fun j => wl (j + al)) (fun j => xl (j + al)) (fun j => yl (j + al)) fun j =>
 zl (j + al))]) ([[(0, false,
 Blk.cols ml
 [Col.int IntKind.i64 tl, Col.int IntKind.i64 vl, Col.int IntKind.i64 gl,
 Col.int IntKind.i64 wl, Col.int IntKind.i64 xl, Col.int IntKind.i64 yl,
 Col.int IntKind.i64 zl])]]) (6))
 (Kst (hd Try.f17 0) ([PV.loose (PA.mk (0) (7) al (0)) nl,
 PV.ptr (PA.mk (1) (0) (0) (0)),
 PV.ptr (PA.mk (2) (0) (0) (0)), PV.int IntKind.i64 (0 : Int),
 PV.int IntKind.i64 (0 : Int), PV.loose (PA.mk (0) (7) al (0)) nl,
 PV.int IntKind.i64 (↑nl : Int), PV.int IntKind.i64 (0 : Int)]) ([[(0, false,
 Blk.cols ml
 [Col.int IntKind.i64 tl, Col.int IntKind.i64 vl, Col.int IntKind.i64 gl,
 Col.int IntKind.i64 wl, Col.int IntKind.i64 xl, Col.int IntKind.i64 yl,
 Col.int IntKind.i64 zl]),
 (2, true,
 Blk.cells
 [PV.int IntKind.i64 (0 : Int), PV.int IntKind.i64 (0 : Int), PV.tf false]),
 (1, true,
 Blk.cells
 [PV.int IntKind.i64 kd, PV.int IntKind.i64 pc, PV.int IntKind.i64 pn,
 PV.int IntKind.i64 of, PV.int IntKind.i64 rs, PV.int IntKind.i64 rg,
 PV.int IntKind.i64 re])]]) (6)))
 (False)))))
 (False)
theorem te17 (test : Bool → Prop → Prop → Prop) (Kst : KS) (Kret : KR) (kd pc pn of rs rg re : Int) (al nl ml : Nat) (tl vl gl wl xl yl zl : Nat → Int) : run test Try.env true (xC test) true 400 ⟨17, [.cd (mkFn Try.f17).body], argT 0 [.agg [.int .i64 kd, .int .i64 pc, .int .i64 pn, .int .i64 of, .int .i64 rs, .int .i64 rg, .int .i64 re], .loose ⟨0, 7, al, 0⟩ nl], [[], [(0, (false, .cols ml [.int .i64 tl, .int .i64 vl, .int .i64 gl, .int .i64 wl, .int .i64 xl, .int .i64 yl, .int .i64 zl]))]], 1⟩ (proj 1 [1, 2, 4, 8, 9, 26, 27, 28] Kst Kret) =
  Te17 test Kst Kret kd pc pn of rs rg re al nl ml tl vl gl wl xl yl zl := by kernel_rfl
noncomputable def T17_0 (test : Bool → Prop → Prop → Prop) (Kst : KS) (Kret : KR) (kd pc pn of rs rg re : Int) (al nl ml : Nat) (tl vl gl wl xl yl zl : Nat → Int) (x0 x1 x2 : Int) : Prop :=
  test (decide (x2 < (↑nl : Int)))
 (test (decide ((0 : Int) ≤ x2 ∧ x2 < (↑nl : Int)))
 (test (decide (Int.toNat x2 + al < ml))
 (test (decide (Int.toNat x2 + al < ml))
 (test (decide (Int.toNat x2 + al < ml))
 (test (decide (Int.toNat x2 + al < ml))
 (test (decide (Int.toNat x2 + al < ml))
 (test (decide (Int.toNat x2 + al < ml))
 (test (decide (Int.toNat x2 + al < ml))
 (test (decide (yl (Int.toNat x2 + al) ≥ (0 : Int)))
 (test (lim IntKind.i64 (x2 + (1 : Int)))
 (Kst (hd Try.f17 0) ([PV.loose (PA.mk (0) (7) al (0)) nl,
 PV.ptr (PA.mk (1) (0) (0) (0)),
 PV.ptr (PA.mk (2) (0) (0) (0)), PV.int IntKind.i64 x0,
 PV.int IntKind.i64 x1, PV.loose (PA.mk (0) (7) al (0)) nl,
 PV.int IntKind.i64 (↑nl : Int), PV.int IntKind.i64 (x2 + (1 : Int))]) ([[(0, false,
 Blk.cols ml
 [Col.int IntKind.i64 tl, Col.int IntKind.i64 vl, Col.int IntKind.i64 gl,
 Col.int IntKind.i64 wl, Col.int IntKind.i64 xl, Col.int IntKind.i64 yl,
 Col.int IntKind.i64 zl]),
 (2, true,
 Blk.cells
 [PV.int IntKind.i64 (0 : Int), PV.int IntKind.i64 (0 : Int), PV.tf false]),
 (1, true,
 Blk.cells
 [PV.int IntKind.i64 kd, PV.int IntKind.i64 pc, PV.int IntKind.i64 pn,
 PV.int IntKind.i64 of, PV.int IntKind.i64 rs, PV.int IntKind.i64 rg,
 PV.int IntKind.i64 re])]]) (4))
 (False))
 (test (lim IntKind.i64 (x1 + (1 : Int)))
 (test (pn == (1 : Int))
 (test (lim IntKind.i64 (x0 + tl (Int.toNat x2 + al)))
 (test (lim IntKind.i64 (x2 + (1 : Int)))
 (Kst (hd Try.f17 0) ([PV.loose (PA.mk (0) (7) al (0)) nl,
 PV.ptr (PA.mk (1) (0) (0) (0)),
 PV.ptr (PA.mk (2) (0) (0) (0)),
 PV.int IntKind.i64 (x0 + tl (Int.toNat x2 + al)), PV.int IntKind.i64 (x1 + (1 : Int)),
 PV.loose (PA.mk (0) (7) al (0)) nl, PV.int IntKind.i64 (↑nl : Int),
 PV.int IntKind.i64 (x2 + (1 : Int))]) ([[(0, false,
 Blk.cols ml
 [Col.int IntKind.i64 tl, Col.int IntKind.i64 vl, Col.int IntKind.i64 gl,
 Col.int IntKind.i64 wl, Col.int IntKind.i64 xl, Col.int IntKind.i64 yl,
 Col.int IntKind.i64 zl]),
 (2, true,
 Blk.cells
 [PV.int IntKind.i64 (0 : Int), PV.int IntKind.i64 (0 : Int), PV.tf false]),
 (1, true,
 Blk.cells
 [PV.int IntKind.i64 kd, PV.int IntKind.i64 pc, PV.int IntKind.i64 pn,
 PV.int IntKind.i64 of, PV.int IntKind.i64 rs, PV.int IntKind.i64 rg,
 PV.int IntKind.i64 re])]]) (4))
 (False))
 (False))
 (test (lim IntKind.i64 (x0 + gl (Int.toNat x2 + al)))
 (test (lim IntKind.i64 (x2 + (1 : Int)))
 (Kst (hd Try.f17 0) ([PV.loose (PA.mk (0) (7) al (0)) nl,
 PV.ptr (PA.mk (1) (0) (0) (0)),
 PV.ptr (PA.mk (2) (0) (0) (0)),
 PV.int IntKind.i64 (x0 + gl (Int.toNat x2 + al)), PV.int IntKind.i64 (x1 + (1 : Int)),
 PV.loose (PA.mk (0) (7) al (0)) nl, PV.int IntKind.i64 (↑nl : Int),
 PV.int IntKind.i64 (x2 + (1 : Int))]) ([[(0, false,
 Blk.cols ml
 [Col.int IntKind.i64 tl, Col.int IntKind.i64 vl, Col.int IntKind.i64 gl,
 Col.int IntKind.i64 wl, Col.int IntKind.i64 xl, Col.int IntKind.i64 yl,
 Col.int IntKind.i64 zl]),
 (2, true,
 Blk.cells
 [PV.int IntKind.i64 (0 : Int), PV.int IntKind.i64 (0 : Int), PV.tf false]),
 (1, true,
 Blk.cells
 [PV.int IntKind.i64 kd, PV.int IntKind.i64 pc, PV.int IntKind.i64 pn,
 PV.int IntKind.i64 of, PV.int IntKind.i64 rs, PV.int IntKind.i64 rg,
 PV.int IntKind.i64 re])]]) (4))
 (False))
 (False)))
 (False)))
 (False))
 (False))
 (False))
 (False))
 (False))
 (False))
 (False))
 (False))
 (test (decide (al + nl ≤ ml ∧ nl ≤ 1000000))
 (test (x1 == (0 : Int))
 (Kret (PV.tup
 [PV.agg
 [PV.int IntKind.i64 (S.max0 (fun j => zl (j + al)) nl),
 PV.int IntKind.i64 (0 : Int), PV.tf false],
 PV.int IntKind.i64 (0 : Int)]) ([[(0, false,
 Blk.cols ml
 [Col.int IntKind.i64 tl, Col.int IntKind.i64 vl, Col.int IntKind.i64 gl,
 Col.int IntKind.i64 wl, Col.int IntKind.i64 xl, Col.int IntKind.i64 yl,
 Col.int IntKind.i64 zl])]]) (5))
 (test (lim IntKind.i64 (x1 * of))
 (test (lim IntKind.i64 (x0 + x1 * of))
 (test (lim IntKind.i64 ((2 : Int) * (x0 + x1 * of)))
 (test (lim IntKind.i64 (x1 * rs))
 (test (lim IntKind.i64 ((2 : Int) * (x0 + x1 * of) + x1 * rs))
 (test (lim IntKind.i64 ((2 : Int) * x1))
 (test (lim IntKind.i64 ((2 : Int) * x1 * rs))
 (test (decide
 (((-4611686018427387904 : Int) ≤ (2 : Int) * (x0 + x1 * of) + x1 * rs ∧
 (2 : Int) * (x0 + x1 * of) + x1 * rs ≤ (4611686018427387904 : Int)) ∧
 (0 : Int) < (2 : Int) * x1 * rs ∧ (2 : Int) * x1 * rs ≤ (4611686018427387904 : Int)))
 (test (lim IntKind.i64 (rs * S.fdv ((2 : Int) * (x0 + x1 * of) + x1 * rs) ((2 : Int) * x1 * rs)))
 (test (lim IntKind.i64 (-rg))
 (test (decide (rs * S.fdv ((2 : Int) * (x0 + x1 * of) + x1 * rs) ((2 : Int) * x1 * rs) ≥ -rg))
 (test (decide (rs * S.fdv ((2 : Int) * (x0 + x1 * of) + x1 * rs) ((2 : Int) * x1 * rs) ≤ rg))
 (Kret (PV.tup
 [PV.agg
 [PV.int IntKind.i64 (S.max0 (fun j => zl (j + al)) nl),
 PV.int IntKind.i64 (rs * S.fdv ((2 : Int) * (x0 + x1 * of) + x1 * rs) ((2 : Int) * x1 * rs)),
 PV.tf true],
 PV.int IntKind.i64 (0 : Int)]) ([[(0, false,
 Blk.cols ml
 [Col.int IntKind.i64 tl, Col.int IntKind.i64 vl, Col.int IntKind.i64 gl,
 Col.int IntKind.i64 wl, Col.int IntKind.i64 xl, Col.int IntKind.i64 yl,
 Col.int IntKind.i64 zl])]]) (6))
 (Kret (PV.tup
 [PV.agg
 [PV.int IntKind.i64 (S.max0 (fun j => zl (j + al)) nl),
 PV.int IntKind.i64 (0 : Int), PV.tf false],
 PV.int IntKind.i64 (0 : Int)]) ([[(0, false,
 Blk.cols ml
 [Col.int IntKind.i64 tl, Col.int IntKind.i64 vl, Col.int IntKind.i64 gl,
 Col.int IntKind.i64 wl, Col.int IntKind.i64 xl, Col.int IntKind.i64 yl,
 Col.int IntKind.i64 zl])]]) (6)))
 (Kret (PV.tup
 [PV.agg
 [PV.int IntKind.i64 (S.max0 (fun j => zl (j + al)) nl),
 PV.int IntKind.i64 (0 : Int), PV.tf false],
 PV.int IntKind.i64 (0 : Int)]) ([[(0, false,
 Blk.cols ml
 [Col.int IntKind.i64 tl, Col.int IntKind.i64 vl, Col.int IntKind.i64 gl,
 Col.int IntKind.i64 wl, Col.int IntKind.i64 xl, Col.int IntKind.i64 yl,
 Col.int IntKind.i64 zl])]]) (6)))
 (False))
 (False))
 (False))
 (False))
 (False))
 (False))
 (False))
 (False))
 (False))
 (False)))
 (False))
theorem t17_0 (test : Bool → Prop → Prop → Prop) (Kst : KS) (Kret : KR) (kd pc pn of rs rg re : Int) (al nl ml : Nat) (tl vl gl wl xl yl zl : Nat → Int) (x0 x1 x2 : Int) : run test Try.env true (xC test) true 400 ⟨17, hd Try.f17 0, zipT [1, 2, 4, 8, 9, 26, 27, 28] [PV.loose (PA.mk (0) (7) al (0)) nl,
 PV.ptr (PA.mk (1) (0) (0) (0)),
 PV.ptr (PA.mk (2) (0) (0) (0)), PV.int IntKind.i64 x0,
 PV.int IntKind.i64 x1, PV.loose (PA.mk (0) (7) al (0)) nl,
 PV.int IntKind.i64 (↑nl : Int), PV.int IntKind.i64 x2], [[(1, (true, Blk.cells
 [PV.int IntKind.i64 kd, PV.int IntKind.i64 pc, PV.int IntKind.i64 pn,
 PV.int IntKind.i64 of, PV.int IntKind.i64 rs, PV.int IntKind.i64 rg,
 PV.int IntKind.i64 re])), (2, (true, Blk.cells [PV.int IntKind.i64 (0 : Int), PV.int IntKind.i64 (0 : Int), PV.tf false]))], [(0, (false, .cols ml [.int .i64 tl, .int .i64 vl, .int .i64 gl, .int .i64 wl, .int .i64 xl, .int .i64 yl, .int .i64 zl]))]], 3⟩ (proj 1 [1, 2, 4, 8, 9, 26, 27, 28] Kst Kret) =
  T17_0 test Kst Kret kd pc pn of rs rg re al nl ml tl vl gl wl xl yl zl x0 x1 x2 := by kernel_rfl
theorem be17 (kd pc pn of rs rg re : Int) (al nl ml : Nat) (tl vl gl wl xl yl zl : Nat → Int) (Kst : KS) (Kret : KR) (x : St17 ⊕ Rt17) (hS : HS 1 400 ((I17 kd pc pn of rs rg re al nl ml tl vl gl wl xl yl zl)) Kst x) (hR : HR 1 400 ((V17 kd pc pn of rs rg re al nl ml tl vl gl wl xl yl zl)) (fun r => [newL (1 + 1) ((N17 kd pc pn of rs rg re al nl ml tl vl gl wl xl yl zl) r) ++ [(0, (false, .cols ml [.int .i64 tl, .int .i64 vl, .int .i64 gl, .int .i64 wl, .int .i64 xl, .int .i64 yl, .int .i64 zl]))]]) Kret x) (h : (bif (S.insE kd pc pn of rs rg re != (0 : Int))
 then (some (.inr ((0 : Int), (0 : Int), false, S.insE kd pc pn of rs rg re)))
 else (bif (kd != (1 : Int))
 then (some (.inr ((0 : Int), (0 : Int), false, (8 : Int))))
 else (bif (decide (al + nl ≤ ml ∧ nl ≤ 1000000))
 then (bif ((S.parE nl (fun j => tl (j + al)) (fun j => vl (j + al)) (fun j => gl (j + al))
 (fun j => wl (j + al)) (fun j => xl (j + al)) (fun j => yl (j + al)) fun j =>
 zl (j + al)) !=
 (0 : Int))
 then (some (.inr ((0 : Int), (0 : Int), false, S.parE nl (fun j => tl (j + al)) (fun j => vl (j + al)) (fun j => gl (j + al))
 (fun j => wl (j + al)) (fun j => xl (j + al)) (fun j => yl (j + al)) fun j =>
 zl (j + al))))
 else (some (.inl (.h0 ((0 : Int)) ((0 : Int)) ((0 : Int))))))
 else (none))) : Option (St17 ⊕ Rt17)) = some x) : Te17 cond Kst Kret kd pc pn of rs rg re al nl ml tl vl gl wl xl yl zl := by
  unfold Te17
  exact cond_yes rfl (bif_split h
   (fun c0 h => cond_yes c0 (ret_at hR _ h (fun n => n) rfl rfl rfl (rn_tup ⟨(rn_agg ⟨(rn_int rfl), (rn_int rfl), (rn_bool_tf rfl), trivial⟩), (rn_int rfl), trivial⟩) rfl (entl_bor (use_lo rfl) rfl rfl entl_nil)))
   (fun c0 h => bif_split h
   (fun c1 h => cond_yes rfl (ret_at hR _ h (fun n => n) rfl rfl rfl (rn_tup ⟨(rn_agg ⟨(rn_int rfl), (rn_int rfl), (rn_bool_tf rfl), trivial⟩), (rn_int rfl), trivial⟩) rfl (entl_bor (use_lo rfl) rfl rfl entl_nil)))
   (fun c1 h => cond_no rfl (bif_split h
   (fun c2 h => bif_split h
   (fun c3 h => ret_at hR _ h (fun n => n) rfl rfl rfl (rn_tup ⟨(rn_agg ⟨(rn_int rfl), (rn_int rfl), (rn_bool_tf rfl), trivial⟩), (rn_int rfl), trivial⟩) rfl (entl_bor (use_lo rfl) rfl rfl entl_nil))
   (fun c3 h => stop_at hS _ h (fun n => bif Nat.beq n 1 then 1 else bif Nat.beq n 2 then 2 else n) rfl rfl rfl ⟨(rn_loose (use_lo rfl) rfl rfl rfl), ⟨(rn_ptr (use_own rfl) rfl rfl), ⟨(rn_ptr (use_own rfl) rfl rfl), ⟨(rn_int rfl), ⟨(rn_int rfl), ⟨(rn_loose (use_lo rfl) rfl rfl rfl), ⟨(rn_int rfl), ⟨(rn_int rfl), trivial⟩⟩⟩⟩⟩⟩⟩⟩ rfl (entl_b (use_own rfl) rfl (by simp) (rb_cells ⟨(rn_int rfl), (rn_int rfl), (rn_int rfl), (rn_int rfl), (rn_int rfl), (rn_int rfl), (rn_int rfl), trivial⟩) (entl_b (use_own rfl) rfl (by simp) (rb_cells ⟨(rn_int rfl), (rn_int rfl), (rn_tf rfl), trivial⟩) (entl_bor (use_lo rfl) rfl rfl entl_nil)))))
   (fun c2 h => no_some h)))))
theorem b17_0 (kd pc pn of rs rg re : Int) (al nl ml : Nat) (tl vl gl wl xl yl zl : Nat → Int) (Kst : KS) (Kret : KR) (x : St17 ⊕ Rt17) (hS : HS 1 400 ((I17 kd pc pn of rs rg re al nl ml tl vl gl wl xl yl zl)) Kst x) (hR : HR 1 400 ((V17 kd pc pn of rs rg re al nl ml tl vl gl wl xl yl zl)) (fun r => [newL (1 + 1) ((N17 kd pc pn of rs rg re al nl ml tl vl gl wl xl yl zl) r) ++ [(0, (false, .cols ml [.int .i64 tl, .int .i64 vl, .int .i64 gl, .int .i64 wl, .int .i64 xl, .int .i64 yl, .int .i64 zl]))]]) Kret x) (x0 x1 x2 : Int) (h : (bif (decide (x2 < (↑nl : Int)))
 then (bif (decide ((0 : Int) ≤ x2 ∧ x2 < (↑nl : Int)))
 then (bif (decide (Int.toNat x2 + al < ml))
 then (bif (decide (yl (Int.toNat x2 + al) ≥ (0 : Int)))
 then (bif (lim IntKind.i64 (x2 + (1 : Int)))
 then (some (.inl (.h0 (x0) (x1) (x2 + (1 : Int)))))
 else (none))
 else (bif (lim IntKind.i64 (x1 + (1 : Int)))
 then (bif (pn == (1 : Int))
 then (bif (lim IntKind.i64 (x0 + tl (Int.toNat x2 + al)))
 then (bif (lim IntKind.i64 (x2 + (1 : Int)))
 then (some (.inl (.h0 (x0 + tl (Int.toNat x2 + al)) (x1 + (1 : Int)) (x2 + (1 : Int)))))
 else (none))
 else (none))
 else (bif (lim IntKind.i64 (x0 + gl (Int.toNat x2 + al)))
 then (bif (lim IntKind.i64 (x2 + (1 : Int)))
 then (some (.inl (.h0 (x0 + gl (Int.toNat x2 + al)) (x1 + (1 : Int)) (x2 + (1 : Int)))))
 else (none))
 else (none)))
 else (none)))
 else (none))
 else (none))
 else (bif (decide (al + nl ≤ ml ∧ nl ≤ 1000000))
 then (bif (x1 == (0 : Int))
 then (some (.inr (S.max0 (fun j => zl (j + al)) nl, (0 : Int), false, (0 : Int))))
 else (bif (lim IntKind.i64 (x1 * of))
 then (bif (lim IntKind.i64 (x0 + x1 * of))
 then (bif (lim IntKind.i64 ((2 : Int) * (x0 + x1 * of)))
 then (bif (lim IntKind.i64 (x1 * rs))
 then (bif (lim IntKind.i64 ((2 : Int) * (x0 + x1 * of) + x1 * rs))
 then (bif (lim IntKind.i64 ((2 : Int) * x1))
 then (bif (lim IntKind.i64 ((2 : Int) * x1 * rs))
 then (bif (decide
 (((-4611686018427387904 : Int) ≤ (2 : Int) * (x0 + x1 * of) + x1 * rs ∧
 (2 : Int) * (x0 + x1 * of) + x1 * rs ≤ (4611686018427387904 : Int)) ∧
 (0 : Int) < (2 : Int) * x1 * rs ∧ (2 : Int) * x1 * rs ≤ (4611686018427387904 : Int)))
 then (bif (lim IntKind.i64 (rs * S.fdv ((2 : Int) * (x0 + x1 * of) + x1 * rs) ((2 : Int) * x1 * rs)))
 then (bif (lim IntKind.i64 (-rg))
 then (bif (decide (rs * S.fdv ((2 : Int) * (x0 + x1 * of) + x1 * rs) ((2 : Int) * x1 * rs) ≥ -rg))
 then (bif (decide (rs * S.fdv ((2 : Int) * (x0 + x1 * of) + x1 * rs) ((2 : Int) * x1 * rs) ≤ rg))
 then (some (.inr (S.max0 (fun j => zl (j + al)) nl, rs * S.fdv ((2 : Int) * (x0 + x1 * of) + x1 * rs) ((2 : Int) * x1 * rs), true, (0 : Int))))
 else (some (.inr (S.max0 (fun j => zl (j + al)) nl, (0 : Int), false, (0 : Int)))))
 else (some (.inr (S.max0 (fun j => zl (j + al)) nl, (0 : Int), false, (0 : Int)))))
 else (none))
 else (none))
 else (none))
 else (none))
 else (none))
 else (none))
 else (none))
 else (none))
 else (none))
 else (none)))
 else (none)) : Option (St17 ⊕ Rt17)) = some x) : T17_0 cond Kst Kret kd pc pn of rs rg re al nl ml tl vl gl wl xl yl zl x0 x1 x2 := by
  unfold T17_0
  refine bif_split h
   (fun c0 h => bif_split h
   (fun c1 h => bif_split h
   (fun c2 h => cond_yes c2 (cond_yes c2 (cond_yes c2 (cond_yes c2 (cond_yes c2 (cond_yes c2 (bif_split h
   (fun c3 h => bif_split h
   (fun c4 h => ?_)
   (fun c4 h => ?_))
   (fun c3 h => bif_split h
   (fun c4 h => bif_split h
   (fun c5 h => bif_split h
   (fun c6 h => bif_split h
   (fun c7 h => ?_)
   (fun c7 h => ?_))
   (fun c6 h => ?_))
   (fun c5 h => bif_split h
   (fun c6 h => bif_split h
   (fun c7 h => ?_)
   (fun c7 h => ?_))
   (fun c6 h => ?_)))
   (fun c4 h => ?_)))))))))
   (fun c2 h => ?_))
   (fun c1 h => ?_))
   (fun c0 h => bif_split h
   (fun c1 h => bif_split h
   (fun c2 h => ?_)
   (fun c2 h => bif_split h
   (fun c3 h => bif_split h
   (fun c4 h => bif_split h
   (fun c5 h => bif_split h
   (fun c6 h => bif_split h
   (fun c7 h => bif_split h
   (fun c8 h => bif_split h
   (fun c9 h => bif_split h
   (fun c10 h => bif_split h
   (fun c11 h => bif_split h
   (fun c12 h => bif_split h
   (fun c13 h => bif_split h
   (fun c14 h => ?_)
   (fun c14 h => ?_))
   (fun c13 h => ?_))
   (fun c12 h => ?_))
   (fun c11 h => ?_))
   (fun c10 h => ?_))
   (fun c9 h => ?_))
   (fun c8 h => ?_))
   (fun c7 h => ?_))
   (fun c6 h => ?_))
   (fun c5 h => ?_))
   (fun c4 h => ?_))
   (fun c3 h => ?_)))
   (fun c1 h => ?_))
  all_goals first
    | exact no_some h
    | exact ret_at hR _ h (fun n => n) rfl rfl rfl (rn_tup ⟨(rn_agg ⟨(rn_int rfl), (rn_int rfl), (rn_bool_tf rfl), trivial⟩), (rn_int rfl), trivial⟩) rfl (entl_bor (use_lo rfl) rfl rfl entl_nil)
    | exact stop_at hS _ h (fun n => bif Nat.beq n 1 then 1 else bif Nat.beq n 2 then 2 else n) rfl rfl rfl ⟨(rn_loose (use_lo rfl) rfl rfl rfl), ⟨(rn_ptr (use_own rfl) rfl rfl), ⟨(rn_ptr (use_own rfl) rfl rfl), ⟨(rn_int rfl), ⟨(rn_int rfl), ⟨(rn_loose (use_lo rfl) rfl rfl rfl), ⟨(rn_int rfl), ⟨(rn_int rfl), trivial⟩⟩⟩⟩⟩⟩⟩⟩ rfl (entl_b (use_own rfl) rfl (by simp) (rb_cells ⟨(rn_int rfl), (rn_int rfl), (rn_int rfl), (rn_int rfl), (rn_int rfl), (rn_int rfl), (rn_int rfl), trivial⟩) (entl_b (use_own rfl) rfl (by simp) (rb_cells ⟨(rn_int rfl), (rn_int rfl), (rn_tf rfl), trivial⟩) (entl_bor (use_lo rfl) rfl rfl entl_nil)))
theorem a17 (kd pc pn of rs rg re : Int) (al nl ml : Nat) (tl vl gl wl xl yl zl : Nat → Int) {r : Rt17} (h : Goes ((q17 kd pc pn of rs rg re al nl ml tl vl gl wl xl yl zl)) ((p17 kd pc pn of rs rg re al nl ml tl vl gl wl xl yl zl)) r) : CallR Try.prog 17 [.agg [.int .i64 kd, .int .i64 pc, .int .i64 pn, .int .i64 of, .int .i64 rs, .int .i64 rg, .int .i64 re], .loose ⟨0, 7, al, 0⟩ nl] [[(0, (false, .cols ml [.int .i64 tl, .int .i64 vl, .int .i64 gl, .int .i64 wl, .int .i64 xl, .int .i64 yl, .int .i64 zl]))]] 1 ((V17 kd pc pn of rs rg re al nl ml tl vl gl wl xl yl zl) r) ((fun r => [newL (1 + 1) ((N17 kd pc pn of rs rg re al nl ml tl vl gl wl xl yl zl) r) ++ [(0, (false, .cols ml [.int .i64 tl, .int .i64 vl, .int .i64 gl, .int .i64 wl, .int .i64 xl, .int .i64 yl, .int .i64 zl]))]]) r) 400 ∧ ∃ F, Try.prog.funcs[17]? = some F ∧ F.body.isSome = true ∧ (F.name == "runtime.NumGoroutine") = false := by
  refine dec_calls (f := 17) (lo := 1) (hi := 400) (H := [[(0, (false, .cols ml [.int .i64 tl, .int .i64 vl, .int .i64 gl, .int .i64 wl, .int .i64 xl, .int .i64 yl, .int .i64 zl]))]]) (args := [.agg [.int .i64 kd, .int .i64 pc, .int .i64 pn, .int .i64 of, .int .i64 rs, .int .i64 rg, .int .i64 re], .loose ⟨0, 7, al, 0⟩ nl]) Try.envOk Try.mixed xC_ok ((I17 kd pc pn of rs rg re al nl ml tl vl gl wl xl yl zl)) ((V17 kd pc pn of rs rg re al nl ml tl vl gl wl xl yl zl)) (fun r => [newL (1 + 1) ((N17 kd pc pn of rs rg re al nl ml tl vl gl wl xl yl zl) r) ++ [(0, (false, .cols ml [.int .i64 tl, .int .i64 vl, .int .i64 gl, .int .i64 wl, .int .i64 xl, .int .i64 yl, .int .i64 zl]))]]) (fn := mkFn Try.f17) (ts := [1, 2, 4, 8, 9, 26, 27, 28]) (n := 400) rfl (by decide) (by simp) (names_of rfl) ?_ ?_ ?_ h
  · intro s; cases s <;> exact ⟨hd_ok _ _, by simp [I17], names_of rfl, Nat.le_of_ble_eq_true rfl⟩
  · intro Kst Kret x hS hR h
    exact Holds.eq (te17 cond Kst Kret kd pc pn of rs rg re al nl ml tl vl gl wl xl yl zl) (be17 kd pc pn of rs rg re al nl ml tl vl gl wl xl yl zl Kst Kret x hS hR h)
  · intro Kst Kret x hS hR s h
    cases s with
    | h0 x0 x1 x2 => exact Holds.eq (t17_0 cond Kst Kret kd pc pn of rs rg re al nl ml tl vl gl wl xl yl zl x0 x1 x2) (b17_0 kd pc pn of rs rg re al nl ml tl vl gl wl xl yl zl Kst Kret x hS hR x0 x1 x2 h)
noncomputable def k17  : Con := ⟨17, [.agg [.plain (.int .i64), .plain (.int .i64), .plain (.int .i64), .plain (.int .i64), .plain (.int .i64), .plain (.int .i64), .plain (.int .i64)], .one (.list [.int .i64, .int .i64, .int .i64, .int .i64, .int .i64, .int .i64, .int .i64])], fun (x : (Int × Int × Int × Int × Int × Int × Int × Unit) × (Nat × Nat × Nat × (Nat → Int) × (Nat → Int) × (Nat → Int) × (Nat → Int) × (Nat → Int) × (Nat → Int) × (Nat → Int) × Unit) × Unit) => (fun (kd : Int) (pc : Int) (pn : Int) (of : Int) (rs : Int) (rg : Int) (re : Int) (al nl ml : Nat) (tl : Nat → Int) (vl : Nat → Int) (gl : Nat → Int) (wl : Nat → Int) (xl : Nat → Int) (yl : Nat → Int) (zl : Nat → Int) => decide (al + nl ≤ ml ∧ nl ≤ 1000000)) x.1.1 x.1.2.1 x.1.2.2.1 x.1.2.2.2.1 x.1.2.2.2.2.1 x.1.2.2.2.2.2.1 x.1.2.2.2.2.2.2.1 x.2.1.1 x.2.1.2.1 x.2.1.2.2.1 x.2.1.2.2.2.1 x.2.1.2.2.2.2.1 x.2.1.2.2.2.2.2.1 x.2.1.2.2.2.2.2.2.1 x.2.1.2.2.2.2.2.2.2.1 x.2.1.2.2.2.2.2.2.2.2.1 x.2.1.2.2.2.2.2.2.2.2.2.1, fun (x : (Int × Int × Int × Int × Int × Int × Int × Unit) × (Nat × Nat × Nat × (Nat → Int) × (Nat → Int) × (Nat → Int) × (Nat → Int) × (Nat → Int) × (Nat → Int) × (Nat → Int) × Unit) × Unit) => (fun (kd : Int) (pc : Int) (pn : Int) (of : Int) (rs : Int) (rg : Int) (re : Int) (al nl ml : Nat) (tl : Nat → Int) (vl : Nat → Int) (gl : Nat → Int) (wl : Nat → Int) (xl : Nat → Int) (yl : Nat → Int) (zl : Nat → Int) => (V17 kd pc pn of rs rg re al nl ml tl vl gl wl xl yl zl) (S.posS kd pc pn of rs rg re nl (fun j => tl (j + al)) (fun j => vl (j + al)) (fun j => gl (j + al)) (fun j => wl (j + al)) (fun j => xl (j + al)) (fun j => yl (j + al)) (fun j => zl (j + al)))) x.1.1 x.1.2.1 x.1.2.2.1 x.1.2.2.2.1 x.1.2.2.2.2.1 x.1.2.2.2.2.2.1 x.1.2.2.2.2.2.2.1 x.2.1.1 x.2.1.2.1 x.2.1.2.2.1 x.2.1.2.2.2.1 x.2.1.2.2.2.2.1 x.2.1.2.2.2.2.2.1 x.2.1.2.2.2.2.2.2.1 x.2.1.2.2.2.2.2.2.2.1 x.2.1.2.2.2.2.2.2.2.2.1 x.2.1.2.2.2.2.2.2.2.2.2.1, fun (x : (Int × Int × Int × Int × Int × Int × Int × Unit) × (Nat × Nat × Nat × (Nat → Int) × (Nat → Int) × (Nat → Int) × (Nat → Int) × (Nat → Int) × (Nat → Int) × (Nat → Int) × Unit) × Unit) => (fun (kd : Int) (pc : Int) (pn : Int) (of : Int) (rs : Int) (rg : Int) (re : Int) (al nl ml : Nat) (tl : Nat → Int) (vl : Nat → Int) (gl : Nat → Int) (wl : Nat → Int) (xl : Nat → Int) (yl : Nat → Int) (zl : Nat → Int) => (N17 kd pc pn of rs rg re al nl ml tl vl gl wl xl yl zl) (S.posS kd pc pn of rs rg re nl (fun j => tl (j + al)) (fun j => vl (j + al)) (fun j => gl (j + al)) (fun j => wl (j + al)) (fun j => xl (j + al)) (fun j => yl (j + al)) (fun j => zl (j + al)))) x.1.1 x.1.2.1 x.1.2.2.1 x.1.2.2.2.1 x.1.2.2.2.2.1 x.1.2.2.2.2.2.1 x.1.2.2.2.2.2.2.1 x.2.1.1 x.2.1.2.1 x.2.1.2.2.1 x.2.1.2.2.2.1 x.2.1.2.2.2.2.1 x.2.1.2.2.2.2.2.1 x.2.1.2.2.2.2.2.2.1 x.2.1.2.2.2.2.2.2.2.1 x.2.1.2.2.2.2.2.2.2.2.1 x.2.1.2.2.2.2.2.2.2.2.2.1, fun _ _ => .dead⟩
theorem s17' (kd pc pn of rs rg re : Int) (al nl ml : Nat) (tl vl gl wl xl yl zl : Nat → Int) (hp : al + nl ≤ ml ∧ nl ≤ 1000000) (hn : S.parE nl (fun j => tl (j + al)) (fun j => vl (j + al)) (fun j => gl (j + al)) (fun j => wl (j + al)) (fun j => xl (j + al)) (fun j => yl (j + al)) (fun j => zl (j + al)) = 0) (hi : S.kinE kd pc pn of rs rg re 1 = 0) : ∀ (k i : Nat), i + k = nl → Comes (q17 kd pc pn of rs rg re al nl ml tl vl gl wl xl yl zl) (.h0 (S.sumN (S.posT pn (fun j => tl (j + al)) (fun j => gl (j + al)) fun j => yl (j + al)) i) (S.cntN (S.liv fun j => yl (j + al)) i) (i : Int)) (S.posR of rs rg (S.max0 (fun j => zl (j + al)) nl) (S.cntN (S.liv fun j => yl (j + al)) nl) (S.sumN (S.posT pn (fun j => tl (j + al)) (fun j => gl (j + al)) fun j => yl (j + al)) nl)) := by
  obtain ⟨hp1, hp2⟩ := hp
  obtain ⟨i1, i2, i3, i4, i5, i6, i7, i8, i9⟩ := ins_ok hi
  obtain ⟨hn1, hn2⟩ := par_ok hn
  intro k
  induction k with
  | zero =>
    intro i hi
    obtain rfl : nl = i := by omega
    have hb := cnt_bnd (p := (S.liv fun j => yl (j + al))) (n := nl)
    have hs := pos_bnd (pn := pn) hn2
    generalize S.cntN (S.liv fun j => yl (j + al)) nl = v at *
    generalize S.sumN (S.posT pn (fun j => tl (j + al)) (fun j => gl (j + al)) fun j => yl (j + al)) nl = u at *
    unfold S.posR
    by_cases h0 : v = 0
    · rw [if_pos h0]
      apply Comes.of
      show Goes _ _ _
      (first | rw [q17] | unfold q17)
      repeat' first
        | with_reducible refine goes_if (fun h => ?_) (fun h => ?_) <;> (try simp only [SH] at h)
        | exact goes_none.mpr (by omega)
      all_goals first | (exfalso; omega) | exact goes_inr.mpr rfl
    · rw [if_neg h0]
      obtain ⟨b1, b2, b3, b4⟩ := pv_b (n := v) (by omega) hs i7 i5
      have hcm := Int.mul_comm (S.fdv (2 * (u + v * of) + v * rs) (2 * v * rs)) rs
      unfold S.posV at *
      unfold S.good
      apply Comes.of
      show Goes _ _ _
      rw [q17]
      rw [b3] at *
      try rw [hcm]
      generalize rs * S.fdv _ _ = D at *
      generalize v * rs = D2 at *
      generalize v * of = D3 at *
      repeat' first
        | with_reducible refine goes_if (fun h => ?_) (fun h => ?_) <;> (try simp only [SH] at h)
        | exact goes_none.mpr (by omega)
      all_goals first | (exfalso; omega) | (rw [if_pos (by omega)]; exact goes_inr.mpr rfl) | (rw [if_neg (by omega)]; exact goes_inr.mpr rfl)
  | succ k ih =>
    intro i hi
    have ih := ih (i + 1) (by omega)
    have hb := cnt_bnd (p := (S.liv fun j => yl (j + al))) (n := i)
    have hs := pos_bnd (pn := pn) (n := i) fun j hj => hn2 j (by omega)
    have hj := hn2 i (by omega)
    (try dsimp only at hj)
    have e2 : S.cntN (S.liv fun j => yl (j + al)) (i + 1) = if yl (i + al) < 0 then S.cntN (S.liv fun j => yl (j + al)) i + 1 else S.cntN (S.liv fun j => yl (j + al)) i := by
      simp only [S.cntN, S.liv, decide_eq_true_eq]
    have e : S.sumN (S.posT pn (fun j => tl (j + al)) (fun j => gl (j + al)) fun j => yl (j + al)) (i + 1) = S.sumN (S.posT pn (fun j => tl (j + al)) (fun j => gl (j + al)) fun j => yl (j + al)) i + (if yl (i + al) < 0 then (if pn = 1 then tl (i + al) else gl (i + al)) else 0) := rfl
    rw [e2, e] at ih
    generalize S.cntN (S.liv fun j => yl (j + al)) i = v at *
    generalize S.sumN (S.posT pn (fun j => tl (j + al)) (fun j => gl (j + al)) fun j => yl (j + al)) i = u at *
    generalize S.posR _ _ _ _ _ _ = R at *
    by_cases hy : yl (i + al) < 0
    · by_cases hx : pn = 1
      · simp only [if_pos hy, if_pos hx] at ih
        apply Comes.of
        show Goes _ _ _
        (first | rw [q17] | unfold q17)
        repeat' first
          | with_reducible refine goes_if (fun h => ?_) (fun h => ?_) <;> (try simp only [SH] at h)
          | exact goes_none.mpr (by omega)
        all_goals first | (exfalso; omega) | exact ih
      · simp only [if_pos hy, if_neg hx] at ih
        apply Comes.of
        show Goes _ _ _
        (first | rw [q17] | unfold q17)
        repeat' first
          | with_reducible refine goes_if (fun h => ?_) (fun h => ?_) <;> (try simp only [SH] at h)
          | exact goes_none.mpr (by omega)
        all_goals first | (exfalso; omega) | exact ih
    · simp only [if_neg hy, Int.add_zero] at ih
      apply Comes.of
      show Goes _ _ _
      (first | rw [q17] | unfold q17)
      repeat' first
        | with_reducible refine goes_if (fun h => ?_) (fun h => ?_) <;> (try simp only [SH] at h)
        | exact goes_none.mpr (by omega)
      all_goals first | (exfalso; omega) | exact ih
theorem s17 (kd pc pn of rs rg re : Int) (al nl ml : Nat) (tl vl gl wl xl yl zl : Nat → Int) (hp : al + nl ≤ ml ∧ nl ≤ 1000000) : Goes ((q17 kd pc pn of rs rg re al nl ml tl vl gl wl xl yl zl)) ((p17 kd pc pn of rs rg re al nl ml tl vl gl wl xl yl zl)) (S.posS kd pc pn of rs rg re nl (fun j => tl (j + al)) (fun j => vl (j + al)) (fun j => gl (j + al)) (fun j => wl (j + al)) (fun j => xl (j + al)) (fun j => yl (j + al)) (fun j => zl (j + al))) := by
  unfold S.posS
  by_cases hi : S.kinE kd pc pn of rs rg re 1 = 0
  · rw [if_pos hi]
    have hi' := ins_ok hi
    by_cases hn : S.parE nl (fun j => tl (j + al)) (fun j => vl (j + al)) (fun j => gl (j + al)) (fun j => wl (j + al)) (fun j => xl (j + al)) (fun j => yl (j + al)) (fun j => zl (j + al)) = 0
    · rw [if_pos hn]
      have hm := s17' kd pc pn of rs rg re al nl ml tl vl gl wl xl yl zl hp hn hi nl 0 (by omega)
      show Goes _ _ _
      unfold p17
      repeat' first
        | with_reducible refine goes_if (fun h => ?_) (fun h => ?_) <;> (try simp only [SH] at h)
        | exact goes_none.mpr (by omega)
      all_goals first | (exfalso; omega) | exact hm
    · rw [if_neg hn]
      show Goes _ _ _
      unfold p17
      repeat' first
        | with_reducible refine goes_if (fun h => ?_) (fun h => ?_) <;> (try simp only [SH] at h)
        | exact goes_none.mpr (by omega)
      all_goals first | (exfalso; omega) | exact goes_inr.mpr rfl
  · rw [if_neg hi]
    unfold S.kinE at *
    show Goes _ _ _
    unfold p17
    repeat' first
      | with_reducible refine goes_if (fun h => ?_) (fun h => ?_) <;> (try simp only [SH] at h)
      | exact goes_none.mpr (by omega)
    all_goals first
      | (exfalso; omega)
      | (rw [if_neg (by omega)]; exact goes_inr.mpr rfl)
      | (rw [if_pos (by omega), if_neg (by omega)]; exact goes_inr.mpr rfl)
      | (exfalso; apply hi; rw [if_pos (by omega), if_pos (by omega)])
theorem k17_ok  : k17.ok Try.prog := by
  intro x hx
  obtain ⟨⟨kd, pc, pn, of, rs, rg, re, _⟩, ⟨al, nl, ml, tl, vl, gl, wl, xl, yl, zl, _⟩, _⟩ := x
  obtain ⟨h1, h2⟩ := a17 kd pc pn of rs rg re al nl ml tl vl gl wl xl yl zl (s17 kd pc pn of rs rg re al nl ml tl vl gl wl xl yl zl (of_dec hx rfl))
  exact ⟨⟨400, (by decide : 1 + 1 + 0 ≤ 400), h1⟩, h2⟩
noncomputable def k11  : Con := ⟨11, [], fun _ => true, fun _ => .bool true, fun _ => [], fun _ _ => .dead⟩
theorem te11 (Kst : KS) (Kret : KR) : run cond Try.env true noX false 4000 ⟨11, [.cd (mkFn Try.f11).body], [], [[], []], 0⟩ (proj 0 [] Kst Kret) = Kret (.tf true) [[]] 567 := by kernel_rfl
theorem k11_ok  : k11.ok Try.prog := awake_ok (fn := mkFn Try.f11) (hi := 568) (n := 4000) Try.envOk Try.mixed noX_ok rfl (by decide) (by decide : Nat.ble 567 568 = true) te11
noncomputable def xE (test : Bool → Prop → Prop → Prop) : Ext := consX test [k11, k12, k15, k17, k13]
theorem xE_ok  : ExtOk Try.prog (xE cond) := consX_ok ⟨k11_ok, k12_ok, k15_ok, k17_ok, k13_ok, trivial⟩
namespace S
def byB (t : Nat → Int) (n : Nat) : Bool := all (fun j => decide (0 ≤ t j ∧ t j ≤ 255)) n
def isB (x : Int) : Bool := decide (0 ≤ x ∧ x ≤ 255)
end S
theorem byB_mk  {n : Nat} {t : Nat → Int} (h : ∀ j, j < n → 0 ≤ t j ∧ t j ≤ 255) : S.byB t n = true := all_iff.mpr fun j hj => decide_eq_true (h j hj)
theorem losS_congr  {kd pc pn of rs rg re : Int} {n : Nat} {t u : Nat → Int} (h : ∀ j, j < n → t j = u j) : S.losS kd pc pn of rs rg re n t = S.losS kd pc pn of rs rg re n u := by
  unfold S.losS
  rw [all_congr (q := S.losB u) (fun j hj => by unfold S.losB; rw [h j hj]), sumN_congr (u := S.losT u pc re) (fun j hj => by unfold S.losT; rw [h j hj])]
theorem los_good  {pc rs re : Int} {n : Nat} {t : Nat → Int} (hn : n ≤ 15) (ht : ∀ j, j < n → 0 ≤ t j ∧ t j ≤ 255) (hr : 1 ≤ rs ∧ rs ≤ 256) (hp : 0 ≤ pc ∧ pc ≤ 199) (he : 0 ≤ re ∧ re ≤ 199) :
    S.losS 2 pc 0 0 rs 1000000000000 re n t = (rs * S.sumN (S.losT t pc re) n, true, 0) := by
  have hk : S.kinE 2 pc 0 0 rs 1000000000000 re 2 = 0 := by
    unfold S.kinE S.insE
    rw [if_pos (by omega : (2 : Int) = 1 ∨ (2 : Int) = 2 ∨ (2 : Int) = 3), if_pos (by omega)]
    simp
  unfold S.losS
  rw [if_pos hk, if_neg (by omega), if_pos (all_iff.mpr fun j hj => show S.losB t j = true from decide_eq_true (by have := ht j hj; omega))]
  have hb := los_bnd (t := t) (pc := pc) (re := re) (n := n) fun j h => by have := ht j h; omega
  have hm : rs * S.sumN (S.losT t pc re) n ≤ 256 * (1000 * n) := Int.le_trans (Int.mul_le_mul_of_nonneg_right (show rs ≤ 256 by omega) hb.1) (Int.mul_le_mul_of_nonneg_left hb.2 (by decide))
  rw [if_pos (by omega)]
theorem los_split  {t : Nat → Int} {m : Int} (hm : 0 ≤ m) : ∀ n : Nat, S.sumN (S.losT t m m) n + S.sumN (S.losT t (m + m + 1 + m) m) n + (if (n : Int) > 4 * m + 2 then t (Int.toNat (4 * m + 2)) else 0) = S.sumN (S.losT t (m + m + m + 1 - m) (m + m + 1)) n
  | 0 => by
    rw [if_neg (by omega)]
    rfl
  | n + 1 => by
    have ih := los_split (t := t) hm n
    simp only [S.sumN]
    rw [← ih]
    generalize S.sumN (S.losT t m m) n = A
    generalize S.sumN (S.losT t (m + m + 1 + m) m) n = B
    unfold S.losT
    by_cases h : (n : Int) = 4 * m + 2
    · rw [← h, Int.toNat_natCast]
      rw [if_neg (by omega), if_neg (by omega), if_pos (by omega), if_neg (by omega), if_pos (by omega)]
      omega
    · by_cases h1 : (n : Int) ≤ 2 * m
      · rw [if_pos (by omega), if_neg (by omega), if_neg (by omega), if_neg (by omega), if_pos (by omega)]
        omega
      · by_cases h2 : (n : Int) ≤ 4 * m + 1
        · rw [if_neg (by omega), if_pos (by omega), if_neg (by omega), if_neg (by omega), if_pos (by omega)]
          omega
        · rw [if_neg (by omega), if_neg (by omega), if_pos (by omega), if_pos (by omega), if_neg (by omega)]
          omega
theorem los_le  {t : Nat → Int} {pc r1 r2 : Int} (hr : r1 ≤ r2) : ∀ {n : Nat}, (∀ j, j < n → 0 ≤ t j) → S.sumN (S.losT t pc r1) n ≤ S.sumN (S.losT t pc r2) n
  | 0, _ => Int.le_refl _
  | n + 1, h => by
    have ih := los_le (pc := pc) hr (n := n) fun j hj => h j (by omega)
    have h0 := h n (by omega)
    simp only [S.sumN]
    unfold S.losT at *
    generalize S.sumN _ n = A at *
    generalize S.sumN _ n = B at *
    (repeat' split) <;> omega
theorem tmd  {x c : Int} (h : 0 ≤ x) (hc : 0 < c) : 0 ≤ Int.tmod x c ∧ Int.tmod x c < c := by
  rw [Int.tmod_eq_emod_of_nonneg h]
  exact ⟨Int.emod_nonneg _ (by omega), Int.emod_lt_of_pos _ hc⟩
inductive St10 where
  | h0 (x0 : Int) (x1 : List Int)
abbrev Rt10  := Bool
noncomputable def V10 (al nl ml : Nat) (tl : Nat → Int) (ka ra : Int) (r : Rt10) : PV := PV.bool r
noncomputable def N10 (al nl ml : Nat) (tl : Nat → Int) (ka ra : Int) (r : Rt10) : List Blk := []
noncomputable def I10 (al nl ml : Nat) (tl : Nat → Int) (ka ra : Int) : St10 → Hd
  | .h0 x0 x1 => ⟨hd Try.f10 0, [PV.ptr (PA.mk (1) (0) (0) (0)),
 PV.int IntKind.i64 (Int.tmod ka (7 : Int)),
 PV.ptr (PA.mk (2) (0) (0) (0)),
 PV.loose (PA.mk (0) (1) al (0)) nl, PV.int IntKind.i64 (↑nl : Int),
 PV.int IntKind.i64 x0], [[(1, (true, Blk.cells [PV.int IntKind.u8 ra])), (2, (true, Blk.cells [PV.own (3) (1) (List.length x1)])), (3, (true, Blk.cols (List.length x1) [Col.int IntKind.i64 fun j => S.at' x1 j]))], [(0, (false, .cols ml [.int .u8 tl]))]], 4⟩
noncomputable def q10 (al nl ml : Nat) (tl : Nat → Int) (ka ra : Int) : St10 → Option (St10 ⊕ Rt10)
  | .h0 x0 x1 => bif (decide (x0 < (↑nl : Int)))
 then (bif (decide ((0 : Int) ≤ x0 ∧ x0 < (↑nl : Int)))
 then (bif (decide (Int.toNat x0 + al < ml))
 then (bif (lim IntKind.i64 (tl (Int.toNat x0 + al)))
 then (bif (decide (List.length x1 + 1 ≤ 1000000))
 then (bif (decide (List.length x1 ≤ List.length x1))
 then (bif (lim IntKind.i64 (x0 + (1 : Int)))
 then (some (.inl (.h0 (x0 + (1 : Int)) (S.snoc x1 (tl (Int.toNat x0 + al))))))
 else (none))
 else (none))
 else (none))
 else (none))
 else (none))
 else (none))
 else (bif (lim IntKind.i64 ra)
 then (bif (lim IntKind.i64 ((1 : Int) + ra))
 then (bif (decide (0 + List.length x1 ≤ List.length x1 ∧ List.length x1 ≤ 1000000))
 then (bif (lim IntKind.i64 (Int.tmod ka (7 : Int) + Int.tmod ka (7 : Int)))
 then (bif (lim IntKind.i64 (Int.tmod ka (7 : Int) + Int.tmod ka (7 : Int) + (1 : Int)))
 then (bif (lim IntKind.i64 (Int.tmod ka (7 : Int) + Int.tmod ka (7 : Int) + (1 : Int) + Int.tmod ka (7 : Int)))
 then (bif (lim IntKind.i64 (Int.tmod ka (7 : Int) + Int.tmod ka (7 : Int) + Int.tmod ka (7 : Int)))
 then (bif (lim IntKind.i64 (Int.tmod ka (7 : Int) + Int.tmod ka (7 : Int) + Int.tmod ka (7 : Int) + (1 : Int)))
 then (bif (lim IntKind.i64
 (Int.tmod ka (7 : Int) + Int.tmod ka (7 : Int) + Int.tmod ka (7 : Int) + (1 : Int) - Int.tmod ka (7 : Int)))
 then (bif (Prod.snd
 (Prod.snd
 (S.losS (2 : Int) (Int.tmod ka (7 : Int)) (0 : Int) (0 : Int) ((1 : Int) + ra) (1000000000000 : Int)
 (Int.tmod ka (7 : Int)) (List.length x1) fun j => S.at' x1 j)) !=
 (0 : Int))
 then (some (.inr (false)))
 else (bif (Prod.snd
 (Prod.snd
 (S.losS (2 : Int) (Int.tmod ka (7 : Int) + Int.tmod ka (7 : Int) + (1 : Int) + Int.tmod ka (7 : Int))
 (0 : Int) (0 : Int) ((1 : Int) + ra) (1000000000000 : Int) (Int.tmod ka (7 : Int)) (List.length x1)
 fun j => S.at' x1 j)) !=
 (0 : Int))
 then (some (.inr (false)))
 else (bif (Prod.snd
 (Prod.snd
 (S.losS (2 : Int)
 (Int.tmod ka (7 : Int) + Int.tmod ka (7 : Int) + Int.tmod ka (7 : Int) + (1 : Int) - Int.tmod ka (7 : Int))
 (0 : Int) (0 : Int) ((1 : Int) + ra) (1000000000000 : Int)
 (Int.tmod ka (7 : Int) + Int.tmod ka (7 : Int) + (1 : Int)) (List.length x1) fun j =>
 S.at' x1 j)) !=
 (0 : Int))
 then (some (.inr (false)))
 else (bif (Prod.snd
 (Prod.snd
 (S.losS (2 : Int)
 (Int.tmod ka (7 : Int) + Int.tmod ka (7 : Int) + Int.tmod ka (7 : Int) + (1 : Int) - Int.tmod ka (7 : Int))
 (0 : Int) (0 : Int) ((1 : Int) + ra) (1000000000000 : Int) (0 : Int) (List.length x1) fun j =>
 S.at' x1 j)) !=
 (0 : Int))
 then (some (.inr (false)))
 else (bif (Prod.fst
 (Prod.snd
 (S.losS (2 : Int) (Int.tmod ka (7 : Int)) (0 : Int) (0 : Int) ((1 : Int) + ra) (1000000000000 : Int)
 (Int.tmod ka (7 : Int)) (List.length x1) fun j => S.at' x1 j)))
 then (bif (Prod.fst
 (Prod.snd
 (S.losS (2 : Int) (Int.tmod ka (7 : Int) + Int.tmod ka (7 : Int) + (1 : Int) + Int.tmod ka (7 : Int))
 (0 : Int) (0 : Int) ((1 : Int) + ra) (1000000000000 : Int) (Int.tmod ka (7 : Int)) (List.length x1)
 fun j => S.at' x1 j)))
 then (bif (Prod.fst
 (Prod.snd
 (S.losS (2 : Int)
 (Int.tmod ka (7 : Int) + Int.tmod ka (7 : Int) + Int.tmod ka (7 : Int) + (1 : Int) - Int.tmod ka (7 : Int))
 (0 : Int) (0 : Int) ((1 : Int) + ra) (1000000000000 : Int)
 (Int.tmod ka (7 : Int) + Int.tmod ka (7 : Int) + (1 : Int)) (List.length x1) fun j => S.at' x1 j)))
 then (bif (Prod.fst
 (Prod.snd
 (S.losS (2 : Int)
 (Int.tmod ka (7 : Int) + Int.tmod ka (7 : Int) + Int.tmod ka (7 : Int) + (1 : Int) - Int.tmod ka (7 : Int))
 (0 : Int) (0 : Int) ((1 : Int) + ra) (1000000000000 : Int) (0 : Int) (List.length x1) fun j =>
 S.at' x1 j)))
 then (bif (lim IntKind.i64 ((4 : Int) * Int.tmod ka (7 : Int)))
 then (bif (lim IntKind.i64 ((4 : Int) * Int.tmod ka (7 : Int) + (2 : Int)))
 then (bif (decide ((↑(List.length x1) : Int) > (4 : Int) * Int.tmod ka (7 : Int) + (2 : Int)))
 then (bif (decide
 ((0 : Int) ≤ (4 : Int) * Int.tmod ka (7 : Int) + (2 : Int) ∧
 (4 : Int) * Int.tmod ka (7 : Int) + (2 : Int) < (↑(List.length x1) : Int)))
 then (bif (decide (Int.toNat ((4 : Int) * Int.tmod ka (7 : Int) + (2 : Int)) < List.length x1))
 then (bif (lim IntKind.i64 (S.at' x1 (Int.toNat ((4 : Int) * Int.tmod ka (7 : Int) + (2 : Int))) * ((1 : Int) + ra)))
 then (bif (lim IntKind.i64
 (Prod.fst
 (S.losS (2 : Int) (Int.tmod ka (7 : Int)) (0 : Int) (0 : Int) ((1 : Int) + ra) (1000000000000 : Int)
 (Int.tmod ka (7 : Int)) (List.length x1) fun j => S.at' x1 j) +
 Prod.fst
 (S.losS (2 : Int) (Int.tmod ka (7 : Int) + Int.tmod ka (7 : Int) + (1 : Int) + Int.tmod ka (7 : Int))
 (0 : Int) (0 : Int) ((1 : Int) + ra) (1000000000000 : Int) (Int.tmod ka (7 : Int)) (List.length x1)
 fun j => S.at' x1 j)))
 then (bif (lim IntKind.i64
 (Prod.fst
 (S.losS (2 : Int) (Int.tmod ka (7 : Int)) (0 : Int) (0 : Int) ((1 : Int) + ra) (1000000000000 : Int)
 (Int.tmod ka (7 : Int)) (List.length x1) fun j => S.at' x1 j) +
 Prod.fst
 (S.losS (2 : Int) (Int.tmod ka (7 : Int) + Int.tmod ka (7 : Int) + (1 : Int) + Int.tmod ka (7 : Int))
 (0 : Int) (0 : Int) ((1 : Int) + ra) (1000000000000 : Int) (Int.tmod ka (7 : Int)) (List.length x1)
 fun j => S.at' x1 j) +
 S.at' x1 (Int.toNat ((4 : Int) * Int.tmod ka (7 : Int) + (2 : Int))) * ((1 : Int) + ra)))
 then (bif (Prod.fst
 (S.losS (2 : Int) (Int.tmod ka (7 : Int)) (0 : Int) (0 : Int) ((1 : Int) + ra) (1000000000000 : Int)
 (Int.tmod ka (7 : Int)) (List.length x1) fun j => S.at' x1 j) +
 Prod.fst
 (S.losS (2 : Int) (Int.tmod ka (7 : Int) + Int.tmod ka (7 : Int) + (1 : Int) + Int.tmod ka (7 : Int))
 (0 : Int) (0 : Int) ((1 : Int) + ra) (1000000000000 : Int) (Int.tmod ka (7 : Int)) (List.length x1)
 fun j => S.at' x1 j) +
 S.at' x1 (Int.toNat ((4 : Int) * Int.tmod ka (7 : Int) + (2 : Int))) * ((1 : Int) + ra) ==
 Prod.fst
 (S.losS (2 : Int)
 (Int.tmod ka (7 : Int) + Int.tmod ka (7 : Int) + Int.tmod ka (7 : Int) + (1 : Int) - Int.tmod ka (7 : Int))
 (0 : Int) (0 : Int) ((1 : Int) + ra) (1000000000000 : Int)
 (Int.tmod ka (7 : Int) + Int.tmod ka (7 : Int) + (1 : Int)) (List.length x1) fun j => S.at' x1 j))
 then (bif (decide
 (Prod.fst
 (S.losS (2 : Int)
 (Int.tmod ka (7 : Int) + Int.tmod ka (7 : Int) + Int.tmod ka (7 : Int) + (1 : Int) - Int.tmod ka (7 : Int))
 (0 : Int) (0 : Int) ((1 : Int) + ra) (1000000000000 : Int) (0 : Int) (List.length x1) fun j =>
 S.at' x1 j) ≤
 Prod.fst
 (S.losS (2 : Int)
 (Int.tmod ka (7 : Int) + Int.tmod ka (7 : Int) + Int.tmod ka (7 : Int) + (1 : Int) - Int.tmod ka (7 : Int))
 (0 : Int) (0 : Int) ((1 : Int) + ra) (1000000000000 : Int)
 (Int.tmod ka (7 : Int) + Int.tmod ka (7 : Int) + (1 : Int)) (List.length x1) fun j => S.at' x1 j)))
 then (some (.inr (true)))
 else (some (.inr (false))))
 else (some (.inr (false))))
 else (none))
 else (none))
 else (none))
 else (none))
 else (none))
 else (bif (lim IntKind.i64
 (Prod.fst
 (S.losS (2 : Int) (Int.tmod ka (7 : Int)) (0 : Int) (0 : Int) ((1 : Int) + ra) (1000000000000 : Int)
 (Int.tmod ka (7 : Int)) (List.length x1) fun j => S.at' x1 j) +
 Prod.fst
 (S.losS (2 : Int) (Int.tmod ka (7 : Int) + Int.tmod ka (7 : Int) + (1 : Int) + Int.tmod ka (7 : Int))
 (0 : Int) (0 : Int) ((1 : Int) + ra) (1000000000000 : Int) (Int.tmod ka (7 : Int)) (List.length x1)
 fun j => S.at' x1 j)))
 then (bif (lim IntKind.i64
 (Prod.fst
 (S.losS (2 : Int) (Int.tmod ka (7 : Int)) (0 : Int) (0 : Int) ((1 : Int) + ra) (1000000000000 : Int)
 (Int.tmod ka (7 : Int)) (List.length x1) fun j => S.at' x1 j) +
 Prod.fst
 (S.losS (2 : Int) (Int.tmod ka (7 : Int) + Int.tmod ka (7 : Int) + (1 : Int) + Int.tmod ka (7 : Int))
 (0 : Int) (0 : Int) ((1 : Int) + ra) (1000000000000 : Int) (Int.tmod ka (7 : Int)) (List.length x1)
 fun j => S.at' x1 j) +
 (0 : Int)))
 then (bif (Prod.fst
 (S.losS (2 : Int) (Int.tmod ka (7 : Int)) (0 : Int) (0 : Int) ((1 : Int) + ra) (1000000000000 : Int)
 (Int.tmod ka (7 : Int)) (List.length x1) fun j => S.at' x1 j) +
 Prod.fst
 (S.losS (2 : Int) (Int.tmod ka (7 : Int) + Int.tmod ka (7 : Int) + (1 : Int) + Int.tmod ka (7 : Int))
 (0 : Int) (0 : Int) ((1 : Int) + ra) (1000000000000 : Int) (Int.tmod ka (7 : Int)) (List.length x1)
 fun j => S.at' x1 j) +
 (0 : Int) ==
 Prod.fst
 (S.losS (2 : Int)
 (Int.tmod ka (7 : Int) + Int.tmod ka (7 : Int) + Int.tmod ka (7 : Int) + (1 : Int) - Int.tmod ka (7 : Int))
 (0 : Int) (0 : Int) ((1 : Int) + ra) (1000000000000 : Int)
 (Int.tmod ka (7 : Int) + Int.tmod ka (7 : Int) + (1 : Int)) (List.length x1) fun j => S.at' x1 j))
 then (bif (decide
 (Prod.fst
 (S.losS (2 : Int)
 (Int.tmod ka (7 : Int) + Int.tmod ka (7 : Int) + Int.tmod ka (7 : Int) + (1 : Int) - Int.tmod ka (7 : Int))
 (0 : Int) (0 : Int) ((1 : Int) + ra) (1000000000000 : Int) (0 : Int) (List.length x1) fun j =>
 S.at' x1 j) ≤
 Prod.fst
 (S.losS (2 : Int)
 (Int.tmod ka (7 : Int) + Int.tmod ka (7 : Int) + Int.tmod ka (7 : Int) + (1 : Int) - Int.tmod ka (7 : Int))
 (0 : Int) (0 : Int) ((1 : Int) + ra) (1000000000000 : Int)
 (Int.tmod ka (7 : Int) + Int.tmod ka (7 : Int) + (1 : Int)) (List.length x1) fun j => S.at' x1 j)))
 then (some (.inr (true)))
 else (some (.inr (false))))
 else (some (.inr (false))))
 else (none))
 else (none)))
 else (none))
 else (none))
 else (some (.inr (false))))
 else (some (.inr (false))))
 else (some (.inr (false))))
 else (some (.inr (false))))))))
 else (none))
 else (none))
 else (none))
 else (none))
 else (none))
 else (none))
 else (none))
 else (none))
 else (none))
noncomputable def p10 (al nl ml : Nat) (tl : Nat → Int) (ka ra : Int) : Option (St10 ⊕ Rt10) := bif (decide ((↑nl : Int) > (15 : Int)))
 then (some (.inr (true)))
 else (bif (lim IntKind.i64 (Int.tmod ka (7 : Int)))
 then (some (.inl (.h0 ((0 : Int)) ([]))))
 else (none))
noncomputable def Te10 (test : Bool → Prop → Prop → Prop) (Kst : KS) (Kret : KR) (al nl ml : Nat) (tl : Nat → Int) (ka ra : Int) : Prop :=
  test (true)
 (test (true)
 (test (decide ((↑nl : Int) > (15 : Int)))
 (test (true)
 (test (true)
 (Kret (PV.tf true) ([[(0, false, Blk.cols ml [Col.int IntKind.u8 tl])]]) (4))
 (Kret (PV.tf false) ([[(0, false, Blk.cols ml [Col.int IntKind.u8 tl])]]) (4)))
 (False))
 (test (false)
 (False)
 (test (lim IntKind.i64 (Int.tmod ka (7 : Int)))
 (Kst (hd Try.f10 0) ([PV.ptr (PA.mk (1) (0) (0) (0)),
 PV.int IntKind.i64 (Int.tmod ka (7 : Int)),
 PV.ptr (PA.mk (3) (0) (0) (0)),
 PV.loose (PA.mk (0) (1) al (0)) nl, PV.int IntKind.i64 (↑nl : Int),
 PV.int IntKind.i64 (0 : Int)]) ([[(0, false, Blk.cols ml [Col.int IntKind.u8 tl]),
 (3, true, Blk.cells [PV.nils]),
 (1, true, Blk.cells [PV.int IntKind.u8 ra])]]) (4))
 (False))))
 (test (true)
 (test (true)
 (Kret (PV.tf true) ([[(0, false, Blk.cols ml [Col.int IntKind.u8 tl])]]) (4))
 (Kret (PV.tf false) ([[(0, false, Blk.cols ml [Col.int IntKind.u8 tl])]]) (4)))
 (False)))
 (False)
theorem te10 (test : Bool → Prop → Prop → Prop) (Kst : KS) (Kret : KR) (al nl ml : Nat) (tl : Nat → Int) (ka ra : Int) : run test Try.env true (xE test) true 400 ⟨10, [.cd (mkFn Try.f10).body], argT 0 [.loose ⟨0, 1, al, 0⟩ nl, .int .u8 ka, .int .u8 ra], [[], [(0, (false, .cols ml [.int .u8 tl]))]], 1⟩ (proj 1 [5, 7, 8, 32, 33, 34] Kst Kret) =
  Te10 test Kst Kret al nl ml tl ka ra := by kernel_rfl
noncomputable def T10_0 (test : Bool → Prop → Prop → Prop) (Kst : KS) (Kret : KR) (al nl ml : Nat) (tl : Nat → Int) (ka ra x0 : Int) (x1 : List Int) : Prop :=
  test (decide (x0 < (↑nl : Int)))
 (test (decide ((0 : Int) ≤ x0 ∧ x0 < (↑nl : Int)))
 (test (decide (Int.toNat x0 + al < ml))
 (test (lim IntKind.i64 (tl (Int.toNat x0 + al)))
 (test (decide (List.length x1 + 1 ≤ 1000000))
 (test (decide (List.length x1 ≤ List.length x1))
 (test (true)
 (test (lim IntKind.i64 (x0 + (1 : Int)))
 (Kst (hd Try.f10 0) ([PV.ptr (PA.mk (1) (0) (0) (0)),
 PV.int IntKind.i64 (Int.tmod ka (7 : Int)),
 PV.ptr (PA.mk (2) (0) (0) (0)),
 PV.loose (PA.mk (0) (1) al (0)) nl, PV.int IntKind.i64 (↑nl : Int),
 PV.int IntKind.i64 (x0 + (1 : Int))]) ([[(0, false, Blk.cols ml [Col.int IntKind.u8 tl]),
 (2, true, Blk.cells [PV.own (5) (1) (List.length x1 + 1)]),
 (1, true, Blk.cells [PV.int IntKind.u8 ra]),
 (5, true,
 Blk.cols (List.length x1 + 1)
 [Col.int IntKind.i64 fun j =>
 bif Nat.blt j (List.length x1) then S.at' x1 j else tl (Int.toNat x0 + al)])]]) (6))
 (False))
 (False))
 (False))
 (False))
 (False))
 (False))
 (False))
 (test (lim IntKind.i64 ra)
 (test (lim IntKind.i64 ((1 : Int) + ra))
 (test (decide (0 + List.length x1 ≤ List.length x1 ∧ List.length x1 ≤ 1000000))
 (test (decide (0 + List.length x1 ≤ List.length x1 ∧ List.length x1 ≤ 1000000))
 (test (lim IntKind.i64 (Int.tmod ka (7 : Int) + Int.tmod ka (7 : Int)))
 (test (lim IntKind.i64 (Int.tmod ka (7 : Int) + Int.tmod ka (7 : Int) + (1 : Int)))
 (test (lim IntKind.i64 (Int.tmod ka (7 : Int) + Int.tmod ka (7 : Int) + (1 : Int) + Int.tmod ka (7 : Int)))
 (test (lim IntKind.i64 ra)
 (test (lim IntKind.i64 ((1 : Int) + ra))
 (test (decide (0 + List.length x1 ≤ List.length x1 ∧ List.length x1 ≤ 1000000))
 (test (decide (0 + List.length x1 ≤ List.length x1 ∧ List.length x1 ≤ 1000000))
 (test (lim IntKind.i64 (Int.tmod ka (7 : Int) + Int.tmod ka (7 : Int)))
 (test (lim IntKind.i64 (Int.tmod ka (7 : Int) + Int.tmod ka (7 : Int) + Int.tmod ka (7 : Int)))
 (test (lim IntKind.i64 (Int.tmod ka (7 : Int) + Int.tmod ka (7 : Int) + Int.tmod ka (7 : Int) + (1 : Int)))
 (test (lim IntKind.i64
 (Int.tmod ka (7 : Int) + Int.tmod ka (7 : Int) + Int.tmod ka (7 : Int) + (1 : Int) - Int.tmod ka (7 : Int)))
 (test (lim IntKind.i64 (Int.tmod ka (7 : Int) + Int.tmod ka (7 : Int)))
 (test (lim IntKind.i64 (Int.tmod ka (7 : Int) + Int.tmod ka (7 : Int) + (1 : Int)))
 (test (lim IntKind.i64 ra)
 (test (lim IntKind.i64 ((1 : Int) + ra))
 (test (decide (0 + List.length x1 ≤ List.length x1 ∧ List.length x1 ≤ 1000000))
 (test (decide (0 + List.length x1 ≤ List.length x1 ∧ List.length x1 ≤ 1000000))
 (test (lim IntKind.i64 (Int.tmod ka (7 : Int) + Int.tmod ka (7 : Int)))
 (test (lim IntKind.i64 (Int.tmod ka (7 : Int) + Int.tmod ka (7 : Int) + Int.tmod ka (7 : Int)))
 (test (lim IntKind.i64 (Int.tmod ka (7 : Int) + Int.tmod ka (7 : Int) + Int.tmod ka (7 : Int) + (1 : Int)))
 (test (lim IntKind.i64
 (Int.tmod ka (7 : Int) + Int.tmod ka (7 : Int) + Int.tmod ka (7 : Int) + (1 : Int) - Int.tmod ka (7 : Int)))
 (test (lim IntKind.i64 ra)
 (test (lim IntKind.i64 ((1 : Int) + ra))
 (test (decide (0 + List.length x1 ≤ List.length x1 ∧ List.length x1 ≤ 1000000))
 (test (decide (0 + List.length x1 ≤ List.length x1 ∧ List.length x1 ≤ 1000000))
 (test (Prod.snd
 (Prod.snd
 (S.losS (2 : Int) (Int.tmod ka (7 : Int)) (0 : Int) (0 : Int) ((1 : Int) + ra) (1000000000000 : Int)
 (Int.tmod ka (7 : Int)) (List.length x1) fun j => S.at' x1 j)) !=
 (0 : Int))
 (Kret (PV.tf false) ([[(0, false, Blk.cols ml [Col.int IntKind.u8 tl])]]) (24))
 (test (Prod.snd
 (Prod.snd
 (S.losS (2 : Int) (Int.tmod ka (7 : Int) + Int.tmod ka (7 : Int) + (1 : Int) + Int.tmod ka (7 : Int))
 (0 : Int) (0 : Int) ((1 : Int) + ra) (1000000000000 : Int) (Int.tmod ka (7 : Int)) (List.length x1)
 fun j => S.at' x1 j)) !=
 (0 : Int))
 (Kret (PV.tf false) ([[(0, false, Blk.cols ml [Col.int IntKind.u8 tl])]]) (24))
 (test (Prod.snd
 (Prod.snd
 (S.losS (2 : Int)
 (Int.tmod ka (7 : Int) + Int.tmod ka (7 : Int) + Int.tmod ka (7 : Int) + (1 : Int) - Int.tmod ka (7 : Int))
 (0 : Int) (0 : Int) ((1 : Int) + ra) (1000000000000 : Int)
 (Int.tmod ka (7 : Int) + Int.tmod ka (7 : Int) + (1 : Int)) (List.length x1) fun j =>
 S.at' x1 j)) !=
 (0 : Int))
 (Kret (PV.tf false) ([[(0, false, Blk.cols ml [Col.int IntKind.u8 tl])]]) (24))
 (test (Prod.snd
 (Prod.snd
 (S.losS (2 : Int)
 (Int.tmod ka (7 : Int) + Int.tmod ka (7 : Int) + Int.tmod ka (7 : Int) + (1 : Int) - Int.tmod ka (7 : Int))
 (0 : Int) (0 : Int) ((1 : Int) + ra) (1000000000000 : Int) (0 : Int) (List.length x1) fun j =>
 S.at' x1 j)) !=
 (0 : Int))
 (Kret (PV.tf false) ([[(0, false, Blk.cols ml [Col.int IntKind.u8 tl])]]) (24))
 (test (Prod.fst
 (Prod.snd
 (S.losS (2 : Int) (Int.tmod ka (7 : Int)) (0 : Int) (0 : Int) ((1 : Int) + ra) (1000000000000 : Int)
 (Int.tmod ka (7 : Int)) (List.length x1) fun j => S.at' x1 j)))
 (test (Prod.fst
 (Prod.snd
 (S.losS (2 : Int) (Int.tmod ka (7 : Int) + Int.tmod ka (7 : Int) + (1 : Int) + Int.tmod ka (7 : Int))
 (0 : Int) (0 : Int) ((1 : Int) + ra) (1000000000000 : Int) (Int.tmod ka (7 : Int)) (List.length x1)
 fun j => S.at' x1 j)))
 (test (Prod.fst
 (Prod.snd
 (S.losS (2 : Int)
 (Int.tmod ka (7 : Int) + Int.tmod ka (7 : Int) + Int.tmod ka (7 : Int) + (1 : Int) - Int.tmod ka (7 : Int))
 (0 : Int) (0 : Int) ((1 : Int) + ra) (1000000000000 : Int)
 (Int.tmod ka (7 : Int) + Int.tmod ka (7 : Int) + (1 : Int)) (List.length x1) fun j => S.at' x1 j)))
 (test (Prod.fst
 (Prod.snd
 (S.losS (2 : Int)
 (Int.tmod ka (7 : Int) + Int.tmod ka (7 : Int) + Int.tmod ka (7 : Int) + (1 : Int) - Int.tmod ka (7 : Int))
 (0 : Int) (0 : Int) ((1 : Int) + ra) (1000000000000 : Int) (0 : Int) (List.length x1) fun j =>
 S.at' x1 j)))
 (test (lim IntKind.i64 ((4 : Int) * Int.tmod ka (7 : Int)))
 (test (lim IntKind.i64 ((4 : Int) * Int.tmod ka (7 : Int) + (2 : Int)))
 (test (decide ((↑(List.length x1) : Int) > (4 : Int) * Int.tmod ka (7 : Int) + (2 : Int)))
 (test (lim IntKind.i64 ((4 : Int) * Int.tmod ka (7 : Int)))
 (test (lim IntKind.i64 ((4 : Int) * Int.tmod ka (7 : Int) + (2 : Int)))
 (test (decide
 ((0 : Int) ≤ (4 : Int) * Int.tmod ka (7 : Int) + (2 : Int) ∧
 (4 : Int) * Int.tmod ka (7 : Int) + (2 : Int) < (↑(List.length x1) : Int)))
 (test (decide (Int.toNat ((4 : Int) * Int.tmod ka (7 : Int) + (2 : Int)) < List.length x1))
 (test (lim IntKind.i64 ra)
 (test (lim IntKind.i64 ((1 : Int) + ra))
 (test (lim IntKind.i64 (S.at' x1 (Int.toNat ((4 : Int) * Int.tmod ka (7 : Int) + (2 : Int))) * ((1 : Int) + ra)))
 (test (lim IntKind.i64
 (Prod.fst
 (S.losS (2 : Int) (Int.tmod ka (7 : Int)) (0 : Int) (0 : Int) ((1 : Int) + ra) (1000000000000 : Int)
 (Int.tmod ka (7 : Int)) (List.length x1) fun j => S.at' x1 j) +
 Prod.fst
 (S.losS (2 : Int) (Int.tmod ka (7 : Int) + Int.tmod ka (7 : Int) + (1 : Int) + Int.tmod ka (7 : Int))
 (0 : Int) (0 : Int) ((1 : Int) + ra) (1000000000000 : Int) (Int.tmod ka (7 : Int)) (List.length x1)
 fun j => S.at' x1 j)))
 (test (lim IntKind.i64
 (Prod.fst
 (S.losS (2 : Int) (Int.tmod ka (7 : Int)) (0 : Int) (0 : Int) ((1 : Int) + ra) (1000000000000 : Int)
 (Int.tmod ka (7 : Int)) (List.length x1) fun j => S.at' x1 j) +
 Prod.fst
 (S.losS (2 : Int) (Int.tmod ka (7 : Int) + Int.tmod ka (7 : Int) + (1 : Int) + Int.tmod ka (7 : Int))
 (0 : Int) (0 : Int) ((1 : Int) + ra) (1000000000000 : Int) (Int.tmod ka (7 : Int)) (List.length x1)
 fun j => S.at' x1 j) +
 S.at' x1 (Int.toNat ((4 : Int) * Int.tmod ka (7 : Int) + (2 : Int))) * ((1 : Int) + ra)))
 (test (Prod.fst
 (S.losS (2 : Int) (Int.tmod ka (7 : Int)) (0 : Int) (0 : Int) ((1 : Int) + ra) (1000000000000 : Int)
 (Int.tmod ka (7 : Int)) (List.length x1) fun j => S.at' x1 j) +
 Prod.fst
 (S.losS (2 : Int) (Int.tmod ka (7 : Int) + Int.tmod ka (7 : Int) + (1 : Int) + Int.tmod ka (7 : Int))
 (0 : Int) (0 : Int) ((1 : Int) + ra) (1000000000000 : Int) (Int.tmod ka (7 : Int)) (List.length x1)
 fun j => S.at' x1 j) +
 S.at' x1 (Int.toNat ((4 : Int) * Int.tmod ka (7 : Int) + (2 : Int))) * ((1 : Int) + ra) ==
 Prod.fst
 (S.losS (2 : Int)
 (Int.tmod ka (7 : Int) + Int.tmod ka (7 : Int) + Int.tmod ka (7 : Int) + (1 : Int) - Int.tmod ka (7 : Int))
 (0 : Int) (0 : Int) ((1 : Int) + ra) (1000000000000 : Int)
 (Int.tmod ka (7 : Int) + Int.tmod ka (7 : Int) + (1 : Int)) (List.length x1) fun j => S.at' x1 j))
 (test (decide
 (Prod.fst
 (S.losS (2 : Int)
 (Int.tmod ka (7 : Int) + Int.tmod ka (7 : Int) + Int.tmod ka (7 : Int) + (1 : Int) - Int.tmod ka (7 : Int))
 (0 : Int) (0 : Int) ((1 : Int) + ra) (1000000000000 : Int) (0 : Int) (List.length x1) fun j =>
 S.at' x1 j) ≤
 Prod.fst
 (S.losS (2 : Int)
 (Int.tmod ka (7 : Int) + Int.tmod ka (7 : Int) + Int.tmod ka (7 : Int) + (1 : Int) - Int.tmod ka (7 : Int))
 (0 : Int) (0 : Int) ((1 : Int) + ra) (1000000000000 : Int)
 (Int.tmod ka (7 : Int) + Int.tmod ka (7 : Int) + (1 : Int)) (List.length x1) fun j => S.at' x1 j)))
 (Kret (PV.tf true) ([[(0, false, Blk.cols ml [Col.int IntKind.u8 tl])]]) (24))
 (Kret (PV.tf false) ([[(0, false, Blk.cols ml [Col.int IntKind.u8 tl])]]) (24)))
 (Kret (PV.tf false) ([[(0, false, Blk.cols ml [Col.int IntKind.u8 tl])]]) (24)))
 (False))
 (False))
 (False))
 (False))
 (False))
 (False))
 (False))
 (False))
 (False))
 (test (lim IntKind.i64
 (Prod.fst
 (S.losS (2 : Int) (Int.tmod ka (7 : Int)) (0 : Int) (0 : Int) ((1 : Int) + ra) (1000000000000 : Int)
 (Int.tmod ka (7 : Int)) (List.length x1) fun j => S.at' x1 j) +
 Prod.fst
 (S.losS (2 : Int) (Int.tmod ka (7 : Int) + Int.tmod ka (7 : Int) + (1 : Int) + Int.tmod ka (7 : Int))
 (0 : Int) (0 : Int) ((1 : Int) + ra) (1000000000000 : Int) (Int.tmod ka (7 : Int)) (List.length x1)
 fun j => S.at' x1 j)))
 (test (lim IntKind.i64
 (Prod.fst
 (S.losS (2 : Int) (Int.tmod ka (7 : Int)) (0 : Int) (0 : Int) ((1 : Int) + ra) (1000000000000 : Int)
 (Int.tmod ka (7 : Int)) (List.length x1) fun j => S.at' x1 j) +
 Prod.fst
 (S.losS (2 : Int) (Int.tmod ka (7 : Int) + Int.tmod ka (7 : Int) + (1 : Int) + Int.tmod ka (7 : Int))
 (0 : Int) (0 : Int) ((1 : Int) + ra) (1000000000000 : Int) (Int.tmod ka (7 : Int)) (List.length x1)
 fun j => S.at' x1 j) +
 (0 : Int)))
 (test (Prod.fst
 (S.losS (2 : Int) (Int.tmod ka (7 : Int)) (0 : Int) (0 : Int) ((1 : Int) + ra) (1000000000000 : Int)
 (Int.tmod ka (7 : Int)) (List.length x1) fun j => S.at' x1 j) +
 Prod.fst
 (S.losS (2 : Int) (Int.tmod ka (7 : Int) + Int.tmod ka (7 : Int) + (1 : Int) + Int.tmod ka (7 : Int))
 (0 : Int) (0 : Int) ((1 : Int) + ra) (1000000000000 : Int) (Int.tmod ka (7 : Int)) (List.length x1)
 fun j => S.at' x1 j) +
 (0 : Int) ==
 Prod.fst
 (S.losS (2 : Int)
 (Int.tmod ka (7 : Int) + Int.tmod ka (7 : Int) + Int.tmod ka (7 : Int) + (1 : Int) - Int.tmod ka (7 : Int))
 (0 : Int) (0 : Int) ((1 : Int) + ra) (1000000000000 : Int)
 (Int.tmod ka (7 : Int) + Int.tmod ka (7 : Int) + (1 : Int)) (List.length x1) fun j => S.at' x1 j))
 (test (decide
 (Prod.fst
 (S.losS (2 : Int)
 (Int.tmod ka (7 : Int) + Int.tmod ka (7 : Int) + Int.tmod ka (7 : Int) + (1 : Int) - Int.tmod ka (7 : Int))
 (0 : Int) (0 : Int) ((1 : Int) + ra) (1000000000000 : Int) (0 : Int) (List.length x1) fun j =>
 S.at' x1 j) ≤
 Prod.fst
 (S.losS (2 : Int)
 (Int.tmod ka (7 : Int) + Int.tmod ka (7 : Int) + Int.tmod ka (7 : Int) + (1 : Int) - Int.tmod ka (7 : Int))
 (0 : Int) (0 : Int) ((1 : Int) + ra) (1000000000000 : Int)
 (Int.tmod ka (7 : Int) + Int.tmod ka (7 : Int) + (1 : Int)) (List.length x1) fun j => S.at' x1 j)))
 (Kret (PV.tf true) ([[(0, false, Blk.cols ml [Col.int IntKind.u8 tl])]]) (24))
 (Kret (PV.tf false) ([[(0, false, Blk.cols ml [Col.int IntKind.u8 tl])]]) (24)))
 (Kret (PV.tf false) ([[(0, false, Blk.cols ml [Col.int IntKind.u8 tl])]]) (24)))
 (False))
 (False)))
 (False))
 (False))
 (Kret (PV.tf false) ([[(0, false, Blk.cols ml [Col.int IntKind.u8 tl])]]) (24)))
 (Kret (PV.tf false) ([[(0, false, Blk.cols ml [Col.int IntKind.u8 tl])]]) (24)))
 (Kret (PV.tf false) ([[(0, false, Blk.cols ml [Col.int IntKind.u8 tl])]]) (24)))
 (Kret (PV.tf false) ([[(0, false, Blk.cols ml [Col.int IntKind.u8 tl])]]) (24)))))))
 (False))
 (False))
 (False))
 (False))
 (False))
 (False))
 (False))
 (False))
 (False))
 (False))
 (False))
 (False))
 (False))
 (False))
 (False))
 (False))
 (False))
 (False))
 (False))
 (False))
 (False))
 (False))
 (False))
 (False))
 (False))
 (False))
 (False))
 (False))
 (False))
theorem t10_0 (test : Bool → Prop → Prop → Prop) (Kst : KS) (Kret : KR) (al nl ml : Nat) (tl : Nat → Int) (ka ra x0 : Int) (x1 : List Int) : run test Try.env true (xE test) true 400 ⟨10, hd Try.f10 0, zipT [5, 7, 8, 32, 33, 34] [PV.ptr (PA.mk (1) (0) (0) (0)),
 PV.int IntKind.i64 (Int.tmod ka (7 : Int)),
 PV.ptr (PA.mk (2) (0) (0) (0)),
 PV.loose (PA.mk (0) (1) al (0)) nl, PV.int IntKind.i64 (↑nl : Int),
 PV.int IntKind.i64 x0], [[(1, (true, Blk.cells [PV.int IntKind.u8 ra])), (2, (true, Blk.cells [PV.own (3) (1) (List.length x1)])), (3, (true, Blk.cols (List.length x1) [Col.int IntKind.i64 fun j => S.at' x1 j]))], [(0, (false, .cols ml [.int .u8 tl]))]], 4⟩ (proj 1 [5, 7, 8, 32, 33, 34] Kst Kret) =
  T10_0 test Kst Kret al nl ml tl ka ra x0 x1 := by kernel_rfl
theorem be10 (al nl ml : Nat) (tl : Nat → Int) (ka ra : Int) (Kst : KS) (Kret : KR) (x : St10 ⊕ Rt10) (hS : HS 1 400 ((I10 al nl ml tl ka ra)) Kst x) (hR : HR 1 400 ((V10 al nl ml tl ka ra)) (fun r => [newL (1 + 1) ((N10 al nl ml tl ka ra) r) ++ [(0, (false, .cols ml [.int .u8 tl]))]]) Kret x) (h : (bif (decide ((↑nl : Int) > (15 : Int)))
 then (some (.inr (true)))
 else (bif (lim IntKind.i64 (Int.tmod ka (7 : Int)))
 then (some (.inl (.h0 ((0 : Int)) ([]))))
 else (none)) : Option (St10 ⊕ Rt10)) = some x) : Te10 cond Kst Kret al nl ml tl ka ra := by
  unfold Te10
  exact cond_yes rfl (cond_yes rfl (bif_split h
   (fun c0 h => cond_yes rfl (cond_yes rfl (ret_at hR _ h (fun n => n) rfl rfl rfl (rn_bool_tf rfl) rfl (entl_bor (use_lo rfl) rfl rfl entl_nil))))
   (fun c0 h => cond_no rfl (bif_split h
   (fun c1 h => stop_at hS _ h (fun n => bif Nat.beq n 1 then 1 else bif Nat.beq n 2 then 3 else bif Nat.beq n 3 then 399 else n) rfl rfl rfl ⟨(rn_ptr (use_own rfl) rfl rfl), ⟨(rn_int rfl), ⟨(rn_ptr (use_own rfl) rfl rfl), ⟨(rn_loose (use_lo rfl) rfl rfl rfl), ⟨(rn_int rfl), ⟨(rn_int rfl), trivial⟩⟩⟩⟩⟩⟩ rfl (entl_b (use_own rfl) rfl (by simp) (rb_cells ⟨(rn_int rfl), trivial⟩) (entl_b (use_own rfl) rfl (by simp) (rb_cells ⟨(rn_own_nils rfl), trivial⟩) (entl_fresh (use_own rfl) (fresh_ok rfl) (entl_bor (use_lo rfl) rfl rfl entl_nil)))))
   (fun c1 h => no_some h)))))
theorem b10_0 (al nl ml : Nat) (tl : Nat → Int) (ka ra : Int) (Kst : KS) (Kret : KR) (x : St10 ⊕ Rt10) (hS : HS 1 400 ((I10 al nl ml tl ka ra)) Kst x) (hR : HR 1 400 ((V10 al nl ml tl ka ra)) (fun r => [newL (1 + 1) ((N10 al nl ml tl ka ra) r) ++ [(0, (false, .cols ml [.int .u8 tl]))]]) Kret x) (x0 : Int) (x1 : List Int) (h : (bif (decide (x0 < (↑nl : Int)))
 then (bif (decide ((0 : Int) ≤ x0 ∧ x0 < (↑nl : Int)))
 then (bif (decide (Int.toNat x0 + al < ml))
 then (bif (lim IntKind.i64 (tl (Int.toNat x0 + al)))
 then (bif (decide (List.length x1 + 1 ≤ 1000000))
 then (bif (decide (List.length x1 ≤ List.length x1))
 then (bif (lim IntKind.i64 (x0 + (1 : Int)))
 then (some (.inl (.h0 (x0 + (1 : Int)) (S.snoc x1 (tl (Int.toNat x0 + al))))))
 else (none))
 else (none))
 else (none))
 else (none))
 else (none))
 else (none))
 else (bif (lim IntKind.i64 ra)
 then (bif (lim IntKind.i64 ((1 : Int) + ra))
 then (bif (decide (0 + List.length x1 ≤ List.length x1 ∧ List.length x1 ≤ 1000000))
 then (bif (lim IntKind.i64 (Int.tmod ka (7 : Int) + Int.tmod ka (7 : Int)))
 then (bif (lim IntKind.i64 (Int.tmod ka (7 : Int) + Int.tmod ka (7 : Int) + (1 : Int)))
 then (bif (lim IntKind.i64 (Int.tmod ka (7 : Int) + Int.tmod ka (7 : Int) + (1 : Int) + Int.tmod ka (7 : Int)))
 then (bif (lim IntKind.i64 (Int.tmod ka (7 : Int) + Int.tmod ka (7 : Int) + Int.tmod ka (7 : Int)))
 then (bif (lim IntKind.i64 (Int.tmod ka (7 : Int) + Int.tmod ka (7 : Int) + Int.tmod ka (7 : Int) + (1 : Int)))
 then (bif (lim IntKind.i64
 (Int.tmod ka (7 : Int) + Int.tmod ka (7 : Int) + Int.tmod ka (7 : Int) + (1 : Int) - Int.tmod ka (7 : Int)))
 then (bif (Prod.snd
 (Prod.snd
 (S.losS (2 : Int) (Int.tmod ka (7 : Int)) (0 : Int) (0 : Int) ((1 : Int) + ra) (1000000000000 : Int)
 (Int.tmod ka (7 : Int)) (List.length x1) fun j => S.at' x1 j)) !=
 (0 : Int))
 then (some (.inr (false)))
 else (bif (Prod.snd
 (Prod.snd
 (S.losS (2 : Int) (Int.tmod ka (7 : Int) + Int.tmod ka (7 : Int) + (1 : Int) + Int.tmod ka (7 : Int))
 (0 : Int) (0 : Int) ((1 : Int) + ra) (1000000000000 : Int) (Int.tmod ka (7 : Int)) (List.length x1)
 fun j => S.at' x1 j)) !=
 (0 : Int))
 then (some (.inr (false)))
 else (bif (Prod.snd
 (Prod.snd
 (S.losS (2 : Int)
 (Int.tmod ka (7 : Int) + Int.tmod ka (7 : Int) + Int.tmod ka (7 : Int) + (1 : Int) - Int.tmod ka (7 : Int))
 (0 : Int) (0 : Int) ((1 : Int) + ra) (1000000000000 : Int)
 (Int.tmod ka (7 : Int) + Int.tmod ka (7 : Int) + (1 : Int)) (List.length x1) fun j =>
 S.at' x1 j)) !=
 (0 : Int))
 then (some (.inr (false)))
 else (bif (Prod.snd
 (Prod.snd
 (S.losS (2 : Int)
 (Int.tmod ka (7 : Int) + Int.tmod ka (7 : Int) + Int.tmod ka (7 : Int) + (1 : Int) - Int.tmod ka (7 : Int))
 (0 : Int) (0 : Int) ((1 : Int) + ra) (1000000000000 : Int) (0 : Int) (List.length x1) fun j =>
 S.at' x1 j)) !=
 (0 : Int))
 then (some (.inr (false)))
 else (bif (Prod.fst
 (Prod.snd
 (S.losS (2 : Int) (Int.tmod ka (7 : Int)) (0 : Int) (0 : Int) ((1 : Int) + ra) (1000000000000 : Int)
 (Int.tmod ka (7 : Int)) (List.length x1) fun j => S.at' x1 j)))
 then (bif (Prod.fst
 (Prod.snd
 (S.losS (2 : Int) (Int.tmod ka (7 : Int) + Int.tmod ka (7 : Int) + (1 : Int) + Int.tmod ka (7 : Int))
 (0 : Int) (0 : Int) ((1 : Int) + ra) (1000000000000 : Int) (Int.tmod ka (7 : Int)) (List.length x1)
 fun j => S.at' x1 j)))
 then (bif (Prod.fst
 (Prod.snd
 (S.losS (2 : Int)
 (Int.tmod ka (7 : Int) + Int.tmod ka (7 : Int) + Int.tmod ka (7 : Int) + (1 : Int) - Int.tmod ka (7 : Int))
 (0 : Int) (0 : Int) ((1 : Int) + ra) (1000000000000 : Int)
 (Int.tmod ka (7 : Int) + Int.tmod ka (7 : Int) + (1 : Int)) (List.length x1) fun j => S.at' x1 j)))
 then (bif (Prod.fst
 (Prod.snd
 (S.losS (2 : Int)
 (Int.tmod ka (7 : Int) + Int.tmod ka (7 : Int) + Int.tmod ka (7 : Int) + (1 : Int) - Int.tmod ka (7 : Int))
 (0 : Int) (0 : Int) ((1 : Int) + ra) (1000000000000 : Int) (0 : Int) (List.length x1) fun j =>
 S.at' x1 j)))
 then (bif (lim IntKind.i64 ((4 : Int) * Int.tmod ka (7 : Int)))
 then (bif (lim IntKind.i64 ((4 : Int) * Int.tmod ka (7 : Int) + (2 : Int)))
 then (bif (decide ((↑(List.length x1) : Int) > (4 : Int) * Int.tmod ka (7 : Int) + (2 : Int)))
 then (bif (decide
 ((0 : Int) ≤ (4 : Int) * Int.tmod ka (7 : Int) + (2 : Int) ∧
 (4 : Int) * Int.tmod ka (7 : Int) + (2 : Int) < (↑(List.length x1) : Int)))
 then (bif (decide (Int.toNat ((4 : Int) * Int.tmod ka (7 : Int) + (2 : Int)) < List.length x1))
 then (bif (lim IntKind.i64 (S.at' x1 (Int.toNat ((4 : Int) * Int.tmod ka (7 : Int) + (2 : Int))) * ((1 : Int) + ra)))
 then (bif (lim IntKind.i64
 (Prod.fst
 (S.losS (2 : Int) (Int.tmod ka (7 : Int)) (0 : Int) (0 : Int) ((1 : Int) + ra) (1000000000000 : Int)
 (Int.tmod ka (7 : Int)) (List.length x1) fun j => S.at' x1 j) +
 Prod.fst
 (S.losS (2 : Int) (Int.tmod ka (7 : Int) + Int.tmod ka (7 : Int) + (1 : Int) + Int.tmod ka (7 : Int))
 (0 : Int) (0 : Int) ((1 : Int) + ra) (1000000000000 : Int) (Int.tmod ka (7 : Int)) (List.length x1)
 fun j => S.at' x1 j)))
 then (bif (lim IntKind.i64
 (Prod.fst
 (S.losS (2 : Int) (Int.tmod ka (7 : Int)) (0 : Int) (0 : Int) ((1 : Int) + ra) (1000000000000 : Int)
 (Int.tmod ka (7 : Int)) (List.length x1) fun j => S.at' x1 j) +
 Prod.fst
 (S.losS (2 : Int) (Int.tmod ka (7 : Int) + Int.tmod ka (7 : Int) + (1 : Int) + Int.tmod ka (7 : Int))
 (0 : Int) (0 : Int) ((1 : Int) + ra) (1000000000000 : Int) (Int.tmod ka (7 : Int)) (List.length x1)
 fun j => S.at' x1 j) +
 S.at' x1 (Int.toNat ((4 : Int) * Int.tmod ka (7 : Int) + (2 : Int))) * ((1 : Int) + ra)))
 then (bif (Prod.fst
 (S.losS (2 : Int) (Int.tmod ka (7 : Int)) (0 : Int) (0 : Int) ((1 : Int) + ra) (1000000000000 : Int)
 (Int.tmod ka (7 : Int)) (List.length x1) fun j => S.at' x1 j) +
 Prod.fst
 (S.losS (2 : Int) (Int.tmod ka (7 : Int) + Int.tmod ka (7 : Int) + (1 : Int) + Int.tmod ka (7 : Int))
 (0 : Int) (0 : Int) ((1 : Int) + ra) (1000000000000 : Int) (Int.tmod ka (7 : Int)) (List.length x1)
 fun j => S.at' x1 j) +
 S.at' x1 (Int.toNat ((4 : Int) * Int.tmod ka (7 : Int) + (2 : Int))) * ((1 : Int) + ra) ==
 Prod.fst
 (S.losS (2 : Int)
 (Int.tmod ka (7 : Int) + Int.tmod ka (7 : Int) + Int.tmod ka (7 : Int) + (1 : Int) - Int.tmod ka (7 : Int))
 (0 : Int) (0 : Int) ((1 : Int) + ra) (1000000000000 : Int)
 (Int.tmod ka (7 : Int) + Int.tmod ka (7 : Int) + (1 : Int)) (List.length x1) fun j => S.at' x1 j))
 then (bif (decide
 (Prod.fst
 (S.losS (2 : Int)
 (Int.tmod ka (7 : Int) + Int.tmod ka (7 : Int) + Int.tmod ka (7 : Int) + (1 : Int) - Int.tmod ka (7 : Int))
 (0 : Int) (0 : Int) ((1 : Int) + ra) (1000000000000 : Int) (0 : Int) (List.length x1) fun j =>
 S.at' x1 j) ≤
 Prod.fst
 (S.losS (2 : Int)
 (Int.tmod ka (7 : Int) + Int.tmod ka (7 : Int) + Int.tmod ka (7 : Int) + (1 : Int) - Int.tmod ka (7 : Int))
 (0 : Int) (0 : Int) ((1 : Int) + ra) (1000000000000 : Int)
 (Int.tmod ka (7 : Int) + Int.tmod ka (7 : Int) + (1 : Int)) (List.length x1) fun j => S.at' x1 j)))
 then (some (.inr (true)))
 else (some (.inr (false))))
 else (some (.inr (false))))
 else (none))
 else (none))
 else (none))
 else (none))
 else (none))
 else (bif (lim IntKind.i64
 (Prod.fst
 (S.losS (2 : Int) (Int.tmod ka (7 : Int)) (0 : Int) (0 : Int) ((1 : Int) + ra) (1000000000000 : Int)
 (Int.tmod ka (7 : Int)) (List.length x1) fun j => S.at' x1 j) +
 Prod.fst
 (S.losS (2 : Int) (Int.tmod ka (7 : Int) + Int.tmod ka (7 : Int) + (1 : Int) + Int.tmod ka (7 : Int))
 (0 : Int) (0 : Int) ((1 : Int) + ra) (1000000000000 : Int) (Int.tmod ka (7 : Int)) (List.length x1)
 fun j => S.at' x1 j)))
 then (bif (lim IntKind.i64
 (Prod.fst
 (S.losS (2 : Int) (Int.tmod ka (7 : Int)) (0 : Int) (0 : Int) ((1 : Int) + ra) (1000000000000 : Int)
 (Int.tmod ka (7 : Int)) (List.length x1) fun j => S.at' x1 j) +
 Prod.fst
 (S.losS (2 : Int) (Int.tmod ka (7 : Int) + Int.tmod ka (7 : Int) + (1 : Int) + Int.tmod ka (7 : Int))
 (0 : Int) (0 : Int) ((1 : Int) + ra) (1000000000000 : Int) (Int.tmod ka (7 : Int)) (List.length x1)
 fun j => S.at' x1 j) +
 (0 : Int)))
 then (bif (Prod.fst
 (S.losS (2 : Int) (Int.tmod ka (7 : Int)) (0 : Int) (0 : Int) ((1 : Int) + ra) (1000000000000 : Int)
 (Int.tmod ka (7 : Int)) (List.length x1) fun j => S.at' x1 j) +
 Prod.fst
 (S.losS (2 : Int) (Int.tmod ka (7 : Int) + Int.tmod ka (7 : Int) + (1 : Int) + Int.tmod ka (7 : Int))
 (0 : Int) (0 : Int) ((1 : Int) + ra) (1000000000000 : Int) (Int.tmod ka (7 : Int)) (List.length x1)
 fun j => S.at' x1 j) +
 (0 : Int) ==
 Prod.fst
 (S.losS (2 : Int)
 (Int.tmod ka (7 : Int) + Int.tmod ka (7 : Int) + Int.tmod ka (7 : Int) + (1 : Int) - Int.tmod ka (7 : Int))
 (0 : Int) (0 : Int) ((1 : Int) + ra) (1000000000000 : Int)
 (Int.tmod ka (7 : Int) + Int.tmod ka (7 : Int) + (1 : Int)) (List.length x1) fun j => S.at' x1 j))
 then (bif (decide
 (Prod.fst
 (S.losS (2 : Int)
 (Int.tmod ka (7 : Int) + Int.tmod ka (7 : Int) + Int.tmod ka (7 : Int) + (1 : Int) - Int.tmod ka (7 : Int))
 (0 : Int) (0 : Int) ((1 : Int) + ra) (1000000000000 : Int) (0 : Int) (List.length x1) fun j =>
 S.at' x1 j) ≤
 Prod.fst
 (S.losS (2 : Int)
 (Int.tmod ka (7 : Int) + Int.tmod ka (7 : Int) + Int.tmod ka (7 : Int) + (1 : Int) - Int.tmod ka (7 : Int))
 (0 : Int) (0 : Int) ((1 : Int) + ra) (1000000000000 : Int)
 (Int.tmod ka (7 : Int) + Int.tmod ka (7 : Int) + (1 : Int)) (List.length x1) fun j => S.at' x1 j)))
 then (some (.inr (true)))
 else (some (.inr (false))))
 else (some (.inr (false))))
 else (none))
 else (none)))
 else (none))
 else (none))
 else (some (.inr (false))))
 else (some (.inr (false))))
 else (some (.inr (false))))
 else (some (.inr (false))))))))
 else (none))
 else (none))
 else (none))
 else (none))
 else (none))
 else (none))
 else (none))
 else (none))
 else (none)) : Option (St10 ⊕ Rt10)) = some x) : T10_0 cond Kst Kret al nl ml tl ka ra x0 x1 := by
  unfold T10_0
  refine bif_split h
   (fun c0 h => bif_split h
   (fun c1 h => bif_split h
   (fun c2 h => bif_split h
   (fun c3 h => bif_split h
   (fun c4 h => bif_split h
   (fun c5 h => cond_yes rfl (bif_split h
   (fun c6 h => stop_at hS _ h (fun n => bif Nat.beq n 1 then 1 else bif Nat.beq n 2 then 2 else bif Nat.beq n 3 then 5 else n) rfl rfl rfl ⟨(rn_ptr (use_own rfl) rfl rfl), ⟨(rn_int rfl), ⟨(rn_ptr (use_own rfl) rfl rfl), ⟨(rn_loose (use_lo rfl) rfl rfl rfl), ⟨(rn_int rfl), ⟨(rn_int rfl), trivial⟩⟩⟩⟩⟩⟩ rfl (entl_b (use_own rfl) rfl (by simp) (rb_cells ⟨(rn_int rfl), trivial⟩) (entl_b (use_own rfl) rfl (by simp) (rb_cells ⟨(rn_own (use_own rfl) rfl (snoc_len' rfl)), trivial⟩) (entl_new (use_own rfl) rfl (Nat.le_of_eq (snoc_len' rfl)) (rcs_int (col_snoc' (fun (t : Int) => t) rfl (fun _ _ => rfl)) rcs_nil) (entl_bor (use_lo rfl) rfl rfl entl_nil)))))
   (fun c6 h => ?_)))
   (fun c5 h => ?_))
   (fun c4 h => ?_))
   (fun c3 h => ?_))
   (fun c2 h => ?_))
   (fun c1 h => ?_))
   (fun c0 h => bif_split h
   (fun c1 h => bif_split h
   (fun c2 h => bif_split h
   (fun c3 h => cond_yes c3 (bif_split h
   (fun c4 h => bif_split h
   (fun c5 h => bif_split h
   (fun c6 h => cond_yes c1 (cond_yes c2 (cond_yes c3 (cond_yes c3 (cond_yes c4 (bif_split h
   (fun c7 h => bif_split h
   (fun c8 h => bif_split h
   (fun c9 h => cond_yes c4 (cond_yes c5 (cond_yes c1 (cond_yes c2 (cond_yes c3 (cond_yes c3 (cond_yes c4 (cond_yes c7 (cond_yes c8 (cond_yes c9 (cond_yes c1 (cond_yes c2 (cond_yes c3 (cond_yes c3 (bif_split h
   (fun c10 h => ?_)
   (fun c10 h => bif_split h
   (fun c11 h => ?_)
   (fun c11 h => bif_split h
   (fun c12 h => ?_)
   (fun c12 h => bif_split h
   (fun c13 h => ?_)
   (fun c13 h => bif_split h
   (fun c14 h => bif_split h
   (fun c15 h => bif_split h
   (fun c16 h => bif_split h
   (fun c17 h => bif_split h
   (fun c18 h => bif_split h
   (fun c19 h => bif_split h
   (fun c20 h => cond_yes c18 (cond_yes c19 (bif_split h
   (fun c21 h => bif_split h
   (fun c22 h => cond_yes c1 (cond_yes c2 (bif_split h
   (fun c23 h => bif_split h
   (fun c24 h => bif_split h
   (fun c25 h => bif_split h
   (fun c26 h => bif_split h
   (fun c27 h => ?_)
   (fun c27 h => ?_))
   (fun c26 h => ?_))
   (fun c25 h => ?_))
   (fun c24 h => ?_))
   (fun c23 h => ?_))))
   (fun c22 h => ?_))
   (fun c21 h => ?_))))
   (fun c20 h => bif_split h
   (fun c21 h => bif_split h
   (fun c22 h => bif_split h
   (fun c23 h => bif_split h
   (fun c24 h => ?_)
   (fun c24 h => ?_))
   (fun c23 h => ?_))
   (fun c22 h => ?_))
   (fun c21 h => ?_)))
   (fun c19 h => ?_))
   (fun c18 h => ?_))
   (fun c17 h => ?_))
   (fun c16 h => ?_))
   (fun c15 h => ?_))
   (fun c14 h => ?_))))))))))))))))))))
   (fun c9 h => ?_))
   (fun c8 h => ?_))
   (fun c7 h => ?_)))))))
   (fun c6 h => ?_))
   (fun c5 h => ?_))
   (fun c4 h => ?_)))
   (fun c3 h => ?_))
   (fun c2 h => ?_))
   (fun c1 h => ?_))
  all_goals first
    | exact no_some h
    | exact ret_at hR _ h (fun n => n) rfl rfl rfl (rn_bool_tf rfl) rfl (entl_bor (use_lo rfl) rfl rfl entl_nil)
theorem a10 (al nl ml : Nat) (tl : Nat → Int) (ka ra : Int) {r : Rt10} (h : Goes ((q10 al nl ml tl ka ra)) ((p10 al nl ml tl ka ra)) r) : CallR Try.prog 10 [.loose ⟨0, 1, al, 0⟩ nl, .int .u8 ka, .int .u8 ra] [[(0, (false, .cols ml [.int .u8 tl]))]] 1 ((V10 al nl ml tl ka ra) r) ((fun r => [newL (1 + 1) ((N10 al nl ml tl ka ra) r) ++ [(0, (false, .cols ml [.int .u8 tl]))]]) r) 400 ∧ ∃ F, Try.prog.funcs[10]? = some F ∧ F.body.isSome = true ∧ (F.name == "runtime.NumGoroutine") = false := by
  refine dec_calls (f := 10) (lo := 1) (hi := 400) (H := [[(0, (false, .cols ml [.int .u8 tl]))]]) (args := [.loose ⟨0, 1, al, 0⟩ nl, .int .u8 ka, .int .u8 ra]) Try.envOk Try.mixed xE_ok ((I10 al nl ml tl ka ra)) ((V10 al nl ml tl ka ra)) (fun r => [newL (1 + 1) ((N10 al nl ml tl ka ra) r) ++ [(0, (false, .cols ml [.int .u8 tl]))]]) (fn := mkFn Try.f10) (ts := [5, 7, 8, 32, 33, 34]) (n := 400) rfl (by decide) (by simp) (names_of rfl) ?_ ?_ ?_ h
  · intro s; cases s <;> exact ⟨hd_ok _ _, by simp [I10], names_of rfl, Nat.le_of_ble_eq_true rfl⟩
  · intro Kst Kret x hS hR h
    exact Holds.eq (te10 cond Kst Kret al nl ml tl ka ra) (be10 al nl ml tl ka ra Kst Kret x hS hR h)
  · intro Kst Kret x hS hR s h
    cases s with
    | h0 x0 x1 => exact Holds.eq (t10_0 cond Kst Kret al nl ml tl ka ra x0 x1) (b10_0 al nl ml tl ka ra Kst Kret x hS hR x0 x1 h)
noncomputable def k10  : Con := ⟨10, [.one (.list [.int .u8]), .one (.plain (.int .u8)), .one (.plain (.int .u8))], fun (x : (Nat × Nat × Nat × (Nat → Int) × Unit) × Int × Int × Unit) => (fun (al nl ml : Nat) (tl : Nat → Int) (ka : Int) (ra : Int) => decide (al + nl ≤ ml ∧ S.byB (fun j => tl (j + al)) nl = true ∧ S.isB ka = true ∧ S.isB ra = true)) x.1.1 x.1.2.1 x.1.2.2.1 x.1.2.2.2.1 x.2.1 x.2.2.1, fun (x : (Nat × Nat × Nat × (Nat → Int) × Unit) × Int × Int × Unit) => (fun (al nl ml : Nat) (tl : Nat → Int) (ka : Int) (ra : Int) => (V10 al nl ml tl ka ra) (true)) x.1.1 x.1.2.1 x.1.2.2.1 x.1.2.2.2.1 x.2.1 x.2.2.1, fun (x : (Nat × Nat × Nat × (Nat → Int) × Unit) × Int × Int × Unit) => (fun (al nl ml : Nat) (tl : Nat → Int) (ka : Int) (ra : Int) => (N10 al nl ml tl ka ra) (true)) x.1.1 x.1.2.1 x.1.2.2.1 x.1.2.2.2.1 x.2.1 x.2.2.1, fun _ _ => .dead⟩
theorem s10' (al nl ml : Nat) (tl : Nat → Int) (ka ra : Int) (hp : al + nl ≤ ml ∧ S.byB (fun j => tl (j + al)) nl = true ∧ S.isB ka = true ∧ S.isB ra = true) (hn : nl ≤ 15) : ∀ k i : Nat, i + k = nl → Comes (q10 al nl ml tl ka ra) (.h0 (i : Int) (S.mkl i (fun j => tl (j + al)))) true := by
  obtain ⟨hp1, hp2, hp3, hp4⟩ := hp
  have hb : ∀ j, j < nl → 0 ≤ tl (j + al) ∧ tl (j + al) ≤ 255 := fun j hj => of_decide_eq_true (all_iff.mp hp2 j hj)
  have hk := of_decide_eq_true hp3
  have hr := of_decide_eq_true hp4
  have hm := tmd hk.1 (show (0 : Int) < 7 by decide)
  intro k
  induction k with
  | zero =>
    intro i hi
    obtain rfl : nl = i := by omega
    apply Comes.of
    show Goes _ _ _
    rw [q10]
    simp only [mkl_len]
    generalize Int.tmod ka 7 = m at *
    have cg : ∀ pc re : Int, (S.losS 2 pc 0 0 (1 + ra) 1000000000000 re nl fun j => S.at' (S.mkl nl (fun j => tl (j + al))) j) = S.losS 2 pc 0 0 (1 + ra) 1000000000000 re nl (fun j => tl (j + al)) := fun pc re => losS_congr fun j hj => at_mkl hj
    simp only [cg]
    have cl : ∀ pc re : Int, (0 ≤ pc ∧ pc ≤ 199) → (0 ≤ re ∧ re ≤ 199) → S.losS 2 pc 0 0 (1 + ra) 1000000000000 re nl (fun j => tl (j + al)) = ((1 + ra) * S.sumN (S.losT (fun j => tl (j + al)) pc re) nl, true, 0) := fun pc re h1 h2 => los_good hn hb (by omega) h1 h2
    rw [cl m m (by omega) (by omega), cl (m + m + 1 + m) m (by omega) (by omega), cl (m + m + m + 1 - m) (m + m + 1) (by omega) (by omega), cl (m + m + m + 1 - m) 0 (by omega) (by omega)]
    have hs := los_split (t := (fun j => tl (j + al))) hm.1 nl
    have hle := los_le (t := (fun j => tl (j + al))) (pc := m + m + m + 1 - m) (show (0 : Int) ≤ m + m + 1 by omega) (n := nl) fun j hj => (hb j hj).1
    have b1 := los_bnd (t := (fun j => tl (j + al))) (pc := m) (re := m) (n := nl) fun j h => by have := hb j h; (try dsimp only); omega
    have b2 := los_bnd (t := (fun j => tl (j + al))) (pc := m + m + 1 + m) (re := m) (n := nl) fun j h => by have := hb j h; (try dsimp only); omega
    have b3 := los_bnd (t := (fun j => tl (j + al))) (pc := m + m + m + 1 - m) (re := m + m + 1) (n := nl) fun j h => by have := hb j h; (try dsimp only); omega
    have b4 := los_bnd (t := (fun j => tl (j + al))) (pc := m + m + m + 1 - m) (re := 0) (n := nl) fun j h => by have := hb j h; (try dsimp only); omega
    generalize S.sumN (S.losT (fun j => tl (j + al)) m m) nl = A at *
    generalize S.sumN (S.losT (fun j => tl (j + al)) (m + m + 1 + m) m) nl = B at *
    generalize S.sumN (S.losT (fun j => tl (j + al)) (m + m + m + 1 - m) (m + m + 1)) nl = C at *
    generalize S.sumN (S.losT (fun j => tl (j + al)) (m + m + m + 1 - m) 0) nl = D at *
    have mb : ∀ z : Int, 0 ≤ z → z ≤ 1000 * (nl : Int) → 0 ≤ (1 + ra) * z ∧ (1 + ra) * z ≤ 256 * (1000 * (nl : Int)) := fun z h0 h1 => ⟨Int.mul_nonneg (by omega) h0, Int.le_trans (Int.mul_le_mul_of_nonneg_right (show 1 + ra ≤ 256 by omega) h0) (Int.mul_le_mul_of_nonneg_left h1 (by decide))⟩
    have m1 := mb A b1.1 b1.2
    have m2 := mb B b2.1 b2.2
    have m3 := mb C b3.1 b3.2
    have m4 := mb D b4.1 b4.2
    have hDC : (1 + ra) * D ≤ (1 + ra) * C := Int.mul_le_mul_of_nonneg_left hle (by omega)
    by_cases hl : (nl : Int) > 4 * m + 2
    · rw [if_pos hl] at hs
      rw [at_mkl (show Int.toNat (4 * m + 2) < nl by omega)]
      have hbl := hb (Int.toNat (4 * m + 2)) (by omega)
      generalize tl (Int.toNat (4 * m + 2) + al) = z at *
      have mz : 0 ≤ z * (1 + ra) ∧ z * (1 + ra) ≤ 255 * 256 := ⟨Int.mul_nonneg hbl.1 (by omega), Int.le_trans (Int.mul_le_mul_of_nonneg_right hbl.2 (by omega)) (Int.mul_le_mul_of_nonneg_left (show 1 + ra ≤ 256 by omega) (by decide))⟩
      have he : (1 + ra) * A + (1 + ra) * B + z * (1 + ra) = (1 + ra) * C := by
        rw [Int.mul_comm z, ← Int.mul_add, ← Int.mul_add, hs]
      generalize (1 + ra) * A = A' at *
      generalize (1 + ra) * B = B' at *
      generalize (1 + ra) * C = C' at *
      generalize (1 + ra) * D = D' at *
      generalize z * (1 + ra) = z' at *
      repeat' first
        | with_reducible exact goes_inr.mpr rfl
        | (refine goes_ok ?_ ?_; focus (first | with_reducible exact beq_self_eq_true _ | (simp only [Bool.and_eq_true, decide_eq_true_eq, and_self, eq_self]; done) | with_reducible exact decide_eq_true trivial | with_reducible exact decide_eq_true rfl | (simp only [eq_self, decide_true, Bool.and_self, Bool.and_true, Bool.true_and]; done) | (apply decide_eq_true; omega) | (rw [lim64]; apply decide_eq_true; omega) | (apply decide_eq_true; simp only [mkl_len, mkl_zero, List.length_nil, true_and, and_true, and_self, Nat.zero_add, Nat.add_zero, Nat.le_refl]; done) | (apply decide_eq_true; simp only [mkl_len, mkl_zero, List.length_nil, true_and, and_true, and_self, Nat.zero_add, Nat.add_zero, Nat.le_refl]; omega) | decide | (apply beq_iff_eq.mpr; omega)))
        | (refine goes_no ?_ ?_; focus (first | with_reducible exact bne_self_eq_false _ | (apply decide_eq_false; omega) | decide))

    · rw [if_neg hl] at hs
      have he : (1 + ra) * A + (1 + ra) * B + 0 = (1 + ra) * C := by
        rw [Int.add_zero, ← Int.mul_add, ← hs, Int.add_zero]
      generalize (1 + ra) * A = A' at *
      generalize (1 + ra) * B = B' at *
      generalize (1 + ra) * C = C' at *
      generalize (1 + ra) * D = D' at *
      repeat' first
        | with_reducible exact goes_inr.mpr rfl
        | (refine goes_ok ?_ ?_; focus (first | with_reducible exact beq_self_eq_true _ | (simp only [Bool.and_eq_true, decide_eq_true_eq, and_self, eq_self]; done) | with_reducible exact decide_eq_true trivial | with_reducible exact decide_eq_true rfl | (simp only [eq_self, decide_true, Bool.and_self, Bool.and_true, Bool.true_and]; done) | (apply decide_eq_true; omega) | (rw [lim64]; apply decide_eq_true; omega) | (apply decide_eq_true; simp only [mkl_len, mkl_zero, List.length_nil, true_and, and_true, and_self, Nat.zero_add, Nat.add_zero, Nat.le_refl]; done) | (apply decide_eq_true; simp only [mkl_len, mkl_zero, List.length_nil, true_and, and_true, and_self, Nat.zero_add, Nat.add_zero, Nat.le_refl]; omega) | decide | (apply beq_iff_eq.mpr; omega)))
        | (refine goes_no ?_ ?_; focus (first | with_reducible exact bne_self_eq_false _ | (apply decide_eq_false; omega) | decide))

  | succ k ih =>
    intro i hi
    have ih := ih (i + 1) (by omega)
    have hbi := hb i (by omega)
    rw [mkl_succ] at ih
    apply Comes.of
    show Goes _ _ _
    (first | rw [q10] | unfold q10)
    repeat' first
      | with_reducible refine goes_if (fun h => ?_) (fun h => ?_) <;> (try simp only [SH, mkl_len] at h)
      | exact goes_none.mpr (by omega)
    all_goals first | (exfalso; omega) | exact ih
theorem s10 (al nl ml : Nat) (tl : Nat → Int) (ka ra : Int) (hp : al + nl ≤ ml ∧ S.byB (fun j => tl (j + al)) nl = true ∧ S.isB ka = true ∧ S.isB ra = true) : Goes ((q10 al nl ml tl ka ra)) ((p10 al nl ml tl ka ra)) (true) := by
  by_cases h0 : (nl : Int) > 15
  · unfold p10
    exact goes_ok (decide_eq_true h0) (goes_inr.mpr rfl)
  · have hm := s10' al nl ml tl ka ra hp (by omega) nl 0 (by omega)
    have hk := of_decide_eq_true hp.2.2.1
    have hm' := tmd hk.1 (show (0 : Int) < 7 by decide)
    show Goes _ _ _
    unfold p10
    repeat' first
      | with_reducible refine goes_if (fun h => ?_) (fun h => ?_) <;> (try simp only [SH] at h)
      | exact goes_none.mpr (by omega)
    all_goals first | (exfalso; omega) | exact hm
theorem k10_ok  : k10.ok Try.prog := by
  intro x hx
  obtain ⟨⟨al, nl, ml, tl, _⟩, ka, ra, _⟩ := x
  obtain ⟨h1, h2⟩ := a10 al nl ml tl ka ra (s10 al nl ml tl ka ra (of_dec hx rfl))
  exact ⟨⟨400, (by decide : 1 + 1 + 0 ≤ 400), h1⟩, h2⟩
theorem pre10  {x : SsI k10.ss} (hx : ssFits k10.ss x) : k10.pre (ssj k10.ss x) = true := by
  obtain ⟨⟨n, t, u'⟩, c0, c1, u''⟩ := x
  obtain ⟨⟨hn, ht, -⟩, h0, h1, -⟩ := hx
  exact decide_eq_true ⟨Nat.le_of_eq (Nat.zero_add _), byB_mk ht, decide_eq_true h0, decide_eq_true h1⟩
end Go.Ev
