/-
  The parts that the statement needs, 1 of 1.
-/
import Derived.Test.YtmkdcfhacldnlaaEnv
import Derived.Test.YtmkdcfhacldnlaaEvY
import Derived.Test.YtmkdcfhacldnlaaKit
namespace Go.Ev
open Go.Proofs
set_option linter.unusedVariables false
set_option linter.unusedSimpArgs false
set_option maxRecDepth 100000
theorem SH : type_of% (And.intro @lim64 (And.intro @imp_false (And.intro @decide_eq_true_eq (And.intro @decide_eq_false_iff_not (And.intro @Int.toNat_natCast (And.intro @toNat_pred (And.intro @toNat_succ (And.intro @Option.getD_some.{0} (And.intro @Option.getD_none.{0} (And.intro @Bool.not_eq_true' (And.intro @Bool.not_eq_false' (And.intro @Bool.and_eq_true (And.intro @Bool.or_eq_true (And.intro @Bool.and_eq_false_iff (And.intro @Bool.or_eq_false_iff (And.intro @bne_iff_ne.{0} (And.intro @beq_iff_eq.{0} (And.intro @bne_eq_false_iff_eq.{0} (And.intro @beq_eq_false_iff_ne.{0} (And.intro @ne_eq.{1} (And.intro @not_and (And.intro @Int.not_le (And.intro @Int.not_lt (And.intro @ge_iff_le.{0} (And.intro @gt_iff_lt.{0} (And.intro @Nat.not_lt (And.intro @Nat.not_le (And.intro @Bool.not_eq_true (And.intro @Bool.not_eq_false (And.intro @Bool.true_eq_false (And.intro @Bool.false_eq_true (And.intro @not_false_eq_true @not_true_eq_false)))))))))))))))))))))))))))))))) :=
  (And.intro @lim64 (And.intro @imp_false (And.intro @decide_eq_true_eq (And.intro @decide_eq_false_iff_not (And.intro @Int.toNat_natCast (And.intro @toNat_pred (And.intro @toNat_succ (And.intro @Option.getD_some.{0} (And.intro @Option.getD_none.{0} (And.intro @Bool.not_eq_true' (And.intro @Bool.not_eq_false' (And.intro @Bool.and_eq_true (And.intro @Bool.or_eq_true (And.intro @Bool.and_eq_false_iff (And.intro @Bool.or_eq_false_iff (And.intro @bne_iff_ne.{0} (And.intro @beq_iff_eq.{0} (And.intro @bne_eq_false_iff_eq.{0} (And.intro @beq_eq_false_iff_ne.{0} (And.intro @ne_eq.{1} (And.intro @not_and (And.intro @Int.not_le (And.intro @Int.not_lt (And.intro @ge_iff_le.{0} (And.intro @gt_iff_lt.{0} (And.intro @Nat.not_lt (And.intro @Nat.not_le (And.intro @Bool.not_eq_true (And.intro @Bool.not_eq_false (And.intro @Bool.true_eq_false (And.intro @Bool.false_eq_true (And.intro @not_false_eq_true @not_true_eq_false))))))))))))))))))))))))))))))))
namespace S
def any (p : Nat → Bool) (n : Nat) : Bool := (List.range n).any p
end S
theorem nbeq_no  {i j : Nat} (h : j ≠ i) : Nat.beq j i = false := by
  cases hb : Nat.beq j i
  · rfl
  · exact absurd (Nat.eq_of_beq_eq_true hb) h
namespace S
def all (p : Nat → Bool) (n : Nat) : Bool := (List.range n).all p
def sumN (t : Nat → Int) : Nat → Int
  | 0 => 0
  | n + 1 => sumN t n + t n
def max0 (t : Nat → Int) : Nat → Int
  | 0 => 0
  | n + 1 => max (max0 t n) (t n)
end S
theorem all_iff  {p : Nat → Bool} {n : Nat} : S.all p n = true ↔ ∀ j, j < n → p j = true := by simp [S.all]
theorem sumN_congr  {t u : Nat → Int} : ∀ {n : Nat}, (∀ j, j < n → t j = u j) → S.sumN t n = S.sumN u n
  | 0, _ => rfl
  | n + 1, h => by
    have e : S.sumN t n = S.sumN u n := sumN_congr fun j hj => h j (by omega)
    simp only [S.sumN, e, h n (Nat.lt_succ_self _)]
theorem max0_congr  {t u : Nat → Int} : ∀ {n : Nat}, (∀ j, j < n → t j = u j) → S.max0 t n = S.max0 u n
  | 0, _ => rfl
  | n + 1, h => by
    have e : S.max0 t n = S.max0 u n := max0_congr fun j hj => h j (by omega)
    simp only [S.max0, e, h n (Nat.lt_succ_self _)]
namespace S
def insE (kd pc pn of rs rg re : Int) : Int :=
  if kd = 1 ∨ kd = 2 ∨ kd = 3 then
    if ((kd = 1 ∧ (1 ≤ pn ∧ pn ≤ 2) ∧ (-1000000000000 ≤ of ∧ of ≤ 1000000000000) ∧ (1 ≤ rs ∧ rs ≤ 1000000000) ∧ re = 0) ∨ (kd = 2 ∧ pn = 0 ∧ of = 0 ∧ (1 ≤ rs ∧ rs ≤ 1000000) ∧ (0 ≤ re ∧ re ≤ 199)) ∨ (kd = 3 ∧ pn = 0 ∧ (-1000000000000 ≤ of ∧ of ≤ 1000000000000) ∧ (1 ≤ rs ∧ rs ≤ 1000000) ∧ re = 0)) ∧ (0 ≤ pc ∧ pc ≤ 199) ∧ (1 ≤ rg ∧ rg ≤ 1000000000000) then 0 else 6
  else 1
def kinE (kd pc pn of rs rg re want : Int) : Int := if insE kd pc pn of rs rg re = 0 then (if kd = want then 0 else 8) else insE kd pc pn of rs rg re
end S
noncomputable def k13  : Con := ⟨13, [.one (.list [.int .i64])], fun (x : (Nat × Nat × Nat × (Nat → Int) × Unit) × Unit) => (fun (aa na ma : Nat) (ta : Nat → Int) => decide (aa + na ≤ ma ∧ na ≤ 1000000)) x.1.1 x.1.2.1 x.1.2.2.1 x.1.2.2.2.1, fun (x : (Nat × Nat × Nat × (Nat → Int) × Unit) × Unit) => (fun (aa na ma : Nat) (ta : Nat → Int) => .own 2 1 na) x.1.1 x.1.2.1 x.1.2.2.1 x.1.2.2.2.1, fun (x : (Nat × Nat × Nat × (Nat → Int) × Unit) × Unit) => (fun (aa na ma : Nat) (ta : Nat → Int) => [.cols na [.int .i64 (fun j => ta (j + aa))]]) x.1.1 x.1.2.1 x.1.2.2.1 x.1.2.2.2.1, fun _ _ => .dead⟩
theorem e13s (test : Bool → Prop → Prop → Prop) (Kst : List It → List PV → Heap → Nat → Prop) (Kret : PV → Heap → Nat → Prop) (aa na ma : Nat) (ta : Nat → Int) :
  (run test Try.env true noX true 300 ⟨13, [.cd (mkFn Try.f13).body], argT 0 [.sl ⟨0, 1, aa, 0⟩ na], [[], [(0, (false, .cols ma [.int .i64 ta]))]], 1⟩ (proj 1 [] Kst Kret)) =
  (test (decide (0 + na ≤ 1000000))
  (test true
    (test (decide (aa + na ≤ ma))
      (Kret (PV.own (2) (1) (0 + na))
        [[(0, false, Blk.cols ma [Col.int IntKind.i64 ta]),
            (2, true, Blk.cols (0 + na) [Col.int IntKind.i64 fun j => ta (j + aa)])]]
        (3))
      False)
    False)
  False) := by kernel_rfl
theorem c13s (aa na ma : Nat) (ta : Nat → Int) (hp : aa + na ≤ ma ∧ na ≤ 1000000) (h0 : 0 < na) : CallR Try.prog 13 [.sl ⟨0, 1, aa, 0⟩ na] [[(0, (false, .cols ma [.int .i64 ta]))]] 1 (.own 2 1 na) [(2, (true, .cols na [.int .i64 (fun j => ta (j + aa))])) :: [(0, (false, .cols ma [.int .i64 ta]))]] 40 ∧ ∃ F, Try.prog.funcs[13]? = some F ∧ F.body.isSome = true ∧ (F.name == "runtime.NumGoroutine") = false := by
  refine @ret_eq _ _ Try.envOk Try.mixed _ noX_ok 13 (mkFn Try.f13) [.sl ⟨0, 1, aa, 0⟩ na] [[(0, (false, .cols ma [.int .i64 ta]))]] [(2, (true, .cols na [.int .i64 (fun j => ta (j + aa))])) :: [(0, (false, .cols ma [.int .i64 ta]))]] 1 40 (.own 2 1 na) true 300 rfl (by decide) (by simp) (names_of rfl) _ (e13s cond _ _ aa na ma ta) ?_
  repeat' first
    | with_reducible refine cond_yes rfl ?_
    | with_reducible refine cond_no rfl ?_
    | (with_reducible refine cond_intro (fun h => ?_) (fun h => ?_)) <;> (try simp only [lim64, decide_eq_true_eq, decide_eq_false_iff_not, reduceCtorEq, Int.toNat_natCast, Bool.not_eq_true', Bool.not_eq_false', Bool.and_eq_true, Bool.or_eq_true, Bool.and_eq_false_iff, Bool.or_eq_false_iff, bne_iff_ne, beq_iff_eq, bne_eq_false_iff_eq, beq_eq_false_iff_ne, ne_eq] at h)
  all_goals first
    | with_reducible apply ret_k
    | omega
  repeat' first
    | with_reducible exact rns_nil
    | with_reducible refine rns_cons ?_ ?_
    | with_reducible refine rn_tup ?_
    | with_reducible refine rn_agg ?_
    | with_reducible refine rn_int ?_
    | with_reducible refine rn_tf ?_
    | with_reducible refine rn_bool_tf ?_
    | with_reducible refine rn_bool ?_
    | with_reducible refine rn_str ?_
    | with_reducible exact rn_nils
    | with_reducible refine rn_own_nils ?_
    | with_reducible refine rn_own ?_ ?_ ?_
    | with_reducible refine rn_own_sl ?_ ?_ ?_ ?_ ?_
    | with_reducible refine rn_own_loose ?_ ?_ ?_ ?_
    | with_reducible refine rn_loose ?_ ?_ ?_ ?_
    | with_reducible refine rn_loose_sl ?_ ?_ ?_ ?_
    | exact use_lo rfl
    | exact use_own rfl
    | exact nm_k rfl
    | exact nm_lo rfl
    | ((with_reducible refine (id : pos _ = pos _ → _) ?_); exact rfl)
    | ((with_reducible refine (id : pos _ = 0 → _) ?_); exact rfl)
    | ((with_reducible refine (id : Nat.ble _ _ = true → _) ?_); exact rfl)
    | ((with_reducible refine (id : injL _ _ = true → _) ?_); exact rfl)
    | ((with_reducible refine (id : plainC _ = true → _) ?_); exact rfl)
    | ((with_reducible refine (id : hget _ _ = some _ → _) ?_); exact rfl)
    | with_reducible exact (id : (_ : Bool) = true → _ = true)
    | with_reducible exact entl_nil
    | with_reducible refine entl_bor ?_ ?_ ?_ ?_
    | refine entl_new (use_own rfl) (by rfl) ?_ ?_ ?_
    | refine entl_rows (use_own rfl) (by rfl) rfl ?_ (nthc_all ?_) ?_
    | refine entl_zero (use_own rfl) (by rfl) (by simp) (by omega) ?_
    | with_reducible exact rcs_nil
    | with_reducible refine rcs_int (fun j hj => ?_) ?_
    | with_reducible refine rcs_bool (fun j hj => ?_) ?_
    | with_reducible refine rcs_str (fun j hj => ?_) ?_
    | refine entl_fresh (k := 2) (use_own rfl) (fresh_ok (n := 39) rfl) ?_
    | with_reducible rfl
  all_goals try exact (0 : Nat)
  all_goals try ((with_reducible refine (id : injL _ _ = true → _) ?_); exact rfl)
  all_goals first
    | omega
    | skip
theorem e13z (test : Bool → Prop → Prop → Prop) (Kst : List It → List PV → Heap → Nat → Prop) (Kret : PV → Heap → Nat → Prop) (aa na ma : Nat) (ta : Nat → Int) :
  (run test Try.env true noX true 300 ⟨13, [.cd (mkFn Try.f13).body], argT 0 [.zer true], [[], [(0, (false, .cols ma [.int .i64 ta]))]], 1⟩ (proj 1 [] Kst Kret)) =
  (Kret (PV.own (1) (1) (0))
  [[(0, false, Blk.cols ma [Col.int IntKind.i64 ta]), (1, true, Blk.cells [])]] (2)) := by kernel_rfl
theorem c13z (aa na ma : Nat) (ta : Nat → Int) (hp : aa + na ≤ ma ∧ na ≤ 1000000) (h0 : na = 0) : CallR Try.prog 13 [.zer true] [[(0, (false, .cols ma [.int .i64 ta]))]] 1 (.own 2 1 na) [(2, (true, .cols na [.int .i64 (fun j => ta (j + aa))])) :: [(0, (false, .cols ma [.int .i64 ta]))]] 40 ∧ ∃ F, Try.prog.funcs[13]? = some F ∧ F.body.isSome = true ∧ (F.name == "runtime.NumGoroutine") = false := by
  refine @ret_eq _ _ Try.envOk Try.mixed _ noX_ok 13 (mkFn Try.f13) [.zer true] [[(0, (false, .cols ma [.int .i64 ta]))]] [(2, (true, .cols na [.int .i64 (fun j => ta (j + aa))])) :: [(0, (false, .cols ma [.int .i64 ta]))]] 1 40 (.own 2 1 na) true 300 rfl (by decide) (by simp) (names_of rfl) _ (e13z cond _ _ aa na ma ta) ?_
  repeat' first
    | with_reducible refine cond_yes rfl ?_
    | with_reducible refine cond_no rfl ?_
    | (with_reducible refine cond_intro (fun h => ?_) (fun h => ?_)) <;> (try simp only [lim64, decide_eq_true_eq, decide_eq_false_iff_not, reduceCtorEq, Int.toNat_natCast, Bool.not_eq_true', Bool.not_eq_false', Bool.and_eq_true, Bool.or_eq_true, Bool.and_eq_false_iff, Bool.or_eq_false_iff, bne_iff_ne, beq_iff_eq, bne_eq_false_iff_eq, beq_eq_false_iff_ne, ne_eq] at h)
  all_goals first
    | with_reducible apply ret_k
    | omega
  repeat' first
    | with_reducible exact rns_nil
    | with_reducible refine rns_cons ?_ ?_
    | with_reducible refine rn_tup ?_
    | with_reducible refine rn_agg ?_
    | with_reducible refine rn_int ?_
    | with_reducible refine rn_tf ?_
    | with_reducible refine rn_bool_tf ?_
    | with_reducible refine rn_bool ?_
    | with_reducible refine rn_str ?_
    | with_reducible exact rn_nils
    | with_reducible refine rn_own_nils ?_
    | with_reducible refine rn_own ?_ ?_ ?_
    | with_reducible refine rn_own_sl ?_ ?_ ?_ ?_ ?_
    | with_reducible refine rn_own_loose ?_ ?_ ?_ ?_
    | with_reducible refine rn_loose ?_ ?_ ?_ ?_
    | with_reducible refine rn_loose_sl ?_ ?_ ?_ ?_
    | exact use_lo rfl
    | exact use_own rfl
    | exact nm_k rfl
    | exact nm_lo rfl
    | ((with_reducible refine (id : pos _ = pos _ → _) ?_); exact rfl)
    | ((with_reducible refine (id : pos _ = 0 → _) ?_); exact rfl)
    | ((with_reducible refine (id : Nat.ble _ _ = true → _) ?_); exact rfl)
    | ((with_reducible refine (id : injL _ _ = true → _) ?_); exact rfl)
    | ((with_reducible refine (id : plainC _ = true → _) ?_); exact rfl)
    | ((with_reducible refine (id : hget _ _ = some _ → _) ?_); exact rfl)
    | with_reducible exact (id : (_ : Bool) = true → _ = true)
    | with_reducible exact entl_nil
    | with_reducible refine entl_bor ?_ ?_ ?_ ?_
    | refine entl_new (use_own rfl) (by rfl) ?_ ?_ ?_
    | refine entl_rows (use_own rfl) (by rfl) rfl ?_ (nthc_all ?_) ?_
    | refine entl_zero (use_own rfl) (by rfl) (by simp) (by omega) ?_
    | with_reducible exact rcs_nil
    | with_reducible refine rcs_int (fun j hj => ?_) ?_
    | with_reducible refine rcs_bool (fun j hj => ?_) ?_
    | with_reducible refine rcs_str (fun j hj => ?_) ?_
    | refine entl_fresh (k := 2) (use_own rfl) (fresh_ok (n := 39) rfl) ?_
    | with_reducible rfl
  all_goals try exact (0 : Nat)
  all_goals try ((with_reducible refine (id : injL _ _ = true → _) ?_); exact rfl)
  all_goals first
    | omega
    | skip
theorem e13y (test : Bool → Prop → Prop → Prop) (Kst : List It → List PV → Heap → Nat → Prop) (Kret : PV → Heap → Nat → Prop) (aa na ma : Nat) (ta : Nat → Int) :
  (run test Try.env true noX true 300 ⟨13, [.cd (mkFn Try.f13).body], argT 0 [.zer false], [[], [(0, (false, .cols ma [.int .i64 ta]))]], 1⟩ (proj 1 [] Kst Kret)) =
  (Kret PV.nils [[(0, false, Blk.cols ma [Col.int IntKind.i64 ta])]] (1)) := by kernel_rfl
theorem c13y (aa na ma : Nat) (ta : Nat → Int) (hp : aa + na ≤ ma ∧ na ≤ 1000000) (h0 : na = 0) : CallR Try.prog 13 [.zer false] [[(0, (false, .cols ma [.int .i64 ta]))]] 1 (.own 2 1 na) [(2, (true, .cols na [.int .i64 (fun j => ta (j + aa))])) :: [(0, (false, .cols ma [.int .i64 ta]))]] 40 ∧ ∃ F, Try.prog.funcs[13]? = some F ∧ F.body.isSome = true ∧ (F.name == "runtime.NumGoroutine") = false := by
  refine @ret_eq _ _ Try.envOk Try.mixed _ noX_ok 13 (mkFn Try.f13) [.zer false] [[(0, (false, .cols ma [.int .i64 ta]))]] [(2, (true, .cols na [.int .i64 (fun j => ta (j + aa))])) :: [(0, (false, .cols ma [.int .i64 ta]))]] 1 40 (.own 2 1 na) true 300 rfl (by decide) (by simp) (names_of rfl) _ (e13y cond _ _ aa na ma ta) ?_
  repeat' first
    | with_reducible refine cond_yes rfl ?_
    | with_reducible refine cond_no rfl ?_
    | (with_reducible refine cond_intro (fun h => ?_) (fun h => ?_)) <;> (try simp only [lim64, decide_eq_true_eq, decide_eq_false_iff_not, reduceCtorEq, Int.toNat_natCast, Bool.not_eq_true', Bool.not_eq_false', Bool.and_eq_true, Bool.or_eq_true, Bool.and_eq_false_iff, Bool.or_eq_false_iff, bne_iff_ne, beq_iff_eq, bne_eq_false_iff_eq, beq_eq_false_iff_ne, ne_eq] at h)
  all_goals first
    | with_reducible apply ret_k
    | omega
  repeat' first
    | with_reducible exact rns_nil
    | with_reducible refine rns_cons ?_ ?_
    | with_reducible refine rn_tup ?_
    | with_reducible refine rn_agg ?_
    | with_reducible refine rn_int ?_
    | with_reducible refine rn_tf ?_
    | with_reducible refine rn_bool_tf ?_
    | with_reducible refine rn_bool ?_
    | with_reducible refine rn_str ?_
    | with_reducible exact rn_nils
    | with_reducible refine rn_own_nils ?_
    | with_reducible refine rn_own ?_ ?_ ?_
    | with_reducible refine rn_own_sl ?_ ?_ ?_ ?_ ?_
    | with_reducible refine rn_own_loose ?_ ?_ ?_ ?_
    | with_reducible refine rn_loose ?_ ?_ ?_ ?_
    | with_reducible refine rn_loose_sl ?_ ?_ ?_ ?_
    | exact use_lo rfl
    | exact use_own rfl
    | exact nm_k rfl
    | exact nm_lo rfl
    | ((with_reducible refine (id : pos _ = pos _ → _) ?_); exact rfl)
    | ((with_reducible refine (id : pos _ = 0 → _) ?_); exact rfl)
    | ((with_reducible refine (id : Nat.ble _ _ = true → _) ?_); exact rfl)
    | ((with_reducible refine (id : injL _ _ = true → _) ?_); exact rfl)
    | ((with_reducible refine (id : plainC _ = true → _) ?_); exact rfl)
    | ((with_reducible refine (id : hget _ _ = some _ → _) ?_); exact rfl)
    | with_reducible exact (id : (_ : Bool) = true → _ = true)
    | with_reducible exact entl_nil
    | with_reducible refine entl_bor ?_ ?_ ?_ ?_
    | refine entl_new (use_own rfl) (by rfl) ?_ ?_ ?_
    | refine entl_rows (use_own rfl) (by rfl) rfl ?_ (nthc_all ?_) ?_
    | refine entl_zero (use_own rfl) (by rfl) (by simp) (by omega) ?_
    | with_reducible exact rcs_nil
    | with_reducible refine rcs_int (fun j hj => ?_) ?_
    | with_reducible refine rcs_bool (fun j hj => ?_) ?_
    | with_reducible refine rcs_str (fun j hj => ?_) ?_
    | refine entl_fresh (k := 2) (use_own rfl) (fresh_ok (n := 39) rfl) ?_
    | with_reducible rfl
  all_goals try exact (0 : Nat)
  all_goals try ((with_reducible refine (id : injL _ _ = true → _) ?_); exact rfl)
  all_goals first
    | omega
    | skip
theorem c13 (aa na ma : Nat) (ta : Nat → Int) (hp : aa + na ≤ ma ∧ na ≤ 1000000) : CallR Try.prog 13 [.loose ⟨0, 1, aa, 0⟩ na] [[(0, (false, .cols ma [.int .i64 ta]))]] 1 (.own 2 1 na) [(2, (true, .cols na [.int .i64 (fun j => ta (j + aa))])) :: [(0, (false, .cols ma [.int .i64 ta]))]] 40 ∧ ∃ F, Try.prog.funcs[13]? = some F ∧ F.body.isSome = true ∧ (F.name == "runtime.NumGoroutine") = false :=
  ⟨loose_cases (fun h => (c13s aa na ma ta hp h).1) (fun h b => by cases b; exact (c13y aa na ma ta hp h).1; exact (c13z aa na ma ta hp h).1), by
    rcases Nat.eq_zero_or_pos na with h | h
    · exact (c13y aa na ma ta hp h).2
    · exact (c13s aa na ma ta hp h).2⟩
theorem k13_ok  : k13.ok Try.prog := by
  intro x hx
  obtain ⟨⟨aa, na, ma, ta, _⟩, _⟩ := x
  have hp : aa + na ≤ ma ∧ na ≤ 1000000 := of_decide_eq_true hx
  obtain ⟨h1, h2⟩ := c13 aa na ma ta hp
  exact ⟨⟨40, (by decide : 1 + 1 + 1 ≤ 40), h1⟩, h2⟩
abbrev St15  := Empty
abbrev Rt15  := Int
noncomputable def V15 (kd pc pn of rs rg re : Int) (r : Rt15) : PV := PV.int IntKind.i64 r
noncomputable def N15 (kd pc pn of rs rg re : Int) (r : Rt15) : List Blk := []
noncomputable def I15 (kd pc pn of rs rg re : Int) : St15 → Hd := fun s => s.elim
noncomputable def q15 (kd pc pn of rs rg re : Int) : St15 → Option (St15 ⊕ Rt15) := fun s => s.elim
noncomputable def p15 (kd pc pn of rs rg re : Int) : Option (St15 ⊕ Rt15) := bif (kd == (1 : Int))
 then (bif (decide (pn ≥ (1 : Int)))
 then (bif (decide (pn ≤ (2 : Int)))
 then (bif (decide (of ≥ (-1000000000000 : Int)))
 then (bif (decide (of ≤ (1000000000000 : Int)))
 then (bif (decide (rs ≥ (1 : Int)))
 then (bif (decide (rs ≤ (1000000000 : Int)))
 then (bif (re == (0 : Int))
 then (bif (decide (pc ≥ (0 : Int)))
 then (bif (decide (pc ≤ (199 : Int)))
 then (bif (decide (rg ≥ (1 : Int)))
 then (bif (decide (rg ≤ (1000000000000 : Int)))
 then (some (.inr ((0 : Int))))
 else (some (.inr ((6 : Int)))))
 else (some (.inr ((6 : Int)))))
 else (some (.inr ((6 : Int)))))
 else (some (.inr ((6 : Int)))))
 else (some (.inr ((6 : Int)))))
 else (some (.inr ((6 : Int)))))
 else (some (.inr ((6 : Int)))))
 else (some (.inr ((6 : Int)))))
 else (some (.inr ((6 : Int)))))
 else (some (.inr ((6 : Int)))))
 else (some (.inr ((6 : Int)))))
 else (bif (kd == (2 : Int))
 then (bif (pn == (0 : Int))
 then (bif (of == (0 : Int))
 then (bif (decide (rs ≥ (1 : Int)))
 then (bif (decide (rs ≤ (1000000 : Int)))
 then (bif (decide (re ≥ (0 : Int)))
 then (bif (decide (re ≤ (199 : Int)))
 then (bif (decide (pc ≥ (0 : Int)))
 then (bif (decide (pc ≤ (199 : Int)))
 then (bif (decide (rg ≥ (1 : Int)))
 then (bif (decide (rg ≤ (1000000000000 : Int)))
 then (some (.inr ((0 : Int))))
 else (some (.inr ((6 : Int)))))
 else (some (.inr ((6 : Int)))))
 else (some (.inr ((6 : Int)))))
 else (some (.inr ((6 : Int)))))
 else (some (.inr ((6 : Int)))))
 else (some (.inr ((6 : Int)))))
 else (some (.inr ((6 : Int)))))
 else (some (.inr ((6 : Int)))))
 else (some (.inr ((6 : Int)))))
 else (some (.inr ((6 : Int)))))
 else (bif (kd == (3 : Int))
 then (bif (pn == (0 : Int))
 then (bif (decide (of ≥ (-1000000000000 : Int)))
 then (bif (decide (of ≤ (1000000000000 : Int)))
 then (bif (decide (rs ≥ (1 : Int)))
 then (bif (decide (rs ≤ (1000000 : Int)))
 then (bif (re == (0 : Int))
 then (bif (decide (pc ≥ (0 : Int)))
 then (bif (decide (pc ≤ (199 : Int)))
 then (bif (decide (rg ≥ (1 : Int)))
 then (bif (decide (rg ≤ (1000000000000 : Int)))
 then (some (.inr ((0 : Int))))
 else (some (.inr ((6 : Int)))))
 else (some (.inr ((6 : Int)))))
 else (some (.inr ((6 : Int)))))
 else (some (.inr ((6 : Int)))))
 else (some (.inr ((6 : Int)))))
 else (some (.inr ((6 : Int)))))
 else (some (.inr ((6 : Int)))))
 else (some (.inr ((6 : Int)))))
 else (some (.inr ((6 : Int)))))
 else (some (.inr ((6 : Int)))))
 else (some (.inr ((1 : Int))))))
noncomputable def Te15 (test : Bool → Prop → Prop → Prop) (Kst : KS) (Kret : KR) (kd pc pn of rs rg re : Int) : Prop :=
  test (kd == (1 : Int))
 (test (decide (pn ≥ (1 : Int)))
 (test (decide (pn ≤ (2 : Int)))
 (test (true)
 (test (decide (of ≥ (-1000000000000 : Int)))
 (test (decide (of ≤ (1000000000000 : Int)))
 (test (decide (rs ≥ (1 : Int)))
 (test (decide (rs ≤ (1000000000 : Int)))
 (test (re == (0 : Int))
 (test (decide (pc ≥ (0 : Int)))
 (test (decide (pc ≤ (199 : Int)))
 (test (decide (rg ≥ (1 : Int)))
 (test (decide (rg ≤ (1000000000000 : Int)))
 (Kret (PV.int IntKind.i64 (0 : Int)) ([[]]) (1))
 (Kret (PV.int IntKind.i64 (6 : Int)) ([[]]) (1)))
 (Kret (PV.int IntKind.i64 (6 : Int)) ([[]]) (1)))
 (Kret (PV.int IntKind.i64 (6 : Int)) ([[]]) (1)))
 (Kret (PV.int IntKind.i64 (6 : Int)) ([[]]) (1)))
 (Kret (PV.int IntKind.i64 (6 : Int)) ([[]]) (1)))
 (Kret (PV.int IntKind.i64 (6 : Int)) ([[]]) (1)))
 (Kret (PV.int IntKind.i64 (6 : Int)) ([[]]) (1)))
 (Kret (PV.int IntKind.i64 (6 : Int)) ([[]]) (1)))
 (Kret (PV.int IntKind.i64 (6 : Int)) ([[]]) (1)))
 (False))
 (Kret (PV.int IntKind.i64 (6 : Int)) ([[]]) (1)))
 (Kret (PV.int IntKind.i64 (6 : Int)) ([[]]) (1)))
 (test (kd == (2 : Int))
 (test (pn == (0 : Int))
 (test (of == (0 : Int))
 (test (decide (rs ≥ (1 : Int)))
 (test (decide (rs ≤ (1000000 : Int)))
 (test (decide (re ≥ (0 : Int)))
 (test (decide (re ≤ (199 : Int)))
 (test (decide (pc ≥ (0 : Int)))
 (test (decide (pc ≤ (199 : Int)))
 (test (decide (rg ≥ (1 : Int)))
 (test (decide (rg ≤ (1000000000000 : Int)))
 (Kret (PV.int IntKind.i64 (0 : Int)) ([[]]) (1))
 (Kret (PV.int IntKind.i64 (6 : Int)) ([[]]) (1)))
 (Kret (PV.int IntKind.i64 (6 : Int)) ([[]]) (1)))
 (Kret (PV.int IntKind.i64 (6 : Int)) ([[]]) (1)))
 (Kret (PV.int IntKind.i64 (6 : Int)) ([[]]) (1)))
 (Kret (PV.int IntKind.i64 (6 : Int)) ([[]]) (1)))
 (Kret (PV.int IntKind.i64 (6 : Int)) ([[]]) (1)))
 (Kret (PV.int IntKind.i64 (6 : Int)) ([[]]) (1)))
 (Kret (PV.int IntKind.i64 (6 : Int)) ([[]]) (1)))
 (Kret (PV.int IntKind.i64 (6 : Int)) ([[]]) (1)))
 (Kret (PV.int IntKind.i64 (6 : Int)) ([[]]) (1)))
 (test (kd == (3 : Int))
 (test (pn == (0 : Int))
 (test (true)
 (test (decide (of ≥ (-1000000000000 : Int)))
 (test (decide (of ≤ (1000000000000 : Int)))
 (test (decide (rs ≥ (1 : Int)))
 (test (decide (rs ≤ (1000000 : Int)))
 (test (re == (0 : Int))
 (test (decide (pc ≥ (0 : Int)))
 (test (decide (pc ≤ (199 : Int)))
 (test (decide (rg ≥ (1 : Int)))
 (test (decide (rg ≤ (1000000000000 : Int)))
 (Kret (PV.int IntKind.i64 (0 : Int)) ([[]]) (1))
 (Kret (PV.int IntKind.i64 (6 : Int)) ([[]]) (1)))
 (Kret (PV.int IntKind.i64 (6 : Int)) ([[]]) (1)))
 (Kret (PV.int IntKind.i64 (6 : Int)) ([[]]) (1)))
 (Kret (PV.int IntKind.i64 (6 : Int)) ([[]]) (1)))
 (Kret (PV.int IntKind.i64 (6 : Int)) ([[]]) (1)))
 (Kret (PV.int IntKind.i64 (6 : Int)) ([[]]) (1)))
 (Kret (PV.int IntKind.i64 (6 : Int)) ([[]]) (1)))
 (Kret (PV.int IntKind.i64 (6 : Int)) ([[]]) (1)))
 (Kret (PV.int IntKind.i64 (6 : Int)) ([[]]) (1)))
 (False))
 (Kret (PV.int IntKind.i64 (6 : Int)) ([[]]) (1)))
 (Kret (PV.int IntKind.i64 (1 : Int)) ([[]]) (1))))
theorem te15 (test : Bool → Prop → Prop → Prop) (Kst : KS) (Kret : KR) (kd pc pn of rs rg re : Int) : run test Try.env true noX true 400 ⟨15, [.cd (mkFn Try.f15).body], argT 0 [.agg [.int .i64 kd, .int .i64 pc, .int .i64 pn, .int .i64 of, .int .i64 rs, .int .i64 rg, .int .i64 re]], [[], []], 0⟩ (proj 0 [] Kst Kret) =
  Te15 test Kst Kret kd pc pn of rs rg re := by kernel_rfl
theorem be15 (kd pc pn of rs rg re : Int) (Kst : KS) (Kret : KR) (x : St15 ⊕ Rt15) (hS : HS 0 400 ((I15 kd pc pn of rs rg re)) Kst x) (hR : HR 0 400 ((V15 kd pc pn of rs rg re)) (fun r => [newL (0 + 1) ((N15 kd pc pn of rs rg re) r) ++ []]) Kret x) (h : p15 kd pc pn of rs rg re = some x) : Te15 cond Kst Kret kd pc pn of rs rg re := by
  unfold Te15
  unfold p15 at h
  refine bif_split h
   (fun c0 h => bif_split h
   (fun c1 h => bif_split h
   (fun c2 h => cond_yes rfl (bif_split h
   (fun c3 h => bif_split h
   (fun c4 h => bif_split h
   (fun c5 h => bif_split h
   (fun c6 h => bif_split h
   (fun c7 h => bif_split h
   (fun c8 h => bif_split h
   (fun c9 h => bif_split h
   (fun c10 h => bif_split h
   (fun c11 h => ?_)
   (fun c11 h => ?_))
   (fun c10 h => ?_))
   (fun c9 h => ?_))
   (fun c8 h => ?_))
   (fun c7 h => ?_))
   (fun c6 h => ?_))
   (fun c5 h => ?_))
   (fun c4 h => ?_))
   (fun c3 h => ?_)))
   (fun c2 h => ?_))
   (fun c1 h => ?_))
   (fun c0 h => bif_split h
   (fun c1 h => bif_split h
   (fun c2 h => bif_split h
   (fun c3 h => bif_split h
   (fun c4 h => bif_split h
   (fun c5 h => bif_split h
   (fun c6 h => bif_split h
   (fun c7 h => bif_split h
   (fun c8 h => bif_split h
   (fun c9 h => bif_split h
   (fun c10 h => bif_split h
   (fun c11 h => ?_)
   (fun c11 h => ?_))
   (fun c10 h => ?_))
   (fun c9 h => ?_))
   (fun c8 h => ?_))
   (fun c7 h => ?_))
   (fun c6 h => ?_))
   (fun c5 h => ?_))
   (fun c4 h => ?_))
   (fun c3 h => ?_))
   (fun c2 h => ?_))
   (fun c1 h => bif_split h
   (fun c2 h => bif_split h
   (fun c3 h => cond_yes rfl (bif_split h
   (fun c4 h => bif_split h
   (fun c5 h => bif_split h
   (fun c6 h => bif_split h
   (fun c7 h => bif_split h
   (fun c8 h => bif_split h
   (fun c9 h => bif_split h
   (fun c10 h => bif_split h
   (fun c11 h => bif_split h
   (fun c12 h => ?_)
   (fun c12 h => ?_))
   (fun c11 h => ?_))
   (fun c10 h => ?_))
   (fun c9 h => ?_))
   (fun c8 h => ?_))
   (fun c7 h => ?_))
   (fun c6 h => ?_))
   (fun c5 h => ?_))
   (fun c4 h => ?_)))
   (fun c3 h => ?_))
   (fun c2 h => ?_)))
  all_goals first
    | exact ret_at hR _ h (fun n => n) rfl rfl rfl (rn_int rfl) rfl entl_nil
theorem a15 (kd pc pn of rs rg re : Int) {r : Rt15} (h : Goes ((q15 kd pc pn of rs rg re)) ((p15 kd pc pn of rs rg re)) r) : CallR Try.prog 15 [.agg [.int .i64 kd, .int .i64 pc, .int .i64 pn, .int .i64 of, .int .i64 rs, .int .i64 rg, .int .i64 re]] [[]] 0 ((V15 kd pc pn of rs rg re) r) ((fun r => [newL (0 + 1) ((N15 kd pc pn of rs rg re) r) ++ []]) r) 400 ∧ ∃ F, Try.prog.funcs[15]? = some F ∧ F.body.isSome = true ∧ (F.name == "runtime.NumGoroutine") = false := by
  refine dec_calls (f := 15) (lo := 0) (hi := 400) (H := [[]]) (args := [.agg [.int .i64 kd, .int .i64 pc, .int .i64 pn, .int .i64 of, .int .i64 rs, .int .i64 rg, .int .i64 re]]) Try.envOk Try.mixed noX_ok ((I15 kd pc pn of rs rg re)) ((V15 kd pc pn of rs rg re)) (fun r => [newL (0 + 1) ((N15 kd pc pn of rs rg re) r) ++ []]) (fn := mkFn Try.f15) (ts := []) (n := 400) rfl (by decide) (by simp) (names_of rfl) ?_ ?_ ?_ h
  · intro s; exact s.elim
  · intro Kst Kret x hS hR h
    exact Holds.eq (te15 cond Kst Kret kd pc pn of rs rg re) (be15 kd pc pn of rs rg re Kst Kret x hS hR h)
  · intro Kst Kret x hS hR s h; exact s.elim
noncomputable def k15  : Con := ⟨15, [.agg [.plain (.int .i64), .plain (.int .i64), .plain (.int .i64), .plain (.int .i64), .plain (.int .i64), .plain (.int .i64), .plain (.int .i64)]], fun (x : (Int × Int × Int × Int × Int × Int × Int × Unit) × Unit) => (fun (kd : Int) (pc : Int) (pn : Int) (of : Int) (rs : Int) (rg : Int) (re : Int) => decide (True)) x.1.1 x.1.2.1 x.1.2.2.1 x.1.2.2.2.1 x.1.2.2.2.2.1 x.1.2.2.2.2.2.1 x.1.2.2.2.2.2.2.1, fun (x : (Int × Int × Int × Int × Int × Int × Int × Unit) × Unit) => (fun (kd : Int) (pc : Int) (pn : Int) (of : Int) (rs : Int) (rg : Int) (re : Int) => (V15 kd pc pn of rs rg re) (S.insE kd pc pn of rs rg re)) x.1.1 x.1.2.1 x.1.2.2.1 x.1.2.2.2.1 x.1.2.2.2.2.1 x.1.2.2.2.2.2.1 x.1.2.2.2.2.2.2.1, fun (x : (Int × Int × Int × Int × Int × Int × Int × Unit) × Unit) => (fun (kd : Int) (pc : Int) (pn : Int) (of : Int) (rs : Int) (rg : Int) (re : Int) => (N15 kd pc pn of rs rg re) (S.insE kd pc pn of rs rg re)) x.1.1 x.1.2.1 x.1.2.2.1 x.1.2.2.2.1 x.1.2.2.2.2.1 x.1.2.2.2.2.2.1 x.1.2.2.2.2.2.2.1, fun _ _ => .dead⟩
theorem s15 (kd pc pn of rs rg re : Int) (hp : True) : Goes ((q15 kd pc pn of rs rg re)) ((p15 kd pc pn of rs rg re)) (S.insE kd pc pn of rs rg re) := by
  unfold S.insE
  show Goes _ _ _
  unfold p15
  repeat' first
    | with_reducible refine goes_if (fun h => ?_) (fun h => ?_) <;> (try simp only [SH] at h)
    | exact goes_none.mpr (by omega)
  all_goals first
    | (exfalso; omega)
    | (refine goes_inr.mpr ?_; (repeat' split) <;> first | rfl | (exfalso; omega))
theorem k15_ok  : k15.ok Try.prog := by
  intro x hx
  obtain ⟨⟨kd, pc, pn, of, rs, rg, re, _⟩, _⟩ := x
  obtain ⟨h1, h2⟩ := a15 kd pc pn of rs rg re (s15 kd pc pn of rs rg re (of_dec hx rfl))
  exact ⟨⟨400, (by decide : 0 + 1 + 0 ≤ 400), h1⟩, h2⟩
noncomputable def xA0 (test : Bool → Prop → Prop → Prop) : Ext := consX test [k15]
theorem xA0_ok  : ExtOk Try.prog (xA0 cond) := consX_ok ⟨k15_ok, trivial⟩
namespace S
def parB (x1 x2 x3 x4 d l t : Int) : Bool := decide ((-1000000000000 ≤ x1 ∧ x1 ≤ 1000000000000) ∧ (-1000000000000 ≤ x2 ∧ x2 ≤ 1000000000000) ∧ (-1000000000000 ≤ x3 ∧ x3 ≤ 1000000000000) ∧ (-1000000000000 ≤ x4 ∧ x4 ≤ 1000000000000) ∧ (-1000000 ≤ d ∧ d ≤ 1000000) ∧ (-1 ≤ l ∧ l ≤ 199) ∧ 0 ≤ t ∧ t ≤ 1000000)
def parN (p : Nat → Bool) : Nat → Nat → Int
  | _, 0 => 0
  | i, k + 1 => if p i = true then parN p (i + 1) k else 6
def parE (n : Nat) (x1 x2 x3 x4 d l t : Nat → Int) : Int := if n > 50 then 3 else parN (fun j => parB (x1 j) (x2 j) (x3 j) (x4 j) (d j) (l j) (t j)) 0 n
end S
theorem ins_ok  {kd pc pn of rs rg re want : Int} (h : S.kinE kd pc pn of rs rg re want = 0) : kd = want ∧ S.insE kd pc pn of rs rg re = 0 ∧ (0 ≤ pc ∧ pc ≤ 199) ∧ (1 ≤ rg ∧ rg ≤ 1000000000000) ∧ (1 ≤ rs ∧ rs ≤ 1000000000) ∧ (0 ≤ re ∧ re ≤ 199) ∧ (-1000000000000 ≤ of ∧ of ≤ 1000000000000) ∧ (kd = 1 ∨ rs ≤ 1000000) ∧ (kd = 1 → 1 ≤ pn ∧ pn ≤ 2) := by
  unfold S.kinE at h
  split at h
  · rename_i h0
    split at h
    · rename_i h1
      have h2 := h0
      unfold S.insE at h2
      split at h2
      · split at h2
        · rename_i h3
          refine ⟨h1, h0, ?_⟩
          omega
        · cases h2
      · cases h2
    · cases h
  · rename_i h0
    exact absurd h h0
theorem par_all  {p : Nat → Bool} : ∀ {k i : Nat}, S.parN p i k = 0 → ∀ j, i ≤ j → j < i + k → p j = true
  | 0, i, _, j, h1, h2 => by omega
  | k + 1, i, h, j, h1, h2 => by
    simp only [S.parN] at h
    split at h
    · rename_i h0
      rcases Nat.lt_or_ge i j with h3 | h3
      · exact par_all h j (by omega) (by omega)
      · obtain rfl : j = i := by omega
        exact h0
    · cases h
inductive St46 where
  | h0 (x0 : Int)
abbrev Rt46  := Int
noncomputable def V46 (al nl ml : Nat) (tl vl gl wl xl yl zl : Nat → Int) (r : Rt46) : PV := PV.int IntKind.i64 r
noncomputable def N46 (al nl ml : Nat) (tl vl gl wl xl yl zl : Nat → Int) (r : Rt46) : List Blk := []
noncomputable def I46 (al nl ml : Nat) (tl vl gl wl xl yl zl : Nat → Int) : St46 → Hd
  | .h0 x0 => ⟨hd Try.f46 0, [PV.loose (PA.mk (0) (7) al (0)) nl, PV.int IntKind.i64 (↑nl : Int),
 PV.int IntKind.i64 x0], [[], [(0, (false, .cols ml [.int .i64 tl, .int .i64 vl, .int .i64 gl, .int .i64 wl, .int .i64 xl, .int .i64 yl, .int .i64 zl]))]], 1⟩
noncomputable def q46 (al nl ml : Nat) (tl vl gl wl xl yl zl : Nat → Int) : St46 → Option (St46 ⊕ Rt46)
  | .h0 x0 => bif (decide (x0 < (↑nl : Int)))
 then (bif (decide ((0 : Int) ≤ x0 ∧ x0 < (↑nl : Int)))
 then (bif (decide (Int.toNat x0 + al < ml))
 then (bif (decide (tl (Int.toNat x0 + al) ≥ (-1000000000000 : Int)))
 then (bif (decide (tl (Int.toNat x0 + al) ≤ (1000000000000 : Int)))
 then (bif (decide (vl (Int.toNat x0 + al) ≥ (-1000000000000 : Int)))
 then (bif (decide (vl (Int.toNat x0 + al) ≤ (1000000000000 : Int)))
 then (bif (decide (gl (Int.toNat x0 + al) ≥ (-1000000000000 : Int)))
 then (bif (decide (gl (Int.toNat x0 + al) ≤ (1000000000000 : Int)))
 then (bif (decide (wl (Int.toNat x0 + al) ≥ (-1000000000000 : Int)))
 then (bif (decide (wl (Int.toNat x0 + al) ≤ (1000000000000 : Int)))
 then (bif (decide (xl (Int.toNat x0 + al) ≥ (-1000000 : Int)))
 then (bif (decide (xl (Int.toNat x0 + al) ≤ (1000000 : Int)))
 then (bif (decide (yl (Int.toNat x0 + al) ≥ (-1 : Int)))
 then (bif (decide (yl (Int.toNat x0 + al) ≤ (199 : Int)))
 then (bif (decide (zl (Int.toNat x0 + al) ≥ (0 : Int)))
 then (bif (decide (zl (Int.toNat x0 + al) ≤ (1000000 : Int)))
 then (bif (lim IntKind.i64 (x0 + (1 : Int)))
 then (some (.inl (.h0 (x0 + (1 : Int)))))
 else (none))
 else (some (.inr ((6 : Int)))))
 else (some (.inr ((6 : Int)))))
 else (some (.inr ((6 : Int)))))
 else (some (.inr ((6 : Int)))))
 else (some (.inr ((6 : Int)))))
 else (some (.inr ((6 : Int)))))
 else (some (.inr ((6 : Int)))))
 else (some (.inr ((6 : Int)))))
 else (some (.inr ((6 : Int)))))
 else (some (.inr ((6 : Int)))))
 else (some (.inr ((6 : Int)))))
 else (some (.inr ((6 : Int)))))
 else (some (.inr ((6 : Int)))))
 else (some (.inr ((6 : Int)))))
 else (none))
 else (none))
 else (some (.inr ((0 : Int))))
noncomputable def p46 (al nl ml : Nat) (tl vl gl wl xl yl zl : Nat → Int) : Option (St46 ⊕ Rt46) := bif (decide ((↑nl : Int) > (50 : Int)))
 then (some (.inr ((3 : Int))))
 else (some (.inl (.h0 ((0 : Int)))))
noncomputable def Te46 (test : Bool → Prop → Prop → Prop) (Kst : KS) (Kret : KR) (al nl ml : Nat) (tl vl gl wl xl yl zl : Nat → Int) : Prop :=
  test (decide ((↑nl : Int) > (50 : Int)))
 (Kret (PV.int IntKind.i64 (3 : Int)) ([[(0, false,
 Blk.cols ml
 [Col.int IntKind.i64 tl, Col.int IntKind.i64 vl, Col.int IntKind.i64 gl,
 Col.int IntKind.i64 wl, Col.int IntKind.i64 xl, Col.int IntKind.i64 yl,
 Col.int IntKind.i64 zl])]]) (1))
 (Kst (hd Try.f46 0) ([PV.loose (PA.mk (0) (7) al (0)) nl, PV.int IntKind.i64 (↑nl : Int),
 PV.int IntKind.i64 (0 : Int)]) ([[(0, false,
 Blk.cols ml
 [Col.int IntKind.i64 tl, Col.int IntKind.i64 vl, Col.int IntKind.i64 gl,
 Col.int IntKind.i64 wl, Col.int IntKind.i64 xl, Col.int IntKind.i64 yl,
 Col.int IntKind.i64 zl])]]) (1))
theorem te46 (test : Bool → Prop → Prop → Prop) (Kst : KS) (Kret : KR) (al nl ml : Nat) (tl vl gl wl xl yl zl : Nat → Int) : run test Try.env true (xA0 test) true 400 ⟨46, [.cd (mkFn Try.f46).body], argT 0 [.loose ⟨0, 7, al, 0⟩ nl], [[], [(0, (false, .cols ml [.int .i64 tl, .int .i64 vl, .int .i64 gl, .int .i64 wl, .int .i64 xl, .int .i64 yl, .int .i64 zl]))]], 1⟩ (proj 1 [8, 9, 10] Kst Kret) =
  Te46 test Kst Kret al nl ml tl vl gl wl xl yl zl := by kernel_rfl
noncomputable def T46_0 (test : Bool → Prop → Prop → Prop) (Kst : KS) (Kret : KR) (al nl ml : Nat) (tl vl gl wl xl yl zl : Nat → Int) (x0 : Int) : Prop :=
  test (decide (x0 < (↑nl : Int)))
 (test (decide ((0 : Int) ≤ x0 ∧ x0 < (↑nl : Int)))
 (test (decide (Int.toNat x0 + al < ml))
 (test (decide (Int.toNat x0 + al < ml))
 (test (decide (Int.toNat x0 + al < ml))
 (test (decide (Int.toNat x0 + al < ml))
 (test (decide (Int.toNat x0 + al < ml))
 (test (decide (Int.toNat x0 + al < ml))
 (test (decide (Int.toNat x0 + al < ml))
 (test (true)
 (test (decide (tl (Int.toNat x0 + al) ≥ (-1000000000000 : Int)))
 (test (decide (tl (Int.toNat x0 + al) ≤ (1000000000000 : Int)))
 (test (true)
 (test (decide (vl (Int.toNat x0 + al) ≥ (-1000000000000 : Int)))
 (test (decide (vl (Int.toNat x0 + al) ≤ (1000000000000 : Int)))
 (test (true)
 (test (decide (gl (Int.toNat x0 + al) ≥ (-1000000000000 : Int)))
 (test (decide (gl (Int.toNat x0 + al) ≤ (1000000000000 : Int)))
 (test (true)
 (test (decide (wl (Int.toNat x0 + al) ≥ (-1000000000000 : Int)))
 (test (decide (wl (Int.toNat x0 + al) ≤ (1000000000000 : Int)))
 (test (true)
 (test (decide (xl (Int.toNat x0 + al) ≥ (-1000000 : Int)))
 (test (decide (xl (Int.toNat x0 + al) ≤ (1000000 : Int)))
 (test (decide (yl (Int.toNat x0 + al) ≥ (-1 : Int)))
 (test (decide (yl (Int.toNat x0 + al) ≤ (199 : Int)))
 (test (decide (zl (Int.toNat x0 + al) ≥ (0 : Int)))
 (test (decide (zl (Int.toNat x0 + al) ≤ (1000000 : Int)))
 (test (lim IntKind.i64 (x0 + (1 : Int)))
 (Kst (hd Try.f46 0) ([PV.loose (PA.mk (0) (7) al (0)) nl, PV.int IntKind.i64 (↑nl : Int),
 PV.int IntKind.i64 (x0 + (1 : Int))]) ([[(0, false,
 Blk.cols ml
 [Col.int IntKind.i64 tl, Col.int IntKind.i64 vl, Col.int IntKind.i64 gl,
 Col.int IntKind.i64 wl, Col.int IntKind.i64 xl, Col.int IntKind.i64 yl,
 Col.int IntKind.i64 zl])]]) (2))
 (False))
 (Kret (PV.int IntKind.i64 (6 : Int)) ([[(0, false,
 Blk.cols ml
 [Col.int IntKind.i64 tl, Col.int IntKind.i64 vl, Col.int IntKind.i64 gl,
 Col.int IntKind.i64 wl, Col.int IntKind.i64 xl, Col.int IntKind.i64 yl,
 Col.int IntKind.i64 zl])]]) (2)))
 (Kret (PV.int IntKind.i64 (6 : Int)) ([[(0, false,
 Blk.cols ml
 [Col.int IntKind.i64 tl, Col.int IntKind.i64 vl, Col.int IntKind.i64 gl,
 Col.int IntKind.i64 wl, Col.int IntKind.i64 xl, Col.int IntKind.i64 yl,
 Col.int IntKind.i64 zl])]]) (2)))
 (Kret (PV.int IntKind.i64 (6 : Int)) ([[(0, false,
 Blk.cols ml
 [Col.int IntKind.i64 tl, Col.int IntKind.i64 vl, Col.int IntKind.i64 gl,
 Col.int IntKind.i64 wl, Col.int IntKind.i64 xl, Col.int IntKind.i64 yl,
 Col.int IntKind.i64 zl])]]) (2)))
 (Kret (PV.int IntKind.i64 (6 : Int)) ([[(0, false,
 Blk.cols ml
 [Col.int IntKind.i64 tl, Col.int IntKind.i64 vl, Col.int IntKind.i64 gl,
 Col.int IntKind.i64 wl, Col.int IntKind.i64 xl, Col.int IntKind.i64 yl,
 Col.int IntKind.i64 zl])]]) (2)))
 (Kret (PV.int IntKind.i64 (6 : Int)) ([[(0, false,
 Blk.cols ml
 [Col.int IntKind.i64 tl, Col.int IntKind.i64 vl, Col.int IntKind.i64 gl,
 Col.int IntKind.i64 wl, Col.int IntKind.i64 xl, Col.int IntKind.i64 yl,
 Col.int IntKind.i64 zl])]]) (2)))
 (Kret (PV.int IntKind.i64 (6 : Int)) ([[(0, false,
 Blk.cols ml
 [Col.int IntKind.i64 tl, Col.int IntKind.i64 vl, Col.int IntKind.i64 gl,
 Col.int IntKind.i64 wl, Col.int IntKind.i64 xl, Col.int IntKind.i64 yl,
 Col.int IntKind.i64 zl])]]) (2)))
 (False))
 (Kret (PV.int IntKind.i64 (6 : Int)) ([[(0, false,
 Blk.cols ml
 [Col.int IntKind.i64 tl, Col.int IntKind.i64 vl, Col.int IntKind.i64 gl,
 Col.int IntKind.i64 wl, Col.int IntKind.i64 xl, Col.int IntKind.i64 yl,
 Col.int IntKind.i64 zl])]]) (2)))
 (Kret (PV.int IntKind.i64 (6 : Int)) ([[(0, false,
 Blk.cols ml
 [Col.int IntKind.i64 tl, Col.int IntKind.i64 vl, Col.int IntKind.i64 gl,
 Col.int IntKind.i64 wl, Col.int IntKind.i64 xl, Col.int IntKind.i64 yl,
 Col.int IntKind.i64 zl])]]) (2)))
 (False))
 (Kret (PV.int IntKind.i64 (6 : Int)) ([[(0, false,
 Blk.cols ml
 [Col.int IntKind.i64 tl, Col.int IntKind.i64 vl, Col.int IntKind.i64 gl,
 Col.int IntKind.i64 wl, Col.int IntKind.i64 xl, Col.int IntKind.i64 yl,
 Col.int IntKind.i64 zl])]]) (2)))
 (Kret (PV.int IntKind.i64 (6 : Int)) ([[(0, false,
 Blk.cols ml
 [Col.int IntKind.i64 tl, Col.int IntKind.i64 vl, Col.int IntKind.i64 gl,
 Col.int IntKind.i64 wl, Col.int IntKind.i64 xl, Col.int IntKind.i64 yl,
 Col.int IntKind.i64 zl])]]) (2)))
 (False))
 (Kret (PV.int IntKind.i64 (6 : Int)) ([[(0, false,
 Blk.cols ml
 [Col.int IntKind.i64 tl, Col.int IntKind.i64 vl, Col.int IntKind.i64 gl,
 Col.int IntKind.i64 wl, Col.int IntKind.i64 xl, Col.int IntKind.i64 yl,
 Col.int IntKind.i64 zl])]]) (2)))
 (Kret (PV.int IntKind.i64 (6 : Int)) ([[(0, false,
 Blk.cols ml
 [Col.int IntKind.i64 tl, Col.int IntKind.i64 vl, Col.int IntKind.i64 gl,
 Col.int IntKind.i64 wl, Col.int IntKind.i64 xl, Col.int IntKind.i64 yl,
 Col.int IntKind.i64 zl])]]) (2)))
 (False))
 (Kret (PV.int IntKind.i64 (6 : Int)) ([[(0, false,
 Blk.cols ml
 [Col.int IntKind.i64 tl, Col.int IntKind.i64 vl, Col.int IntKind.i64 gl,
 Col.int IntKind.i64 wl, Col.int IntKind.i64 xl, Col.int IntKind.i64 yl,
 Col.int IntKind.i64 zl])]]) (2)))
 (Kret (PV.int IntKind.i64 (6 : Int)) ([[(0, false,
 Blk.cols ml
 [Col.int IntKind.i64 tl, Col.int IntKind.i64 vl, Col.int IntKind.i64 gl,
 Col.int IntKind.i64 wl, Col.int IntKind.i64 xl, Col.int IntKind.i64 yl,
 Col.int IntKind.i64 zl])]]) (2)))
 (False))
 (False))
 (False))
 (False))
 (False))
 (False))
 (False))
 (False))
 (False))
 (Kret (PV.int IntKind.i64 (0 : Int)) ([[(0, false,
 Blk.cols ml
 [Col.int IntKind.i64 tl, Col.int IntKind.i64 vl, Col.int IntKind.i64 gl,
 Col.int IntKind.i64 wl, Col.int IntKind.i64 xl, Col.int IntKind.i64 yl,
 Col.int IntKind.i64 zl])]]) (1))
theorem t46_0 (test : Bool → Prop → Prop → Prop) (Kst : KS) (Kret : KR) (al nl ml : Nat) (tl vl gl wl xl yl zl : Nat → Int) (x0 : Int) : run test Try.env true (xA0 test) true 400 ⟨46, hd Try.f46 0, zipT [8, 9, 10] [PV.loose (PA.mk (0) (7) al (0)) nl, PV.int IntKind.i64 (↑nl : Int),
 PV.int IntKind.i64 x0], [[], [(0, (false, .cols ml [.int .i64 tl, .int .i64 vl, .int .i64 gl, .int .i64 wl, .int .i64 xl, .int .i64 yl, .int .i64 zl]))]], 1⟩ (proj 1 [8, 9, 10] Kst Kret) =
  T46_0 test Kst Kret al nl ml tl vl gl wl xl yl zl x0 := by kernel_rfl
theorem be46 (al nl ml : Nat) (tl vl gl wl xl yl zl : Nat → Int) (Kst : KS) (Kret : KR) (x : St46 ⊕ Rt46) (hS : HS 1 400 ((I46 al nl ml tl vl gl wl xl yl zl)) Kst x) (hR : HR 1 400 ((V46 al nl ml tl vl gl wl xl yl zl)) (fun r => [newL (1 + 1) ((N46 al nl ml tl vl gl wl xl yl zl) r) ++ [(0, (false, .cols ml [.int .i64 tl, .int .i64 vl, .int .i64 gl, .int .i64 wl, .int .i64 xl, .int .i64 yl, .int .i64 zl]))]]) Kret x) (h : p46 al nl ml tl vl gl wl xl yl zl = some x) : Te46 cond Kst Kret al nl ml tl vl gl wl xl yl zl := by
  unfold Te46
  unfold p46 at h
  refine bif_split h
   (fun c0 h => ret_at hR _ h (fun n => n) rfl rfl rfl (rn_int rfl) rfl (entl_bor (use_lo rfl) rfl rfl entl_nil))
   (fun c0 h => stop_at hS _ h (fun n => n) rfl rfl rfl ⟨(rn_loose (use_lo rfl) rfl rfl rfl), ⟨(rn_int rfl), ⟨(rn_int rfl), trivial⟩⟩⟩ rfl (entl_bor (use_lo rfl) rfl rfl entl_nil))
theorem b46_0 (al nl ml : Nat) (tl vl gl wl xl yl zl : Nat → Int) (Kst : KS) (Kret : KR) (x : St46 ⊕ Rt46) (hS : HS 1 400 ((I46 al nl ml tl vl gl wl xl yl zl)) Kst x) (hR : HR 1 400 ((V46 al nl ml tl vl gl wl xl yl zl)) (fun r => [newL (1 + 1) ((N46 al nl ml tl vl gl wl xl yl zl) r) ++ [(0, (false, .cols ml [.int .i64 tl, .int .i64 vl, .int .i64 gl, .int .i64 wl, .int .i64 xl, .int .i64 yl, .int .i64 zl]))]]) Kret x) (x0 : Int) (h : (bif (decide (x0 < (↑nl : Int)))
 then (bif (decide ((0 : Int) ≤ x0 ∧ x0 < (↑nl : Int)))
 then (bif (decide (Int.toNat x0 + al < ml))
 then (bif (decide (tl (Int.toNat x0 + al) ≥ (-1000000000000 : Int)))
 then (bif (decide (tl (Int.toNat x0 + al) ≤ (1000000000000 : Int)))
 then (bif (decide (vl (Int.toNat x0 + al) ≥ (-1000000000000 : Int)))
 then (bif (decide (vl (Int.toNat x0 + al) ≤ (1000000000000 : Int)))
 then (bif (decide (gl (Int.toNat x0 + al) ≥ (-1000000000000 : Int)))
 then (bif (decide (gl (Int.toNat x0 + al) ≤ (1000000000000 : Int)))
 then (bif (decide (wl (Int.toNat x0 + al) ≥ (-1000000000000 : Int)))
 then (bif (decide (wl (Int.toNat x0 + al) ≤ (1000000000000 : Int)))
 then (bif (decide (xl (Int.toNat x0 + al) ≥ (-1000000 : Int)))
 then (bif (decide (xl (Int.toNat x0 + al) ≤ (1000000 : Int)))
 then (bif (decide (yl (Int.toNat x0 + al) ≥ (-1 : Int)))
 then (bif (decide (yl (Int.toNat x0 + al) ≤ (199 : Int)))
 then (bif (decide (zl (Int.toNat x0 + al) ≥ (0 : Int)))
 then (bif (decide (zl (Int.toNat x0 + al) ≤ (1000000 : Int)))
 then (bif (lim IntKind.i64 (x0 + (1 : Int)))
 then (some (.inl (.h0 (x0 + (1 : Int)))))
 else (none))
 else (some (.inr ((6 : Int)))))
 else (some (.inr ((6 : Int)))))
 else (some (.inr ((6 : Int)))))
 else (some (.inr ((6 : Int)))))
 else (some (.inr ((6 : Int)))))
 else (some (.inr ((6 : Int)))))
 else (some (.inr ((6 : Int)))))
 else (some (.inr ((6 : Int)))))
 else (some (.inr ((6 : Int)))))
 else (some (.inr ((6 : Int)))))
 else (some (.inr ((6 : Int)))))
 else (some (.inr ((6 : Int)))))
 else (some (.inr ((6 : Int)))))
 else (some (.inr ((6 : Int)))))
 else (none))
 else (none))
 else (some (.inr ((0 : Int)))) : Option (St46 ⊕ Rt46)) = some x) : T46_0 cond Kst Kret al nl ml tl vl gl wl xl yl zl x0 := by
  unfold T46_0
  refine bif_split h
   (fun c0 h => bif_split h
   (fun c1 h => bif_split h
   (fun c2 h => cond_yes c2 (cond_yes c2 (cond_yes c2 (cond_yes c2 (cond_yes c2 (cond_yes c2 (cond_yes rfl (bif_split h
   (fun c3 h => bif_split h
   (fun c4 h => cond_yes rfl (bif_split h
   (fun c5 h => bif_split h
   (fun c6 h => cond_yes rfl (bif_split h
   (fun c7 h => bif_split h
   (fun c8 h => cond_yes rfl (bif_split h
   (fun c9 h => bif_split h
   (fun c10 h => cond_yes rfl (bif_split h
   (fun c11 h => bif_split h
   (fun c12 h => bif_split h
   (fun c13 h => bif_split h
   (fun c14 h => bif_split h
   (fun c15 h => bif_split h
   (fun c16 h => bif_split h
   (fun c17 h => stop_at hS _ h (fun n => n) rfl rfl rfl ⟨(rn_loose (use_lo rfl) rfl rfl rfl), ⟨(rn_int rfl), ⟨(rn_int rfl), trivial⟩⟩⟩ rfl (entl_bor (use_lo rfl) rfl rfl entl_nil))
   (fun c17 h => ?_))
   (fun c16 h => ?_))
   (fun c15 h => ?_))
   (fun c14 h => ?_))
   (fun c13 h => ?_))
   (fun c12 h => ?_))
   (fun c11 h => ?_)))
   (fun c10 h => ?_))
   (fun c9 h => ?_)))
   (fun c8 h => ?_))
   (fun c7 h => ?_)))
   (fun c6 h => ?_))
   (fun c5 h => ?_)))
   (fun c4 h => ?_))
   (fun c3 h => ?_)))))))))
   (fun c2 h => ?_))
   (fun c1 h => ?_))
   (fun c0 h => ?_)
  all_goals first
    | exact ret_at hR _ h (fun n => n) rfl rfl rfl (rn_int rfl) rfl (entl_bor (use_lo rfl) rfl rfl entl_nil)
    | exact no_some h
theorem a46 (al nl ml : Nat) (tl vl gl wl xl yl zl : Nat → Int) {r : Rt46} (h : Goes ((q46 al nl ml tl vl gl wl xl yl zl)) ((p46 al nl ml tl vl gl wl xl yl zl)) r) : CallR Try.prog 46 [.loose ⟨0, 7, al, 0⟩ nl] [[(0, (false, .cols ml [.int .i64 tl, .int .i64 vl, .int .i64 gl, .int .i64 wl, .int .i64 xl, .int .i64 yl, .int .i64 zl]))]] 1 ((V46 al nl ml tl vl gl wl xl yl zl) r) ((fun r => [newL (1 + 1) ((N46 al nl ml tl vl gl wl xl yl zl) r) ++ [(0, (false, .cols ml [.int .i64 tl, .int .i64 vl, .int .i64 gl, .int .i64 wl, .int .i64 xl, .int .i64 yl, .int .i64 zl]))]]) r) 400 ∧ ∃ F, Try.prog.funcs[46]? = some F ∧ F.body.isSome = true ∧ (F.name == "runtime.NumGoroutine") = false := by
  refine dec_calls (f := 46) (lo := 1) (hi := 400) (H := [[(0, (false, .cols ml [.int .i64 tl, .int .i64 vl, .int .i64 gl, .int .i64 wl, .int .i64 xl, .int .i64 yl, .int .i64 zl]))]]) (args := [.loose ⟨0, 7, al, 0⟩ nl]) Try.envOk Try.mixed xA0_ok ((I46 al nl ml tl vl gl wl xl yl zl)) ((V46 al nl ml tl vl gl wl xl yl zl)) (fun r => [newL (1 + 1) ((N46 al nl ml tl vl gl wl xl yl zl) r) ++ [(0, (false, .cols ml [.int .i64 tl, .int .i64 vl, .int .i64 gl, .int .i64 wl, .int .i64 xl, .int .i64 yl, .int .i64 zl]))]]) (fn := mkFn Try.f46) (ts := [8, 9, 10]) (n := 400) rfl (by decide) (by simp) (names_of rfl) ?_ ?_ ?_ h
  · intro s; cases s <;> exact ⟨hd_ok _ _, by simp [I46], names_of rfl, Nat.le_of_ble_eq_true rfl⟩
  · intro Kst Kret x hS hR h
    exact Holds.eq (te46 cond Kst Kret al nl ml tl vl gl wl xl yl zl) (be46 al nl ml tl vl gl wl xl yl zl Kst Kret x hS hR h)
  · intro Kst Kret x hS hR s h
    cases s with
    | h0 x0 => exact Holds.eq (t46_0 cond Kst Kret al nl ml tl vl gl wl xl yl zl x0) (b46_0 al nl ml tl vl gl wl xl yl zl Kst Kret x hS hR x0 h)
noncomputable def k46  : Con := ⟨46, [.one (.list [.int .i64, .int .i64, .int .i64, .int .i64, .int .i64, .int .i64, .int .i64])], fun (x : (Nat × Nat × Nat × (Nat → Int) × (Nat → Int) × (Nat → Int) × (Nat → Int) × (Nat → Int) × (Nat → Int) × (Nat → Int) × Unit) × Unit) => (fun (al nl ml : Nat) (tl : Nat → Int) (vl : Nat → Int) (gl : Nat → Int) (wl : Nat → Int) (xl : Nat → Int) (yl : Nat → Int) (zl : Nat → Int) => decide (al + nl ≤ ml ∧ nl ≤ 1000000)) x.1.1 x.1.2.1 x.1.2.2.1 x.1.2.2.2.1 x.1.2.2.2.2.1 x.1.2.2.2.2.2.1 x.1.2.2.2.2.2.2.1 x.1.2.2.2.2.2.2.2.1 x.1.2.2.2.2.2.2.2.2.1 x.1.2.2.2.2.2.2.2.2.2.1, fun (x : (Nat × Nat × Nat × (Nat → Int) × (Nat → Int) × (Nat → Int) × (Nat → Int) × (Nat → Int) × (Nat → Int) × (Nat → Int) × Unit) × Unit) => (fun (al nl ml : Nat) (tl : Nat → Int) (vl : Nat → Int) (gl : Nat → Int) (wl : Nat → Int) (xl : Nat → Int) (yl : Nat → Int) (zl : Nat → Int) => (V46 al nl ml tl vl gl wl xl yl zl) (S.parE nl (fun j => tl (j + al)) (fun j => vl (j + al)) (fun j => gl (j + al)) (fun j => wl (j + al)) (fun j => xl (j + al)) (fun j => yl (j + al)) (fun j => zl (j + al)))) x.1.1 x.1.2.1 x.1.2.2.1 x.1.2.2.2.1 x.1.2.2.2.2.1 x.1.2.2.2.2.2.1 x.1.2.2.2.2.2.2.1 x.1.2.2.2.2.2.2.2.1 x.1.2.2.2.2.2.2.2.2.1 x.1.2.2.2.2.2.2.2.2.2.1, fun (x : (Nat × Nat × Nat × (Nat → Int) × (Nat → Int) × (Nat → Int) × (Nat → Int) × (Nat → Int) × (Nat → Int) × (Nat → Int) × Unit) × Unit) => (fun (al nl ml : Nat) (tl : Nat → Int) (vl : Nat → Int) (gl : Nat → Int) (wl : Nat → Int) (xl : Nat → Int) (yl : Nat → Int) (zl : Nat → Int) => (N46 al nl ml tl vl gl wl xl yl zl) (S.parE nl (fun j => tl (j + al)) (fun j => vl (j + al)) (fun j => gl (j + al)) (fun j => wl (j + al)) (fun j => xl (j + al)) (fun j => yl (j + al)) (fun j => zl (j + al)))) x.1.1 x.1.2.1 x.1.2.2.1 x.1.2.2.2.1 x.1.2.2.2.2.1 x.1.2.2.2.2.2.1 x.1.2.2.2.2.2.2.1 x.1.2.2.2.2.2.2.2.1 x.1.2.2.2.2.2.2.2.2.1 x.1.2.2.2.2.2.2.2.2.2.1, fun _ _ => .dead⟩
theorem s46' (al nl ml : Nat) (tl vl gl wl xl yl zl : Nat → Int) (hp : al + nl ≤ ml ∧ nl ≤ 1000000) : ∀ (k i : Nat), i + k = nl → Comes (q46 al nl ml tl vl gl wl xl yl zl) (.h0 (i : Int)) (S.parN (fun j => S.parB (tl (j + al)) (vl (j + al)) (gl (j + al)) (wl (j + al)) (xl (j + al)) (yl (j + al)) (zl (j + al))) i k) := by
  obtain ⟨hp1, hp2⟩ := hp
  intro k
  induction k with
  | zero =>
    intro i hi
    apply Comes.of
    show Goes _ _ _
    (first | rw [q46] | unfold q46)
    repeat' first
      | with_reducible refine goes_if (fun h => ?_) (fun h => ?_) <;> (try simp only [SH] at h)
      | exact goes_none.mpr (by omega)
    all_goals first | (exfalso; omega) | exact goes_inr.mpr rfl
  | succ k ih =>
    intro i hi
    have ih := ih (i + 1) (by omega)
    have e : S.parN (fun j => S.parB (tl (j + al)) (vl (j + al)) (gl (j + al)) (wl (j + al)) (xl (j + al)) (yl (j + al)) (zl (j + al))) i (k + 1) = if (fun j => S.parB (tl (j + al)) (vl (j + al)) (gl (j + al)) (wl (j + al)) (xl (j + al)) (yl (j + al)) (zl (j + al))) i = true then S.parN (fun j => S.parB (tl (j + al)) (vl (j + al)) (gl (j + al)) (wl (j + al)) (xl (j + al)) (yl (j + al)) (zl (j + al))) (i + 1) k else 6 := rfl
    rw [e]
    unfold S.parB at ih ⊢
    simp only [decide_eq_true_eq]
    apply Comes.of
    show Goes _ _ _
    (first | rw [q46] | unfold q46)
    repeat' first
      | with_reducible refine goes_if (fun h => ?_) (fun h => ?_) <;> (try simp only [SH] at h)
      | exact goes_none.mpr (by omega)
    all_goals first
      | (exfalso; omega)
      | (rw [if_pos (by omega)]; exact ih)
      | (rw [if_neg (by omega)]; exact goes_inr.mpr rfl)
theorem s46 (al nl ml : Nat) (tl vl gl wl xl yl zl : Nat → Int) (hp : al + nl ≤ ml ∧ nl ≤ 1000000) : Goes ((q46 al nl ml tl vl gl wl xl yl zl)) ((p46 al nl ml tl vl gl wl xl yl zl)) (S.parE nl (fun j => tl (j + al)) (fun j => vl (j + al)) (fun j => gl (j + al)) (fun j => wl (j + al)) (fun j => xl (j + al)) (fun j => yl (j + al)) (fun j => zl (j + al))) := by
  unfold S.parE
  by_cases hn : nl > 50
  · rw [if_pos hn]
    show Goes _ _ _
    unfold p46
    repeat' first
      | with_reducible refine goes_if (fun h => ?_) (fun h => ?_) <;> (try simp only [SH] at h)
      | exact goes_none.mpr (by omega)
    all_goals first | (exfalso; omega) | exact goes_inr.mpr rfl
  · rw [if_neg hn]
    have hm := s46' al nl ml tl vl gl wl xl yl zl hp nl 0 (by omega)
    show Goes _ _ _
    unfold p46
    repeat' first
      | with_reducible refine goes_if (fun h => ?_) (fun h => ?_) <;> (try simp only [SH] at h)
      | exact goes_none.mpr (by omega)
    all_goals first | (exfalso; omega) | exact hm
theorem k46_ok  : k46.ok Try.prog := by
  intro x hx
  obtain ⟨⟨al, nl, ml, tl, vl, gl, wl, xl, yl, zl, _⟩, _⟩ := x
  obtain ⟨h1, h2⟩ := a46 al nl ml tl vl gl wl xl yl zl (s46 al nl ml tl vl gl wl xl yl zl (of_dec hx rfl))
  exact ⟨⟨400, (by decide : 1 + 1 + 0 ≤ 400), h1⟩, h2⟩
inductive St47 where
  | h0 (x0 : Int) (x1 : Int)
abbrev Rt47  := Int
noncomputable def V47 (al nl ml : Nat) (tl vl gl wl xl yl zl : Nat → Int) (r : Rt47) : PV := PV.int IntKind.i64 r
noncomputable def N47 (al nl ml : Nat) (tl vl gl wl xl yl zl : Nat → Int) (r : Rt47) : List Blk := []
noncomputable def I47 (al nl ml : Nat) (tl vl gl wl xl yl zl : Nat → Int) : St47 → Hd
  | .h0 x0 x1 => ⟨hd Try.f47 0, [PV.int IntKind.i64 x0, PV.loose (PA.mk (0) (7) al (0)) nl,
 PV.int IntKind.i64 (↑nl : Int), PV.int IntKind.i64 x1], [[], [(0, (false, .cols ml [.int .i64 tl, .int .i64 vl, .int .i64 gl, .int .i64 wl, .int .i64 xl, .int .i64 yl, .int .i64 zl]))]], 1⟩
noncomputable def q47 (al nl ml : Nat) (tl vl gl wl xl yl zl : Nat → Int) : St47 → Option (St47 ⊕ Rt47)
  | .h0 x0 x1 => bif (decide (x1 < (↑nl : Int)))
 then (bif (decide ((0 : Int) ≤ x1 ∧ x1 < (↑nl : Int)))
 then (bif (decide (Int.toNat x1 + al < ml))
 then (bif (lim IntKind.i64 (x1 + (1 : Int)))
 then (some (.inl (.h0 (Max.max x0 (zl (Int.toNat x1 + al))) (x1 + (1 : Int)))))
 else (none))
 else (none))
 else (none))
 else (some (.inr (x0)))
noncomputable def p47 (al nl ml : Nat) (tl vl gl wl xl yl zl : Nat → Int) : Option (St47 ⊕ Rt47) := some (.inl (.h0 ((0 : Int)) ((0 : Int))))
noncomputable def Te47 (test : Bool → Prop → Prop → Prop) (Kst : KS) (Kret : KR) (al nl ml : Nat) (tl vl gl wl xl yl zl : Nat → Int) : Prop :=
  Kst (hd Try.f47 0) ([PV.int IntKind.i64 (0 : Int), PV.loose (PA.mk (0) (7) al (0)) nl,
 PV.int IntKind.i64 (↑nl : Int), PV.int IntKind.i64 (0 : Int)]) ([[(0, false,
 Blk.cols ml
 [Col.int IntKind.i64 tl, Col.int IntKind.i64 vl, Col.int IntKind.i64 gl,
 Col.int IntKind.i64 wl, Col.int IntKind.i64 xl, Col.int IntKind.i64 yl,
 Col.int IntKind.i64 zl])]]) (1)
theorem te47 (test : Bool → Prop → Prop → Prop) (Kst : KS) (Kret : KR) (al nl ml : Nat) (tl vl gl wl xl yl zl : Nat → Int) : run test Try.env true (xA0 test) true 400 ⟨47, [.cd (mkFn Try.f47).body], argT 0 [.loose ⟨0, 7, al, 0⟩ nl], [[], [(0, (false, .cols ml [.int .i64 tl, .int .i64 vl, .int .i64 gl, .int .i64 wl, .int .i64 xl, .int .i64 yl, .int .i64 zl]))]], 1⟩ (proj 1 [3, 6, 7, 8] Kst Kret) =
  Te47 test Kst Kret al nl ml tl vl gl wl xl yl zl := by kernel_rfl
noncomputable def T47_0 (test : Bool → Prop → Prop → Prop) (Kst : KS) (Kret : KR) (al nl ml : Nat) (tl vl gl wl xl yl zl : Nat → Int) (x0 x1 : Int) : Prop :=
  test (decide (x1 < (↑nl : Int)))
 (test (decide ((0 : Int) ≤ x1 ∧ x1 < (↑nl : Int)))
 (test (decide (Int.toNat x1 + al < ml))
 (test (decide (Int.toNat x1 + al < ml))
 (test (decide (Int.toNat x1 + al < ml))
 (test (decide (Int.toNat x1 + al < ml))
 (test (decide (Int.toNat x1 + al < ml))
 (test (decide (Int.toNat x1 + al < ml))
 (test (decide (Int.toNat x1 + al < ml))
 (test (lim IntKind.i64 (x1 + (1 : Int)))
 (Kst (hd Try.f47 0) ([PV.int IntKind.i64 (Max.max x0 (zl (Int.toNat x1 + al))),
 PV.loose (PA.mk (0) (7) al (0)) nl, PV.int IntKind.i64 (↑nl : Int),
 PV.int IntKind.i64 (x1 + (1 : Int))]) ([[(0, false,
 Blk.cols ml
 [Col.int IntKind.i64 tl, Col.int IntKind.i64 vl, Col.int IntKind.i64 gl,
 Col.int IntKind.i64 wl, Col.int IntKind.i64 xl, Col.int IntKind.i64 yl,
 Col.int IntKind.i64 zl])]]) (2))
 (False))
 (False))
 (False))
 (False))
 (False))
 (False))
 (False))
 (False))
 (False))
 (Kret (PV.int IntKind.i64 x0) ([[(0, false,
 Blk.cols ml
 [Col.int IntKind.i64 tl, Col.int IntKind.i64 vl, Col.int IntKind.i64 gl,
 Col.int IntKind.i64 wl, Col.int IntKind.i64 xl, Col.int IntKind.i64 yl,
 Col.int IntKind.i64 zl])]]) (1))
theorem t47_0 (test : Bool → Prop → Prop → Prop) (Kst : KS) (Kret : KR) (al nl ml : Nat) (tl vl gl wl xl yl zl : Nat → Int) (x0 x1 : Int) : run test Try.env true (xA0 test) true 400 ⟨47, hd Try.f47 0, zipT [3, 6, 7, 8] [PV.int IntKind.i64 x0, PV.loose (PA.mk (0) (7) al (0)) nl,
 PV.int IntKind.i64 (↑nl : Int), PV.int IntKind.i64 x1], [[], [(0, (false, .cols ml [.int .i64 tl, .int .i64 vl, .int .i64 gl, .int .i64 wl, .int .i64 xl, .int .i64 yl, .int .i64 zl]))]], 1⟩ (proj 1 [3, 6, 7, 8] Kst Kret) =
  T47_0 test Kst Kret al nl ml tl vl gl wl xl yl zl x0 x1 := by kernel_rfl
theorem be47 (al nl ml : Nat) (tl vl gl wl xl yl zl : Nat → Int) (Kst : KS) (Kret : KR) (x : St47 ⊕ Rt47) (hS : HS 1 400 ((I47 al nl ml tl vl gl wl xl yl zl)) Kst x) (hR : HR 1 400 ((V47 al nl ml tl vl gl wl xl yl zl)) (fun r => [newL (1 + 1) ((N47 al nl ml tl vl gl wl xl yl zl) r) ++ [(0, (false, .cols ml [.int .i64 tl, .int .i64 vl, .int .i64 gl, .int .i64 wl, .int .i64 xl, .int .i64 yl, .int .i64 zl]))]]) Kret x) (h : (some (.inl (.h0 ((0 : Int)) ((0 : Int)))) : Option (St47 ⊕ Rt47)) = some x) : Te47 cond Kst Kret al nl ml tl vl gl wl xl yl zl := by
  unfold Te47
  exact stop_at hS _ h (fun n => n) rfl rfl rfl ⟨(rn_int rfl), ⟨(rn_loose (use_lo rfl) rfl rfl rfl), ⟨(rn_int rfl), ⟨(rn_int rfl), trivial⟩⟩⟩⟩ rfl (entl_bor (use_lo rfl) rfl rfl entl_nil)
theorem b47_0 (al nl ml : Nat) (tl vl gl wl xl yl zl : Nat → Int) (Kst : KS) (Kret : KR) (x : St47 ⊕ Rt47) (hS : HS 1 400 ((I47 al nl ml tl vl gl wl xl yl zl)) Kst x) (hR : HR 1 400 ((V47 al nl ml tl vl gl wl xl yl zl)) (fun r => [newL (1 + 1) ((N47 al nl ml tl vl gl wl xl yl zl) r) ++ [(0, (false, .cols ml [.int .i64 tl, .int .i64 vl, .int .i64 gl, .int .i64 wl, .int .i64 xl, .int .i64 yl, .int .i64 zl]))]]) Kret x) (x0 x1 : Int) (h : (bif (decide (x1 < (↑nl : Int)))
 then (bif (decide ((0 : Int) ≤ x1 ∧ x1 < (↑nl : Int)))
 then (bif (decide (Int.toNat x1 + al < ml))
 then (bif (lim IntKind.i64 (x1 + (1 : Int)))
 then (some (.inl (.h0 (Max.max x0 (zl (Int.toNat x1 + al))) (x1 + (1 : Int)))))
 else (none))
 else (none))
 else (none))
 else (some (.inr (x0))) : Option (St47 ⊕ Rt47)) = some x) : T47_0 cond Kst Kret al nl ml tl vl gl wl xl yl zl x0 x1 := by
  unfold T47_0
  exact bif_split h
   (fun c0 h => bif_split h
   (fun c1 h => bif_split h
   (fun c2 h => cond_yes c2 (cond_yes c2 (cond_yes c2 (cond_yes c2 (cond_yes c2 (cond_yes c2 (bif_split h
   (fun c3 h => stop_at hS _ h (fun n => n) rfl rfl rfl ⟨(rn_int rfl), ⟨(rn_loose (use_lo rfl) rfl rfl rfl), ⟨(rn_int rfl), ⟨(rn_int rfl), trivial⟩⟩⟩⟩ rfl (entl_bor (use_lo rfl) rfl rfl entl_nil))
   (fun c3 h => no_some h))))))))
   (fun c2 h => no_some h))
   (fun c1 h => no_some h))
   (fun c0 h => ret_at hR _ h (fun n => n) rfl rfl rfl (rn_int rfl) rfl (entl_bor (use_lo rfl) rfl rfl entl_nil))
theorem a47 (al nl ml : Nat) (tl vl gl wl xl yl zl : Nat → Int) {r : Rt47} (h : Goes ((q47 al nl ml tl vl gl wl xl yl zl)) ((p47 al nl ml tl vl gl wl xl yl zl)) r) : CallR Try.prog 47 [.loose ⟨0, 7, al, 0⟩ nl] [[(0, (false, .cols ml [.int .i64 tl, .int .i64 vl, .int .i64 gl, .int .i64 wl, .int .i64 xl, .int .i64 yl, .int .i64 zl]))]] 1 ((V47 al nl ml tl vl gl wl xl yl zl) r) ((fun r => [newL (1 + 1) ((N47 al nl ml tl vl gl wl xl yl zl) r) ++ [(0, (false, .cols ml [.int .i64 tl, .int .i64 vl, .int .i64 gl, .int .i64 wl, .int .i64 xl, .int .i64 yl, .int .i64 zl]))]]) r) 400 ∧ ∃ F, Try.prog.funcs[47]? = some F ∧ F.body.isSome = true ∧ (F.name == "runtime.NumGoroutine") = false := by
  refine dec_calls (f := 47) (lo := 1) (hi := 400) (H := [[(0, (false, .cols ml [.int .i64 tl, .int .i64 vl, .int .i64 gl, .int .i64 wl, .int .i64 xl, .int .i64 yl, .int .i64 zl]))]]) (args := [.loose ⟨0, 7, al, 0⟩ nl]) Try.envOk Try.mixed xA0_ok ((I47 al nl ml tl vl gl wl xl yl zl)) ((V47 al nl ml tl vl gl wl xl yl zl)) (fun r => [newL (1 + 1) ((N47 al nl ml tl vl gl wl xl yl zl) r) ++ [(0, (false, .cols ml [.int .i64 tl, .int .i64 vl, .int .i64 gl, .int .i64 wl, .int .i64 xl, .int .i64 yl, .int .i64 zl]))]]) (fn := mkFn Try.f47) (ts := [3, 6, 7, 8]) (n := 400) rfl (by decide) (by simp) (names_of rfl) ?_ ?_ ?_ h
  · intro s; cases s <;> exact ⟨hd_ok _ _, by simp [I47], names_of rfl, Nat.le_of_ble_eq_true rfl⟩
  · intro Kst Kret x hS hR h
    exact Holds.eq (te47 cond Kst Kret al nl ml tl vl gl wl xl yl zl) (be47 al nl ml tl vl gl wl xl yl zl Kst Kret x hS hR h)
  · intro Kst Kret x hS hR s h
    cases s with
    | h0 x0 x1 => exact Holds.eq (t47_0 cond Kst Kret al nl ml tl vl gl wl xl yl zl x0 x1) (b47_0 al nl ml tl vl gl wl xl yl zl Kst Kret x hS hR x0 x1 h)
noncomputable def k47  : Con := ⟨47, [.one (.list [.int .i64, .int .i64, .int .i64, .int .i64, .int .i64, .int .i64, .int .i64])], fun (x : (Nat × Nat × Nat × (Nat → Int) × (Nat → Int) × (Nat → Int) × (Nat → Int) × (Nat → Int) × (Nat → Int) × (Nat → Int) × Unit) × Unit) => (fun (al nl ml : Nat) (tl : Nat → Int) (vl : Nat → Int) (gl : Nat → Int) (wl : Nat → Int) (xl : Nat → Int) (yl : Nat → Int) (zl : Nat → Int) => decide (al + nl ≤ ml ∧ nl ≤ 1000000)) x.1.1 x.1.2.1 x.1.2.2.1 x.1.2.2.2.1 x.1.2.2.2.2.1 x.1.2.2.2.2.2.1 x.1.2.2.2.2.2.2.1 x.1.2.2.2.2.2.2.2.1 x.1.2.2.2.2.2.2.2.2.1 x.1.2.2.2.2.2.2.2.2.2.1, fun (x : (Nat × Nat × Nat × (Nat → Int) × (Nat → Int) × (Nat → Int) × (Nat → Int) × (Nat → Int) × (Nat → Int) × (Nat → Int) × Unit) × Unit) => (fun (al nl ml : Nat) (tl : Nat → Int) (vl : Nat → Int) (gl : Nat → Int) (wl : Nat → Int) (xl : Nat → Int) (yl : Nat → Int) (zl : Nat → Int) => (V47 al nl ml tl vl gl wl xl yl zl) (S.max0 (fun j => zl (j + al)) nl)) x.1.1 x.1.2.1 x.1.2.2.1 x.1.2.2.2.1 x.1.2.2.2.2.1 x.1.2.2.2.2.2.1 x.1.2.2.2.2.2.2.1 x.1.2.2.2.2.2.2.2.1 x.1.2.2.2.2.2.2.2.2.1 x.1.2.2.2.2.2.2.2.2.2.1, fun (x : (Nat × Nat × Nat × (Nat → Int) × (Nat → Int) × (Nat → Int) × (Nat → Int) × (Nat → Int) × (Nat → Int) × (Nat → Int) × Unit) × Unit) => (fun (al nl ml : Nat) (tl : Nat → Int) (vl : Nat → Int) (gl : Nat → Int) (wl : Nat → Int) (xl : Nat → Int) (yl : Nat → Int) (zl : Nat → Int) => (N47 al nl ml tl vl gl wl xl yl zl) (S.max0 (fun j => zl (j + al)) nl)) x.1.1 x.1.2.1 x.1.2.2.1 x.1.2.2.2.1 x.1.2.2.2.2.1 x.1.2.2.2.2.2.1 x.1.2.2.2.2.2.2.1 x.1.2.2.2.2.2.2.2.1 x.1.2.2.2.2.2.2.2.2.1 x.1.2.2.2.2.2.2.2.2.2.1, fun _ _ => .dead⟩
theorem s47' (al nl ml : Nat) (tl vl gl wl xl yl zl : Nat → Int) (hp : al + nl ≤ ml ∧ nl ≤ 1000000) : ∀ (k i : Nat), i + k = nl → Comes (q47 al nl ml tl vl gl wl xl yl zl) (.h0 (S.max0 (fun j => zl (j + al)) i) (i : Int)) (S.max0 (fun j => zl (j + al)) nl) := by
  obtain ⟨hp1, hp2⟩ := hp
  intro k
  induction k with
  | zero =>
    intro i hi
    obtain rfl : nl = i := by omega
    generalize S.max0 _ _ = v
    apply Comes.of
    show Goes _ _ _
    (first | rw [q47] | unfold q47)
    repeat' first
      | with_reducible refine goes_if (fun h => ?_) (fun h => ?_) <;> (try simp only [SH] at h)
      | exact goes_none.mpr (by omega)
    all_goals first | (exfalso; omega) | exact goes_inr.mpr rfl
  | succ k ih =>
    intro i hi
    have ih := ih (i + 1) (by omega)
    have e : S.max0 (fun j => zl (j + al)) (i + 1) = max (S.max0 (fun j => zl (j + al)) i) (zl (i + al)) := rfl
    rw [e] at ih
    generalize S.max0 _ i = v at *
    apply Comes.of
    show Goes _ _ _
    (first | rw [q47] | unfold q47)
    repeat' first
      | with_reducible refine goes_if (fun h => ?_) (fun h => ?_) <;> (try simp only [SH] at h)
      | exact goes_none.mpr (by omega)
    all_goals first | (exfalso; omega) | exact ih
theorem s47 (al nl ml : Nat) (tl vl gl wl xl yl zl : Nat → Int) (hp : al + nl ≤ ml ∧ nl ≤ 1000000) : Goes ((q47 al nl ml tl vl gl wl xl yl zl)) ((p47 al nl ml tl vl gl wl xl yl zl)) (S.max0 (fun j => zl (j + al)) nl) := by
  have hm := s47' al nl ml tl vl gl wl xl yl zl hp nl 0 (by omega)
  exact hm
theorem k47_ok  : k47.ok Try.prog := by
  intro x hx
  obtain ⟨⟨al, nl, ml, tl, vl, gl, wl, xl, yl, zl, _⟩, _⟩ := x
  obtain ⟨h1, h2⟩ := a47 al nl ml tl vl gl wl xl yl zl (s47 al nl ml tl vl gl wl xl yl zl (of_dec hx rfl))
  exact ⟨⟨400, (by decide : 1 + 1 + 0 ≤ 400), h1⟩, h2⟩
namespace S
def fdv (a b : Int) : Int := a / b
end S
theorem div_at  {p q c m : Int} (h0 : 0 ≤ m) (h1 : m < q) (h : p = q * c + m) : p / q = c := by
  rw [h, Int.add_comm, Int.add_mul_ediv_left _ _ (by omega), Int.ediv_eq_zero_of_lt h0 h1, Int.zero_add]
theorem fdv_eq  {p q : Int} (hq : 0 < q) : S.fdv p q = if p.tmod q < 0 then p.tdiv q - 1 else p.tdiv q := by
  have h4 := Int.mul_tdiv_add_tmod p q
  have h5 : p.tmod q < q := Int.tmod_lt_of_pos p hq
  have h6 : -q < p.tmod q := Int.lt_tmod_of_pos p hq
  unfold S.fdv
  split
  · refine div_at (m := p.tmod q + q) (by omega) (by omega) ?_
    rw [Int.mul_sub, Int.mul_one]
    omega
  · exact div_at (m := p.tmod q) (by omega) (by omega) (by omega)
theorem tdv_abs (p q : Int) : (p.tdiv q).natAbs ≤ p.natAbs := by
  rw [Int.natAbs_tdiv]
  exact Nat.div_le_self _ _
abbrev St48  := Empty
abbrev Rt48  := Int
noncomputable def V48 (p q : Int) (r : Rt48) : PV := PV.int IntKind.i64 r
noncomputable def N48 (p q : Int) (r : Rt48) : List Blk := []
noncomputable def I48 (p q : Int) : St48 → Hd := fun s => s.elim
noncomputable def q48 (p q : Int) : St48 → Option (St48 ⊕ Rt48) := fun s => s.elim
noncomputable def p48 (p q : Int) : Option (St48 ⊕ Rt48) := bif (decide (q = (0 : Int)))
 then (none)
 else (bif (lim IntKind.i64 (Int.tdiv p q))
 then (bif (decide (Int.tmod p q < (0 : Int)))
 then (bif (lim IntKind.i64 (Int.tdiv p q - (1 : Int)))
 then (some (.inr (Int.tdiv p q - (1 : Int))))
 else (none))
 else (some (.inr (Int.tdiv p q))))
 else (none))
noncomputable def Te48 (test : Bool → Prop → Prop → Prop) (Kst : KS) (Kret : KR) (p q : Int) : Prop :=
  test (decide (q = (0 : Int)))
 (False)
 (test (lim IntKind.i64 (Int.tdiv p q))
 (test (decide (q = (0 : Int)))
 (False)
 (test (decide (Int.tmod p q < (0 : Int)))
 (test (lim IntKind.i64 (Int.tdiv p q - (1 : Int)))
 (Kret (PV.int IntKind.i64 (Int.tdiv p q - (1 : Int))) ([[]]) (0))
 (False))
 (Kret (PV.int IntKind.i64 (Int.tdiv p q)) ([[]]) (0))))
 (False))
theorem te48 (test : Bool → Prop → Prop → Prop) (Kst : KS) (Kret : KR) (p q : Int) : run test Try.env true noX true 400 ⟨48, [.cd (mkFn Try.f48).body], argT 0 [.int .i64 p, .int .i64 q], [[], []], 0⟩ (proj 0 [] Kst Kret) =
  Te48 test Kst Kret p q := by kernel_rfl
theorem be48 (p q : Int) (Kst : KS) (Kret : KR) (x : St48 ⊕ Rt48) (hS : HS 0 400 ((I48 p q)) Kst x) (hR : HR 0 400 ((V48 p q)) (fun r => [newL (0 + 1) ((N48 p q) r) ++ []]) Kret x) (h : p48 p q = some x) : Te48 cond Kst Kret p q := by
  unfold Te48
  unfold p48 at h
  refine bif_split h
   (fun c0 h => no_some h)
   (fun c0 h => bif_split h
   (fun c1 h => cond_no c0 (bif_split h
   (fun c2 h => bif_split h
   (fun c3 h => ret_at hR _ h (fun n => n) rfl rfl rfl (rn_int rfl) rfl entl_nil)
   (fun c3 h => no_some h))
   (fun c2 h => ret_at hR _ h (fun n => n) rfl rfl rfl (rn_int rfl) rfl entl_nil)))
   (fun c1 h => no_some h))
theorem a48 (p q : Int) {r : Rt48} (h : Goes ((q48 p q)) ((p48 p q)) r) : CallR Try.prog 48 [.int .i64 p, .int .i64 q] [[]] 0 ((V48 p q) r) ((fun r => [newL (0 + 1) ((N48 p q) r) ++ []]) r) 400 ∧ ∃ F, Try.prog.funcs[48]? = some F ∧ F.body.isSome = true ∧ (F.name == "runtime.NumGoroutine") = false := by
  refine dec_calls (f := 48) (lo := 0) (hi := 400) (H := [[]]) (args := [.int .i64 p, .int .i64 q]) Try.envOk Try.mixed noX_ok ((I48 p q)) ((V48 p q)) (fun r => [newL (0 + 1) ((N48 p q) r) ++ []]) (fn := mkFn Try.f48) (ts := []) (n := 400) rfl (by decide) (by simp) (names_of rfl) ?_ ?_ ?_ h
  · intro s; exact s.elim
  · intro Kst Kret x hS hR h
    exact Holds.eq (te48 cond Kst Kret p q) (be48 p q Kst Kret x hS hR h)
  · intro Kst Kret x hS hR s h; exact s.elim
noncomputable def k48  : Con := ⟨48, [.one (.plain (.int .i64)), .one (.plain (.int .i64))], fun (x : Int × Int × Unit) => (fun (p : Int) (q : Int) => decide ((-4611686018427387904 ≤ p ∧ p ≤ 4611686018427387904) ∧ 0 < q ∧ q ≤ 4611686018427387904)) x.1 x.2.1, fun (x : Int × Int × Unit) => (fun (p : Int) (q : Int) => (V48 p q) (S.fdv p q)) x.1 x.2.1, fun (x : Int × Int × Unit) => (fun (p : Int) (q : Int) => (N48 p q) (S.fdv p q)) x.1 x.2.1, fun _ _ => .dead⟩
theorem s48 (p q : Int) (hp : (-4611686018427387904 ≤ p ∧ p ≤ 4611686018427387904) ∧ 0 < q ∧ q ≤ 4611686018427387904) : Goes ((q48 p q)) ((p48 p q)) (S.fdv p q) := by
  have ha := tdv_abs p q
  rw [fdv_eq hp.2.1]
  unfold p48
  generalize p.tdiv q = d at *
  generalize p.tmod q = m at *
  repeat' first
    | with_reducible refine goes_if (fun h => ?_) (fun h => ?_) <;> (try simp only [SH] at h)
    | exact goes_none.mpr (by omega)
  all_goals first | (exfalso; omega) | (rw [if_pos (by omega)]; exact goes_inr.mpr rfl) | (rw [if_neg (by omega)]; exact goes_inr.mpr rfl)
theorem k48_ok  : k48.ok Try.prog := by
  intro x hx
  obtain ⟨p, q, _⟩ := x
  obtain ⟨h1, h2⟩ := a48 p q (s48 p q (of_dec hx rfl))
  exact ⟨⟨400, (by decide : 0 + 1 + 0 ≤ 400), h1⟩, h2⟩
noncomputable def xC (test : Bool → Prop → Prop → Prop) : Ext := consX test [k15, k46, k47, k48]
theorem xC_ok  : ExtOk Try.prog (xC cond) := consX_ok ⟨k15_ok, k46_ok, k47_ok, k48_ok, trivial⟩
namespace S
def cntN (p : Nat → Bool) : Nat → Int
  | 0 => 0
  | n + 1 => if p n = true then cntN p n + 1 else cntN p n
def liv (y : Nat → Int) (j : Nat) : Bool := decide (y j < 0)
def good (T v rg : Int) : Int × Int × Bool × Int := if -rg ≤ v ∧ v ≤ rg then (T, v, true, 0) else (T, 0, false, 0)
def posT (pn : Int) (x1 x3 l : Nat → Int) (j : Nat) : Int := if l j < 0 then (if pn = 1 then x1 j else x3 j) else 0
def posV (of rs n s : Int) : Int := rs * fdv (2 * (s + n * of) + n * rs) (2 * n * rs)
def posR (of rs rg T n s : Int) : Int × Int × Bool × Int := if n = 0 then (T, 0, false, 0) else good T (posV of rs n s) rg
def posS (kd pc pn of rs rg re : Int) (n : Nat) (x1 x2 x3 x4 d l t : Nat → Int) : Int × Int × Bool × Int :=
  if kinE kd pc pn of rs rg re 1 = 0 then
    if parE n x1 x2 x3 x4 d l t = 0 then posR of rs rg (max0 t n) (cntN (liv l) n) (sumN (posT pn x1 x3 l) n) else (0, 0, false, parE n x1 x2 x3 x4 d l t)
  else (0, 0, false, kinE kd pc pn of rs rg re 1)
end S
theorem cnt_bnd  {p : Nat → Bool} : ∀ {n : Nat}, 0 ≤ S.cntN p n ∧ S.cntN p n ≤ n
  | 0 => ⟨Int.le_refl _, Int.le_refl _⟩
  | n + 1 => by
    have := cnt_bnd (p := p) (n := n)
    simp only [S.cntN]
    split <;> omega
theorem par_ok  {n : Nat} {x1 x2 x3 x4 d l t : Nat → Int} (h : S.parE n x1 x2 x3 x4 d l t = 0) : n ≤ 50 ∧ ∀ j, j < n → (-1000000000000 ≤ x1 j ∧ x1 j ≤ 1000000000000) ∧ (-1000000000000 ≤ x3 j ∧ x3 j ≤ 1000000000000) ∧ (-1 ≤ l j ∧ l j ≤ 199) := by
  unfold S.parE at h
  split at h
  · cases h
  · refine ⟨by omega, fun j hj => ?_⟩
    have := par_all h j (Nat.zero_le _) (by omega)
    have := of_decide_eq_true this
    omega
theorem pos_bnd  {pn : Int} {x1 x3 l : Nat → Int} : ∀ {n : Nat}, (∀ j, j < n → (-1000000000000 ≤ x1 j ∧ x1 j ≤ 1000000000000) ∧ (-1000000000000 ≤ x3 j ∧ x3 j ≤ 1000000000000) ∧ (-1 ≤ l j ∧ l j ≤ 199)) → -1000000000000 * S.cntN (S.liv l) n ≤ S.sumN (S.posT pn x1 x3 l) n ∧ S.sumN (S.posT pn x1 x3 l) n ≤ 1000000000000 * S.cntN (S.liv l) n
  | 0, _ => ⟨Int.le_refl _, Int.le_refl _⟩
  | n + 1, h => by
    have h1 := pos_bnd (n := n) (pn := pn) fun j hj => h j (by omega)
    have h2 := h n (by omega)
    have e : S.sumN (S.posT pn x1 x3 l) (n + 1) = S.sumN (S.posT pn x1 x3 l) n + S.posT pn x1 x3 l n := rfl
    have e2 : S.cntN (S.liv l) (n + 1) = if l n < 0 then S.cntN (S.liv l) n + 1 else S.cntN (S.liv l) n := by
      simp only [S.cntN, S.liv, decide_eq_true_eq]
    rw [e, e2]
    generalize S.sumN (S.posT pn x1 x3 l) n = u at *
    generalize S.cntN (S.liv l) n = v at *
    unfold S.posT
    (repeat' split) <;> omega
theorem fdv_b  {a q : Int} (hq : 0 < q) : q * S.fdv a q ≤ a ∧ a < q * S.fdv a q + q := by
  have h1 := Int.emod_nonneg a (show q ≠ 0 by omega)
  have h2 := Int.emod_lt_of_pos a hq
  have h3 := Int.mul_ediv_add_emod a q
  unfold S.fdv
  omega
theorem fdv_is  {a q c : Int} (h1 : q * c ≤ a) (h2 : a < q * c + q) : S.fdv a q = c := by
  unfold S.fdv
  exact div_at (m := a - q * c) (by omega) (by omega) (by omega)
theorem pv_b  {of rs n s : Int} (hn : 1 ≤ n ∧ n ≤ 50) (hs : -1000000000000 * n ≤ s ∧ s ≤ 1000000000000 * n) (ho : -1000000000000 ≤ of ∧ of ≤ 1000000000000) (hr : 1 ≤ rs ∧ rs ≤ 1000000000) :
    (-50000000000000 ≤ n * of ∧ n * of ≤ 50000000000000) ∧ (1 ≤ n * rs ∧ n * rs ≤ 50000000000) ∧ 2 * n * rs = 2 * (n * rs) ∧ (-3000000000000 ≤ S.posV of rs n s ∧ S.posV of rs n s ≤ 3000000000000) := by
  have a1 : n * of ≤ n * 1000000000000 := Int.mul_le_mul_of_nonneg_left ho.2 (by omega)
  have a2 : n * (-1000000000000) ≤ n * of := Int.mul_le_mul_of_nonneg_left ho.1 (by omega)
  have a3 : n * rs ≤ n * 1000000000 := Int.mul_le_mul_of_nonneg_left hr.2 (by omega)
  have a4 : n * 1 ≤ n * rs := Int.mul_le_mul_of_nonneg_left hr.1 (by omega)
  have a5 : 2 * n * rs = 2 * (n * rs) := Int.mul_assoc _ _ _
  refine ⟨by omega, by omega, a5, ?_⟩
  unfold S.posV
  obtain ⟨b1, b2⟩ := fdv_b (a := 2 * (s + n * of) + n * rs) (q := 2 * n * rs) (by omega)
  generalize S.fdv (2 * (s + n * of) + n * rs) (2 * n * rs) = f at *
  have e : 2 * n * rs * f = 2 * (n * (rs * f)) := by rw [Int.mul_assoc, Int.mul_assoc]
  rw [e] at b1 b2
  generalize rs * f = v at *
  have c1 : n * (v - 3000000000000) ≤ 0 := by rw [Int.mul_sub]; omega
  have c2 : 0 ≤ n * (v + 3000000000000) := by rw [Int.mul_add]; omega
  constructor
  · refine Int.not_lt.mp fun h => ?_
    have := Int.mul_neg_of_pos_of_neg (show 0 < n by omega) (show v + 3000000000000 < 0 by omega)
    omega
  · refine Int.not_lt.mp fun h => ?_
    have := Int.mul_pos (show 0 < n by omega) (show 0 < v - 3000000000000 by omega)
    omega
inductive St17 where
  | h0 (x0 : Int) (x1 : Int) (x2 : Int)
abbrev Rt17  := Int × Int × Bool × Int
noncomputable def V17 (kd pc pn of rs rg re : Int) (al nl ml : Nat) (tl vl gl wl xl yl zl : Nat → Int) (r : Rt17) : PV := PV.tup
 [PV.agg [PV.int IntKind.i64 r.1, PV.int IntKind.i64 r.2.1, PV.bool r.2.2.1],
 PV.int IntKind.i64 r.2.2.2]
noncomputable def N17 (kd pc pn of rs rg re : Int) (al nl ml : Nat) (tl vl gl wl xl yl zl : Nat → Int) (r : Rt17) : List Blk := []
noncomputable def I17 (kd pc pn of rs rg re : Int) (al nl ml : Nat) (tl vl gl wl xl yl zl : Nat → Int) : St17 → Hd
  | .h0 x0 x1 x2 => ⟨hd Try.f17 0, [PV.loose (PA.mk (0) (7) al (0)) nl,
 PV.ptr (PA.mk (1) (0) (0) (0)),
 PV.ptr (PA.mk (2) (0) (0) (0)), PV.int IntKind.i64 x0,
 PV.int IntKind.i64 x1, PV.loose (PA.mk (0) (7) al (0)) nl,
 PV.int IntKind.i64 (↑nl : Int), PV.int IntKind.i64 x2], [[(1, (true, Blk.cells
 [PV.int IntKind.i64 kd, PV.int IntKind.i64 pc, PV.int IntKind.i64 pn,
 PV.int IntKind.i64 of, PV.int IntKind.i64 rs, PV.int IntKind.i64 rg,
 PV.int IntKind.i64 re])), (2, (true, Blk.cells [PV.int IntKind.i64 (0 : Int), PV.int IntKind.i64 (0 : Int), PV.tf false]))], [(0, (false, .cols ml [.int .i64 tl, .int .i64 vl, .int .i64 gl, .int .i64 wl, .int .i64 xl, .int .i64 yl, .int .i64 zl]))]], 3⟩
noncomputable def q17 (kd pc pn of rs rg re : Int) (al nl ml : Nat) (tl vl gl wl xl yl zl : Nat → Int) : St17 → Option (St17 ⊕ Rt17)
  | .h0 x0 x1 x2 => bif (decide (x2 < (↑nl : Int)))
 then (bif (decide ((0 : Int) ≤ x2 ∧ x2 < (↑nl : Int)))
 then (bif (decide (Int.toNat x2 + al < ml))
 then (bif (decide (yl (Int.toNat x2 + al) ≥ (0 : Int)))
 then (bif (lim IntKind.i64 (x2 + (1 : Int)))
 then (some (.inl (.h0 (x0) (x1) (x2 + (1 : Int)))))
 else (none))
 else (bif (lim IntKind.i64 (x1 + (1 : Int)))
 then (bif (pn == (1 : Int))
 then (bif (lim IntKind.i64 (x0 + tl (Int.toNat x2 + al)))
 then (bif (lim IntKind.i64 (x2 + (1 : Int)))
 then (some (.inl (.h0 (x0 + tl (Int.toNat x2 + al)) (x1 + (1 : Int)) (x2 + (1 : Int)))))
 else (none))
 else (none))
 else (bif (lim IntKind.i64 (x0 + gl (Int.toNat x2 + al)))
 then (bif (lim IntKind.i64 (x2 + (1 : Int)))
 then (some (.inl (.h0 (x0 + gl (Int.toNat x2 + al)) (x1 + (1 : Int)) (x2 + (1 : Int)))))
 else (none))
 else (none)))
 else (none)))
 else (none))
 else (none))
 else (bif (decide (al + nl ≤ ml ∧ nl ≤ 1000000))
 then (bif (x1 == (0 : Int))
 then (some (.inr (S.max0 (fun j => zl (j + al)) nl, (0 : Int), false, (0 : Int))))
 else (bif (lim IntKind.i64 (x1 * of))
 then (bif (lim IntKind.i64 (x0 + x1 * of))
 then (bif (lim IntKind.i64 ((2 : Int) * (x0 + x1 * of)))
 then (bif (lim IntKind.i64 (x1 * rs))
 then (bif (lim IntKind.i64 ((2 : Int) * (x0 + x1 * of) + x1 * rs))
 then (bif (lim IntKind.i64 ((2 : Int) * x1))
 then (bif (lim IntKind.i64 ((2 : Int) * x1 * rs))
 then (bif (decide
 (((-4611686018427387904 : Int) ≤ (2 : Int) * (x0 + x1 * of) + x1 * rs ∧
 (2 : Int) * (x0 + x1 * of) + x1 * rs ≤ (4611686018427387904 : Int)) ∧
 (0 : Int) < (2 : Int) * x1 * rs ∧ (2 : Int) * x1 * rs ≤ (4611686018427387904 : Int)))
 then (bif (lim IntKind.i64 (rs * S.fdv ((2 : Int) * (x0 + x1 * of) + x1 * rs) ((2 : Int) * x1 * rs)))
 then (bif (lim IntKind.i64 (-rg))
 then (bif (decide (rs * S.fdv ((2 : Int) * (x0 + x1 * of) + x1 * rs) ((2 : Int) * x1 * rs) ≥ -rg))
 then (bif (decide (rs * S.fdv ((2 : Int) * (x0 + x1 * of) + x1 * rs) ((2 : Int) * x1 * rs) ≤ rg))
 then (some (.inr (S.max0 (fun j => zl (j + al)) nl, rs * S.fdv ((2 : Int) * (x0 + x1 * of) + x1 * rs) ((2 : Int) * x1 * rs), true, (0 : Int))))
 else (some (.inr (S.max0 (fun j => zl (j + al)) nl, (0 : Int), false, (0 : Int)))))
 else (some (.inr (S.max0 (fun j => zl (j + al)) nl, (0 : Int), false, (0 : Int)))))
 else (none))
 else (none))
 else (none))
 else (none))
 else (none))
 else (none))
 else (none))
 else (none))
 else (none))
 else (none)))
 else (none))
noncomputable def p17 (kd pc pn of rs rg re : Int) (al nl ml : Nat) (tl vl gl wl xl yl zl : Nat → Int) : Option (St17 ⊕ Rt17) := bif (S.insE kd pc pn of rs rg re != (0 : Int))
 then (some (.inr ((0 : Int), (0 : Int), false, S.insE kd pc pn of rs rg re)))
 else (bif (kd != (1 : Int))
 then (some (.inr ((0 : Int), (0 : Int), false, (8 : Int))))
 else (bif (decide (al + nl ≤ ml ∧ nl ≤ 1000000))
 then (bif ((S.parE nl (fun j => tl (j + al)) (fun j => vl (j + al)) (fun j => gl (j + al))
 (fun j => wl (j + al)) (fun j => xl (j + al)) (fun j => yl (j + al)) fun j =>
 zl (j + al)) !=
 (0 : Int))
 then (some (.inr ((0 : Int), (0 : Int), false, S.parE nl (fun j => tl (j + al)) (fun j => vl (j + al)) (fun j => gl (j + al))
 (fun j => wl (j + al)) (fun j => xl (j + al)) (fun j => yl (j + al)) fun j =>
 zl (j + al))))
 else (some (.inl (.h0 ((0 : Int)) ((0 : Int)) ((0 : Int))))))
 else (none)))
noncomputable def Te17 (test : Bool → Prop → Prop → Prop) (Kst : KS) (Kret : KR) (kd pc pn of rs rg re : Int) (al nl ml : Nat) (tl vl gl wl xl yl zl : Nat → Int) : Prop :=
  test (true)
 (test (S.insE kd pc pn of rs rg re != (0 : Int))
 (test (S.insE kd pc pn of rs rg re != (0 : Int))
 (Kret (PV.tup
 [PV.agg [PV.int IntKind.i64 (0 : Int), PV.int IntKind.i64 (0 : Int), PV.tf false],
 PV.int IntKind.i64 (S.insE kd pc pn of rs rg re)]) ([[(0, false,
 Blk.cols ml
 [Col.int IntKind.i64 tl, Col.int IntKind.i64 vl, Col.int IntKind.i64 gl,
 Col.int IntKind.i64 wl, Col.int IntKind.i64 xl, Col.int IntKind.i64 yl,
 Col.int IntKind.i64 zl])]]) (5))
 (test (decide (al + nl ≤ ml ∧ nl ≤ 1000000))
 (test ((S.parE nl (fun j => tl (j + al)) (fun j => vl (j + al)) (fun j => gl (j + al))
 (fun j => wl (j + al)) (fun j => xl (j + al)) (fun j => yl (j + al)) fun j =>
 zl (j + al)) !=
 (0 : Int))
 (Kret (PV.tup
 [PV.agg [PV.int IntKind.i64 (0 : Int), PV.int IntKind.i64 (0 : Int), PV.tf false],
 PV.int IntKind.i64
 (S.parE nl (fun j => tl (j + al)) (fun j => vl (j + al)) (fun j => gl (j + al))
 (fun j => wl (j + al)) (fun j => xl (j + al)) (fun j => yl (j + al)) fun j =>
 zl (j + al))]) ([[(0, false,
 Blk.cols ml
 [Col.int IntKind.i64 tl, Col.int IntKind.i64 vl, Col.int IntKind.i64 gl,
 Col.int IntKind.i64 wl, Col.int IntKind.i64 xl, Col.int IntKind.i64 yl,
 Col.int IntKind.i64 zl])]]) (6))
 (Kst (hd Try.f17 0) ([PV.loose (PA.mk (0) (7) al (0)) nl,
 PV.ptr (PA.mk (1) (0) (0) (0)),
 PV.ptr (PA.mk (2) (0) (0) (0)), PV.int IntKind.i64 (0 : Int),
 PV.int IntKind.i64 (0 : Int), PV.loose (PA.mk (0) (7) al (0)) nl,
 PV.int IntKind.i64 (↑nl : Int), PV.int IntKind.i64 (0 : Int)]) ([[(0, false,
 Blk.cols ml
 [Col.int IntKind.i64 tl, Col.int IntKind.i64 vl, Col.int IntKind.i64 gl,
 Col.int IntKind.i64 wl, Col.int IntKind.i64 xl, Col.int IntKind.i64 yl,
 Col.int IntKind.i64 zl]),
 (2, true,
 Blk.cells
 [PV.int IntKind.i64 (0 : Int), PV.int IntKind.i64 (0 : Int), PV.tf false]),
 (1, true,
 Blk.cells
 [PV.int IntKind.i64 kd, PV.int IntKind.i64 pc, PV.int IntKind.i64 pn,
 PV.int IntKind.i64 of, PV.int IntKind.i64 rs, PV.int IntKind.i64 rg,
 PV.int IntKind.i64 re])]]) (6)))
 (False)))
 (test (kd != (1 : Int))
 (test (true)
 (Kret (PV.tup
 [PV.agg [PV.int IntKind.i64 (0 : Int), PV.int IntKind.i64 (0 : Int), PV.tf false],
 PV.int IntKind.i64 (8 : Int)]) ([[(0, false,
 Blk.cols ml
 [Col.int IntKind.i64 tl, Col.int IntKind.i64 vl, Col.int IntKind.i64 gl,
 Col.int IntKind.i64 wl, Col.int IntKind.i64 xl, Col.int IntKind.i64 yl,
 Col.int IntKind.i64 zl])]]) (5))
 (test (decide (al + nl ≤ ml ∧ nl ≤ 1000000))
 (test ((S.parE nl (fun j => tl (j + al)) (fun j => vl (j + al)) (fun j => gl (j + al))
 (fun j => wl (j + al)) (fun j => xl (j + al)) (fun j => yl (j + al)) fun j =>
 zl (j + al)) !=
 (0 : Int))
 (Kret (PV.tup
 [PV.agg [PV.int IntKind.i64 (0 : Int), PV.int IntKind.i64 (0 : Int), PV.tf false],
 PV.int IntKind.i64
 (S.parE nl (fun j => tl (j + al)) (fun j => vl (j + al)) (fun j => gl (j + al))
 (fun j => wl (j + al)) (fun j => xl (j + al)) (fun j => yl (j + al)) fun j =>
 zl (j + al))]) ([[(0, false,
 Blk.cols ml
 [Col.int IntKind.i64 tl, Col.int IntKind.i64 vl, Col.int IntKind.i64 gl,
 Col.int IntKind.i64 wl, Col.int IntKind.i64 xl, Col.int IntKind.i64 yl,
 Col.int IntKind.i64 zl])]]) (6))
 (Kst (hd Try.f17 0) ([PV.loose (PA.mk (0) (7) al (0)) nl,
 PV.ptr (PA.mk (1) (0) (0) (0)),
 PV.ptr (PA.mk (2) (0) (0) (0)), PV.int IntKind.i64 (0 : Int),
 PV.int IntKind.i64 (0 : Int), PV.loose (PA.mk (0) (7) al (0)) nl,
 PV.int IntKind.i64 (↑nl : Int), PV.int IntKind.i64 (0 : Int)]) ([[(0, false,
 Blk.cols ml
 [Col.int IntKind.i64 tl, Col.int IntKind.i64 vl, Col.int IntKind.i64 gl,
 Col.int IntKind.i64 wl, Col.int IntKind.i64 xl, Col.int IntKind.i64 yl,
 Col.int IntKind.i64 zl]),
 (2, true,
 Blk.cells
 [PV.int IntKind.i64 (0 : Int), PV.int IntKind.i64 (0 : Int), PV.tf false]),
 (1, true,
 Blk.cells
 [PV.int IntKind.i64 kd, PV.int IntKind.i64 pc, PV.int IntKind.i64 pn,
 PV.int IntKind.i64 of, PV.int IntKind.i64 rs, PV.int IntKind.i64 rg,
 PV.int IntKind.i64 re])]]) (6)))
 (False)))
 (test (false)
 (Kret (PV.tup
 [PV.agg [PV.int IntKind.i64 (0 : Int), PV.int IntKind.i64 (0 : Int), PV.tf false],
 PV.int IntKind.i64 (0 : Int)]) ([[(0, false,
 Blk.cols ml
 [Col.int IntKind.i64 tl, Col.int IntKind.i64 vl, Col.int IntKind.i64 gl,
 Col.int IntKind.i64 wl, Col.int IntKind.i64 xl, Col.int IntKind.i64 yl,
 Col.int IntKind.i64 zl])]]) (5))
 (test (decide (al + nl ≤ ml ∧ nl ≤ 1000000))
 (test ((S.parE nl (fun j => tl (j + al)) (fun j => vl (j + al)) (fun j => gl (j + al))
 (fun j => wl (j + al)) (fun j => xl (j + al)) (fun j => yl (j + al)) fun j =>
 zl (j + al)) !=
 (0 : Int))
 (Kret (PV.tup
 [PV.agg [PV.int IntKind.i64 (0 : Int), PV.int IntKind.i64 (0 : Int), PV.tf false],
 PV.int IntKind.i64
 (S.parE nl (fun j => tl (j + al)) (fun j => vl (j + al)) (fun j => gl (j + al))
 (fun j => wl (j + al)) (fun j => xl (j + al)) (fun j => yl (j + al)) fun j =>
 zl (j + al))]) ([[(0, false,
 Blk.cols ml
 [Col.int IntKind.i64 tl, Col.int IntKind.i64 vl, Col.int IntKind.i64 gl,
 Col.int IntKind.i64 wl, Col.int IntKind.i64 xl, Col.int IntKind.i64 yl,
 Col.int IntKind.i64 zl])]]) (6))
 (Kst (hd Try.f17 0) ([PV.loose (PA.mk (0) (7) al (0)) nl,
 PV.ptr (PA.mk (1) (0) (0) (0)),
 PV.ptr (PA.mk (2) (0) (0) (0)), PV.int IntKind.i64 (0 : Int),
 PV.int IntKind.i64 (0 : Int), PV.loose (PA.mk (0) (7) al (0)) nl,
 PV.int IntKind.i64 (↑nl : Int), PV.int IntKind.i64 (0 : Int)]) ([[(0, false,
 Blk.cols ml
 [Col.int IntKind.i64 tl, Col.int IntKind.i64 vl, Col.int IntKind.i64 gl,
 Col.int IntKind.i64 wl, Col.int IntKind.i64 xl, Col.int IntKind.i64 yl,
 Col.int IntKind.i64 zl]),
 (2, true,
 Blk.cells
 [PV.int IntKind.i64 (0 : Int), PV.int IntKind.i64 (0 : Int), PV.tf false]),
 (1, true,
 Blk.cells
 [PV.int IntKind.i64 kd, PV.int IntKind.i64 pc, PV.int IntKind.i64 pn,
 PV.int IntKind.i64 of, PV.int IntKind.i64 rs, PV.int IntKind.i64 rg,
 PV.int IntKind.i64 re])]]) (6)))
 (False)))))
 (False)
theorem te17 (test : Bool → Prop → Prop → Prop) (Kst : KS) (Kret : KR) (kd pc pn of rs rg re : Int) (al nl ml : Nat) (tl vl gl wl xl yl zl : Nat → Int) : run test Try.env true (xC test) true 400 ⟨17, [.cd (mkFn Try.f17).body], argT 0 [.agg [.int .i64 kd, .int .i64 pc, .int .i64 pn, .int .i64 of, .int .i64 rs, .int .i64 rg, .int .i64 re], .loose ⟨0, 7, al, 0⟩ nl], [[], [(0, (false, .cols ml [.int .i64 tl, .int .i64 vl, .int .i64 gl, .int .i64 wl, .int .i64 xl, .int .i64 yl, .int .i64 zl]))]], 1⟩ (proj 1 [1, 2, 4, 8, 9, 26, 27, 28] Kst Kret) =
  Te17 test Kst Kret kd pc pn of rs rg re al nl ml tl vl gl wl xl yl zl := by kernel_rfl
noncomputable def T17_0 (test : Bool → Prop → Prop → Prop) (Kst : KS) (Kret : KR) (kd pc pn of rs rg re : Int) (al nl ml : Nat) (tl vl gl wl xl yl zl : Nat → Int) (x0 x1 x2 : Int) : Prop :=
  test (decide (x2 < (↑nl : Int)))
 (test (decide ((0 : Int) ≤ x2 ∧ x2 < (↑nl : Int)))
 (test (decide (Int.toNat x2 + al < ml))
 (test (decide (Int.toNat x2 + al < ml))
 (test (decide (Int.toNat x2 + al < ml))
 (test (decide (Int.toNat x2 + al < ml))
 (test (decide (Int.toNat x2 + al < ml))
 (test (decide (Int.toNat x2 + al < ml))
 (test (decide (Int.toNat x2 + al < ml))
 (test (decide (yl (Int.toNat x2 + al) ≥ (0 : Int)))
 (test (lim IntKind.i64 (x2 + (1 : Int)))
 (Kst (hd Try.f17 0) ([PV.loose (PA.mk (0) (7) al (0)) nl,
 PV.ptr (PA.mk (1) (0) (0) (0)),
 PV.ptr (PA.mk (2) (0) (0) (0)), PV.int IntKind.i64 x0,
 PV.int IntKind.i64 x1, PV.loose (PA.mk (0) (7) al (0)) nl,
 PV.int IntKind.i64 (↑nl : Int), PV.int IntKind.i64 (x2 + (1 : Int))]) ([[(0, false,
 Blk.cols ml
 [Col.int IntKind.i64 tl, Col.int IntKind.i64 vl, Col.int IntKind.i64 gl,
 Col.int IntKind.i64 wl, Col.int IntKind.i64 xl, Col.int IntKind.i64 yl,
 Col.int IntKind.i64 zl]),
 (2, true,
 Blk.cells
 [PV.int IntKind.i64 (0 : Int), PV.int IntKind.i64 (0 : Int), PV.tf false]),
 (1, true,
 Blk.cells
 [PV.int IntKind.i64 kd, PV.int IntKind.i64 pc, PV.int IntKind.i64 pn,
 PV.int IntKind.i64 of, PV.int IntKind.i64 rs, PV.int IntKind.i64 rg,
 PV.int IntKind.i64 re])]]) (4))
 (False))
 (test (lim IntKind.i64 (x1 + (1 : Int)))
 (test (pn == (1 : Int))
 (test (lim IntKind.i64 (x0 + tl (Int.toNat x2 + al)))
 (test (lim IntKind.i64 (x2 + (1 : Int)))
 (Kst (hd Try.f17 0) ([PV.loose (PA.mk (0) (7) al (0)) nl,
 PV.ptr (PA.mk (1) (0) (0) (0)),
 PV.ptr (PA.mk (2) (0) (0) (0)),
 PV.int IntKind.i64 (x0 + tl (Int.toNat x2 + al)), PV.int IntKind.i64 (x1 + (1 : Int)),
 PV.loose (PA.mk (0) (7) al (0)) nl, PV.int IntKind.i64 (↑nl : Int),
 PV.int IntKind.i64 (x2 + (1 : Int))]) ([[(0, false,
 Blk.cols ml
 [Col.int IntKind.i64 tl, Col.int IntKind.i64 vl, Col.int IntKind.i64 gl,
 Col.int IntKind.i64 wl, Col.int IntKind.i64 xl, Col.int IntKind.i64 yl,
 Col.int IntKind.i64 zl]),
 (2, true,
 Blk.cells
 [PV.int IntKind.i64 (0 : Int), PV.int IntKind.i64 (0 : Int), PV.tf false]),
 (1, true,
 Blk.cells
 [PV.int IntKind.i64 kd, PV.int IntKind.i64 pc, PV.int IntKind.i64 pn,
 PV.int IntKind.i64 of, PV.int IntKind.i64 rs, PV.int IntKind.i64 rg,
 PV.int IntKind.i64 re])]]) (4))
 (False))
 (False))
 (test (lim IntKind.i64 (x0 + gl (Int.toNat x2 + al)))
 (test (lim IntKind.i64 (x2 + (1 : Int)))
 (Kst (hd Try.f17 0) ([PV.loose (PA.mk (0) (7) al (0)) nl,
 PV.ptr (PA.mk (1) (0) (0) (0)),
 PV.ptr (PA.mk (2) (0) (0) (0)),
 PV.int IntKind.i64 (x0 + gl (Int.toNat x2 + al)), PV.int IntKind.i64 (x1 + (1 : Int)),
 PV.loose (PA.mk (0) (7) al (0)) nl, PV.int IntKind.i64 (↑nl : Int),
 PV.int IntKind.i64 (x2 + (1 : Int))]) ([[(0, false,
 Blk.cols ml
 [Col.int IntKind.i64 tl, Col.int IntKind.i64 vl, Col.int IntKind.i64 gl,
 Col.int IntKind.i64 wl, Col.int IntKind.i64 xl, Col.int IntKind.i64 yl,
 Col.int IntKind.i64 zl]),
 (2, true,
 Blk.cells
 [PV.int IntKind.i64 (0 : Int), PV.int IntKind.i64 (0 : Int), PV.tf false]),
 (1, true,
 Blk.cells
 [PV.int IntKind.i64 kd, PV.int IntKind.i64 pc, PV.int IntKind.i64 pn,
 PV.int IntKind.i64 of, PV.int IntKind.i64 rs, PV.int IntKind.i64 rg,
 PV.int IntKind.i64 re])]]) (4))
 (False))
 (False)))
 (False)))
 (False))
 (False))
 (False))
 (False))
 (False))
 (False))
 (False))
 (False))
 (test (decide (al + nl ≤ ml ∧ nl ≤ 1000000))
 (test (x1 == (0 : Int))
 (Kret (PV.tup
 [PV.agg
 [PV.int IntKind.i64 (S.max0 (fun j => zl (j + al)) nl),
 PV.int IntKind.i64 (0 : Int), PV.tf false],
 PV.int IntKind.i64 (0 : Int)]) ([[(0, false,
 Blk.cols ml
 [Col.int IntKind.i64 tl, Col.int IntKind.i64 vl, Col.int IntKind.i64 gl,
 Col.int IntKind.i64 wl, Col.int IntKind.i64 xl, Col.int IntKind.i64 yl,
 Col.int IntKind.i64 zl])]]) (5))
 (test (lim IntKind.i64 (x1 * of))
 (test (lim IntKind.i64 (x0 + x1 * of))
 (test (lim IntKind.i64 ((2 : Int) * (x0 + x1 * of)))
 (test (lim IntKind.i64 (x1 * rs))
 (test (lim IntKind.i64 ((2 : Int) * (x0 + x1 * of) + x1 * rs))
 (test (lim IntKind.i64 ((2 : Int) * x1))
 (test (lim IntKind.i64 ((2 : Int) * x1 * rs))
 (test (decide
 (((-4611686018427387904 : Int) ≤ (2 : Int) * (x0 + x1 * of) + x1 * rs ∧
 (2 : Int) * (x0 + x1 * of) + x1 * rs ≤ (4611686018427387904 : Int)) ∧
 (0 : Int) < (2 : Int) * x1 * rs ∧ (2 : Int) * x1 * rs ≤ (4611686018427387904 : Int)))
 (test (lim IntKind.i64 (rs * S.fdv ((2 : Int) * (x0 + x1 * of) + x1 * rs) ((2 : Int) * x1 * rs)))
 (test (lim IntKind.i64 (-rg))
 (test (decide (rs * S.fdv ((2 : Int) * (x0 + x1 * of) + x1 * rs) ((2 : Int) * x1 * rs) ≥ -rg))
 (test (decide (rs * S.fdv ((2 : Int) * (x0 + x1 * of) + x1 * rs) ((2 : Int) * x1 * rs) ≤ rg))
 (Kret (PV.tup
 [PV.agg
 [PV.int IntKind.i64 (S.max0 (fun j => zl (j + al)) nl),
 PV.int IntKind.i64 (rs * S.fdv ((2 : Int) * (x0 + x1 * of) + x1 * rs) ((2 : Int) * x1 * rs)),
 PV.tf true],
 PV.int IntKind.i64 (0 : Int)]) ([[(0, false,
 Blk.cols ml
 [Col.int IntKind.i64 tl, Col.int IntKind.i64 vl, Col.int IntKind.i64 gl,
 Col.int IntKind.i64 wl, Col.int IntKind.i64 xl, Col.int IntKind.i64 yl,
 Col.int IntKind.i64 zl])]]) (6))
 (Kret (PV.tup
 [PV.agg
 [PV.int IntKind.i64 (S.max0 (fun j => zl (j + al)) nl),
 PV.int IntKind.i64 (0 : Int), PV.tf false],
 PV.int IntKind.i64 (0 : Int)]) ([[(0, false,
 Blk.cols ml
 [Col.int IntKind.i64 tl, Col.int IntKind.i64 vl, Col.int IntKind.i64 gl,
 Col.int IntKind.i64 wl, Col.int IntKind.i64 xl, Col.int IntKind.i64 yl,
 Col.int IntKind.i64 zl])]]) (6)))
 (Kret (PV.tup
 [PV.agg
 [PV.int IntKind.i64 (S.max0 (fun j => zl (j + al)) nl),
 PV.int IntKind.i64 (0 : Int), PV.tf false],
 PV.int IntKind.i64 (0 : Int)]) ([[(0, false,
 Blk.cols ml
 [Col.int IntKind.i64 tl, Col.int IntKind.i64 vl, Col.int IntKind.i64 gl,
 Col.int IntKind.i64 wl, Col.int IntKind.i64 xl, Col.int IntKind.i64 yl,
 Col.int IntKind.i64 zl])]]) (6)))
 (False))
 (False))
 (False))
 (False))
 (False))
 (False))
 (False))
 (False))
 (False))
 (False)))
 (False))
theorem t17_0 (test : Bool → Prop → Prop → Prop) (Kst : KS) (Kret : KR) (kd pc pn of rs rg re : Int) (al nl ml : Nat) (tl vl gl wl xl yl zl : Nat → Int) (x0 x1 x2 : Int) : run test Try.env true (xC test) true 400 ⟨17, hd Try.f17 0, zipT [1, 2, 4, 8, 9, 26, 27, 28] [PV.loose (PA.mk (0) (7) al (0)) nl,
 PV.ptr (PA.mk (1) (0) (0) (0)),
 PV.ptr (PA.mk (2) (0) (0) (0)), PV.int IntKind.i64 x0,
 PV.int IntKind.i64 x1, PV.loose (PA.mk (0) (7) al (0)) nl,
 PV.int IntKind.i64 (↑nl : Int), PV.int IntKind.i64 x2], [[(1, (true, Blk.cells
 [PV.int IntKind.i64 kd, PV.int IntKind.i64 pc, PV.int IntKind.i64 pn,
 PV.int IntKind.i64 of, PV.int IntKind.i64 rs, PV.int IntKind.i64 rg,
 PV.int IntKind.i64 re])), (2, (true, Blk.cells [PV.int IntKind.i64 (0 : Int), PV.int IntKind.i64 (0 : Int), PV.tf false]))], [(0, (false, .cols ml [.int .i64 tl, .int .i64 vl, .int .i64 gl, .int .i64 wl, .int .i64 xl, .int .i64 yl, .int .i64 zl]))]], 3⟩ (proj 1 [1, 2, 4, 8, 9, 26, 27, 28] Kst Kret) =
  T17_0 test Kst Kret kd pc pn of rs rg re al nl ml tl vl gl wl xl yl zl x0 x1 x2 := by kernel_rfl
theorem be17 (kd pc pn of rs rg re : Int) (al nl ml : Nat) (tl vl gl wl xl yl zl : Nat → Int) (Kst : KS) (Kret : KR) (x : St17 ⊕ Rt17) (hS : HS 1 400 ((I17 kd pc pn of rs rg re al nl ml tl vl gl wl xl yl zl)) Kst x) (hR : HR 1 400 ((V17 kd pc pn of rs rg re al nl ml tl vl gl wl xl yl zl)) (fun r => [newL (1 + 1) ((N17 kd pc pn of rs rg re al nl ml tl vl gl wl xl yl zl) r) ++ [(0, (false, .cols ml [.int .i64 tl, .int .i64 vl, .int .i64 gl, .int .i64 wl, .int .i64 xl, .int .i64 yl, .int .i64 zl]))]]) Kret x) (h : (bif (S.insE kd pc pn of rs rg re != (0 : Int))
 then (some (.inr ((0 : Int), (0 : Int), false, S.insE kd pc pn of rs rg re)))
 else (bif (kd != (1 : Int))
 then (some (.inr ((0 : Int), (0 : Int), false, (8 : Int))))
 else (bif (decide (al + nl ≤ ml ∧ nl ≤ 1000000))
 then (bif ((S.parE nl (fun j => tl (j + al)) (fun j => vl (j + al)) (fun j => gl (j + al))
 (fun j => wl (j + al)) (fun j => xl (j + al)) (fun j => yl (j + al)) fun j =>
 zl (j + al)) !=
 (0 : Int))
 then (some (.inr ((0 : Int), (0 : Int), false, S.parE nl (fun j => tl (j + al)) (fun j => vl (j + al)) (fun j => gl (j + al))
 (fun j => wl (j + al)) (fun j => xl (j + al)) (fun j => yl (j + al)) fun j =>
 zl (j + al))))
 else (some (.inl (.h0 ((0 : Int)) ((0 : Int)) ((0 : Int))))))
 else (none))) : Option (St17 ⊕ Rt17)) = some x) : Te17 cond Kst Kret kd pc pn of rs rg re al nl ml tl vl gl wl xl yl zl := by
  unfold Te17
  exact cond_yes rfl (bif_split h
   (fun c0 h => cond_yes c0 (ret_at hR _ h (fun n => n) rfl rfl rfl (rn_tup ⟨(rn_agg ⟨(rn_int rfl), (rn_int rfl), (rn_bool_tf rfl), trivial⟩), (rn_int rfl), trivial⟩) rfl (entl_bor (use_lo rfl) rfl rfl entl_nil)))
   (fun c0 h => bif_split h
   (fun c1 h => cond_yes rfl (ret_at hR _ h (fun n => n) rfl rfl rfl (rn_tup ⟨(rn_agg ⟨(rn_int rfl), (rn_int rfl), (rn_bool_tf rfl), trivial⟩), (rn_int rfl), trivial⟩) rfl (entl_bor (use_lo rfl) rfl rfl entl_nil)))
   (fun c1 h => cond_no rfl (bif_split h
   (fun c2 h => bif_split h
   (fun c3 h => ret_at hR _ h (fun n => n) rfl rfl rfl (rn_tup ⟨(rn_agg ⟨(rn_int rfl), (rn_int rfl), (rn_bool_tf rfl), trivial⟩), (rn_int rfl), trivial⟩) rfl (entl_bor (use_lo rfl) rfl rfl entl_nil))
   (fun c3 h => stop_at hS _ h (fun n => bif Nat.beq n 1 then 1 else bif Nat.beq n 2 then 2 else n) rfl rfl rfl ⟨(rn_loose (use_lo rfl) rfl rfl rfl), ⟨(rn_ptr (use_own rfl) rfl rfl), ⟨(rn_ptr (use_own rfl) rfl rfl), ⟨(rn_int rfl), ⟨(rn_int rfl), ⟨(rn_loose (use_lo rfl) rfl rfl rfl), ⟨(rn_int rfl), ⟨(rn_int rfl), trivial⟩⟩⟩⟩⟩⟩⟩⟩ rfl (entl_b (use_own rfl) rfl (by simp) (rb_cells ⟨(rn_int rfl), (rn_int rfl), (rn_int rfl), (rn_int rfl), (rn_int rfl), (rn_int rfl), (rn_int rfl), trivial⟩) (entl_b (use_own rfl) rfl (by simp) (rb_cells ⟨(rn_int rfl), (rn_int rfl), (rn_tf rfl), trivial⟩) (entl_bor (use_lo rfl) rfl rfl entl_nil)))))
   (fun c2 h => no_some h)))))
theorem b17_0 (kd pc pn of rs rg re : Int) (al nl ml : Nat) (tl vl gl wl xl yl zl : Nat → Int) (Kst : KS) (Kret : KR) (x : St17 ⊕ Rt17) (hS : HS 1 400 ((I17 kd pc pn of rs rg re al nl ml tl vl gl wl xl yl zl)) Kst x) (hR : HR 1 400 ((V17 kd pc pn of rs rg re al nl ml tl vl gl wl xl yl zl)) (fun r => [newL (1 + 1) ((N17 kd pc pn of rs rg re al nl ml tl vl gl wl xl yl zl) r) ++ [(0, (false, .cols ml [.int .i64 tl, .int .i64 vl, .int .i64 gl, .int .i64 wl, .int .i64 xl, .int .i64 yl, .int .i64 zl]))]]) Kret x) (x0 x1 x2 : Int) (h : (bif (decide (x2 < (↑nl : Int)))
 then (bif (decide ((0 : Int) ≤ x2 ∧ x2 < (↑nl : Int)))
 then (bif (decide (Int.toNat x2 + al < ml))
 then (bif (decide (yl (Int.toNat x2 + al) ≥ (0 : Int)))
 then (bif (lim IntKind.i64 (x2 + (1 : Int)))
 then (some (.inl (.h0 (x0) (x1) (x2 + (1 : Int)))))
 else (none))
 else (bif (lim IntKind.i64 (x1 + (1 : Int)))
 then (bif (pn == (1 : Int))
 then (bif (lim IntKind.i64 (x0 + tl (Int.toNat x2 + al)))
 then (bif (lim IntKind.i64 (x2 + (1 : Int)))
 then (some (.inl (.h0 (x0 + tl (Int.toNat x2 + al)) (x1 + (1 : Int)) (x2 + (1 : Int)))))
 else (none))
 else (none))
 else (bif (lim IntKind.i64 (x0 + gl (Int.toNat x2 + al)))
 then (bif (lim IntKind.i64 (x2 + (1 : Int)))
 then (some (.inl (.h0 (x0 + gl (Int.toNat x2 + al)) (x1 + (1 : Int)) (x2 + (1 : Int)))))
 else (none))
 else (none)))
 else (none)))
 else (none))
 else (none))
 else (bif (decide (al + nl ≤ ml ∧ nl ≤ 1000000))
 then (bif (x1 == (0 : Int))
 then (some (.inr (S.max0 (fun j => zl (j + al)) nl, (0 : Int), false, (0 : Int))))
 else (bif (lim IntKind.i64 (x1 * of))
 then (bif (lim IntKind.i64 (x0 + x1 * of))
 then (bif (lim IntKind.i64 ((2 : Int) * (x0 + x1 * of)))
 then (bif (lim IntKind.i64 (x1 * rs))
 then (bif (lim IntKind.i64 ((2 : Int) * (x0 + x1 * of) + x1 * rs))
 then (bif (lim IntKind.i64 ((2 : Int) * x1))
 then (bif (lim IntKind.i64 ((2 : Int) * x1 * rs))
 then (bif (decide
 (((-4611686018427387904 : Int) ≤ (2 : Int) * (x0 + x1 * of) + x1 * rs ∧
 (2 : Int) * (x0 + x1 * of) + x1 * rs ≤ (4611686018427387904 : Int)) ∧
 (0 : Int) < (2 : Int) * x1 * rs ∧ (2 : Int) * x1 * rs ≤ (4611686018427387904 : Int)))
 then (bif (lim IntKind.i64 (rs * S.fdv ((2 : Int) * (x0 + x1 * of) + x1 * rs) ((2 : Int) * x1 * rs)))
 then (bif (lim IntKind.i64 (-rg))
 then (bif (decide (rs * S.fdv ((2 : Int) * (x0 + x1 * of) + x1 * rs) ((2 : Int) * x1 * rs) ≥ -rg))
 then (bif (decide (rs * S.fdv ((2 : Int) * (x0 + x1 * of) + x1 * rs) ((2 : Int) * x1 * rs) ≤ rg))
 then (some (.inr (S.max0 (fun j => zl (j + al)) nl, rs * S.fdv ((2 : Int) * (x0 + x1 * of) + x1 * rs) ((2 : Int) * x1 * rs), true, (0 : Int))))
 else (some (.inr (S.max0 (fun j => zl (j + al)) nl, (0 : Int), false, (0 : Int)))))
 else (some (.inr (S.max0 (fun j => zl (j + al)) nl, (0 : Int), false, (0 : Int)))))
 else (none))
 else (none))
 else (none))
 else (none))
 else (none))
 else (none))
 else (none))
 else (none))
 else (none))
 else (none)))
 else (none)) : Option (St17 ⊕ Rt17)) = some x) : T17_0 cond Kst Kret kd pc pn of rs rg re al nl ml tl vl gl wl xl yl zl x0 x1 x2 := by
  unfold T17_0
  refine bif_split h
   (fun c0 h => bif_split h
   (fun c1 h => bif_split h
   (fun c2 h => cond_yes c2 (cond_yes c2 (cond_yes c2 (cond_yes c2 (cond_yes c2 (cond_yes c2 (bif_split h
   (fun c3 h => bif_split h
   (fun c4 h => ?_)
   (fun c4 h => ?_))
   (fun c3 h => bif_split h
   (fun c4 h => bif_split h
   (fun c5 h => bif_split h
   (fun c6 h => bif_split h
   (fun c7 h => ?_)
   (fun c7 h => ?_))
   (fun c6 h => ?_))
   (fun c5 h => bif_split h
   (fun c6 h => bif_split h
   (fun c7 h => ?_)
   (fun c7 h => ?_))
   (fun c6 h => ?_)))
   (fun c4 h => ?_)))))))))
   (fun c2 h => ?_))
   (fun c1 h => ?_))
   (fun c0 h => bif_split h
   (fun c1 h => bif_split h
   (fun c2 h => ?_)
   (fun c2 h => bif_split h
   (fun c3 h => bif_split h
   (fun c4 h => bif_split h
   (fun c5 h => bif_split h
   (fun c6 h => bif_split h
   (fun c7 h => bif_split h
   (fun c8 h => bif_split h
   (fun c9 h => bif_split h
   (fun c10 h => bif_split h
   (fun c11 h => bif_split h
   (fun c12 h => bif_split h
   (fun c13 h => bif_split h
   (fun c14 h => ?_)
   (fun c14 h => ?_))
   (fun c13 h => ?_))
   (fun c12 h => ?_))
   (fun c11 h => ?_))
   (fun c10 h => ?_))
   (fun c9 h => ?_))
   (fun c8 h => ?_))
   (fun c7 h => ?_))
   (fun c6 h => ?_))
   (fun c5 h => ?_))
   (fun c4 h => ?_))
   (fun c3 h => ?_)))
   (fun c1 h => ?_))
  all_goals first
    | exact no_some h
    | exact ret_at hR _ h (fun n => n) rfl rfl rfl (rn_tup ⟨(rn_agg ⟨(rn_int rfl), (rn_int rfl), (rn_bool_tf rfl), trivial⟩), (rn_int rfl), trivial⟩) rfl (entl_bor (use_lo rfl) rfl rfl entl_nil)
    | exact stop_at hS _ h (fun n => bif Nat.beq n 1 then 1 else bif Nat.beq n 2 then 2 else n) rfl rfl rfl ⟨(rn_loose (use_lo rfl) rfl rfl rfl), ⟨(rn_ptr (use_own rfl) rfl rfl), ⟨(rn_ptr (use_own rfl) rfl rfl), ⟨(rn_int rfl), ⟨(rn_int rfl), ⟨(rn_loose (use_lo rfl) rfl rfl rfl), ⟨(rn_int rfl), ⟨(rn_int rfl), trivial⟩⟩⟩⟩⟩⟩⟩⟩ rfl (entl_b (use_own rfl) rfl (by simp) (rb_cells ⟨(rn_int rfl), (rn_int rfl), (rn_int rfl), (rn_int rfl), (rn_int rfl), (rn_int rfl), (rn_int rfl), trivial⟩) (entl_b (use_own rfl) rfl (by simp) (rb_cells ⟨(rn_int rfl), (rn_int rfl), (rn_tf rfl), trivial⟩) (entl_bor (use_lo rfl) rfl rfl entl_nil)))
theorem a17 (kd pc pn of rs rg re : Int) (al nl ml : Nat) (tl vl gl wl xl yl zl : Nat → Int) {r : Rt17} (h : Goes ((q17 kd pc pn of rs rg re al nl ml tl vl gl wl xl yl zl)) ((p17 kd pc pn of rs rg re al nl ml tl vl gl wl xl yl zl)) r) : CallR Try.prog 17 [.agg [.int .i64 kd, .int .i64 pc, .int .i64 pn, .int .i64 of, .int .i64 rs, .int .i64 rg, .int .i64 re], .loose ⟨0, 7, al, 0⟩ nl] [[(0, (false, .cols ml [.int .i64 tl, .int .i64 vl, .int .i64 gl, .int .i64 wl, .int .i64 xl, .int .i64 yl, .int .i64 zl]))]] 1 ((V17 kd pc pn of rs rg re al nl ml tl vl gl wl xl yl zl) r) ((fun r => [newL (1 + 1) ((N17 kd pc pn of rs rg re al nl ml tl vl gl wl xl yl zl) r) ++ [(0, (false, .cols ml [.int .i64 tl, .int .i64 vl, .int .i64 gl, .int .i64 wl, .int .i64 xl, .int .i64 yl, .int .i64 zl]))]]) r) 400 ∧ ∃ F, Try.prog.funcs[17]? = some F ∧ F.body.isSome = true ∧ (F.name == "runtime.NumGoroutine") = false := by
  refine dec_calls (f := 17) (lo := 1) (hi := 400) (H := [[(0, (false, .cols ml [.int .i64 tl, .int .i64 vl, .int .i64 gl, .int .i64 wl, .int .i64 xl, .int .i64 yl, .int .i64 zl]))]]) (args := [.agg [.int .i64 kd, .int .i64 pc, .int .i64 pn, .int .i64 of, .int .i64 rs, .int .i64 rg, .int .i64 re], .loose ⟨0, 7, al, 0⟩ nl]) Try.envOk Try.mixed xC_ok ((I17 kd pc pn of rs rg re al nl ml tl vl gl wl xl yl zl)) ((V17 kd pc pn of rs rg re al nl ml tl vl gl wl xl yl zl)) (fun r => [newL (1 + 1) ((N17 kd pc pn of rs rg re al nl ml tl vl gl wl xl yl zl) r) ++ [(0, (false, .cols ml [.int .i64 tl, .int .i64 vl, .int .i64 gl, .int .i64 wl, .int .i64 xl, .int .i64 yl, .int .i64 zl]))]]) (fn := mkFn Try.f17) (ts := [1, 2, 4, 8, 9, 26, 27, 28]) (n := 400) rfl (by decide) (by simp) (names_of rfl) ?_ ?_ ?_ h
  · intro s; cases s <;> exact ⟨hd_ok _ _, by simp [I17], names_of rfl, Nat.le_of_ble_eq_true rfl⟩
  · intro Kst Kret x hS hR h
    exact Holds.eq (te17 cond Kst Kret kd pc pn of rs rg re al nl ml tl vl gl wl xl yl zl) (be17 kd pc pn of rs rg re al nl ml tl vl gl wl xl yl zl Kst Kret x hS hR h)
  · intro Kst Kret x hS hR s h
    cases s with
    | h0 x0 x1 x2 => exact Holds.eq (t17_0 cond Kst Kret kd pc pn of rs rg re al nl ml tl vl gl wl xl yl zl x0 x1 x2) (b17_0 kd pc pn of rs rg re al nl ml tl vl gl wl xl yl zl Kst Kret x hS hR x0 x1 x2 h)
noncomputable def k17  : Con := ⟨17, [.agg [.plain (.int .i64), .plain (.int .i64), .plain (.int .i64), .plain (.int .i64), .plain (.int .i64), .plain (.int .i64), .plain (.int .i64)], .one (.list [.int .i64, .int .i64, .int .i64, .int .i64, .int .i64, .int .i64, .int .i64])], fun (x : (Int × Int × Int × Int × Int × Int × Int × Unit) × (Nat × Nat × Nat × (Nat → Int) × (Nat → Int) × (Nat → Int) × (Nat → Int) × (Nat → Int) × (Nat → Int) × (Nat → Int) × Unit) × Unit) => (fun (kd : Int) (pc : Int) (pn : Int) (of : Int) (rs : Int) (rg : Int) (re : Int) (al nl ml : Nat) (tl : Nat → Int) (vl : Nat → Int) (gl : Nat → Int) (wl : Nat → Int) (xl : Nat → Int) (yl : Nat → Int) (zl : Nat → Int) => decide (al + nl ≤ ml ∧ nl ≤ 1000000)) x.1.1 x.1.2.1 x.1.2.2.1 x.1.2.2.2.1 x.1.2.2.2.2.1 x.1.2.2.2.2.2.1 x.1.2.2.2.2.2.2.1 x.2.1.1 x.2.1.2.1 x.2.1.2.2.1 x.2.1.2.2.2.1 x.2.1.2.2.2.2.1 x.2.1.2.2.2.2.2.1 x.2.1.2.2.2.2.2.2.1 x.2.1.2.2.2.2.2.2.2.1 x.2.1.2.2.2.2.2.2.2.2.1 x.2.1.2.2.2.2.2.2.2.2.2.1, fun (x : (Int × Int × Int × Int × Int × Int × Int × Unit) × (Nat × Nat × Nat × (Nat → Int) × (Nat → Int) × (Nat → Int) × (Nat → Int) × (Nat → Int) × (Nat → Int) × (Nat → Int) × Unit) × Unit) => (fun (kd : Int) (pc : Int) (pn : Int) (of : Int) (rs : Int) (rg : Int) (re : Int) (al nl ml : Nat) (tl : Nat → Int) (vl : Nat → Int) (gl : Nat → Int) (wl : Nat → Int) (xl : Nat → Int) (yl : Nat → Int) (zl : Nat → Int) => (V17 kd pc pn of rs rg re al nl ml tl vl gl wl xl yl zl) (S.posS kd pc pn of rs rg re nl (fun j => tl (j + al)) (fun j => vl (j + al)) (fun j => gl (j + al)) (fun j => wl (j + al)) (fun j => xl (j + al)) (fun j => yl (j + al)) (fun j => zl (j + al)))) x.1.1 x.1.2.1 x.1.2.2.1 x.1.2.2.2.1 x.1.2.2.2.2.1 x.1.2.2.2.2.2.1 x.1.2.2.2.2.2.2.1 x.2.1.1 x.2.1.2.1 x.2.1.2.2.1 x.2.1.2.2.2.1 x.2.1.2.2.2.2.1 x.2.1.2.2.2.2.2.1 x.2.1.2.2.2.2.2.2.1 x.2.1.2.2.2.2.2.2.2.1 x.2.1.2.2.2.2.2.2.2.2.1 x.2.1.2.2.2.2.2.2.2.2.2.1, fun (x : (Int × Int × Int × Int × Int × Int × Int × Unit) × (Nat × Nat × Nat × (Nat → Int) × (Nat → Int) × (Nat → Int) × (Nat → Int) × (Nat → Int) × (Nat → Int) × (Nat → Int) × Unit) × Unit) => (fun (kd : Int) (pc : Int) (pn : Int) (of : Int) (rs : Int) (rg : Int) (re : Int) (al nl ml : Nat) (tl : Nat → Int) (vl : Nat → Int) (gl : Nat → Int) (wl : Nat → Int) (xl : Nat → Int) (yl : Nat → Int) (zl : Nat → Int) => (N17 kd pc pn of rs rg re al nl ml tl vl gl wl xl yl zl) (S.posS kd pc pn of rs rg re nl (fun j => tl (j + al)) (fun j => vl (j + al)) (fun j => gl (j + al)) (fun j => wl (j + al)) (fun j => xl (j + al)) (fun j => yl (j + al)) (fun j => zl (j + al)))) x.1.1 x.1.2.1 x.1.2.2.1 x.1.2.2.2.1 x.1.2.2.2.2.1 x.1.2.2.2.2.2.1 x.1.2.2.2.2.2.2.1 x.2.1.1 x.2.1.2.1 x.2.1.2.2.1 x.2.1.2.2.2.1 x.2.1.2.2.2.2.1 x.2.1.2.2.2.2.2.1 x.2.1.2.2.2.2.2.2.1 x.2.1.2.2.2.2.2.2.2.1 x.2.1.2.2.2.2.2.2.2.2.1 x.2.1.2.2.2.2.2.2.2.2.2.1, fun _ _ => .dead⟩
theorem s17' (kd pc pn of rs rg re : Int) (al nl ml : Nat) (tl vl gl wl xl yl zl : Nat → Int) (hp : al + nl ≤ ml ∧ nl ≤ 1000000) (hn : S.parE nl (fun j => tl (j + al)) (fun j => vl (j + al)) (fun j => gl (j + al)) (fun j => wl (j + al)) (fun j => xl (j + al)) (fun j => yl (j + al)) (fun j => zl (j + al)) = 0) (hi : S.kinE kd pc pn of rs rg re 1 = 0) : ∀ (k i : Nat), i + k = nl → Comes (q17 kd pc pn of rs rg re al nl ml tl vl gl wl xl yl zl) (.h0 (S.sumN (S.posT pn (fun j => tl (j + al)) (fun j => gl (j + al)) fun j => yl (j + al)) i) (S.cntN (S.liv fun j => yl (j + al)) i) (i : Int)) (S.posR of rs rg (S.max0 (fun j => zl (j + al)) nl) (S.cntN (S.liv fun j => yl (j + al)) nl) (S.sumN (S.posT pn (fun j => tl (j + al)) (fun j => gl (j + al)) fun j => yl (j + al)) nl)) := by
  obtain ⟨hp1, hp2⟩ := hp
  obtain ⟨i1, i2, i3, i4, i5, i6, i7, i8, i9⟩ := ins_ok hi
  obtain ⟨hn1, hn2⟩ := par_ok hn
  intro k
  induction k with
  | zero =>
    intro i hi
    obtain rfl : nl = i := by omega
    have hb := cnt_bnd (p := (S.liv fun j => yl (j + al))) (n := nl)
    have hs := pos_bnd (pn := pn) hn2
    generalize S.cntN (S.liv fun j => yl (j + al)) nl = v at *
    generalize S.sumN (S.posT pn (fun j => tl (j + al)) (fun j => gl (j + al)) fun j => yl (j + al)) nl = u at *
    unfold S.posR
    by_cases h0 : v = 0
    · rw [if_pos h0]
      apply Comes.of
      show Goes _ _ _
      (first | rw [q17] | unfold q17)
      repeat' first
        | with_reducible refine goes_if (fun h => ?_) (fun h => ?_) <;> (try simp only [SH] at h)
        | exact goes_none.mpr (by omega)
      all_goals first | (exfalso; omega) | exact goes_inr.mpr rfl
    · rw [if_neg h0]
      obtain ⟨b1, b2, b3, b4⟩ := pv_b (n := v) (by omega) hs i7 i5
      have hcm := Int.mul_comm (S.fdv (2 * (u + v * of) + v * rs) (2 * v * rs)) rs
      unfold S.posV at *
      unfold S.good
      apply Comes.of
      show Goes _ _ _
      rw [q17]
      rw [b3] at *
      try rw [hcm]
      generalize rs * S.fdv _ _ = D at *
      generalize v * rs = D2 at *
      generalize v * of = D3 at *
      repeat' first
        | with_reducible refine goes_if (fun h => ?_) (fun h => ?_) <;> (try simp only [SH] at h)
        | exact goes_none.mpr (by omega)
      all_goals first | (exfalso; omega) | (rw [if_pos (by omega)]; exact goes_inr.mpr rfl) | (rw [if_neg (by omega)]; exact goes_inr.mpr rfl)
  | succ k ih =>
    intro i hi
    have ih := ih (i + 1) (by omega)
    have hb := cnt_bnd (p := (S.liv fun j => yl (j + al))) (n := i)
    have hs := pos_bnd (pn := pn) (n := i) fun j hj => hn2 j (by omega)
    have hj := hn2 i (by omega)
    (try dsimp only at hj)
    have e2 : S.cntN (S.liv fun j => yl (j + al)) (i + 1) = if yl (i + al) < 0 then S.cntN (S.liv fun j => yl (j + al)) i + 1 else S.cntN (S.liv fun j => yl (j + al)) i := by
      simp only [S.cntN, S.liv, decide_eq_true_eq]
    have e : S.sumN (S.posT pn (fun j => tl (j + al)) (fun j => gl (j + al)) fun j => yl (j + al)) (i + 1) = S.sumN (S.posT pn (fun j => tl (j + al)) (fun j => gl (j + al)) fun j => yl (j + al)) i + (if yl (i + al) < 0 then (if pn = 1 then tl (i + al) else gl (i + al)) else 0) := rfl
    rw [e2, e] at ih
    generalize S.cntN (S.liv fun j => yl (j + al)) i = v at *
    generalize S.sumN (S.posT pn (fun j => tl (j + al)) (fun j => gl (j + al)) fun j => yl (j + al)) i = u at *
    generalize S.posR _ _ _ _ _ _ = R at *
    by_cases hy : yl (i + al) < 0
    · by_cases hx : pn = 1
      · simp only [if_pos hy, if_pos hx] at ih
        apply Comes.of
        show Goes _ _ _
        (first | rw [q17] | unfold q17)
        repeat' first
          | with_reducible refine goes_if (fun h => ?_) (fun h => ?_) <;> (try simp only [SH] at h)
          | exact goes_none.mpr (by omega)
        all_goals first | (exfalso; omega) | exact ih
      · simp only [if_pos hy, if_neg hx] at ih
        apply Comes.of
        show Goes _ _ _
        (first | rw [q17] | unfold q17)
        repeat' first
          | with_reducible refine goes_if (fun h => ?_) (fun h => ?_) <;> (try simp only [SH] at h)
          | exact goes_none.mpr (by omega)
        all_goals first | (exfalso; omega) | exact ih
    · simp only [if_neg hy, Int.add_zero] at ih
      apply Comes.of
      show Goes _ _ _
      (first | rw [q17] | unfold q17)
      repeat' first
        | with_reducible refine goes_if (fun h => ?_) (fun h => ?_) <;> (try simp only [SH] at h)
        | exact goes_none.mpr (by omega)
      all_goals first | (exfalso; omega) | exact ih
theorem s17 (kd pc pn of rs rg re : Int) (al nl ml : Nat) (tl vl gl wl xl yl zl : Nat → Int) (hp : al + nl ≤ ml ∧ nl ≤ 1000000) : Goes ((q17 kd pc pn of rs rg re al nl ml tl vl gl wl xl yl zl)) ((p17 kd pc pn of rs rg re al nl ml tl vl gl wl xl yl zl)) (S.posS kd pc pn of rs rg re nl (fun j => tl (j + al)) (fun j => vl (j + al)) (fun j => gl (j + al)) (fun j => wl (j + al)) (fun j => xl (j + al)) (fun j => yl (j + al)) (fun j => zl (j + al))) := by
  unfold S.posS
  by_cases hi : S.kinE kd pc pn of rs rg re 1 = 0
  · rw [if_pos hi]
    have hi' := ins_ok hi
    by_cases hn : S.parE nl (fun j => tl (j + al)) (fun j => vl (j + al)) (fun j => gl (j + al)) (fun j => wl (j + al)) (fun j => xl (j + al)) (fun j => yl (j + al)) (fun j => zl (j + al)) = 0
    · rw [if_pos hn]
      have hm := s17' kd pc pn of rs rg re al nl ml tl vl gl wl xl yl zl hp hn hi nl 0 (by omega)
      show Goes _ _ _
      unfold p17
      repeat' first
        | with_reducible refine goes_if (fun h => ?_) (fun h => ?_) <;> (try simp only [SH] at h)
        | exact goes_none.mpr (by omega)
      all_goals first | (exfalso; omega) | exact hm
    · rw [if_neg hn]
      show Goes _ _ _
      unfold p17
      repeat' first
        | with_reducible refine goes_if (fun h => ?_) (fun h => ?_) <;> (try simp only [SH] at h)
        | exact goes_none.mpr (by omega)
      all_goals first | (exfalso; omega) | exact goes_inr.mpr rfl
  · rw [if_neg hi]
    unfold S.kinE at *
    show Goes _ _ _
    unfold p17
    repeat' first
      | with_reducible refine goes_if (fun h => ?_) (fun h => ?_) <;> (try simp only [SH] at h)
      | exact goes_none.mpr (by omega)
    all_goals first
      | (exfalso; omega)
      | (rw [if_neg (by omega)]; exact goes_inr.mpr rfl)
      | (rw [if_pos (by omega), if_neg (by omega)]; exact goes_inr.mpr rfl)
      | (exfalso; apply hi; rw [if_pos (by omega), if_pos (by omega)])
theorem k17_ok  : k17.ok Try.prog := by
  intro x hx
  obtain ⟨⟨kd, pc, pn, of, rs, rg, re, _⟩, ⟨al, nl, ml, tl, vl, gl, wl, xl, yl, zl, _⟩, _⟩ := x
  obtain ⟨h1, h2⟩ := a17 kd pc pn of rs rg re al nl ml tl vl gl wl xl yl zl (s17 kd pc pn of rs rg re al nl ml tl vl gl wl xl yl zl (of_dec hx rfl))
  exact ⟨⟨400, (by decide : 1 + 1 + 0 ≤ 400), h1⟩, h2⟩
noncomputable def k11  : Con := ⟨11, [], fun _ => true, fun _ => .bool true, fun _ => [], fun _ _ => .dead⟩
theorem te11 (Kst : KS) (Kret : KR) : run cond Try.env true noX false 4000 ⟨11, [.cd (mkFn Try.f11).body], [], [[], []], 0⟩ (proj 0 [] Kst Kret) = Kret (.tf true) [[]] 567 := by kernel_rfl
theorem k11_ok  : k11.ok Try.prog := awake_ok (fn := mkFn Try.f11) (hi := 568) (n := 4000) Try.envOk Try.mixed noX_ok rfl (by decide) (by decide : Nat.ble 567 568 = true) te11
noncomputable def xE (test : Bool → Prop → Prop → Prop) : Ext := consX test [k11, k15, k17, k13]
theorem xE_ok  : ExtOk Try.prog (xE cond) := consX_ok ⟨k11_ok, k15_ok, k17_ok, k13_ok, trivial⟩
namespace S
def bunT (t : Nat → Int) (j : Nat) : Int × Int × Int × Int × Int × Int × Int := (t j, 0, 3 * t j, 0, 0, if j % 4 = 3 then 2 else -1, ((j % 3 : Nat) : Int))
def i8B (t : Nat → Int) (n : Nat) : Bool := all (fun j => decide (-128 ≤ t j ∧ t j ≤ 127)) n
end S
theorem i8B_mk  {n : Nat} {t : Nat → Int} (h : ∀ j, j < n → -128 ≤ t j ∧ t j ≤ 127) : S.i8B t n = true := all_iff.mpr fun j hj => decide_eq_true (h j hj)
theorem tm_nat (i m : Nat) : Int.tmod (i : Int) (m : Int) = ((i % m : Nat) : Int) := by
  rw [Int.tmod_eq_emod_of_nonneg (by omega)]
  rfl
inductive St38 where
  | h0 (x0 : Int) (x1 : List (Int × Int × Int × Int × Int × Int × Int))
abbrev Rt38  := List (Int × Int × Int × Int × Int × Int × Int)
noncomputable def V38 (al nl ml : Nat) (tl : Nat → Int) (r : Rt38) : PV := PV.own (2) (7) (List.length r)
noncomputable def N38 (al nl ml : Nat) (tl : Nat → Int) (r : Rt38) : List Blk := [Blk.cols (List.length r)
 [Col.int IntKind.i64 fun j => (S.at' r j).1,
 Col.int IntKind.i64 fun j => (S.at' r j).2.1,
 Col.int IntKind.i64 fun j => (S.at' r j).2.2.1,
 Col.int IntKind.i64 fun j => (S.at' r j).2.2.2.1,
 Col.int IntKind.i64 fun j =>
 (S.at' r j).2.2.2.2.1,
 Col.int IntKind.i64 fun j =>
 (S.at' r j).2.2.2.2.2.1,
 Col.int IntKind.i64 fun j =>
 (S.at' r j).2.2.2.2.2.2]]
noncomputable def I38 (al nl ml : Nat) (tl : Nat → Int) : St38 → Hd
  | .h0 x0 x1 => ⟨hd Try.f38 0, [PV.own (1) (7) (List.length x1),
 PV.loose (PA.mk (0) (1) al (0)) nl, PV.int IntKind.i64 (↑nl : Int),
 PV.int IntKind.i64 x0], [[(1, (true, Blk.cols (List.length x1)
 [Col.int IntKind.i64 fun j => (S.at' x1 j).1,
 Col.int IntKind.i64 fun j => (S.at' x1 j).2.1,
 Col.int IntKind.i64 fun j => (S.at' x1 j).2.2.1,
 Col.int IntKind.i64 fun j => (S.at' x1 j).2.2.2.1,
 Col.int IntKind.i64 fun j =>
 (S.at' x1 j).2.2.2.2.1,
 Col.int IntKind.i64 fun j =>
 (S.at' x1 j).2.2.2.2.2.1,
 Col.int IntKind.i64 fun j =>
 (S.at' x1 j).2.2.2.2.2.2]))], [(0, (false, .cols ml [.int .i8 tl]))]], 2⟩
noncomputable def q38 (al nl ml : Nat) (tl : Nat → Int) : St38 → Option (St38 ⊕ Rt38)
  | .h0 x0 x1 => bif (decide (x0 < (↑nl : Int)))
 then (bif (decide ((0 : Int) ≤ x0 ∧ x0 < (↑nl : Int)))
 then (bif (decide (Int.toNat x0 + al < ml))
 then (bif (lim IntKind.i64 (tl (Int.toNat x0 + al)))
 then (bif (lim IntKind.i64 ((3 : Int) * tl (Int.toNat x0 + al)))
 then (bif (Int.tmod x0 (4 : Int) == (3 : Int))
 then (bif (decide (List.length x1 + 1 ≤ 1000000))
 then (bif (decide (List.length x1 ≤ List.length x1))
 then (bif (lim IntKind.i64 (x0 + (1 : Int)))
 then (some (.inl (.h0 (x0 + (1 : Int)) (S.snoc x1
 (tl (Int.toNat x0 + al), (0 : Int), (3 : Int) * tl (Int.toNat x0 + al), (0 : Int), (0 : Int), (2 : Int),
 Int.tmod x0 (3 : Int))))))
 else (none))
 else (none))
 else (none))
 else (bif (decide (List.length x1 + 1 ≤ 1000000))
 then (bif (decide (List.length x1 ≤ List.length x1))
 then (bif (lim IntKind.i64 (x0 + (1 : Int)))
 then (some (.inl (.h0 (x0 + (1 : Int)) (S.snoc x1
 (tl (Int.toNat x0 + al), (0 : Int), (3 : Int) * tl (Int.toNat x0 + al), (0 : Int), (0 : Int), (-1 : Int),
 Int.tmod x0 (3 : Int))))))
 else (none))
 else (none))
 else (none)))
 else (none))
 else (none))
 else (none))
 else (none))
 else (some (.inr (x1)))
noncomputable def p38 (al nl ml : Nat) (tl : Nat → Int) : Option (St38 ⊕ Rt38) := some (.inl (.h0 ((0 : Int)) ([])))
noncomputable def Te38 (test : Bool → Prop → Prop → Prop) (Kst : KS) (Kret : KR) (al nl ml : Nat) (tl : Nat → Int) : Prop :=
  Kst (hd Try.f38 0) ([PV.nils, PV.loose (PA.mk (0) (1) al (0)) nl,
 PV.int IntKind.i64 (↑nl : Int), PV.int IntKind.i64 (0 : Int)]) ([[(0, false, Blk.cols ml [Col.int IntKind.i8 tl])]]) (1)
theorem te38 (test : Bool → Prop → Prop → Prop) (Kst : KS) (Kret : KR) (al nl ml : Nat) (tl : Nat → Int) : run test Try.env true (xE test) true 400 ⟨38, [.cd (mkFn Try.f38).body], argT 0 [.loose ⟨0, 1, al, 0⟩ nl], [[], [(0, (false, .cols ml [.int .i8 tl]))]], 1⟩ (proj 1 [3, 7, 8, 9] Kst Kret) =
  Te38 test Kst Kret al nl ml tl := by kernel_rfl
noncomputable def T38_0 (test : Bool → Prop → Prop → Prop) (Kst : KS) (Kret : KR) (al nl ml : Nat) (tl : Nat → Int) (x0 : Int) (x1 : List (Int × Int × Int × Int × Int × Int × Int)) : Prop :=
  test (decide (x0 < (↑nl : Int)))
 (test (decide ((0 : Int) ≤ x0 ∧ x0 < (↑nl : Int)))
 (test (decide (Int.toNat x0 + al < ml))
 (test (lim IntKind.i64 (tl (Int.toNat x0 + al)))
 (test (lim IntKind.i64 (tl (Int.toNat x0 + al)))
 (test (lim IntKind.i64 ((3 : Int) * tl (Int.toNat x0 + al)))
 (test (false)
 (False)
 (test (false)
 (False)
 (test (Int.tmod x0 (4 : Int) == (3 : Int))
 (test (decide (List.length x1 + 1 ≤ 1000000))
 (test (decide (List.length x1 ≤ List.length x1))
 (test (true)
 (test (lim IntKind.i64 (x0 + (1 : Int)))
 (Kst (hd Try.f38 0) ([PV.own (4) (7) (List.length x1 + 1),
 PV.loose (PA.mk (0) (1) al (0)) nl, PV.int IntKind.i64 (↑nl : Int),
 PV.int IntKind.i64 (x0 + (1 : Int))]) ([[(0, false, Blk.cols ml [Col.int IntKind.i8 tl]),
 (4, true,
 Blk.cols (List.length x1 + 1)
 [Col.int IntKind.i64 fun j =>
 bif Nat.blt j (List.length x1) then (S.at' x1 j).1 else tl (Int.toNat x0 + al),
 Col.int IntKind.i64 fun j =>
 bif Nat.blt j (List.length x1) then (S.at' x1 j).2.1 else (0 : Int),
 Col.int IntKind.i64 fun j =>
 bif Nat.blt j (List.length x1) then (S.at' x1 j).2.2.1
 else (3 : Int) * tl (Int.toNat x0 + al),
 Col.int IntKind.i64 fun j =>
 bif Nat.blt j (List.length x1) then (S.at' x1 j).2.2.2.1
 else (0 : Int),
 Col.int IntKind.i64 fun j =>
 bif Nat.blt j (List.length x1) then (S.at' x1 j).2.2.2.2.1
 else (0 : Int),
 Col.int IntKind.i64 fun j =>
 bif Nat.blt j (List.length x1) then
 (S.at' x1 j).2.2.2.2.2.1
 else (2 : Int),
 Col.int IntKind.i64 fun j =>
 bif Nat.blt j (List.length x1) then
 (S.at' x1 j).2.2.2.2.2.2
 else Int.tmod x0 (3 : Int)])]]) (5))
 (False))
 (False))
 (False))
 (False))
 (test (decide (List.length x1 + 1 ≤ 1000000))
 (test (decide (List.length x1 ≤ List.length x1))
 (test (true)
 (test (lim IntKind.i64 (x0 + (1 : Int)))
 (Kst (hd Try.f38 0) ([PV.own (4) (7) (List.length x1 + 1),
 PV.loose (PA.mk (0) (1) al (0)) nl, PV.int IntKind.i64 (↑nl : Int),
 PV.int IntKind.i64 (x0 + (1 : Int))]) ([[(0, false, Blk.cols ml [Col.int IntKind.i8 tl]),
 (4, true,
 Blk.cols (List.length x1 + 1)
 [Col.int IntKind.i64 fun j =>
 bif Nat.blt j (List.length x1) then (S.at' x1 j).1 else tl (Int.toNat x0 + al),
 Col.int IntKind.i64 fun j =>
 bif Nat.blt j (List.length x1) then (S.at' x1 j).2.1 else (0 : Int),
 Col.int IntKind.i64 fun j =>
 bif Nat.blt j (List.length x1) then (S.at' x1 j).2.2.1
 else (3 : Int) * tl (Int.toNat x0 + al),
 Col.int IntKind.i64 fun j =>
 bif Nat.blt j (List.length x1) then (S.at' x1 j).2.2.2.1
 else (0 : Int),
 Col.int IntKind.i64 fun j =>
 bif Nat.blt j (List.length x1) then (S.at' x1 j).2.2.2.2.1
 else (0 : Int),
 Col.int IntKind.i64 fun j =>
 bif Nat.blt j (List.length x1) then
 (S.at' x1 j).2.2.2.2.2.1
 else (-1 : Int),
 Col.int IntKind.i64 fun j =>
 bif Nat.blt j (List.length x1) then
 (S.at' x1 j).2.2.2.2.2.2
 else Int.tmod x0 (3 : Int)])]]) (5))
 (False))
 (False))
 (False))
 (False)))))
 (False))
 (False))
 (False))
 (False))
 (False))
 (Kret (PV.own (1) (7) (List.length x1)) ([[(0, false, Blk.cols ml [Col.int IntKind.i8 tl]),
 (1, true,
 Blk.cols (List.length x1)
 [Col.int IntKind.i64 fun j => (S.at' x1 j).1,
 Col.int IntKind.i64 fun j => (S.at' x1 j).2.1,
 Col.int IntKind.i64 fun j => (S.at' x1 j).2.2.1,
 Col.int IntKind.i64 fun j => (S.at' x1 j).2.2.2.1,
 Col.int IntKind.i64 fun j =>
 (S.at' x1 j).2.2.2.2.1,
 Col.int IntKind.i64 fun j =>
 (S.at' x1 j).2.2.2.2.2.1,
 Col.int IntKind.i64 fun j =>
 (S.at' x1 j).2.2.2.2.2.2])]]) (2))
theorem t38_0 (test : Bool → Prop → Prop → Prop) (Kst : KS) (Kret : KR) (al nl ml : Nat) (tl : Nat → Int) (x0 : Int) (x1 : List (Int × Int × Int × Int × Int × Int × Int)) : run test Try.env true (xE test) true 400 ⟨38, hd Try.f38 0, zipT [3, 7, 8, 9] [PV.own (1) (7) (List.length x1),
 PV.loose (PA.mk (0) (1) al (0)) nl, PV.int IntKind.i64 (↑nl : Int),
 PV.int IntKind.i64 x0], [[(1, (true, Blk.cols (List.length x1)
 [Col.int IntKind.i64 fun j => (S.at' x1 j).1,
 Col.int IntKind.i64 fun j => (S.at' x1 j).2.1,
 Col.int IntKind.i64 fun j => (S.at' x1 j).2.2.1,
 Col.int IntKind.i64 fun j => (S.at' x1 j).2.2.2.1,
 Col.int IntKind.i64 fun j =>
 (S.at' x1 j).2.2.2.2.1,
 Col.int IntKind.i64 fun j =>
 (S.at' x1 j).2.2.2.2.2.1,
 Col.int IntKind.i64 fun j =>
 (S.at' x1 j).2.2.2.2.2.2]))], [(0, (false, .cols ml [.int .i8 tl]))]], 2⟩ (proj 1 [3, 7, 8, 9] Kst Kret) =
  T38_0 test Kst Kret al nl ml tl x0 x1 := by kernel_rfl
theorem be38 (al nl ml : Nat) (tl : Nat → Int) (Kst : KS) (Kret : KR) (x : St38 ⊕ Rt38) (hS : HS 1 400 ((I38 al nl ml tl)) Kst x) (hR : HR 1 400 ((V38 al nl ml tl)) (fun r => [newL (1 + 1) ((N38 al nl ml tl) r) ++ [(0, (false, .cols ml [.int .i8 tl]))]]) Kret x) (h : (some (.inl (.h0 ((0 : Int)) ([]))) : Option (St38 ⊕ Rt38)) = some x) : Te38 cond Kst Kret al nl ml tl := by
  unfold Te38
  exact stop_at hS _ h (fun n => bif Nat.beq n 1 then 399 else n) rfl rfl rfl ⟨(rn_own_nils rfl), ⟨(rn_loose (use_lo rfl) rfl rfl rfl), ⟨(rn_int rfl), ⟨(rn_int rfl), trivial⟩⟩⟩⟩ rfl (entl_fresh (use_own rfl) (fresh_ok rfl) (entl_bor (use_lo rfl) rfl rfl entl_nil))
theorem b38_0 (al nl ml : Nat) (tl : Nat → Int) (Kst : KS) (Kret : KR) (x : St38 ⊕ Rt38) (hS : HS 1 400 ((I38 al nl ml tl)) Kst x) (hR : HR 1 400 ((V38 al nl ml tl)) (fun r => [newL (1 + 1) ((N38 al nl ml tl) r) ++ [(0, (false, .cols ml [.int .i8 tl]))]]) Kret x) (x0 : Int) (x1 : List (Int × Int × Int × Int × Int × Int × Int)) (h : (bif (decide (x0 < (↑nl : Int)))
 then (bif (decide ((0 : Int) ≤ x0 ∧ x0 < (↑nl : Int)))
 then (bif (decide (Int.toNat x0 + al < ml))
 then (bif (lim IntKind.i64 (tl (Int.toNat x0 + al)))
 then (bif (lim IntKind.i64 ((3 : Int) * tl (Int.toNat x0 + al)))
 then (bif (Int.tmod x0 (4 : Int) == (3 : Int))
 then (bif (decide (List.length x1 + 1 ≤ 1000000))
 then (bif (decide (List.length x1 ≤ List.length x1))
 then (bif (lim IntKind.i64 (x0 + (1 : Int)))
 then (some (.inl (.h0 (x0 + (1 : Int)) (S.snoc x1
 (tl (Int.toNat x0 + al), (0 : Int), (3 : Int) * tl (Int.toNat x0 + al), (0 : Int), (0 : Int), (2 : Int),
 Int.tmod x0 (3 : Int))))))
 else (none))
 else (none))
 else (none))
 else (bif (decide (List.length x1 + 1 ≤ 1000000))
 then (bif (decide (List.length x1 ≤ List.length x1))
 then (bif (lim IntKind.i64 (x0 + (1 : Int)))
 then (some (.inl (.h0 (x0 + (1 : Int)) (S.snoc x1
 (tl (Int.toNat x0 + al), (0 : Int), (3 : Int) * tl (Int.toNat x0 + al), (0 : Int), (0 : Int), (-1 : Int),
 Int.tmod x0 (3 : Int))))))
 else (none))
 else (none))
 else (none)))
 else (none))
 else (none))
 else (none))
 else (none))
 else (some (.inr (x1))) : Option (St38 ⊕ Rt38)) = some x) : T38_0 cond Kst Kret al nl ml tl x0 x1 := by
  unfold T38_0
  refine bif_split h
   (fun c0 h => bif_split h
   (fun c1 h => bif_split h
   (fun c2 h => bif_split h
   (fun c3 h => cond_yes c3 (bif_split h
   (fun c4 h => cond_no rfl (cond_no rfl (bif_split h
   (fun c5 h => bif_split h
   (fun c6 h => bif_split h
   (fun c7 h => cond_yes rfl (bif_split h
   (fun c8 h => ?_)
   (fun c8 h => ?_)))
   (fun c7 h => ?_))
   (fun c6 h => ?_))
   (fun c5 h => bif_split h
   (fun c6 h => bif_split h
   (fun c7 h => cond_yes rfl (bif_split h
   (fun c8 h => ?_)
   (fun c8 h => ?_)))
   (fun c7 h => ?_))
   (fun c6 h => ?_)))))
   (fun c4 h => ?_)))
   (fun c3 h => ?_))
   (fun c2 h => ?_))
   (fun c1 h => ?_))
   (fun c0 h => ret_at hR _ h (fun n => bif Nat.beq n 2 then 1 else n) rfl rfl rfl (rn_own (use_own rfl) rfl rfl) rfl (entl_new (use_own rfl) rfl (Nat.le_of_eq rfl) (rcs_int (fun _ _ => rfl) (rcs_int (fun _ _ => rfl) (rcs_int (fun _ _ => rfl) (rcs_int (fun _ _ => rfl) (rcs_int (fun _ _ => rfl) (rcs_int (fun _ _ => rfl) (rcs_int (fun _ _ => rfl) rcs_nil))))))) (entl_bor (use_lo rfl) rfl rfl entl_nil)))
  all_goals first
    | exact no_some h
    | exact stop_at hS _ h (fun n => bif Nat.beq n 1 then 4 else n) rfl rfl rfl ⟨(rn_own (use_own rfl) rfl (snoc_len' rfl)), ⟨(rn_loose (use_lo rfl) rfl rfl rfl), ⟨(rn_int rfl), ⟨(rn_int rfl), trivial⟩⟩⟩⟩ rfl (entl_new (use_own rfl) rfl (Nat.le_of_eq (snoc_len' rfl)) (rcs_int (col_snoc' (fun (t : Int × Int × Int × Int × Int × Int × Int) => t.1) rfl (fun _ _ => rfl)) (rcs_int (col_snoc' (fun (t : Int × Int × Int × Int × Int × Int × Int) => t.2.1) rfl (fun _ _ => rfl)) (rcs_int (col_snoc' (fun (t : Int × Int × Int × Int × Int × Int × Int) => t.2.2.1) rfl (fun _ _ => rfl)) (rcs_int (col_snoc' (fun (t : Int × Int × Int × Int × Int × Int × Int) => t.2.2.2.1) rfl (fun _ _ => rfl)) (rcs_int (col_snoc' (fun (t : Int × Int × Int × Int × Int × Int × Int) => t.2.2.2.2.1) rfl (fun _ _ => rfl)) (rcs_int (col_snoc' (fun (t : Int × Int × Int × Int × Int × Int × Int) => t.2.2.2.2.2.1) rfl (fun _ _ => rfl)) (rcs_int (col_snoc' (fun (t : Int × Int × Int × Int × Int × Int × Int) => t.2.2.2.2.2.2) rfl (fun _ _ => rfl)) rcs_nil))))))) (entl_bor (use_lo rfl) rfl rfl entl_nil))
theorem a38 (al nl ml : Nat) (tl : Nat → Int) {r : Rt38} (h : Goes ((q38 al nl ml tl)) ((p38 al nl ml tl)) r) : CallR Try.prog 38 [.loose ⟨0, 1, al, 0⟩ nl] [[(0, (false, .cols ml [.int .i8 tl]))]] 1 ((V38 al nl ml tl) r) ((fun r => [newL (1 + 1) ((N38 al nl ml tl) r) ++ [(0, (false, .cols ml [.int .i8 tl]))]]) r) 400 ∧ ∃ F, Try.prog.funcs[38]? = some F ∧ F.body.isSome = true ∧ (F.name == "runtime.NumGoroutine") = false := by
  refine dec_calls (f := 38) (lo := 1) (hi := 400) (H := [[(0, (false, .cols ml [.int .i8 tl]))]]) (args := [.loose ⟨0, 1, al, 0⟩ nl]) Try.envOk Try.mixed xE_ok ((I38 al nl ml tl)) ((V38 al nl ml tl)) (fun r => [newL (1 + 1) ((N38 al nl ml tl) r) ++ [(0, (false, .cols ml [.int .i8 tl]))]]) (fn := mkFn Try.f38) (ts := [3, 7, 8, 9]) (n := 400) rfl (by decide) (by simp) (names_of rfl) ?_ ?_ ?_ h
  · intro s; cases s <;> exact ⟨hd_ok _ _, by simp [I38], names_of rfl, Nat.le_of_ble_eq_true rfl⟩
  · intro Kst Kret x hS hR h
    exact Holds.eq (te38 cond Kst Kret al nl ml tl) (be38 al nl ml tl Kst Kret x hS hR h)
  · intro Kst Kret x hS hR s h
    cases s with
    | h0 x0 x1 => exact Holds.eq (t38_0 cond Kst Kret al nl ml tl x0 x1) (b38_0 al nl ml tl Kst Kret x hS hR x0 x1 h)
noncomputable def k38  : Con := ⟨38, [.one (.list [.int .i8])], fun (x : (Nat × Nat × Nat × (Nat → Int) × Unit) × Unit) => (fun (al nl ml : Nat) (tl : Nat → Int) => decide (al + nl ≤ ml ∧ nl ≤ 1000 ∧ S.i8B (fun j => tl (j + al)) nl = true)) x.1.1 x.1.2.1 x.1.2.2.1 x.1.2.2.2.1, fun (x : (Nat × Nat × Nat × (Nat → Int) × Unit) × Unit) => (fun (al nl ml : Nat) (tl : Nat → Int) => (V38 al nl ml tl) (S.mkl nl (S.bunT (fun j => tl (j + al))))) x.1.1 x.1.2.1 x.1.2.2.1 x.1.2.2.2.1, fun (x : (Nat × Nat × Nat × (Nat → Int) × Unit) × Unit) => (fun (al nl ml : Nat) (tl : Nat → Int) => (N38 al nl ml tl) (S.mkl nl (S.bunT (fun j => tl (j + al))))) x.1.1 x.1.2.1 x.1.2.2.1 x.1.2.2.2.1, fun _ _ => .dead⟩
theorem s38' (al nl ml : Nat) (tl : Nat → Int) (hp : al + nl ≤ ml ∧ nl ≤ 1000 ∧ S.i8B (fun j => tl (j + al)) nl = true) : ∀ k i : Nat, i + k = nl → Comes (q38 al nl ml tl) (.h0 (i : Int) (S.mkl i (S.bunT (fun j => tl (j + al))))) (S.mkl nl (S.bunT (fun j => tl (j + al)))) := by
  obtain ⟨hp1, hp2, hp3⟩ := hp
  have hb : ∀ j, j < nl → -128 ≤ tl (j + al) ∧ tl (j + al) ≤ 127 := fun j hj => of_decide_eq_true (all_iff.mp hp3 j hj)
  intro k
  induction k with
  | zero =>
    intro i hi
    obtain rfl : nl = i := by omega
    apply Comes.of
    show Goes _ _ _
    (first | rw [q38] | unfold q38)
    repeat' first
      | with_reducible refine goes_if (fun h => ?_) (fun h => ?_) <;> (try simp only [SH, mkl_len] at h)
      | exact goes_none.mpr (by omega)
    all_goals first | (exfalso; omega) | exact goes_inr.mpr rfl
  | succ k ih =>
    intro i hi
    have ih := ih (i + 1) (by omega)
    have hbi := hb i (by omega)
    have e4 : Int.tmod (i : Int) 4 = ((i % 4 : Nat) : Int) := tm_nat i 4
    have e3 : Int.tmod (i : Int) 3 = ((i % 3 : Nat) : Int) := tm_nat i 3
    rw [mkl_succ] at ih
    unfold S.bunT at ih ⊢
    apply Comes.of
    show Goes _ _ _
    rw [q38]
    by_cases h : i % 4 = 3
    · rw [if_pos h] at ih
      repeat' first
        | with_reducible refine goes_if (fun h => ?_) (fun h => ?_) <;> (try simp only [SH, mkl_len] at h)
        | exact goes_none.mpr (by omega)
      all_goals first | (exfalso; omega) | (rw [e3]; exact ih)
    · rw [if_neg h] at ih
      repeat' first
        | with_reducible refine goes_if (fun h => ?_) (fun h => ?_) <;> (try simp only [SH, mkl_len] at h)
        | exact goes_none.mpr (by omega)
      all_goals first | (exfalso; omega) | (rw [e3]; exact ih)
theorem s38 (al nl ml : Nat) (tl : Nat → Int) (hp : al + nl ≤ ml ∧ nl ≤ 1000 ∧ S.i8B (fun j => tl (j + al)) nl = true) : Goes ((q38 al nl ml tl)) ((p38 al nl ml tl)) (S.mkl nl (S.bunT (fun j => tl (j + al)))) := by
  have hm := s38' al nl ml tl hp nl 0 (by omega)
  exact hm
theorem k38_ok  : k38.ok Try.prog := by
  intro x hx
  obtain ⟨⟨al, nl, ml, tl, _⟩, _⟩ := x
  obtain ⟨h1, h2⟩ := a38 al nl ml tl (s38 al nl ml tl (of_dec hx rfl))
  exact ⟨⟨400, (by decide : 1 + 1 + 1 ≤ 400), h1⟩, h2⟩
noncomputable def xF (test : Bool → Prop → Prop → Prop) : Ext := consX test [k11, k17, k38]
theorem xF_ok  : ExtOk Try.prog (xF cond) := consX_ok ⟨k11_ok, k17_ok, k38_ok, trivial⟩
namespace S
def shB (t : Nat → Int) (j : Nat) : Int × Int × Int × Int × Int × Int × Int := (t j, 0, 3 * t j, 0, 0, if j % 4 = 3 then 2 else -1, ((j % 3 : Nat) : Int))
def shT (t : Nat → Int) (e : Int) (i j : Nat) : Int × Int × Int × Int × Int × Int × Int := if j < i then (t j + e, 0, 3 * t j + e, 0, 0, if j % 4 = 3 then 2 else -1, ((j % 3 : Nat) : Int)) else shB t j
def jn (n : Nat) (f : Nat → Int) (c : Int) (j : Nat) : Int := bif Nat.blt j n then f j else c
end S
theorem max0_nn  {t : Nat → Int} : ∀ {n : Nat}, 0 ≤ S.max0 t n
  | 0 => Int.le_refl _
  | n + 1 => by have := max0_nn (t := t) (n := n); simp only [S.max0]; omega
theorem cnt_congr  {p q : Nat → Bool} : ∀ {n : Nat}, (∀ j, j < n → p j = q j) → S.cntN p n = S.cntN q n
  | 0, _ => rfl
  | n + 1, h => by
    have e : S.cntN p n = S.cntN q n := cnt_congr fun j hj => h j (by omega)
    simp only [S.cntN, e, h n (Nat.lt_succ_self _)]
theorem parN_of  {p : Nat → Bool} : ∀ {k i : Nat}, (∀ j, i ≤ j → j < i + k → p j = true) → S.parN p i k = 0
  | 0, i, _ => rfl
  | k + 1, i, h => by
    simp only [S.parN]
    rw [if_pos (h i (Nat.le_refl _) (by omega))]
    exact parN_of fun j h1 h2 => h j (by omega) (by omega)
theorem parN_congr  {p q : Nat → Bool} : ∀ {k i : Nat}, (∀ j, i ≤ j → j < i + k → p j = q j) → S.parN p i k = S.parN q i k
  | 0, i, _ => rfl
  | k + 1, i, h => by
    simp only [S.parN, h i (Nat.le_refl _) (by omega)]
    rw [parN_congr fun j h1 h2 => h j (by omega) (by omega)]
theorem posS_congr  {kd pc pn of rs rg re : Int} {n : Nat} {a b c d e f g a' b' c' d' e' f' g' : Nat → Int} (h : ∀ j, j < n → a j = a' j ∧ b j = b' j ∧ c j = c' j ∧ d j = d' j ∧ e j = e' j ∧ f j = f' j ∧ g j = g' j) :
    S.posS kd pc pn of rs rg re n a b c d e f g = S.posS kd pc pn of rs rg re n a' b' c' d' e' f' g' := by
  have h1 : S.parE n a b c d e f g = S.parE n a' b' c' d' e' f' g' := by
    unfold S.parE
    rw [parN_congr (q := fun j => S.parB (a' j) (b' j) (c' j) (d' j) (e' j) (f' j) (g' j)) fun j _ hj => by obtain ⟨h1, h2, h3, h4, h5, h6, h7⟩ := h j (by omega); rw [h1, h2, h3, h4, h5, h6, h7]]
  unfold S.posS
  rw [h1, max0_congr (u := g') fun j hj => (h j hj).2.2.2.2.2.2, cnt_congr (q := S.liv f') fun j hj => by unfold S.liv; rw [(h j hj).2.2.2.2.2.1],
    sumN_congr (u := S.posT pn a' c' f') fun j hj => by unfold S.posT; obtain ⟨h1, h2, h3, h4, h5, h6, h7⟩ := h j hj; rw [h1, h3, h6]]
theorem fdv_add  {a q c : Int} (hq : 0 < q) : S.fdv (a + q * c) q = S.fdv a q + c := by
  obtain ⟨h1, h2⟩ := fdv_b (a := a) hq
  refine fdv_is ?_ ?_ <;> rw [Int.mul_add] <;> omega
theorem posV_add  {of rs n s d : Int} (hn : 0 < n) (hr : 0 < rs) : S.posV of rs n (s + n * (d * rs)) = S.posV of rs n s + d * rs := by
  unfold S.posV
  have hq : 0 < 2 * n * rs := Int.mul_pos (by omega) hr
  have e : 2 * (s + n * (d * rs) + n * of) + n * rs = (2 * (s + n * of) + n * rs) + 2 * n * rs * d := by
    have e1 : 2 * n * rs * d = 2 * (n * (d * rs)) := by rw [Int.mul_assoc, Int.mul_assoc, Int.mul_comm rs d]
    rw [e1]
    omega
  rw [e, fdv_add hq, Int.mul_add, Int.mul_comm rs d]
section
variable {t : Nat → Int} {n : Nat} {pc pn of rs rg d : Int}
theorem sh_sum (e : Int) : ∀ {m : Nat}, m ≤ n → S.sumN (S.posT pn (S.jn n (fun j => t j + e) 100000) (S.jn n (fun j => 3 * t j + e) (-100000)) (S.jn n (fun j => if j % 4 = 3 then 2 else -1) 0)) m = S.sumN (S.posT pn t (fun j => 3 * t j) (fun j => if j % 4 = 3 then 2 else -1)) m + S.cntN (S.liv fun j => if j % 4 = 3 then 2 else -1) m * e
  | 0, _ => by simp only [S.sumN, S.cntN]; omega
  | m + 1, h => by
    have ih := sh_sum e (m := m) (by omega)
    have hb : Nat.blt m n = true := by simp; omega
    simp only [S.sumN, S.cntN]
    rw [ih]
    unfold S.posT S.liv S.jn
    simp only [hb, cond_true, decide_eq_true_eq]
    by_cases h4 : m % 4 = 3
    · simp only [if_pos h4, show ((2 : Int) < 0) = False from by simp, if_false]
      omega
    · simp only [if_neg h4, show ((-1 : Int) < 0) = True from by simp, if_true]
      rw [Int.add_mul, Int.one_mul]
      split <;> omega
theorem shift (hn : n ≤ 20) (ht : ∀ j, j < n → -128 ≤ t j ∧ t j ≤ 127) (hd : -128 ≤ d ∧ d ≤ 127) (hpc : 0 ≤ pc ∧ pc ≤ 7) (hpn : 1 ≤ pn ∧ pn ≤ 2) (ho : -3 ≤ of ∧ of ≤ 3) (hr : 1 ≤ rs ∧ rs ≤ 20) (hg : 200 ≤ rg ∧ rg ≤ 2750) :
    ∃ T, (S.posS 1 pc pn of rs rg 0 n t (fun _ => 0) (fun j => 3 * t j) (fun _ => 0) (fun _ => 0) (fun j => if j % 4 = 3 then 2 else -1) (fun j => ((j % 3 : Nat) : Int)) = (T, 0, false, 0) ∧
        S.posS 1 pc pn of rs rg 0 (n + 1) (S.jn n (fun j => t j + d * rs) 100000) (S.jn n (fun _ => 0) 0) (S.jn n (fun j => 3 * t j + d * rs) (-100000)) (S.jn n (fun _ => 0) 0) (S.jn n (fun _ => 0) 0) (S.jn n (fun j => if j % 4 = 3 then 2 else -1) 0) (S.jn n (fun j => ((j % 3 : Nat) : Int)) 0) = (T, 0, false, 0)) ∨
      ∃ v, (-3000000000000 ≤ v ∧ v ≤ 3000000000000) ∧ S.posS 1 pc pn of rs rg 0 n t (fun _ => 0) (fun j => 3 * t j) (fun _ => 0) (fun _ => 0) (fun j => if j % 4 = 3 then 2 else -1) (fun j => ((j % 3 : Nat) : Int)) = S.good T v rg ∧
        S.posS 1 pc pn of rs rg 0 (n + 1) (S.jn n (fun j => t j + d * rs) 100000) (S.jn n (fun _ => 0) 0) (S.jn n (fun j => 3 * t j + d * rs) (-100000)) (S.jn n (fun _ => 0) 0) (S.jn n (fun _ => 0) 0) (S.jn n (fun j => if j % 4 = 3 then 2 else -1) 0) (S.jn n (fun j => ((j % 3 : Nat) : Int)) 0) = S.good T (v + d * rs) rg := by
  have hk : S.kinE 1 pc pn of rs rg 0 1 = 0 := by
    unfold S.kinE S.insE
    rw [if_pos (by omega : (1 : Int) = 1 ∨ (1 : Int) = 2 ∨ (1 : Int) = 3), if_pos (by omega)]
    simp
  have hdr : -2560 ≤ d * rs ∧ d * rs ≤ 2560 := by
    have h1 := Int.mul_le_mul_of_nonneg_right hd.2 (show 0 ≤ rs by omega)
    have h2 := Int.mul_le_mul_of_nonneg_right hd.1 (show 0 ≤ rs by omega)
    omega
  have p1 : S.parE n t (fun _ => 0) (fun j => 3 * t j) (fun _ => 0) (fun _ => 0) (fun j => if j % 4 = 3 then 2 else -1) (fun j => ((j % 3 : Nat) : Int)) = 0 := by
    unfold S.parE
    rw [if_neg (by omega)]
    refine parN_of fun j _ hj => ?_
    unfold S.parB
    refine decide_eq_true ?_
    have := ht j (by omega)
    dsimp only
    refine ⟨by omega, by omega, by omega, by omega, by omega, ?_, by omega, by omega⟩
    split <;> omega
  have p2 : S.parE (n + 1) (S.jn n (fun j => t j + d * rs) 100000) (S.jn n (fun _ => 0) 0) (S.jn n (fun j => 3 * t j + d * rs) (-100000)) (S.jn n (fun _ => 0) 0) (S.jn n (fun _ => 0) 0) (S.jn n (fun j => if j % 4 = 3 then 2 else -1) 0) (S.jn n (fun j => ((j % 3 : Nat) : Int)) 0) = 0 := by
    unfold S.parE
    rw [if_neg (by omega)]
    refine parN_of fun j _ hj => ?_
    unfold S.parB
    refine decide_eq_true ?_
    unfold S.jn
    cases hb : Nat.blt j n
    · simp only [cond_false]; (try dsimp only); omega
    · have hj' : j < n := by simpa using hb
      have := ht j hj'
      simp only [cond_true]
      (try dsimp only)
      refine ⟨by omega, by omega, by omega, by omega, by omega, ?_, by omega, by omega⟩
      split <;> omega
  have hbf : Nat.blt n n = false := by rw [Bool.eq_false_iff]; exact fun e => absurd (Nat.blt_eq.mp e) (Nat.lt_irrefl _)
  have hbt : ∀ j, j < n → Nat.blt j n = true := fun j hj => Nat.blt_eq.mpr hj
  have e1 : S.max0 (S.jn n (fun j => ((j % 3 : Nat) : Int)) 0) (n + 1) = S.max0 (fun j => ((j % 3 : Nat) : Int)) n := by
    simp only [S.max0]
    rw [max0_congr (u := fun j => ((j % 3 : Nat) : Int)) fun j hj => by unfold S.jn; rw [hbt j hj]; rfl]
    have := max0_nn (t := fun j => ((j % 3 : Nat) : Int)) (n := n)
    unfold S.jn
    rw [hbf, cond_false]
    omega
  have e2 : S.cntN (S.liv (S.jn n (fun j => if j % 4 = 3 then 2 else -1) 0)) (n + 1) = S.cntN (S.liv fun j => if j % 4 = 3 then 2 else -1) n := by
    simp only [S.cntN]
    rw [cnt_congr (q := S.liv fun j => if j % 4 = 3 then 2 else -1) fun j hj => by unfold S.liv S.jn; rw [hbt j hj]; rfl]
    have : S.liv (S.jn n (fun j => if j % 4 = 3 then 2 else -1) 0) n = false := by
      unfold S.liv S.jn
      rw [hbf]
      rfl
    rw [this]
    rfl
  have e3 : S.sumN (S.posT pn (S.jn n (fun j => t j + d * rs) 100000) (S.jn n (fun j => 3 * t j + d * rs) (-100000)) (S.jn n (fun j => if j % 4 = 3 then 2 else -1) 0)) (n + 1) = S.sumN (S.posT pn t (fun j => 3 * t j) (fun j => if j % 4 = 3 then 2 else -1)) n + S.cntN (S.liv fun j => if j % 4 = 3 then 2 else -1) n * (d * rs) := by
    rw [← sh_sum (d * rs) (Nat.le_refl n)]
    have : S.posT pn (S.jn n (fun j => t j + d * rs) 100000) (S.jn n (fun j => 3 * t j + d * rs) (-100000)) (S.jn n (fun j => if j % 4 = 3 then 2 else -1) 0) n = 0 := by
      unfold S.posT S.jn
      simp only [hbf, cond_false]
      rfl
    simp only [S.sumN]
    rw [this, Int.add_zero]
  have hs := pos_bnd (pn := pn) (x1 := t) (x3 := fun j => 3 * t j) (l := fun j => if j % 4 = 3 then 2 else -1) (n := n) fun j hj => by have := ht j hj; (try dsimp only); split <;> omega
  have hc := cnt_bnd (p := S.liv fun j => if j % 4 = 3 then 2 else -1) (n := n)
  unfold S.posS
  rw [if_pos hk, if_pos p1, if_pos hk, if_pos p2, e1, e2, e3]
  generalize S.cntN (S.liv fun j => if j % 4 = 3 then 2 else -1) n = c at *
  generalize S.sumN (S.posT pn t (fun j => 3 * t j) (fun j => if j % 4 = 3 then 2 else -1)) n = u at *
  refine ⟨S.max0 (fun j => ((j % 3 : Nat) : Int)) n, ?_⟩
  unfold S.posR
  by_cases h0 : c = 0
  · left
    rw [if_pos h0, if_pos h0]
    exact ⟨rfl, rfl⟩
  · right
    rw [if_neg h0, if_neg h0, posV_add (by omega) (by omega)]
    obtain ⟨b1, b2, b3, b4⟩ := pv_b (of := of) (rs := rs) (n := c) (s := u) (by omega) (by omega) (by omega) (by omega)
    exact ⟨_, b4, rfl, rfl⟩
end
theorem tmd  {x c : Int} (h : 0 ≤ x) (hc : 0 < c) : 0 ≤ Int.tmod x c ∧ Int.tmod x c < c := by
  rw [Int.tmod_eq_emod_of_nonneg h]
  exact ⟨Int.emod_nonneg _ (by omega), Int.emod_lt_of_pos _ hc⟩
namespace S
def isB (x : Int) : Bool := decide (0 ≤ x ∧ x ≤ 255)
end S
inductive St9 where
  | h0 (x0 : Int) (x1 : Int) (x2 : Int) (x3 : Int) (x4 : List (Int × Int × Int × Int × Int × Int × Int)) (x5 : List (Int × Int × Int × Int × Int × Int × Int))
abbrev Rt9  := Bool
noncomputable def V9 (u1 u2 u3 u4 : Int) (al nl ml : Nat) (tl : Nat → Int) (by1 : Int) (r : Rt9) : PV := PV.bool r
noncomputable def N9 (u1 u2 u3 u4 : Int) (al nl ml : Nat) (tl : Nat → Int) (by1 : Int) (r : Rt9) : List Blk := []
noncomputable def I9 (u1 u2 u3 u4 : Int) (al nl ml : Nat) (tl : Nat → Int) (by1 : Int) : St9 → Hd
  | .h0 x0 x1 x2 x3 x4 x5 => ⟨hd Try.f9 0, [PV.loose (PA.mk (0) (1) al (0)) nl, PV.int IntKind.i8 by1,
 PV.ptr (PA.mk (1) (0) (0) (0)),
 PV.own (2) (7) (List.length x4), PV.own (3) (7) (List.length x5),
 PV.int IntKind.i64
 (↑(List.length
 (S.mkl nl fun j =>
 (tl (j + al), (0 : Int), (3 : Int) * tl (j + al), (0 : Int), (0 : Int),
 if j % 4 = 3 then (2 : Int) else (-1 : Int), (↑(j % 3) : Int)))) :
 Int),
 PV.int IntKind.i64 x0], [[(1, (true, Blk.cells
 [PV.int IntKind.i64 (1 : Int), PV.int IntKind.i64 (Int.tmod u1 (8 : Int)),
 PV.int IntKind.i64 x1, PV.int IntKind.i64 x2,
 PV.int IntKind.i64 ((1 : Int) + Int.tmod u3 (20 : Int)),
 PV.int IntKind.i64 ((200 : Int) + (10 : Int) * u4), PV.int IntKind.i64 x3])), (2, (true, Blk.cols (List.length x4)
 [Col.int IntKind.i64 fun j => (S.at' x4 j).1,
 Col.int IntKind.i64 fun j => (S.at' x4 j).2.1,
 Col.int IntKind.i64 fun j => (S.at' x4 j).2.2.1,
 Col.int IntKind.i64 fun j => (S.at' x4 j).2.2.2.1,
 Col.int IntKind.i64 fun j =>
 (S.at' x4 j).2.2.2.2.1,
 Col.int IntKind.i64 fun j =>
 (S.at' x4 j).2.2.2.2.2.1,
 Col.int IntKind.i64 fun j =>
 (S.at' x4 j).2.2.2.2.2.2])), (3, (true, Blk.cols (List.length x5)
 [Col.int IntKind.i64 fun j => (S.at' x5 j).1,
 Col.int IntKind.i64 fun j => (S.at' x5 j).2.1,
 Col.int IntKind.i64 fun j => (S.at' x5 j).2.2.1,
 Col.int IntKind.i64 fun j => (S.at' x5 j).2.2.2.1,
 Col.int IntKind.i64 fun j =>
 (S.at' x5 j).2.2.2.2.1,
 Col.int IntKind.i64 fun j =>
 (S.at' x5 j).2.2.2.2.2.1,
 Col.int IntKind.i64 fun j =>
 (S.at' x5 j).2.2.2.2.2.2]))], [(0, (false, .cols ml [.int .i8 tl]))]], 4⟩
noncomputable def q9 (u1 u2 u3 u4 : Int) (al nl ml : Nat) (tl : Nat → Int) (by1 : Int) : St9 → Option (St9 ⊕ Rt9)
  | .h0 x0 x1 x2 x3 x4 x5 => bif (decide
 (x0 <
 (↑(List.length
 (S.mkl nl fun j =>
 (tl (j + al), (0 : Int), (3 : Int) * tl (j + al), (0 : Int), (0 : Int),
 if j % 4 = 3 then (2 : Int) else (-1 : Int), (↑(j % 3) : Int)))) :
 Int)))
 then (bif (decide ((0 : Int) ≤ x0 ∧ x0 < (↑(List.length x5) : Int)))
 then (bif (decide (Int.toNat x0 < List.length x5))
 then (bif (lim IntKind.i64 by1)
 then (bif (lim IntKind.i64 (by1 * ((1 : Int) + Int.tmod u3 (20 : Int))))
 then (bif (lim IntKind.i64 ((S.at' x5 (Int.toNat x0)).1 + by1 * ((1 : Int) + Int.tmod u3 (20 : Int))))
 then (bif (lim IntKind.i64
 ((S.at' x5 (Int.toNat x0)).2.2.1 + by1 * ((1 : Int) + Int.tmod u3 (20 : Int))))
 then (bif (lim IntKind.i64 (x0 + (1 : Int)))
 then (some (.inl (.h0 (x0 + (1 : Int)) (x1) (x2) (x3) (x4) (S.mkl (List.length x5) fun j =>
 (bif Nat.beq j (Int.toNat x0) then
 (S.at' x5 (Int.toNat x0)).1 + by1 * ((1 : Int) + Int.tmod u3 (20 : Int))
 else (S.at' x5 j).1,
 (S.at' x5 j).2.1,
 bif Nat.beq j (Int.toNat x0) then
 (S.at' x5 (Int.toNat x0)).2.2.1 + by1 * ((1 : Int) + Int.tmod u3 (20 : Int))
 else (S.at' x5 j).2.2.1,
 (S.at' x5 j).2.2.2.1,
 (S.at' x5 j).2.2.2.2.1,
 (S.at' x5 j).2.2.2.2.2.1,
 (S.at' x5 j).2.2.2.2.2.2)))))
 else (none))
 else (none))
 else (none))
 else (none))
 else (none))
 else (none))
 else (none))
 else (bif (decide (0 + List.length x4 ≤ List.length x4 ∧ List.length x4 ≤ 1000000))
 then (bif (decide (List.length x5 + 1 ≤ 1000000))
 then (bif (decide (List.length x5 ≤ List.length x5))
 then (bif (decide
 (0 + (List.length x5 + 1) ≤ List.length x5 + 1 ∧ List.length x5 + 1 ≤ 1000000))
 then (bif (Prod.snd
 (Prod.snd
 (Prod.snd
 (S.posS (1 : Int) (Int.tmod u1 (8 : Int)) x1 x2 ((1 : Int) + Int.tmod u3 (20 : Int))
 ((200 : Int) + (10 : Int) * u4) x3 (List.length x4) (fun j => (S.at' x4 j).1)
 (fun j => (S.at' x4 j).2.1)
 (fun j => (S.at' x4 j).2.2.1)
 (fun j => (S.at' x4 j).2.2.2.1)
 (fun j => (S.at' x4 j).2.2.2.2.1)
 (fun j => (S.at' x4 j).2.2.2.2.2.1)
 fun j => (S.at' x4 j).2.2.2.2.2.2))) !=
 (0 : Int))
 then (some (.inr (false)))
 else (bif (Prod.snd
 (Prod.snd
 (Prod.snd
 (S.posS (1 : Int) (Int.tmod u1 (8 : Int)) x1 x2 ((1 : Int) + Int.tmod u3 (20 : Int))
 ((200 : Int) + (10 : Int) * u4) x3 (List.length x5 + 1)
 (fun j => bif Nat.blt j (List.length x5) then (S.at' x5 j).1 else (100000 : Int))
 (fun j => bif Nat.blt j (List.length x5) then (S.at' x5 j).2.1 else (0 : Int))
 (fun j =>
 bif Nat.blt j (List.length x5) then (S.at' x5 j).2.2.1 else (-100000 : Int))
 (fun j =>
 bif Nat.blt j (List.length x5) then (S.at' x5 j).2.2.2.1
 else (0 : Int))
 (fun j =>
 bif Nat.blt j (List.length x5) then (S.at' x5 j).2.2.2.2.1
 else (0 : Int))
 (fun j =>
 bif Nat.blt j (List.length x5) then
 (S.at' x5 j).2.2.2.2.2.1
 else (0 : Int))
 fun j =>
 bif Nat.blt j (List.length x5) then
 (S.at' x5 j).2.2.2.2.2.2
 else (0 : Int)))) !=
 (0 : Int))
 then (some (.inr (false)))
 else (bif (Prod.fst
 (S.posS (1 : Int) (Int.tmod u1 (8 : Int)) x1 x2 ((1 : Int) + Int.tmod u3 (20 : Int))
 ((200 : Int) + (10 : Int) * u4) x3 (List.length x4) (fun j => (S.at' x4 j).1)
 (fun j => (S.at' x4 j).2.1)
 (fun j => (S.at' x4 j).2.2.1)
 (fun j => (S.at' x4 j).2.2.2.1)
 (fun j => (S.at' x4 j).2.2.2.2.1)
 (fun j => (S.at' x4 j).2.2.2.2.2.1)
 fun j => (S.at' x4 j).2.2.2.2.2.2) !=
 Prod.fst
 (S.posS (1 : Int) (Int.tmod u1 (8 : Int)) x1 x2 ((1 : Int) + Int.tmod u3 (20 : Int))
 ((200 : Int) + (10 : Int) * u4) x3 (List.length x5 + 1)
 (fun j => bif Nat.blt j (List.length x5) then (S.at' x5 j).1 else (100000 : Int))
 (fun j => bif Nat.blt j (List.length x5) then (S.at' x5 j).2.1 else (0 : Int))
 (fun j =>
 bif Nat.blt j (List.length x5) then (S.at' x5 j).2.2.1 else (-100000 : Int))
 (fun j =>
 bif Nat.blt j (List.length x5) then (S.at' x5 j).2.2.2.1 else (0 : Int))
 (fun j =>
 bif Nat.blt j (List.length x5) then (S.at' x5 j).2.2.2.2.1
 else (0 : Int))
 (fun j =>
 bif Nat.blt j (List.length x5) then
 (S.at' x5 j).2.2.2.2.2.1
 else (0 : Int))
 fun j =>
 bif Nat.blt j (List.length x5) then
 (S.at' x5 j).2.2.2.2.2.2
 else (0 : Int)))
 then (some (.inr (false)))
 else (bif (Prod.fst
 (Prod.snd
 (Prod.snd
 (S.posS (1 : Int) (Int.tmod u1 (8 : Int)) x1 x2 ((1 : Int) + Int.tmod u3 (20 : Int))
 ((200 : Int) + (10 : Int) * u4) x3 (List.length x4) (fun j => (S.at' x4 j).1)
 (fun j => (S.at' x4 j).2.1)
 (fun j => (S.at' x4 j).2.2.1)
 (fun j => (S.at' x4 j).2.2.2.1)
 (fun j => (S.at' x4 j).2.2.2.2.1)
 (fun j => (S.at' x4 j).2.2.2.2.2.1)
 fun j => (S.at' x4 j).2.2.2.2.2.2))))
 then (bif (Prod.fst
 (Prod.snd
 (Prod.snd
 (S.posS (1 : Int) (Int.tmod u1 (8 : Int)) x1 x2 ((1 : Int) + Int.tmod u3 (20 : Int))
 ((200 : Int) + (10 : Int) * u4) x3 (List.length x5 + 1)
 (fun j => bif Nat.blt j (List.length x5) then (S.at' x5 j).1 else (100000 : Int))
 (fun j => bif Nat.blt j (List.length x5) then (S.at' x5 j).2.1 else (0 : Int))
 (fun j =>
 bif Nat.blt j (List.length x5) then (S.at' x5 j).2.2.1 else (-100000 : Int))
 (fun j =>
 bif Nat.blt j (List.length x5) then (S.at' x5 j).2.2.2.1
 else (0 : Int))
 (fun j =>
 bif Nat.blt j (List.length x5) then (S.at' x5 j).2.2.2.2.1
 else (0 : Int))
 (fun j =>
 bif Nat.blt j (List.length x5) then
 (S.at' x5 j).2.2.2.2.2.1
 else (0 : Int))
 fun j =>
 bif Nat.blt j (List.length x5) then
 (S.at' x5 j).2.2.2.2.2.2
 else (0 : Int)))))
 then (bif (lim IntKind.i64 by1)
 then (bif (lim IntKind.i64 (by1 * ((1 : Int) + Int.tmod u3 (20 : Int))))
 then (bif (lim IntKind.i64
 (Prod.fst
 (Prod.snd
 (S.posS (1 : Int) (Int.tmod u1 (8 : Int)) x1 x2 ((1 : Int) + Int.tmod u3 (20 : Int))
 ((200 : Int) + (10 : Int) * u4) x3 (List.length x4) (fun j => (S.at' x4 j).1)
 (fun j => (S.at' x4 j).2.1)
 (fun j => (S.at' x4 j).2.2.1)
 (fun j => (S.at' x4 j).2.2.2.1)
 (fun j => (S.at' x4 j).2.2.2.2.1)
 (fun j => (S.at' x4 j).2.2.2.2.2.1)
 fun j => (S.at' x4 j).2.2.2.2.2.2)) +
 by1 * ((1 : Int) + Int.tmod u3 (20 : Int))))
 then (bif (Prod.fst
 (Prod.snd
 (S.posS (1 : Int) (Int.tmod u1 (8 : Int)) x1 x2 ((1 : Int) + Int.tmod u3 (20 : Int))
 ((200 : Int) + (10 : Int) * u4) x3 (List.length x5 + 1)
 (fun j => bif Nat.blt j (List.length x5) then (S.at' x5 j).1 else (100000 : Int))
 (fun j => bif Nat.blt j (List.length x5) then (S.at' x5 j).2.1 else (0 : Int))
 (fun j =>
 bif Nat.blt j (List.length x5) then (S.at' x5 j).2.2.1 else (-100000 : Int))
 (fun j =>
 bif Nat.blt j (List.length x5) then (S.at' x5 j).2.2.2.1
 else (0 : Int))
 (fun j =>
 bif Nat.blt j (List.length x5) then (S.at' x5 j).2.2.2.2.1
 else (0 : Int))
 (fun j =>
 bif Nat.blt j (List.length x5) then
 (S.at' x5 j).2.2.2.2.2.1
 else (0 : Int))
 fun j =>
 bif Nat.blt j (List.length x5) then
 (S.at' x5 j).2.2.2.2.2.2
 else (0 : Int))) ==
 Prod.fst
 (Prod.snd
 (S.posS (1 : Int) (Int.tmod u1 (8 : Int)) x1 x2 ((1 : Int) + Int.tmod u3 (20 : Int))
 ((200 : Int) + (10 : Int) * u4) x3 (List.length x4) (fun j => (S.at' x4 j).1)
 (fun j => (S.at' x4 j).2.1)
 (fun j => (S.at' x4 j).2.2.1)
 (fun j => (S.at' x4 j).2.2.2.1)
 (fun j => (S.at' x4 j).2.2.2.2.1)
 (fun j => (S.at' x4 j).2.2.2.2.2.1)
 fun j => (S.at' x4 j).2.2.2.2.2.2)) +
 by1 * ((1 : Int) + Int.tmod u3 (20 : Int)))
 then (some (.inr (true)))
 else (some (.inr (false))))
 else (none))
 else (none))
 else (none))
 else (bif ((↑nl : Int) == (0 : Int))
 then (some (.inr (true)))
 else (bif (lim IntKind.i64 by1)
 then (bif (lim IntKind.i64 (by1 * ((1 : Int) + Int.tmod u3 (20 : Int))))
 then (bif (lim IntKind.i64
 (Prod.fst
 (Prod.snd
 (S.posS (1 : Int) (Int.tmod u1 (8 : Int)) x1 x2 ((1 : Int) + Int.tmod u3 (20 : Int))
 ((200 : Int) + (10 : Int) * u4) x3 (List.length x4) (fun j => (S.at' x4 j).1)
 (fun j => (S.at' x4 j).2.1)
 (fun j => (S.at' x4 j).2.2.1)
 (fun j => (S.at' x4 j).2.2.2.1)
 (fun j => (S.at' x4 j).2.2.2.2.1)
 (fun j => (S.at' x4 j).2.2.2.2.2.1)
 fun j => (S.at' x4 j).2.2.2.2.2.2)) +
 by1 * ((1 : Int) + Int.tmod u3 (20 : Int))))
 then (bif (decide
 (Prod.fst
 (Prod.snd
 (S.posS (1 : Int) (Int.tmod u1 (8 : Int)) x1 x2 ((1 : Int) + Int.tmod u3 (20 : Int))
 ((200 : Int) + (10 : Int) * u4) x3 (List.length x4) (fun j => (S.at' x4 j).1)
 (fun j => (S.at' x4 j).2.1)
 (fun j => (S.at' x4 j).2.2.1)
 (fun j => (S.at' x4 j).2.2.2.1)
 (fun j => (S.at' x4 j).2.2.2.2.1)
 (fun j => (S.at' x4 j).2.2.2.2.2.1)
 fun j => (S.at' x4 j).2.2.2.2.2.2)) +
 by1 * ((1 : Int) + Int.tmod u3 (20 : Int)) >
 (200 : Int) + (10 : Int) * u4))
 then (some (.inr (true)))
 else (bif (lim IntKind.i64 (-((200 : Int) + (10 : Int) * u4)))
 then (bif (decide
 (Prod.fst
 (Prod.snd
 (S.posS (1 : Int) (Int.tmod u1 (8 : Int)) x1 x2 ((1 : Int) + Int.tmod u3 (20 : Int))
 ((200 : Int) + (10 : Int) * u4) x3 (List.length x4) (fun j => (S.at' x4 j).1)
 (fun j => (S.at' x4 j).2.1)
 (fun j => (S.at' x4 j).2.2.1)
 (fun j => (S.at' x4 j).2.2.2.1)
 (fun j => (S.at' x4 j).2.2.2.2.1)
 (fun j => (S.at' x4 j).2.2.2.2.2.1)
 fun j => (S.at' x4 j).2.2.2.2.2.2)) +
 by1 * ((1 : Int) + Int.tmod u3 (20 : Int)) <
 -((200 : Int) + (10 : Int) * u4)))
 then (some (.inr (true)))
 else (some (.inr (false))))
 else (none)))
 else (none))
 else (none))
 else (none))))
 else (bif ((↑nl : Int) == (0 : Int))
 then (some (.inr (true)))
 else (some (.inr (true))))))))
 else (none))
 else (none))
 else (none))
 else (none))
noncomputable def p9 (u1 u2 u3 u4 : Int) (al nl ml : Nat) (tl : Nat → Int) (by1 : Int) : Option (St9 ⊕ Rt9) := bif (decide ((↑nl : Int) > (20 : Int)))
 then (some (.inr (true)))
 else (bif (lim IntKind.i64 u1)
 then (bif (lim IntKind.i64 u3)
 then (bif (lim IntKind.i64 ((1 : Int) + Int.tmod u3 (20 : Int)))
 then (bif (lim IntKind.i64 u4)
 then (bif (lim IntKind.i64 ((10 : Int) * u4))
 then (bif (lim IntKind.i64 ((200 : Int) + (10 : Int) * u4))
 then (bif (lim IntKind.i64 u2)
 then (bif (lim IntKind.i64 ((1 : Int) + Int.tmod u2 (2 : Int)))
 then (bif (lim IntKind.i64 (Int.tmod u3 (7 : Int) - (3 : Int)))
 then (bif (decide (al + nl ≤ ml ∧ nl ≤ 1000 ∧ S.i8B (fun j => tl (j + al)) nl = true))
 then (some (.inl (.h0 ((0 : Int)) ((1 : Int) + Int.tmod u2 (2 : Int)) (Int.tmod u3 (7 : Int) - (3 : Int)) ((0 : Int)) (S.mkl nl fun j =>
 (tl (j + al), (0 : Int), (3 : Int) * tl (j + al), (0 : Int), (0 : Int),
 if j % 4 = 3 then (2 : Int) else (-1 : Int), (↑(j % 3) : Int))) (S.mkl nl fun j =>
 (tl (j + al), (0 : Int), (3 : Int) * tl (j + al), (0 : Int), (0 : Int),
 if j % 4 = 3 then (2 : Int) else (-1 : Int), (↑(j % 3) : Int))))))
 else (none))
 else (none))
 else (none))
 else (none))
 else (none))
 else (none))
 else (none))
 else (none))
 else (none))
 else (none))
noncomputable def Te9 (test : Bool → Prop → Prop → Prop) (Kst : KS) (Kret : KR) (u1 u2 u3 u4 : Int) (al nl ml : Nat) (tl : Nat → Int) (by1 : Int) : Prop :=
  test (true)
 (test (true)
 (test (decide ((↑nl : Int) > (20 : Int)))
 (test (true)
 (test (true)
 (Kret (PV.tf true) ([[(0, false, Blk.cols ml [Col.int IntKind.i8 tl])]]) (4))
 (Kret (PV.tf false) ([[(0, false, Blk.cols ml [Col.int IntKind.i8 tl])]]) (4)))
 (False))
 (test (true)
 (test (true)
 (test (true)
 (test (true)
 (test (true)
 (test (false)
 (False)
 (test (true)
 (test (lim IntKind.i64 u1)
 (test (false)
 (False)
 (test (lim IntKind.i64 u3)
 (test (false)
 (False)
 (test (lim IntKind.i64 ((1 : Int) + Int.tmod u3 (20 : Int)))
 (test (lim IntKind.i64 u4)
 (test (lim IntKind.i64 ((10 : Int) * u4))
 (test (lim IntKind.i64 ((200 : Int) + (10 : Int) * u4))
 (test (true)
 (test (lim IntKind.i64 u2)
 (test (false)
 (False)
 (test (lim IntKind.i64 ((1 : Int) + Int.tmod u2 (2 : Int)))
 (test (lim IntKind.i64 u3)
 (test (false)
 (False)
 (test (lim IntKind.i64 (Int.tmod u3 (7 : Int) - (3 : Int)))
 (test (decide (al + nl ≤ ml ∧ nl ≤ 1000 ∧ S.i8B (fun j => tl (j + al)) nl = true))
 (test (decide (al + nl ≤ ml ∧ nl ≤ 1000 ∧ S.i8B (fun j => tl (j + al)) nl = true))
 (Kst (hd Try.f9 0) ([PV.loose (PA.mk (0) (1) al (0)) nl, PV.int IntKind.i8 by1,
 PV.ptr (PA.mk (5) (0) (0) (0)),
 PV.own (7) (7)
 (List.length
 (S.mkl nl fun j =>
 (tl (j + al), (0 : Int), (3 : Int) * tl (j + al), (0 : Int), (0 : Int),
 if j % 4 = 3 then (2 : Int) else (-1 : Int), (↑(j % 3) : Int)))),
 PV.own (9) (7)
 (List.length
 (S.mkl nl fun j =>
 (tl (j + al), (0 : Int), (3 : Int) * tl (j + al), (0 : Int), (0 : Int),
 if j % 4 = 3 then (2 : Int) else (-1 : Int), (↑(j % 3) : Int)))),
 PV.int IntKind.i64
 (↑(List.length
 (S.mkl nl fun j =>
 (tl (j + al), (0 : Int), (3 : Int) * tl (j + al), (0 : Int), (0 : Int),
 if j % 4 = 3 then (2 : Int) else (-1 : Int), (↑(j % 3) : Int)))) :
 Int),
 PV.int IntKind.i64 (0 : Int)]) ([[(0, false, Blk.cols ml [Col.int IntKind.i8 tl]),
 (9, true,
 Blk.cols
 (List.length
 (S.mkl nl fun j =>
 (tl (j + al), (0 : Int), (3 : Int) * tl (j + al), (0 : Int), (0 : Int),
 if j % 4 = 3 then (2 : Int) else (-1 : Int), (↑(j % 3) : Int))))
 [Col.int IntKind.i64 fun j =>
 Prod.fst
 (S.at'
 (S.mkl nl fun j =>
 (tl (j + al), (0 : Int), (3 : Int) * tl (j + al), (0 : Int), (0 : Int),
 if j % 4 = 3 then (2 : Int) else (-1 : Int), (↑(j % 3) : Int)))
 j),
 Col.int IntKind.i64 fun j =>
 Prod.fst
 (Prod.snd
 (S.at'
 (S.mkl nl fun j =>
 (tl (j + al), (0 : Int), (3 : Int) * tl (j + al), (0 : Int), (0 : Int),
 if j % 4 = 3 then (2 : Int) else (-1 : Int), (↑(j % 3) : Int)))
 j)),
 Col.int IntKind.i64 fun j =>
 Prod.fst
 (Prod.snd
 (Prod.snd
 (S.at'
 (S.mkl nl fun j =>
 (tl (j + al), (0 : Int), (3 : Int) * tl (j + al), (0 : Int), (0 : Int),
 if j % 4 = 3 then (2 : Int) else (-1 : Int), (↑(j % 3) : Int)))
 j))),
 Col.int IntKind.i64 fun j =>
 Prod.fst
 (Prod.snd
 (Prod.snd
 (Prod.snd
 (S.at'
 (S.mkl nl fun j =>
 (tl (j + al), (0 : Int), (3 : Int) * tl (j + al), (0 : Int), (0 : Int),
 if j % 4 = 3 then (2 : Int) else (-1 : Int), (↑(j % 3) : Int)))
 j)))),
 Col.int IntKind.i64 fun j =>
 Prod.fst
 (Prod.snd
 (Prod.snd
 (Prod.snd
 (Prod.snd
 (S.at'
 (S.mkl nl fun j =>
 (tl (j + al), (0 : Int), (3 : Int) * tl (j + al), (0 : Int), (0 : Int),
 if j % 4 = 3 then (2 : Int) else (-1 : Int), (↑(j % 3) : Int)))
 j))))),
 Col.int IntKind.i64 fun j =>
 Prod.fst
 (Prod.snd
 (Prod.snd
 (Prod.snd
 (Prod.snd
 (Prod.snd
 (S.at'
 (S.mkl nl fun j =>
 (tl (j + al), (0 : Int), (3 : Int) * tl (j + al), (0 : Int), (0 : Int),
 if j % 4 = 3 then (2 : Int) else (-1 : Int), (↑(j % 3) : Int)))
 j)))))),
 Col.int IntKind.i64 fun j =>
 Prod.snd
 (Prod.snd
 (Prod.snd
 (Prod.snd
 (Prod.snd
 (Prod.snd
 (S.at'
 (S.mkl nl fun j =>
 (tl (j + al), (0 : Int), (3 : Int) * tl (j + al), (0 : Int), (0 : Int),
 if j % 4 = 3 then (2 : Int) else (-1 : Int), (↑(j % 3) : Int)))
 j))))))]),
 (7, true,
 Blk.cols
 (List.length
 (S.mkl nl fun j =>
 (tl (j + al), (0 : Int), (3 : Int) * tl (j + al), (0 : Int), (0 : Int),
 if j % 4 = 3 then (2 : Int) else (-1 : Int), (↑(j % 3) : Int))))
 [Col.int IntKind.i64 fun j =>
 Prod.fst
 (S.at'
 (S.mkl nl fun j =>
 (tl (j + al), (0 : Int), (3 : Int) * tl (j + al), (0 : Int), (0 : Int),
 if j % 4 = 3 then (2 : Int) else (-1 : Int), (↑(j % 3) : Int)))
 j),
 Col.int IntKind.i64 fun j =>
 Prod.fst
 (Prod.snd
 (S.at'
 (S.mkl nl fun j =>
 (tl (j + al), (0 : Int), (3 : Int) * tl (j + al), (0 : Int), (0 : Int),
 if j % 4 = 3 then (2 : Int) else (-1 : Int), (↑(j % 3) : Int)))
 j)),
 Col.int IntKind.i64 fun j =>
 Prod.fst
 (Prod.snd
 (Prod.snd
 (S.at'
 (S.mkl nl fun j =>
 (tl (j + al), (0 : Int), (3 : Int) * tl (j + al), (0 : Int), (0 : Int),
 if j % 4 = 3 then (2 : Int) else (-1 : Int), (↑(j % 3) : Int)))
 j))),
 Col.int IntKind.i64 fun j =>
 Prod.fst
 (Prod.snd
 (Prod.snd
 (Prod.snd
 (S.at'
 (S.mkl nl fun j =>
 (tl (j + al), (0 : Int), (3 : Int) * tl (j + al), (0 : Int), (0 : Int),
 if j % 4 = 3 then (2 : Int) else (-1 : Int), (↑(j % 3) : Int)))
 j)))),
 Col.int IntKind.i64 fun j =>
 Prod.fst
 (Prod.snd
 (Prod.snd
 (Prod.snd
 (Prod.snd
 (S.at'
 (S.mkl nl fun j =>
 (tl (j + al), (0 : Int), (3 : Int) * tl (j + al), (0 : Int), (0 : Int),
 if j % 4 = 3 then (2 : Int) else (-1 : Int), (↑(j % 3) : Int)))
 j))))),
 Col.int IntKind.i64 fun j =>
 Prod.fst
 (Prod.snd
 (Prod.snd
 (Prod.snd
 (Prod.snd
 (Prod.snd
 (S.at'
 (S.mkl nl fun j =>
 (tl (j + al), (0 : Int), (3 : Int) * tl (j + al), (0 : Int), (0 : Int),
 if j % 4 = 3 then (2 : Int) else (-1 : Int), (↑(j % 3) : Int)))
 j)))))),
 Col.int IntKind.i64 fun j =>
 Prod.snd
 (Prod.snd
 (Prod.snd
 (Prod.snd
 (Prod.snd
 (Prod.snd
 (S.at'
 (S.mkl nl fun j =>
 (tl (j + al), (0 : Int), (3 : Int) * tl (j + al), (0 : Int), (0 : Int),
 if j % 4 = 3 then (2 : Int) else (-1 : Int), (↑(j % 3) : Int)))
 j))))))]),
 (5, true,
 Blk.cells
 [PV.int IntKind.i64 (1 : Int), PV.int IntKind.i64 (Int.tmod u1 (8 : Int)),
 PV.int IntKind.i64 ((1 : Int) + Int.tmod u2 (2 : Int)),
 PV.int IntKind.i64 (Int.tmod u3 (7 : Int) - (3 : Int)),
 PV.int IntKind.i64 ((1 : Int) + Int.tmod u3 (20 : Int)),
 PV.int IntKind.i64 ((200 : Int) + (10 : Int) * u4), PV.int IntKind.i64 (0 : Int)])]]) (10))
 (False))
 (False))
 (False)))
 (False))
 (False)))
 (False))
 (test (false)
 (test (lim IntKind.i64 u4)
 (test (false)
 (False)
 (test (decide (al + nl ≤ ml ∧ nl ≤ 1000 ∧ S.i8B (fun j => tl (j + al)) nl = true))
 (test (decide (al + nl ≤ ml ∧ nl ≤ 1000 ∧ S.i8B (fun j => tl (j + al)) nl = true))
 (Kst (hd Try.f9 0) ([PV.loose (PA.mk (0) (1) al (0)) nl, PV.int IntKind.i8 by1,
 PV.ptr (PA.mk (5) (0) (0) (0)),
 PV.own (7) (7)
 (List.length
 (S.mkl nl fun j =>
 (tl (j + al), (0 : Int), (3 : Int) * tl (j + al), (0 : Int), (0 : Int),
 if j % 4 = 3 then (2 : Int) else (-1 : Int), (↑(j % 3) : Int)))),
 PV.own (9) (7)
 (List.length
 (S.mkl nl fun j =>
 (tl (j + al), (0 : Int), (3 : Int) * tl (j + al), (0 : Int), (0 : Int),
 if j % 4 = 3 then (2 : Int) else (-1 : Int), (↑(j % 3) : Int)))),
 PV.int IntKind.i64
 (↑(List.length
 (S.mkl nl fun j =>
 (tl (j + al), (0 : Int), (3 : Int) * tl (j + al), (0 : Int), (0 : Int),
 if j % 4 = 3 then (2 : Int) else (-1 : Int), (↑(j % 3) : Int)))) :
 Int),
 PV.int IntKind.i64 (0 : Int)]) ([[(0, false, Blk.cols ml [Col.int IntKind.i8 tl]),
 (9, true,
 Blk.cols
 (List.length
 (S.mkl nl fun j =>
 (tl (j + al), (0 : Int), (3 : Int) * tl (j + al), (0 : Int), (0 : Int),
 if j % 4 = 3 then (2 : Int) else (-1 : Int), (↑(j % 3) : Int))))
 [Col.int IntKind.i64 fun j =>
 Prod.fst
 (S.at'
 (S.mkl nl fun j =>
 (tl (j + al), (0 : Int), (3 : Int) * tl (j + al), (0 : Int), (0 : Int),
 if j % 4 = 3 then (2 : Int) else (-1 : Int), (↑(j % 3) : Int)))
 j),
 Col.int IntKind.i64 fun j =>
 Prod.fst
 (Prod.snd
 (S.at'
 (S.mkl nl fun j =>
 (tl (j + al), (0 : Int), (3 : Int) * tl (j + al), (0 : Int), (0 : Int),
 if j % 4 = 3 then (2 : Int) else (-1 : Int), (↑(j % 3) : Int)))
 j)),
 Col.int IntKind.i64 fun j =>
 Prod.fst
 (Prod.snd
 (Prod.snd
 (S.at'
 (S.mkl nl fun j =>
 (tl (j + al), (0 : Int), (3 : Int) * tl (j + al), (0 : Int), (0 : Int),
 if j % 4 = 3 then (2 : Int) else (-1 : Int), (↑(j % 3) : Int)))
 j))),
 Col.int IntKind.i64 fun j =>
 Prod.fst
 (Prod.snd
 (Prod.snd
 (Prod.snd
 (S.at'
 (S.mkl nl fun j =>
 (tl (j + al), (0 : Int), (3 : Int) * tl (j + al), (0 : Int), (0 : Int),
 if j % 4 = 3 then (2 : Int) else (-1 : Int), (↑(j % 3) : Int)))
 j)))),
 Col.int IntKind.i64 fun j =>
 Prod.fst
 (Prod.snd
 (Prod.snd
 (Prod.snd
 (Prod.snd
 (S.at'
 (S.mkl nl fun j =>
 (tl (j + al), (0 : Int), (3 : Int) * tl (j + al), (0 : Int), (0 : Int),
 if j % 4 = 3 then (2 : Int) else (-1 : Int), (↑(j % 3) : Int)))
 j))))),
 Col.int IntKind.i64 fun j =>
 Prod.fst
 (Prod.snd
 (Prod.snd
 (Prod.snd
 (Prod.snd
 (Prod.snd
 (S.at'
 (S.mkl nl fun j =>
 (tl (j + al), (0 : Int), (3 : Int) * tl (j + al), (0 : Int), (0 : Int),
 if j % 4 = 3 then (2 : Int) else (-1 : Int), (↑(j % 3) : Int)))
 j)))))),
 Col.int IntKind.i64 fun j =>
 Prod.snd
 (Prod.snd
 (Prod.snd
 (Prod.snd
 (Prod.snd
 (Prod.snd
 (S.at'
 (S.mkl nl fun j =>
 (tl (j + al), (0 : Int), (3 : Int) * tl (j + al), (0 : Int), (0 : Int),
 if j % 4 = 3 then (2 : Int) else (-1 : Int), (↑(j % 3) : Int)))
 j))))))]),
 (7, true,
 Blk.cols
 (List.length
 (S.mkl nl fun j =>
 (tl (j + al), (0 : Int), (3 : Int) * tl (j + al), (0 : Int), (0 : Int),
 if j % 4 = 3 then (2 : Int) else (-1 : Int), (↑(j % 3) : Int))))
 [Col.int IntKind.i64 fun j =>
 Prod.fst
 (S.at'
 (S.mkl nl fun j =>
 (tl (j + al), (0 : Int), (3 : Int) * tl (j + al), (0 : Int), (0 : Int),
 if j % 4 = 3 then (2 : Int) else (-1 : Int), (↑(j % 3) : Int)))
 j),
 Col.int IntKind.i64 fun j =>
 Prod.fst
 (Prod.snd
 (S.at'
 (S.mkl nl fun j =>
 (tl (j + al), (0 : Int), (3 : Int) * tl (j + al), (0 : Int), (0 : Int),
 if j % 4 = 3 then (2 : Int) else (-1 : Int), (↑(j % 3) : Int)))
 j)),
 Col.int IntKind.i64 fun j =>
 Prod.fst
 (Prod.snd
 (Prod.snd
 (S.at'
 (S.mkl nl fun j =>
 (tl (j + al), (0 : Int), (3 : Int) * tl (j + al), (0 : Int), (0 : Int),
 if j % 4 = 3 then (2 : Int) else (-1 : Int), (↑(j % 3) : Int)))
 j))),
 Col.int IntKind.i64 fun j =>
 Prod.fst
 (Prod.snd
 (Prod.snd
 (Prod.snd
 (S.at'
 (S.mkl nl fun j =>
 (tl (j + al), (0 : Int), (3 : Int) * tl (j + al), (0 : Int), (0 : Int),
 if j % 4 = 3 then (2 : Int) else (-1 : Int), (↑(j % 3) : Int)))
 j)))),
 Col.int IntKind.i64 fun j =>
 Prod.fst
 (Prod.snd
 (Prod.snd
 (Prod.snd
 (Prod.snd
 (S.at'
 (S.mkl nl fun j =>
 (tl (j + al), (0 : Int), (3 : Int) * tl (j + al), (0 : Int), (0 : Int),
 if j % 4 = 3 then (2 : Int) else (-1 : Int), (↑(j % 3) : Int)))
 j))))),
 Col.int IntKind.i64 fun j =>
 Prod.fst
 (Prod.snd
 (Prod.snd
 (Prod.snd
 (Prod.snd
 (Prod.snd
 (S.at'
 (S.mkl nl fun j =>
 (tl (j + al), (0 : Int), (3 : Int) * tl (j + al), (0 : Int), (0 : Int),
 if j % 4 = 3 then (2 : Int) else (-1 : Int), (↑(j % 3) : Int)))
 j)))))),
 Col.int IntKind.i64 fun j =>
 Prod.snd
 (Prod.snd
 (Prod.snd
 (Prod.snd
 (Prod.snd
 (Prod.snd
 (S.at'
 (S.mkl nl fun j =>
 (tl (j + al), (0 : Int), (3 : Int) * tl (j + al), (0 : Int), (0 : Int),
 if j % 4 = 3 then (2 : Int) else (-1 : Int), (↑(j % 3) : Int)))
 j))))))]),
 (5, true,
 Blk.cells
 [PV.int IntKind.i64 (1 : Int), PV.int IntKind.i64 (Int.tmod u1 (8 : Int)),
 PV.int IntKind.i64 (0 : Int), PV.int IntKind.i64 (0 : Int),
 PV.int IntKind.i64 ((1 : Int) + Int.tmod u3 (20 : Int)),
 PV.int IntKind.i64 ((200 : Int) + (10 : Int) * u4),
 PV.int IntKind.i64 (Int.tmod u4 (4 : Int))])]]) (10))
 (False))
 (False)))
 (False))
 (test (false)
 (test (lim IntKind.i64 u3)
 (test (false)
 (False)
 (test (lim IntKind.i64 (Int.tmod u3 (7 : Int) - (3 : Int)))
 (test (decide (al + nl ≤ ml ∧ nl ≤ 1000 ∧ S.i8B (fun j => tl (j + al)) nl = true))
 (test (decide (al + nl ≤ ml ∧ nl ≤ 1000 ∧ S.i8B (fun j => tl (j + al)) nl = true))
 (Kst (hd Try.f9 0) ([PV.loose (PA.mk (0) (1) al (0)) nl, PV.int IntKind.i8 by1,
 PV.ptr (PA.mk (5) (0) (0) (0)),
 PV.own (7) (7)
 (List.length
 (S.mkl nl fun j =>
 (tl (j + al), (0 : Int), (3 : Int) * tl (j + al), (0 : Int), (0 : Int),
 if j % 4 = 3 then (2 : Int) else (-1 : Int), (↑(j % 3) : Int)))),
 PV.own (9) (7)
 (List.length
 (S.mkl nl fun j =>
 (tl (j + al), (0 : Int), (3 : Int) * tl (j + al), (0 : Int), (0 : Int),
 if j % 4 = 3 then (2 : Int) else (-1 : Int), (↑(j % 3) : Int)))),
 PV.int IntKind.i64
 (↑(List.length
 (S.mkl nl fun j =>
 (tl (j + al), (0 : Int), (3 : Int) * tl (j + al), (0 : Int), (0 : Int),
 if j % 4 = 3 then (2 : Int) else (-1 : Int), (↑(j % 3) : Int)))) :
 Int),
 PV.int IntKind.i64 (0 : Int)]) ([[(0, false, Blk.cols ml [Col.int IntKind.i8 tl]),
 (9, true,
 Blk.cols
 (List.length
 (S.mkl nl fun j =>
 (tl (j + al), (0 : Int), (3 : Int) * tl (j + al), (0 : Int), (0 : Int),
 if j % 4 = 3 then (2 : Int) else (-1 : Int), (↑(j % 3) : Int))))
 [Col.int IntKind.i64 fun j =>
 Prod.fst
 (S.at'
 (S.mkl nl fun j =>
 (tl (j + al), (0 : Int), (3 : Int) * tl (j + al), (0 : Int), (0 : Int),
 if j % 4 = 3 then (2 : Int) else (-1 : Int), (↑(j % 3) : Int)))
 j),
 Col.int IntKind.i64 fun j =>
 Prod.fst
 (Prod.snd
 (S.at'
 (S.mkl nl fun j =>
 (tl (j + al), (0 : Int), (3 : Int) * tl (j + al), (0 : Int), (0 : Int),
 if j % 4 = 3 then (2 : Int) else (-1 : Int), (↑(j % 3) : Int)))
 j)),
 Col.int IntKind.i64 fun j =>
 Prod.fst
 (Prod.snd
 (Prod.snd
 (S.at'
 (S.mkl nl fun j =>
 (tl (j + al), (0 : Int), (3 : Int) * tl (j + al), (0 : Int), (0 : Int),
 if j % 4 = 3 then (2 : Int) else (-1 : Int), (↑(j % 3) : Int)))
 j))),
 Col.int IntKind.i64 fun j =>
 Prod.fst
 (Prod.snd
 (Prod.snd
 (Prod.snd
 (S.at'
 (S.mkl nl fun j =>
 (tl (j + al), (0 : Int), (3 : Int) * tl (j + al), (0 : Int), (0 : Int),
 if j % 4 = 3 then (2 : Int) else (-1 : Int), (↑(j % 3) : Int)))
 j)))),
 Col.int IntKind.i64 fun j =>
 Prod.fst
 (Prod.snd
 (Prod.snd
 (Prod.snd
 (Prod.snd
 (S.at'
 (S.mkl nl fun j =>
 (tl (j + al), (0 : Int), (3 : Int) * tl (j + al), (0 : Int), (0 : Int),
 if j % 4 = 3 then (2 : Int) else (-1 : Int), (↑(j % 3) : Int)))
 j))))),
 Col.int IntKind.i64 fun j =>
 Prod.fst
 (Prod.snd
 (Prod.snd
 (Prod.snd
 (Prod.snd
 (Prod.snd
 (S.at'
 (S.mkl nl fun j =>
 (tl (j + al), (0 : Int), (3 : Int) * tl (j + al), (0 : Int), (0 : Int),
 if j % 4 = 3 then (2 : Int) else (-1 : Int), (↑(j % 3) : Int)))
 j)))))),
 Col.int IntKind.i64 fun j =>
 Prod.snd
 (Prod.snd
 (Prod.snd
 (Prod.snd
 (Prod.snd
 (Prod.snd
 (S.at'
 (S.mkl nl fun j =>
 (tl (j + al), (0 : Int), (3 : Int) * tl (j + al), (0 : Int), (0 : Int),
 if j % 4 = 3 then (2 : Int) else (-1 : Int), (↑(j % 3) : Int)))
 j))))))]),
 (7, true,
 Blk.cols
 (List.length
 (S.mkl nl fun j =>
 (tl (j + al), (0 : Int), (3 : Int) * tl (j + al), (0 : Int), (0 : Int),
 if j % 4 = 3 then (2 : Int) else (-1 : Int), (↑(j % 3) : Int))))
 [Col.int IntKind.i64 fun j =>
 Prod.fst
 (S.at'
 (S.mkl nl fun j =>
 (tl (j + al), (0 : Int), (3 : Int) * tl (j + al), (0 : Int), (0 : Int),
 if j % 4 = 3 then (2 : Int) else (-1 : Int), (↑(j % 3) : Int)))
 j),
 Col.int IntKind.i64 fun j =>
 Prod.fst
 (Prod.snd
 (S.at'
 (S.mkl nl fun j =>
 (tl (j + al), (0 : Int), (3 : Int) * tl (j + al), (0 : Int), (0 : Int),
 if j % 4 = 3 then (2 : Int) else (-1 : Int), (↑(j % 3) : Int)))
 j)),
 Col.int IntKind.i64 fun j =>
 Prod.fst
 (Prod.snd
 (Prod.snd
 (S.at'
 (S.mkl nl fun j =>
 (tl (j + al), (0 : Int), (3 : Int) * tl (j + al), (0 : Int), (0 : Int),
 if j % 4 = 3 then (2 : Int) else (-1 : Int), (↑(j % 3) : Int)))
 j))),
 Col.int IntKind.i64 fun j =>
 Prod.fst
 (Prod.snd
 (Prod.snd
 (Prod.snd
 (S.at'
 (S.mkl nl fun j =>
 (tl (j + al), (0 : Int), (3 : Int) * tl (j + al), (0 : Int), (0 : Int),
 if j % 4 = 3 then (2 : Int) else (-1 : Int), (↑(j % 3) : Int)))
 j)))),
 Col.int IntKind.i64 fun j =>
 Prod.fst
 (Prod.snd
 (Prod.snd
 (Prod.snd
 (Prod.snd
 (S.at'
 (S.mkl nl fun j =>
 (tl (j + al), (0 : Int), (3 : Int) * tl (j + al), (0 : Int), (0 : Int),
 if j % 4 = 3 then (2 : Int) else (-1 : Int), (↑(j % 3) : Int)))
 j))))),
 Col.int IntKind.i64 fun j =>
 Prod.fst
 (Prod.snd
 (Prod.snd
 (Prod.snd
 (Prod.snd
 (Prod.snd
 (S.at'
 (S.mkl nl fun j =>
 (tl (j + al), (0 : Int), (3 : Int) * tl (j + al), (0 : Int), (0 : Int),
 if j % 4 = 3 then (2 : Int) else (-1 : Int), (↑(j % 3) : Int)))
 j)))))),
 Col.int IntKind.i64 fun j =>
 Prod.snd
 (Prod.snd
 (Prod.snd
 (Prod.snd
 (Prod.snd
 (Prod.snd
 (S.at'
 (S.mkl nl fun j =>
 (tl (j + al), (0 : Int), (3 : Int) * tl (j + al), (0 : Int), (0 : Int),
 if j % 4 = 3 then (2 : Int) else (-1 : Int), (↑(j % 3) : Int)))
 j))))))]),
 (5, true,
 Blk.cells
 [PV.int IntKind.i64 (1 : Int), PV.int IntKind.i64 (Int.tmod u1 (8 : Int)),
 PV.int IntKind.i64 (0 : Int), PV.int IntKind.i64 (Int.tmod u3 (7 : Int) - (3 : Int)),
 PV.int IntKind.i64 ((1 : Int) + Int.tmod u3 (20 : Int)),
 PV.int IntKind.i64 ((200 : Int) + (10 : Int) * u4), PV.int IntKind.i64 (0 : Int)])]]) (10))
 (False))
 (False))
 (False)))
 (False))
 (test (decide (al + nl ≤ ml ∧ nl ≤ 1000 ∧ S.i8B (fun j => tl (j + al)) nl = true))
 (test (decide (al + nl ≤ ml ∧ nl ≤ 1000 ∧ S.i8B (fun j => tl (j + al)) nl = true))
 (Kst (hd Try.f9 0) ([PV.loose (PA.mk (0) (1) al (0)) nl, PV.int IntKind.i8 by1,
 PV.ptr (PA.mk (5) (0) (0) (0)),
 PV.own (7) (7)
 (List.length
 (S.mkl nl fun j =>
 (tl (j + al), (0 : Int), (3 : Int) * tl (j + al), (0 : Int), (0 : Int),
 if j % 4 = 3 then (2 : Int) else (-1 : Int), (↑(j % 3) : Int)))),
 PV.own (9) (7)
 (List.length
 (S.mkl nl fun j =>
 (tl (j + al), (0 : Int), (3 : Int) * tl (j + al), (0 : Int), (0 : Int),
 if j % 4 = 3 then (2 : Int) else (-1 : Int), (↑(j % 3) : Int)))),
 PV.int IntKind.i64
 (↑(List.length
 (S.mkl nl fun j =>
 (tl (j + al), (0 : Int), (3 : Int) * tl (j + al), (0 : Int), (0 : Int),
 if j % 4 = 3 then (2 : Int) else (-1 : Int), (↑(j % 3) : Int)))) :
 Int),
 PV.int IntKind.i64 (0 : Int)]) ([[(0, false, Blk.cols ml [Col.int IntKind.i8 tl]),
 (9, true,
 Blk.cols
 (List.length
 (S.mkl nl fun j =>
 (tl (j + al), (0 : Int), (3 : Int) * tl (j + al), (0 : Int), (0 : Int),
 if j % 4 = 3 then (2 : Int) else (-1 : Int), (↑(j % 3) : Int))))
 [Col.int IntKind.i64 fun j =>
 Prod.fst
 (S.at'
 (S.mkl nl fun j =>
 (tl (j + al), (0 : Int), (3 : Int) * tl (j + al), (0 : Int), (0 : Int),
 if j % 4 = 3 then (2 : Int) else (-1 : Int), (↑(j % 3) : Int)))
 j),
 Col.int IntKind.i64 fun j =>
 Prod.fst
 (Prod.snd
 (S.at'
 (S.mkl nl fun j =>
 (tl (j + al), (0 : Int), (3 : Int) * tl (j + al), (0 : Int), (0 : Int),
 if j % 4 = 3 then (2 : Int) else (-1 : Int), (↑(j % 3) : Int)))
 j)),
 Col.int IntKind.i64 fun j =>
 Prod.fst
 (Prod.snd
 (Prod.snd
 (S.at'
 (S.mkl nl fun j =>
 (tl (j + al), (0 : Int), (3 : Int) * tl (j + al), (0 : Int), (0 : Int),
 if j % 4 = 3 then (2 : Int) else (-1 : Int), (↑(j % 3) : Int)))
 j))),
 Col.int IntKind.i64 fun j =>
 Prod.fst
 (Prod.snd
 (Prod.snd
 (Prod.snd
 (S.at'
 (S.mkl nl fun j =>
 (tl (j + al), (0 : Int), (3 : Int) * tl (j + al), (0 : Int), (0 : Int),
 if j % 4 = 3 then (2 : Int) else (-1 : Int), (↑(j % 3) : Int)))
 j)))),
 Col.int IntKind.i64 fun j =>
 Prod.fst
 (Prod.snd
 (Prod.snd
 (Prod.snd
 (Prod.snd
 (S.at'
 (S.mkl nl fun j =>
 (tl (j + al), (0 : Int), (3 : Int) * tl (j + al), (0 : Int), (0 : Int),
 if j % 4 = 3 then (2 : Int) else (-1 : Int), (↑(j % 3) : Int)))
 j))))),
 Col.int IntKind.i64 fun j =>
 Prod.fst
 (Prod.snd
 (Prod.snd
 (Prod.snd
 (Prod.snd
 (Prod.snd
 (S.at'
 (S.mkl nl fun j =>
 (tl (j + al), (0 : Int), (3 : Int) * tl (j + al), (0 : Int), (0 : Int),
 if j % 4 = 3 then (2 : Int) else (-1 : Int), (↑(j % 3) : Int)))
 j)))))),
 Col.int IntKind.i64 fun j =>
 Prod.snd
 (Prod.snd
 (Prod.snd
 (Prod.snd
 (Prod.snd
 (Prod.snd
 (S.at'
 (S.mkl nl fun j =>
 (tl (j + al), (0 : Int), (3 : Int) * tl (j + al), (0 : Int), (0 : Int),
 if j % 4 = 3 then (2 : Int) else (-1 : Int), (↑(j % 3) : Int)))
 j))))))]),
 (7, true,
 Blk.cols
 (List.length
 (S.mkl nl fun j =>
 (tl (j + al), (0 : Int), (3 : Int) * tl (j + al), (0 : Int), (0 : Int),
 if j % 4 = 3 then (2 : Int) else (-1 : Int), (↑(j % 3) : Int))))
 [Col.int IntKind.i64 fun j =>
 Prod.fst
 (S.at'
 (S.mkl nl fun j =>
 (tl (j + al), (0 : Int), (3 : Int) * tl (j + al), (0 : Int), (0 : Int),
 if j % 4 = 3 then (2 : Int) else (-1 : Int), (↑(j % 3) : Int)))
 j),
 Col.int IntKind.i64 fun j =>
 Prod.fst
 (Prod.snd
 (S.at'
 (S.mkl nl fun j =>
 (tl (j + al), (0 : Int), (3 : Int) * tl (j + al), (0 : Int), (0 : Int),
 if j % 4 = 3 then (2 : Int) else (-1 : Int), (↑(j % 3) : Int)))
 j)),
 Col.int IntKind.i64 fun j =>
 Prod.fst
 (Prod.snd
 (Prod.snd
 (S.at'
 (S.mkl nl fun j =>
 (tl (j + al), (0 : Int), (3 : Int) * tl (j + al), (0 : Int), (0 : Int),
 if j % 4 = 3 then (2 : Int) else (-1 : Int), (↑(j % 3) : Int)))
 j))),
 Col.int IntKind.i64 fun j =>
 Prod.fst
 (Prod.snd
 (Prod.snd
 (Prod.snd
 (S.at'
 (S.mkl nl fun j =>
 (tl (j + al), (0 : Int), (3 : Int) * tl (j + al), (0 : Int), (0 : Int),
 if j % 4 = 3 then (2 : Int) else (-1 : Int), (↑(j % 3) : Int)))
 j)))),
 Col.int IntKind.i64 fun j =>
 Prod.fst
 (Prod.snd
 (Prod.snd
 (Prod.snd
 (Prod.snd
 (S.at'
 (S.mkl nl fun j =>
 (tl (j + al), (0 : Int), (3 : Int) * tl (j + al), (0 : Int), (0 : Int),
 if j % 4 = 3 then (2 : Int) else (-1 : Int), (↑(j % 3) : Int)))
 j))))),
 Col.int IntKind.i64 fun j =>
 Prod.fst
 (Prod.snd
 (Prod.snd
 (Prod.snd
 (Prod.snd
 (Prod.snd
 (S.at'
 (S.mkl nl fun j =>
 (tl (j + al), (0 : Int), (3 : Int) * tl (j + al), (0 : Int), (0 : Int),
 if j % 4 = 3 then (2 : Int) else (-1 : Int), (↑(j % 3) : Int)))
 j)))))),
 Col.int IntKind.i64 fun j =>
 Prod.snd
 (Prod.snd
 (Prod.snd
 (Prod.snd
 (Prod.snd
 (Prod.snd
 (S.at'
 (S.mkl nl fun j =>
 (tl (j + al), (0 : Int), (3 : Int) * tl (j + al), (0 : Int), (0 : Int),
 if j % 4 = 3 then (2 : Int) else (-1 : Int), (↑(j % 3) : Int)))
 j))))))]),
 (5, true,
 Blk.cells
 [PV.int IntKind.i64 (1 : Int), PV.int IntKind.i64 (Int.tmod u1 (8 : Int)),
 PV.int IntKind.i64 (0 : Int), PV.int IntKind.i64 (0 : Int),
 PV.int IntKind.i64 ((1 : Int) + Int.tmod u3 (20 : Int)),
 PV.int IntKind.i64 ((200 : Int) + (10 : Int) * u4), PV.int IntKind.i64 (0 : Int)])]]) (10))
 (False))
 (False)))))
 (False))
 (False))
 (False))
 (False)))
 (False)))
 (False))
 (False)))
 (False))
 (False))
 (False))
 (False))
 (False)))
 (test (true)
 (test (true)
 (Kret (PV.tf true) ([[(0, false, Blk.cols ml [Col.int IntKind.i8 tl])]]) (4))
 (Kret (PV.tf false) ([[(0, false, Blk.cols ml [Col.int IntKind.i8 tl])]]) (4)))
 (False)))
 (False)
theorem te9 (test : Bool → Prop → Prop → Prop) (Kst : KS) (Kret : KR) (u1 u2 u3 u4 : Int) (al nl ml : Nat) (tl : Nat → Int) (by1 : Int) : run test Try.env true (xF test) true 400 ⟨9, [.cd (mkFn Try.f9).body], argT 0 [.agg [.int .u8 u1, .int .u8 u2, .int .u8 u3, .int .u8 u4], .loose ⟨0, 1, al, 0⟩ nl, .int .i8 by1], [[], [(0, (false, .cols ml [.int .i8 tl]))]], 1⟩ (proj 1 [1, 2, 7, 8, 9, 37, 38] Kst Kret) =
  Te9 test Kst Kret u1 u2 u3 u4 al nl ml tl by1 := by kernel_rfl
noncomputable def T9_0 (test : Bool → Prop → Prop → Prop) (Kst : KS) (Kret : KR) (u1 u2 u3 u4 : Int) (al nl ml : Nat) (tl : Nat → Int) (by1 x0 x1 x2 x3 : Int) (x4 : List (Int × Int × Int × Int × Int × Int × Int)) (x5 : List (Int × Int × Int × Int × Int × Int × Int)) : Prop :=
  test (decide
 (x0 <
 (↑(List.length
 (S.mkl nl fun j =>
 (tl (j + al), (0 : Int), (3 : Int) * tl (j + al), (0 : Int), (0 : Int),
 if j % 4 = 3 then (2 : Int) else (-1 : Int), (↑(j % 3) : Int)))) :
 Int)))
 (test (decide ((0 : Int) ≤ x0 ∧ x0 < (↑(List.length x5) : Int)))
 (test (decide (Int.toNat x0 < List.length x5))
 (test (lim IntKind.i64 by1)
 (test (lim IntKind.i64 (by1 * ((1 : Int) + Int.tmod u3 (20 : Int))))
 (test (lim IntKind.i64 ((S.at' x5 (Int.toNat x0)).1 + by1 * ((1 : Int) + Int.tmod u3 (20 : Int))))
 (test (decide ((0 : Int) ≤ x0 ∧ x0 < (↑(List.length x5) : Int)))
 (test (decide (Int.toNat x0 < List.length x5))
 (test (decide ((0 : Int) ≤ x0 ∧ x0 < (↑(List.length x5) : Int)))
 (test (decide (Int.toNat x0 < List.length x5))
 (test (lim IntKind.i64 by1)
 (test (lim IntKind.i64 (by1 * ((1 : Int) + Int.tmod u3 (20 : Int))))
 (test (lim IntKind.i64
 ((S.at' x5 (Int.toNat x0)).2.2.1 + by1 * ((1 : Int) + Int.tmod u3 (20 : Int))))
 (test (decide ((0 : Int) ≤ x0 ∧ x0 < (↑(List.length x5) : Int)))
 (test (decide (Int.toNat x0 < List.length x5))
 (test (lim IntKind.i64 (x0 + (1 : Int)))
 (Kst (hd Try.f9 0) ([PV.loose (PA.mk (0) (1) al (0)) nl, PV.int IntKind.i8 by1,
 PV.ptr (PA.mk (1) (0) (0) (0)),
 PV.own (2) (7) (List.length x4), PV.own (3) (7) (List.length x5),
 PV.int IntKind.i64
 (↑(List.length
 (S.mkl nl fun j =>
 (tl (j + al), (0 : Int), (3 : Int) * tl (j + al), (0 : Int), (0 : Int),
 if j % 4 = 3 then (2 : Int) else (-1 : Int), (↑(j % 3) : Int)))) :
 Int),
 PV.int IntKind.i64 (x0 + (1 : Int))]) ([[(0, false, Blk.cols ml [Col.int IntKind.i8 tl]),
 (3, true,
 Blk.cols (List.length x5)
 [Col.int IntKind.i64 fun j =>
 bif Nat.beq j (Int.toNat x0) then
 (S.at' x5 (Int.toNat x0)).1 + by1 * ((1 : Int) + Int.tmod u3 (20 : Int))
 else (S.at' x5 j).1,
 Col.int IntKind.i64 fun j => (S.at' x5 j).2.1,
 Col.int IntKind.i64 fun j =>
 bif Nat.beq j (Int.toNat x0) then
 (S.at' x5 (Int.toNat x0)).2.2.1 +
 by1 * ((1 : Int) + Int.tmod u3 (20 : Int))
 else (S.at' x5 j).2.2.1,
 Col.int IntKind.i64 fun j => (S.at' x5 j).2.2.2.1,
 Col.int IntKind.i64 fun j =>
 (S.at' x5 j).2.2.2.2.1,
 Col.int IntKind.i64 fun j =>
 (S.at' x5 j).2.2.2.2.2.1,
 Col.int IntKind.i64 fun j =>
 (S.at' x5 j).2.2.2.2.2.2]),
 (2, true,
 Blk.cols (List.length x4)
 [Col.int IntKind.i64 fun j => (S.at' x4 j).1,
 Col.int IntKind.i64 fun j => (S.at' x4 j).2.1,
 Col.int IntKind.i64 fun j => (S.at' x4 j).2.2.1,
 Col.int IntKind.i64 fun j => (S.at' x4 j).2.2.2.1,
 Col.int IntKind.i64 fun j =>
 (S.at' x4 j).2.2.2.2.1,
 Col.int IntKind.i64 fun j =>
 (S.at' x4 j).2.2.2.2.2.1,
 Col.int IntKind.i64 fun j =>
 (S.at' x4 j).2.2.2.2.2.2]),
 (1, true,
 Blk.cells
 [PV.int IntKind.i64 (1 : Int), PV.int IntKind.i64 (Int.tmod u1 (8 : Int)),
 PV.int IntKind.i64 x1, PV.int IntKind.i64 x2,
 PV.int IntKind.i64 ((1 : Int) + Int.tmod u3 (20 : Int)),
 PV.int IntKind.i64 ((200 : Int) + (10 : Int) * u4), PV.int IntKind.i64 x3])]]) (4))
 (False))
 (False))
 (False))
 (False))
 (False))
 (False))
 (False))
 (False))
 (False))
 (False))
 (False))
 (False))
 (False))
 (False))
 (False))
 (test (decide (0 + List.length x4 ≤ List.length x4 ∧ List.length x4 ≤ 1000000))
 (test (decide (List.length x5 + 1 ≤ 1000000))
 (test (decide (List.length x5 ≤ List.length x5))
 (test (true)
 (test (decide
 (0 + (List.length x5 + 1) ≤ List.length x5 + 1 ∧ List.length x5 + 1 ≤ 1000000))
 (test (Prod.snd
 (Prod.snd
 (Prod.snd
 (S.posS (1 : Int) (Int.tmod u1 (8 : Int)) x1 x2 ((1 : Int) + Int.tmod u3 (20 : Int))
 ((200 : Int) + (10 : Int) * u4) x3 (List.length x4) (fun j => (S.at' x4 j).1)
 (fun j => (S.at' x4 j).2.1)
 (fun j => (S.at' x4 j).2.2.1)
 (fun j => (S.at' x4 j).2.2.2.1)
 (fun j => (S.at' x4 j).2.2.2.2.1)
 (fun j => (S.at' x4 j).2.2.2.2.2.1)
 fun j => (S.at' x4 j).2.2.2.2.2.2))) !=
 (0 : Int))
 (Kret (PV.tf false) ([[(0, false, Blk.cols ml [Col.int IntKind.i8 tl])]]) (10))
 (test (Prod.snd
 (Prod.snd
 (Prod.snd
 (S.posS (1 : Int) (Int.tmod u1 (8 : Int)) x1 x2 ((1 : Int) + Int.tmod u3 (20 : Int))
 ((200 : Int) + (10 : Int) * u4) x3 (List.length x5 + 1)
 (fun j => bif Nat.blt j (List.length x5) then (S.at' x5 j).1 else (100000 : Int))
 (fun j => bif Nat.blt j (List.length x5) then (S.at' x5 j).2.1 else (0 : Int))
 (fun j =>
 bif Nat.blt j (List.length x5) then (S.at' x5 j).2.2.1 else (-100000 : Int))
 (fun j =>
 bif Nat.blt j (List.length x5) then (S.at' x5 j).2.2.2.1
 else (0 : Int))
 (fun j =>
 bif Nat.blt j (List.length x5) then (S.at' x5 j).2.2.2.2.1
 else (0 : Int))
 (fun j =>
 bif Nat.blt j (List.length x5) then
 (S.at' x5 j).2.2.2.2.2.1
 else (0 : Int))
 fun j =>
 bif Nat.blt j (List.length x5) then
 (S.at' x5 j).2.2.2.2.2.2
 else (0 : Int)))) !=
 (0 : Int))
 (Kret (PV.tf false) ([[(0, false, Blk.cols ml [Col.int IntKind.i8 tl])]]) (10))
 (test (Prod.fst
 (S.posS (1 : Int) (Int.tmod u1 (8 : Int)) x1 x2 ((1 : Int) + Int.tmod u3 (20 : Int))
 ((200 : Int) + (10 : Int) * u4) x3 (List.length x4) (fun j => (S.at' x4 j).1)
 (fun j => (S.at' x4 j).2.1)
 (fun j => (S.at' x4 j).2.2.1)
 (fun j => (S.at' x4 j).2.2.2.1)
 (fun j => (S.at' x4 j).2.2.2.2.1)
 (fun j => (S.at' x4 j).2.2.2.2.2.1)
 fun j => (S.at' x4 j).2.2.2.2.2.2) !=
 Prod.fst
 (S.posS (1 : Int) (Int.tmod u1 (8 : Int)) x1 x2 ((1 : Int) + Int.tmod u3 (20 : Int))
 ((200 : Int) + (10 : Int) * u4) x3 (List.length x5 + 1)
 (fun j => bif Nat.blt j (List.length x5) then (S.at' x5 j).1 else (100000 : Int))
 (fun j => bif Nat.blt j (List.length x5) then (S.at' x5 j).2.1 else (0 : Int))
 (fun j =>
 bif Nat.blt j (List.length x5) then (S.at' x5 j).2.2.1 else (-100000 : Int))
 (fun j =>
 bif Nat.blt j (List.length x5) then (S.at' x5 j).2.2.2.1 else (0 : Int))
 (fun j =>
 bif Nat.blt j (List.length x5) then (S.at' x5 j).2.2.2.2.1
 else (0 : Int))
 (fun j =>
 bif Nat.blt j (List.length x5) then
 (S.at' x5 j).2.2.2.2.2.1
 else (0 : Int))
 fun j =>
 bif Nat.blt j (List.length x5) then
 (S.at' x5 j).2.2.2.2.2.2
 else (0 : Int)))
 (Kret (PV.tf false) ([[(0, false, Blk.cols ml [Col.int IntKind.i8 tl])]]) (10))
 (test (Prod.fst
 (Prod.snd
 (Prod.snd
 (S.posS (1 : Int) (Int.tmod u1 (8 : Int)) x1 x2 ((1 : Int) + Int.tmod u3 (20 : Int))
 ((200 : Int) + (10 : Int) * u4) x3 (List.length x4) (fun j => (S.at' x4 j).1)
 (fun j => (S.at' x4 j).2.1)
 (fun j => (S.at' x4 j).2.2.1)
 (fun j => (S.at' x4 j).2.2.2.1)
 (fun j => (S.at' x4 j).2.2.2.2.1)
 (fun j => (S.at' x4 j).2.2.2.2.2.1)
 fun j => (S.at' x4 j).2.2.2.2.2.2))))
 (test (Prod.fst
 (Prod.snd
 (Prod.snd
 (S.posS (1 : Int) (Int.tmod u1 (8 : Int)) x1 x2 ((1 : Int) + Int.tmod u3 (20 : Int))
 ((200 : Int) + (10 : Int) * u4) x3 (List.length x5 + 1)
 (fun j => bif Nat.blt j (List.length x5) then (S.at' x5 j).1 else (100000 : Int))
 (fun j => bif Nat.blt j (List.length x5) then (S.at' x5 j).2.1 else (0 : Int))
 (fun j =>
 bif Nat.blt j (List.length x5) then (S.at' x5 j).2.2.1 else (-100000 : Int))
 (fun j =>
 bif Nat.blt j (List.length x5) then (S.at' x5 j).2.2.2.1
 else (0 : Int))
 (fun j =>
 bif Nat.blt j (List.length x5) then (S.at' x5 j).2.2.2.2.1
 else (0 : Int))
 (fun j =>
 bif Nat.blt j (List.length x5) then
 (S.at' x5 j).2.2.2.2.2.1
 else (0 : Int))
 fun j =>
 bif Nat.blt j (List.length x5) then
 (S.at' x5 j).2.2.2.2.2.2
 else (0 : Int)))))
 (test (lim IntKind.i64 by1)
 (test (lim IntKind.i64 (by1 * ((1 : Int) + Int.tmod u3 (20 : Int))))
 (test (lim IntKind.i64
 (Prod.fst
 (Prod.snd
 (S.posS (1 : Int) (Int.tmod u1 (8 : Int)) x1 x2 ((1 : Int) + Int.tmod u3 (20 : Int))
 ((200 : Int) + (10 : Int) * u4) x3 (List.length x4) (fun j => (S.at' x4 j).1)
 (fun j => (S.at' x4 j).2.1)
 (fun j => (S.at' x4 j).2.2.1)
 (fun j => (S.at' x4 j).2.2.2.1)
 (fun j => (S.at' x4 j).2.2.2.2.1)
 (fun j => (S.at' x4 j).2.2.2.2.2.1)
 fun j => (S.at' x4 j).2.2.2.2.2.2)) +
 by1 * ((1 : Int) + Int.tmod u3 (20 : Int))))
 (test (Prod.fst
 (Prod.snd
 (S.posS (1 : Int) (Int.tmod u1 (8 : Int)) x1 x2 ((1 : Int) + Int.tmod u3 (20 : Int))
 ((200 : Int) + (10 : Int) * u4) x3 (List.length x5 + 1)
 (fun j => bif Nat.blt j (List.length x5) then (S.at' x5 j).1 else (100000 : Int))
 (fun j => bif Nat.blt j (List.length x5) then (S.at' x5 j).2.1 else (0 : Int))
 (fun j =>
 bif Nat.blt j (List.length x5) then (S.at' x5 j).2.2.1 else (-100000 : Int))
 (fun j =>
 bif Nat.blt j (List.length x5) then (S.at' x5 j).2.2.2.1
 else (0 : Int))
 (fun j =>
 bif Nat.blt j (List.length x5) then (S.at' x5 j).2.2.2.2.1
 else (0 : Int))
 (fun j =>
 bif Nat.blt j (List.length x5) then
 (S.at' x5 j).2.2.2.2.2.1
 else (0 : Int))
 fun j =>
 bif Nat.blt j (List.length x5) then
 (S.at' x5 j).2.2.2.2.2.2
 else (0 : Int))) ==
 Prod.fst
 (Prod.snd
 (S.posS (1 : Int) (Int.tmod u1 (8 : Int)) x1 x2 ((1 : Int) + Int.tmod u3 (20 : Int))
 ((200 : Int) + (10 : Int) * u4) x3 (List.length x4) (fun j => (S.at' x4 j).1)
 (fun j => (S.at' x4 j).2.1)
 (fun j => (S.at' x4 j).2.2.1)
 (fun j => (S.at' x4 j).2.2.2.1)
 (fun j => (S.at' x4 j).2.2.2.2.1)
 (fun j => (S.at' x4 j).2.2.2.2.2.1)
 fun j => (S.at' x4 j).2.2.2.2.2.2)) +
 by1 * ((1 : Int) + Int.tmod u3 (20 : Int)))
 (Kret (PV.tf true) ([[(0, false, Blk.cols ml [Col.int IntKind.i8 tl])]]) (10))
 (Kret (PV.tf false) ([[(0, false, Blk.cols ml [Col.int IntKind.i8 tl])]]) (10)))
 (False))
 (False))
 (False))
 (test ((↑nl : Int) == (0 : Int))
 (Kret (PV.tf true) ([[(0, false, Blk.cols ml [Col.int IntKind.i8 tl])]]) (10))
 (test (Prod.fst
 (Prod.snd
 (Prod.snd
 (S.posS (1 : Int) (Int.tmod u1 (8 : Int)) x1 x2 ((1 : Int) + Int.tmod u3 (20 : Int))
 ((200 : Int) + (10 : Int) * u4) x3 (List.length x4) (fun j => (S.at' x4 j).1)
 (fun j => (S.at' x4 j).2.1)
 (fun j => (S.at' x4 j).2.2.1)
 (fun j => (S.at' x4 j).2.2.2.1)
 (fun j => (S.at' x4 j).2.2.2.2.1)
 (fun j => (S.at' x4 j).2.2.2.2.2.1)
 fun j => (S.at' x4 j).2.2.2.2.2.2))))
 (test (lim IntKind.i64 by1)
 (test (lim IntKind.i64 (by1 * ((1 : Int) + Int.tmod u3 (20 : Int))))
 (test (lim IntKind.i64
 (Prod.fst
 (Prod.snd
 (S.posS (1 : Int) (Int.tmod u1 (8 : Int)) x1 x2 ((1 : Int) + Int.tmod u3 (20 : Int))
 ((200 : Int) + (10 : Int) * u4) x3 (List.length x4) (fun j => (S.at' x4 j).1)
 (fun j => (S.at' x4 j).2.1)
 (fun j => (S.at' x4 j).2.2.1)
 (fun j => (S.at' x4 j).2.2.2.1)
 (fun j => (S.at' x4 j).2.2.2.2.1)
 (fun j => (S.at' x4 j).2.2.2.2.2.1)
 fun j => (S.at' x4 j).2.2.2.2.2.2)) +
 by1 * ((1 : Int) + Int.tmod u3 (20 : Int))))
 (test (decide
 (Prod.fst
 (Prod.snd
 (S.posS (1 : Int) (Int.tmod u1 (8 : Int)) x1 x2 ((1 : Int) + Int.tmod u3 (20 : Int))
 ((200 : Int) + (10 : Int) * u4) x3 (List.length x4) (fun j => (S.at' x4 j).1)
 (fun j => (S.at' x4 j).2.1)
 (fun j => (S.at' x4 j).2.2.1)
 (fun j => (S.at' x4 j).2.2.2.1)
 (fun j => (S.at' x4 j).2.2.2.2.1)
 (fun j => (S.at' x4 j).2.2.2.2.2.1)
 fun j => (S.at' x4 j).2.2.2.2.2.2)) +
 by1 * ((1 : Int) + Int.tmod u3 (20 : Int)) >
 (200 : Int) + (10 : Int) * u4))
 (Kret (PV.tf true) ([[(0, false, Blk.cols ml [Col.int IntKind.i8 tl])]]) (10))
 (test (lim IntKind.i64 by1)
 (test (lim IntKind.i64 (by1 * ((1 : Int) + Int.tmod u3 (20 : Int))))
 (test (lim IntKind.i64
 (Prod.fst
 (Prod.snd
 (S.posS (1 : Int) (Int.tmod u1 (8 : Int)) x1 x2 ((1 : Int) + Int.tmod u3 (20 : Int))
 ((200 : Int) + (10 : Int) * u4) x3 (List.length x4) (fun j => (S.at' x4 j).1)
 (fun j => (S.at' x4 j).2.1)
 (fun j => (S.at' x4 j).2.2.1)
 (fun j => (S.at' x4 j).2.2.2.1)
 (fun j => (S.at' x4 j).2.2.2.2.1)
 (fun j => (S.at' x4 j).2.2.2.2.2.1)
 fun j => (S.at' x4 j).2.2.2.2.2.2)) +
 by1 * ((1 : Int) + Int.tmod u3 (20 : Int))))
 (test (lim IntKind.i64 (-((200 : Int) + (10 : Int) * u4)))
 (test (decide
 (Prod.fst
 (Prod.snd
 (S.posS (1 : Int) (Int.tmod u1 (8 : Int)) x1 x2 ((1 : Int) + Int.tmod u3 (20 : Int))
 ((200 : Int) + (10 : Int) * u4) x3 (List.length x4) (fun j => (S.at' x4 j).1)
 (fun j => (S.at' x4 j).2.1)
 (fun j => (S.at' x4 j).2.2.1)
 (fun j => (S.at' x4 j).2.2.2.1)
 (fun j => (S.at' x4 j).2.2.2.2.1)
 (fun j => (S.at' x4 j).2.2.2.2.2.1)
 fun j => (S.at' x4 j).2.2.2.2.2.2)) +
 by1 * ((1 : Int) + Int.tmod u3 (20 : Int)) <
 -((200 : Int) + (10 : Int) * u4)))
 (Kret (PV.tf true) ([[(0, false, Blk.cols ml [Col.int IntKind.i8 tl])]]) (10))
 (Kret (PV.tf false) ([[(0, false, Blk.cols ml [Col.int IntKind.i8 tl])]]) (10)))
 (False))
 (False))
 (False))
 (False)))
 (False))
 (False))
 (False))
 (Kret (PV.tf true) ([[(0, false, Blk.cols ml [Col.int IntKind.i8 tl])]]) (10)))))
 (test ((↑nl : Int) == (0 : Int))
 (Kret (PV.tf true) ([[(0, false, Blk.cols ml [Col.int IntKind.i8 tl])]]) (10))
 (test (Prod.fst
 (Prod.snd
 (Prod.snd
 (S.posS (1 : Int) (Int.tmod u1 (8 : Int)) x1 x2 ((1 : Int) + Int.tmod u3 (20 : Int))
 ((200 : Int) + (10 : Int) * u4) x3 (List.length x4) (fun j => (S.at' x4 j).1)
 (fun j => (S.at' x4 j).2.1)
 (fun j => (S.at' x4 j).2.2.1)
 (fun j => (S.at' x4 j).2.2.2.1)
 (fun j => (S.at' x4 j).2.2.2.2.1)
 (fun j => (S.at' x4 j).2.2.2.2.2.1)
 fun j => (S.at' x4 j).2.2.2.2.2.2))))
 (test (lim IntKind.i64 by1)
 (test (lim IntKind.i64 (by1 * ((1 : Int) + Int.tmod u3 (20 : Int))))
 (test (lim IntKind.i64
 (Prod.fst
 (Prod.snd
 (S.posS (1 : Int) (Int.tmod u1 (8 : Int)) x1 x2 ((1 : Int) + Int.tmod u3 (20 : Int))
 ((200 : Int) + (10 : Int) * u4) x3 (List.length x4) (fun j => (S.at' x4 j).1)
 (fun j => (S.at' x4 j).2.1)
 (fun j => (S.at' x4 j).2.2.1)
 (fun j => (S.at' x4 j).2.2.2.1)
 (fun j => (S.at' x4 j).2.2.2.2.1)
 (fun j => (S.at' x4 j).2.2.2.2.2.1)
 fun j => (S.at' x4 j).2.2.2.2.2.2)) +
 by1 * ((1 : Int) + Int.tmod u3 (20 : Int))))
 (test (decide
 (Prod.fst
 (Prod.snd
 (S.posS (1 : Int) (Int.tmod u1 (8 : Int)) x1 x2 ((1 : Int) + Int.tmod u3 (20 : Int))
 ((200 : Int) + (10 : Int) * u4) x3 (List.length x4) (fun j => (S.at' x4 j).1)
 (fun j => (S.at' x4 j).2.1)
 (fun j => (S.at' x4 j).2.2.1)
 (fun j => (S.at' x4 j).2.2.2.1)
 (fun j => (S.at' x4 j).2.2.2.2.1)
 (fun j => (S.at' x4 j).2.2.2.2.2.1)
 fun j => (S.at' x4 j).2.2.2.2.2.2)) +
 by1 * ((1 : Int) + Int.tmod u3 (20 : Int)) >
 (200 : Int) + (10 : Int) * u4))
 (Kret (PV.tf true) ([[(0, false, Blk.cols ml [Col.int IntKind.i8 tl])]]) (10))
 (test (lim IntKind.i64 by1)
 (test (lim IntKind.i64 (by1 * ((1 : Int) + Int.tmod u3 (20 : Int))))
 (test (lim IntKind.i64
 (Prod.fst
 (Prod.snd
 (S.posS (1 : Int) (Int.tmod u1 (8 : Int)) x1 x2 ((1 : Int) + Int.tmod u3 (20 : Int))
 ((200 : Int) + (10 : Int) * u4) x3 (List.length x4) (fun j => (S.at' x4 j).1)
 (fun j => (S.at' x4 j).2.1)
 (fun j => (S.at' x4 j).2.2.1)
 (fun j => (S.at' x4 j).2.2.2.1)
 (fun j => (S.at' x4 j).2.2.2.2.1)
 (fun j => (S.at' x4 j).2.2.2.2.2.1)
 fun j => (S.at' x4 j).2.2.2.2.2.2)) +
 by1 * ((1 : Int) + Int.tmod u3 (20 : Int))))
 (test (lim IntKind.i64 (-((200 : Int) + (10 : Int) * u4)))
 (test (decide
 (Prod.fst
 (Prod.snd
 (S.posS (1 : Int) (Int.tmod u1 (8 : Int)) x1 x2 ((1 : Int) + Int.tmod u3 (20 : Int))
 ((200 : Int) + (10 : Int) * u4) x3 (List.length x4) (fun j => (S.at' x4 j).1)
 (fun j => (S.at' x4 j).2.1)
 (fun j => (S.at' x4 j).2.2.1)
 (fun j => (S.at' x4 j).2.2.2.1)
 (fun j => (S.at' x4 j).2.2.2.2.1)
 (fun j => (S.at' x4 j).2.2.2.2.2.1)
 fun j => (S.at' x4 j).2.2.2.2.2.2)) +
 by1 * ((1 : Int) + Int.tmod u3 (20 : Int)) <
 -((200 : Int) + (10 : Int) * u4)))
 (Kret (PV.tf true) ([[(0, false, Blk.cols ml [Col.int IntKind.i8 tl])]]) (10))
 (Kret (PV.tf false) ([[(0, false, Blk.cols ml [Col.int IntKind.i8 tl])]]) (10)))
 (False))
 (False))
 (False))
 (False)))
 (False))
 (False))
 (False))
 (Kret (PV.tf true) ([[(0, false, Blk.cols ml [Col.int IntKind.i8 tl])]]) (10))))))))
 (False))
 (False))
 (False))
 (False))
 (False))
theorem t9_0 (test : Bool → Prop → Prop → Prop) (Kst : KS) (Kret : KR) (u1 u2 u3 u4 : Int) (al nl ml : Nat) (tl : Nat → Int) (by1 x0 x1 x2 x3 : Int) (x4 : List (Int × Int × Int × Int × Int × Int × Int)) (x5 : List (Int × Int × Int × Int × Int × Int × Int)) : run test Try.env true (xF test) true 400 ⟨9, hd Try.f9 0, zipT [1, 2, 7, 8, 9, 37, 38] [PV.loose (PA.mk (0) (1) al (0)) nl, PV.int IntKind.i8 by1,
 PV.ptr (PA.mk (1) (0) (0) (0)),
 PV.own (2) (7) (List.length x4), PV.own (3) (7) (List.length x5),
 PV.int IntKind.i64
 (↑(List.length
 (S.mkl nl fun j =>
 (tl (j + al), (0 : Int), (3 : Int) * tl (j + al), (0 : Int), (0 : Int),
 if j % 4 = 3 then (2 : Int) else (-1 : Int), (↑(j % 3) : Int)))) :
 Int),
 PV.int IntKind.i64 x0], [[(1, (true, Blk.cells
 [PV.int IntKind.i64 (1 : Int), PV.int IntKind.i64 (Int.tmod u1 (8 : Int)),
 PV.int IntKind.i64 x1, PV.int IntKind.i64 x2,
 PV.int IntKind.i64 ((1 : Int) + Int.tmod u3 (20 : Int)),
 PV.int IntKind.i64 ((200 : Int) + (10 : Int) * u4), PV.int IntKind.i64 x3])), (2, (true, Blk.cols (List.length x4)
 [Col.int IntKind.i64 fun j => (S.at' x4 j).1,
 Col.int IntKind.i64 fun j => (S.at' x4 j).2.1,
 Col.int IntKind.i64 fun j => (S.at' x4 j).2.2.1,
 Col.int IntKind.i64 fun j => (S.at' x4 j).2.2.2.1,
 Col.int IntKind.i64 fun j =>
 (S.at' x4 j).2.2.2.2.1,
 Col.int IntKind.i64 fun j =>
 (S.at' x4 j).2.2.2.2.2.1,
 Col.int IntKind.i64 fun j =>
 (S.at' x4 j).2.2.2.2.2.2])), (3, (true, Blk.cols (List.length x5)
 [Col.int IntKind.i64 fun j => (S.at' x5 j).1,
 Col.int IntKind.i64 fun j => (S.at' x5 j).2.1,
 Col.int IntKind.i64 fun j => (S.at' x5 j).2.2.1,
 Col.int IntKind.i64 fun j => (S.at' x5 j).2.2.2.1,
 Col.int IntKind.i64 fun j =>
 (S.at' x5 j).2.2.2.2.1,
 Col.int IntKind.i64 fun j =>
 (S.at' x5 j).2.2.2.2.2.1,
 Col.int IntKind.i64 fun j =>
 (S.at' x5 j).2.2.2.2.2.2]))], [(0, (false, .cols ml [.int .i8 tl]))]], 4⟩ (proj 1 [1, 2, 7, 8, 9, 37, 38] Kst Kret) =
  T9_0 test Kst Kret u1 u2 u3 u4 al nl ml tl by1 x0 x1 x2 x3 x4 x5 := by kernel_rfl
theorem be9 (u1 u2 u3 u4 : Int) (al nl ml : Nat) (tl : Nat → Int) (by1 : Int) (Kst : KS) (Kret : KR) (x : St9 ⊕ Rt9) (hS : HS 1 400 ((I9 u1 u2 u3 u4 al nl ml tl by1)) Kst x) (hR : HR 1 400 ((V9 u1 u2 u3 u4 al nl ml tl by1)) (fun r => [newL (1 + 1) ((N9 u1 u2 u3 u4 al nl ml tl by1) r) ++ [(0, (false, .cols ml [.int .i8 tl]))]]) Kret x) (h : (bif (decide ((↑nl : Int) > (20 : Int)))
 then (some (.inr (true)))
 else (bif (lim IntKind.i64 u1)
 then (bif (lim IntKind.i64 u3)
 then (bif (lim IntKind.i64 ((1 : Int) + Int.tmod u3 (20 : Int)))
 then (bif (lim IntKind.i64 u4)
 then (bif (lim IntKind.i64 ((10 : Int) * u4))
 then (bif (lim IntKind.i64 ((200 : Int) + (10 : Int) * u4))
 then (bif (lim IntKind.i64 u2)
 then (bif (lim IntKind.i64 ((1 : Int) + Int.tmod u2 (2 : Int)))
 then (bif (lim IntKind.i64 (Int.tmod u3 (7 : Int) - (3 : Int)))
 then (bif (decide (al + nl ≤ ml ∧ nl ≤ 1000 ∧ S.i8B (fun j => tl (j + al)) nl = true))
 then (some (.inl (.h0 ((0 : Int)) ((1 : Int) + Int.tmod u2 (2 : Int)) (Int.tmod u3 (7 : Int) - (3 : Int)) ((0 : Int)) (S.mkl nl fun j =>
 (tl (j + al), (0 : Int), (3 : Int) * tl (j + al), (0 : Int), (0 : Int),
 if j % 4 = 3 then (2 : Int) else (-1 : Int), (↑(j % 3) : Int))) (S.mkl nl fun j =>
 (tl (j + al), (0 : Int), (3 : Int) * tl (j + al), (0 : Int), (0 : Int),
 if j % 4 = 3 then (2 : Int) else (-1 : Int), (↑(j % 3) : Int))))))
 else (none))
 else (none))
 else (none))
 else (none))
 else (none))
 else (none))
 else (none))
 else (none))
 else (none))
 else (none)) : Option (St9 ⊕ Rt9)) = some x) : Te9 cond Kst Kret u1 u2 u3 u4 al nl ml tl by1 := by
  unfold Te9
  exact cond_yes rfl (cond_yes rfl (bif_split h
   (fun c0 h => cond_yes rfl (cond_yes rfl (ret_at hR _ h (fun n => n) rfl rfl rfl (rn_bool_tf rfl) rfl (entl_bor (use_lo rfl) rfl rfl entl_nil))))
   (fun c0 h => cond_yes rfl (cond_yes rfl (cond_yes rfl (cond_yes rfl (cond_yes rfl (cond_no rfl (cond_yes rfl (bif_split h
   (fun c1 h => cond_no rfl (bif_split h
   (fun c2 h => cond_no rfl (bif_split h
   (fun c3 h => bif_split h
   (fun c4 h => bif_split h
   (fun c5 h => bif_split h
   (fun c6 h => cond_yes rfl (bif_split h
   (fun c7 h => cond_no rfl (bif_split h
   (fun c8 h => cond_yes c2 (cond_no rfl (bif_split h
   (fun c9 h => bif_split h
   (fun c10 h => cond_yes c10 (stop_at hS _ h (fun n => bif Nat.beq n 1 then 5 else bif Nat.beq n 2 then 7 else bif Nat.beq n 3 then 9 else n) rfl rfl rfl ⟨(rn_loose (use_lo rfl) rfl rfl rfl), ⟨(rn_int rfl), ⟨(rn_ptr (use_own rfl) rfl rfl), ⟨(rn_own (use_own rfl) rfl rfl), ⟨(rn_own (use_own rfl) rfl rfl), ⟨(rn_int rfl), ⟨(rn_int rfl), trivial⟩⟩⟩⟩⟩⟩⟩ rfl (entl_b (use_own rfl) rfl (by simp) (rb_cells ⟨(rn_int rfl), (rn_int rfl), (rn_int rfl), (rn_int rfl), (rn_int rfl), (rn_int rfl), (rn_int rfl), trivial⟩) (entl_new (use_own rfl) rfl (Nat.le_of_eq rfl) (rcs_int (fun _ _ => rfl) (rcs_int (fun _ _ => rfl) (rcs_int (fun _ _ => rfl) (rcs_int (fun _ _ => rfl) (rcs_int (fun _ _ => rfl) (rcs_int (fun _ _ => rfl) (rcs_int (fun _ _ => rfl) rcs_nil))))))) (entl_new (use_own rfl) rfl (Nat.le_of_eq rfl) (rcs_int (fun _ _ => rfl) (rcs_int (fun _ _ => rfl) (rcs_int (fun _ _ => rfl) (rcs_int (fun _ _ => rfl) (rcs_int (fun _ _ => rfl) (rcs_int (fun _ _ => rfl) (rcs_int (fun _ _ => rfl) rcs_nil))))))) (entl_bor (use_lo rfl) rfl rfl entl_nil))))))
   (fun c10 h => no_some h))
   (fun c9 h => no_some h))))
   (fun c8 h => no_some h)))
   (fun c7 h => no_some h)))
   (fun c6 h => no_some h))
   (fun c5 h => no_some h))
   (fun c4 h => no_some h))
   (fun c3 h => no_some h)))
   (fun c2 h => no_some h)))
   (fun c1 h => no_some h)))))))))))
theorem b9_0 (u1 u2 u3 u4 : Int) (al nl ml : Nat) (tl : Nat → Int) (by1 : Int) (Kst : KS) (Kret : KR) (x : St9 ⊕ Rt9) (hS : HS 1 400 ((I9 u1 u2 u3 u4 al nl ml tl by1)) Kst x) (hR : HR 1 400 ((V9 u1 u2 u3 u4 al nl ml tl by1)) (fun r => [newL (1 + 1) ((N9 u1 u2 u3 u4 al nl ml tl by1) r) ++ [(0, (false, .cols ml [.int .i8 tl]))]]) Kret x) (x0 x1 x2 x3 : Int) (x4 : List (Int × Int × Int × Int × Int × Int × Int)) (x5 : List (Int × Int × Int × Int × Int × Int × Int)) (h : (bif (decide
 (x0 <
 (↑(List.length
 (S.mkl nl fun j =>
 (tl (j + al), (0 : Int), (3 : Int) * tl (j + al), (0 : Int), (0 : Int),
 if j % 4 = 3 then (2 : Int) else (-1 : Int), (↑(j % 3) : Int)))) :
 Int)))
 then (bif (decide ((0 : Int) ≤ x0 ∧ x0 < (↑(List.length x5) : Int)))
 then (bif (decide (Int.toNat x0 < List.length x5))
 then (bif (lim IntKind.i64 by1)
 then (bif (lim IntKind.i64 (by1 * ((1 : Int) + Int.tmod u3 (20 : Int))))
 then (bif (lim IntKind.i64 ((S.at' x5 (Int.toNat x0)).1 + by1 * ((1 : Int) + Int.tmod u3 (20 : Int))))
 then (bif (lim IntKind.i64
 ((S.at' x5 (Int.toNat x0)).2.2.1 + by1 * ((1 : Int) + Int.tmod u3 (20 : Int))))
 then (bif (lim IntKind.i64 (x0 + (1 : Int)))
 then (some (.inl (.h0 (x0 + (1 : Int)) (x1) (x2) (x3) (x4) (S.mkl (List.length x5) fun j =>
 (bif Nat.beq j (Int.toNat x0) then
 (S.at' x5 (Int.toNat x0)).1 + by1 * ((1 : Int) + Int.tmod u3 (20 : Int))
 else (S.at' x5 j).1,
 (S.at' x5 j).2.1,
 bif Nat.beq j (Int.toNat x0) then
 (S.at' x5 (Int.toNat x0)).2.2.1 + by1 * ((1 : Int) + Int.tmod u3 (20 : Int))
 else (S.at' x5 j).2.2.1,
 (S.at' x5 j).2.2.2.1,
 (S.at' x5 j).2.2.2.2.1,
 (S.at' x5 j).2.2.2.2.2.1,
 (S.at' x5 j).2.2.2.2.2.2)))))
 else (none))
 else (none))
 else (none))
 else (none))
 else (none))
 else (none))
 else (none))
 else (bif (decide (0 + List.length x4 ≤ List.length x4 ∧ List.length x4 ≤ 1000000))
 then (bif (decide (List.length x5 + 1 ≤ 1000000))
 then (bif (decide (List.length x5 ≤ List.length x5))
 then (bif (decide
 (0 + (List.length x5 + 1) ≤ List.length x5 + 1 ∧ List.length x5 + 1 ≤ 1000000))
 then (bif (Prod.snd
 (Prod.snd
 (Prod.snd
 (S.posS (1 : Int) (Int.tmod u1 (8 : Int)) x1 x2 ((1 : Int) + Int.tmod u3 (20 : Int))
 ((200 : Int) + (10 : Int) * u4) x3 (List.length x4) (fun j => (S.at' x4 j).1)
 (fun j => (S.at' x4 j).2.1)
 (fun j => (S.at' x4 j).2.2.1)
 (fun j => (S.at' x4 j).2.2.2.1)
 (fun j => (S.at' x4 j).2.2.2.2.1)
 (fun j => (S.at' x4 j).2.2.2.2.2.1)
 fun j => (S.at' x4 j).2.2.2.2.2.2))) !=
 (0 : Int))
 then (some (.inr (false)))
 else (bif (Prod.snd
 (Prod.snd
 (Prod.snd
 (S.posS (1 : Int) (Int.tmod u1 (8 : Int)) x1 x2 ((1 : Int) + Int.tmod u3 (20 : Int))
 ((200 : Int) + (10 : Int) * u4) x3 (List.length x5 + 1)
 (fun j => bif Nat.blt j (List.length x5) then (S.at' x5 j).1 else (100000 : Int))
 (fun j => bif Nat.blt j (List.length x5) then (S.at' x5 j).2.1 else (0 : Int))
 (fun j =>
 bif Nat.blt j (List.length x5) then (S.at' x5 j).2.2.1 else (-100000 : Int))
 (fun j =>
 bif Nat.blt j (List.length x5) then (S.at' x5 j).2.2.2.1
 else (0 : Int))
 (fun j =>
 bif Nat.blt j (List.length x5) then (S.at' x5 j).2.2.2.2.1
 else (0 : Int))
 (fun j =>
 bif Nat.blt j (List.length x5) then
 (S.at' x5 j).2.2.2.2.2.1
 else (0 : Int))
 fun j =>
 bif Nat.blt j (List.length x5) then
 (S.at' x5 j).2.2.2.2.2.2
 else (0 : Int)))) !=
 (0 : Int))
 then (some (.inr (false)))
 else (bif (Prod.fst
 (S.posS (1 : Int) (Int.tmod u1 (8 : Int)) x1 x2 ((1 : Int) + Int.tmod u3 (20 : Int))
 ((200 : Int) + (10 : Int) * u4) x3 (List.length x4) (fun j => (S.at' x4 j).1)
 (fun j => (S.at' x4 j).2.1)
 (fun j => (S.at' x4 j).2.2.1)
 (fun j => (S.at' x4 j).2.2.2.1)
 (fun j => (S.at' x4 j).2.2.2.2.1)
 (fun j => (S.at' x4 j).2.2.2.2.2.1)
 fun j => (S.at' x4 j).2.2.2.2.2.2) !=
 Prod.fst
 (S.posS (1 : Int) (Int.tmod u1 (8 : Int)) x1 x2 ((1 : Int) + Int.tmod u3 (20 : Int))
 ((200 : Int) + (10 : Int) * u4) x3 (List.length x5 + 1)
 (fun j => bif Nat.blt j (List.length x5) then (S.at' x5 j).1 else (100000 : Int))
 (fun j => bif Nat.blt j (List.length x5) then (S.at' x5 j).2.1 else (0 : Int))
 (fun j =>
 bif Nat.blt j (List.length x5) then (S.at' x5 j).2.2.1 else (-100000 : Int))
 (fun j =>
 bif Nat.blt j (List.length x5) then (S.at' x5 j).2.2.2.1 else (0 : Int))
 (fun j =>
 bif Nat.blt j (List.length x5) then (S.at' x5 j).2.2.2.2.1
 else (0 : Int))
 (fun j =>
 bif Nat.blt j (List.length x5) then
 (S.at' x5 j).2.2.2.2.2.1
 else (0 : Int))
 fun j =>
 bif Nat.blt j (List.length x5) then
 (S.at' x5 j).2.2.2.2.2.2
 else (0 : Int)))
 then (some (.inr (false)))
 else (bif (Prod.fst
 (Prod.snd
 (Prod.snd
 (S.posS (1 : Int) (Int.tmod u1 (8 : Int)) x1 x2 ((1 : Int) + Int.tmod u3 (20 : Int))
 ((200 : Int) + (10 : Int) * u4) x3 (List.length x4) (fun j => (S.at' x4 j).1)
 (fun j => (S.at' x4 j).2.1)
 (fun j => (S.at' x4 j).2.2.1)
 (fun j => (S.at' x4 j).2.2.2.1)
 (fun j => (S.at' x4 j).2.2.2.2.1)
 (fun j => (S.at' x4 j).2.2.2.2.2.1)
 fun j => (S.at' x4 j).2.2.2.2.2.2))))
 then (bif (Prod.fst
 (Prod.snd
 (Prod.snd
 (S.posS (1 : Int) (Int.tmod u1 (8 : Int)) x1 x2 ((1 : Int) + Int.tmod u3 (20 : Int))
 ((200 : Int) + (10 : Int) * u4) x3 (List.length x5 + 1)
 (fun j => bif Nat.blt j (List.length x5) then (S.at' x5 j).1 else (100000 : Int))
 (fun j => bif Nat.blt j (List.length x5) then (S.at' x5 j).2.1 else (0 : Int))
 (fun j =>
 bif Nat.blt j (List.length x5) then (S.at' x5 j).2.2.1 else (-100000 : Int))
 (fun j =>
 bif Nat.blt j (List.length x5) then (S.at' x5 j).2.2.2.1
 else (0 : Int))
 (fun j =>
 bif Nat.blt j (List.length x5) then (S.at' x5 j).2.2.2.2.1
 else (0 : Int))
 (fun j =>
 bif Nat.blt j (List.length x5) then
 (S.at' x5 j).2.2.2.2.2.1
 else (0 : Int))
 fun j =>
 bif Nat.blt j (List.length x5) then
 (S.at' x5 j).2.2.2.2.2.2
 else (0 : Int)))))
 then (bif (lim IntKind.i64 by1)
 then (bif (lim IntKind.i64 (by1 * ((1 : Int) + Int.tmod u3 (20 : Int))))
 then (bif (lim IntKind.i64
 (Prod.fst
 (Prod.snd
 (S.posS (1 : Int) (Int.tmod u1 (8 : Int)) x1 x2 ((1 : Int) + Int.tmod u3 (20 : Int))
 ((200 : Int) + (10 : Int) * u4) x3 (List.length x4) (fun j => (S.at' x4 j).1)
 (fun j => (S.at' x4 j).2.1)
 (fun j => (S.at' x4 j).2.2.1)
 (fun j => (S.at' x4 j).2.2.2.1)
 (fun j => (S.at' x4 j).2.2.2.2.1)
 (fun j => (S.at' x4 j).2.2.2.2.2.1)
 fun j => (S.at' x4 j).2.2.2.2.2.2)) +
 by1 * ((1 : Int) + Int.tmod u3 (20 : Int))))
 then (bif (Prod.fst
 (Prod.snd
 (S.posS (1 : Int) (Int.tmod u1 (8 : Int)) x1 x2 ((1 : Int) + Int.tmod u3 (20 : Int))
 ((200 : Int) + (10 : Int) * u4) x3 (List.length x5 + 1)
 (fun j => bif Nat.blt j (List.length x5) then (S.at' x5 j).1 else (100000 : Int))
 (fun j => bif Nat.blt j (List.length x5) then (S.at' x5 j).2.1 else (0 : Int))
 (fun j =>
 bif Nat.blt j (List.length x5) then (S.at' x5 j).2.2.1 else (-100000 : Int))
 (fun j =>
 bif Nat.blt j (List.length x5) then (S.at' x5 j).2.2.2.1
 else (0 : Int))
 (fun j =>
 bif Nat.blt j (List.length x5) then (S.at' x5 j).2.2.2.2.1
 else (0 : Int))
 (fun j =>
 bif Nat.blt j (List.length x5) then
 (S.at' x5 j).2.2.2.2.2.1
 else (0 : Int))
 fun j =>
 bif Nat.blt j (List.length x5) then
 (S.at' x5 j).2.2.2.2.2.2
 else (0 : Int))) ==
 Prod.fst
 (Prod.snd
 (S.posS (1 : Int) (Int.tmod u1 (8 : Int)) x1 x2 ((1 : Int) + Int.tmod u3 (20 : Int))
 ((200 : Int) + (10 : Int) * u4) x3 (List.length x4) (fun j => (S.at' x4 j).1)
 (fun j => (S.at' x4 j).2.1)
 (fun j => (S.at' x4 j).2.2.1)
 (fun j => (S.at' x4 j).2.2.2.1)
 (fun j => (S.at' x4 j).2.2.2.2.1)
 (fun j => (S.at' x4 j).2.2.2.2.2.1)
 fun j => (S.at' x4 j).2.2.2.2.2.2)) +
 by1 * ((1 : Int) + Int.tmod u3 (20 : Int)))
 then (some (.inr (true)))
 else (some (.inr (false))))
 else (none))
 else (none))
 else (none))
 else (bif ((↑nl : Int) == (0 : Int))
 then (some (.inr (true)))
 else (bif (lim IntKind.i64 by1)
 then (bif (lim IntKind.i64 (by1 * ((1 : Int) + Int.tmod u3 (20 : Int))))
 then (bif (lim IntKind.i64
 (Prod.fst
 (Prod.snd
 (S.posS (1 : Int) (Int.tmod u1 (8 : Int)) x1 x2 ((1 : Int) + Int.tmod u3 (20 : Int))
 ((200 : Int) + (10 : Int) * u4) x3 (List.length x4) (fun j => (S.at' x4 j).1)
 (fun j => (S.at' x4 j).2.1)
 (fun j => (S.at' x4 j).2.2.1)
 (fun j => (S.at' x4 j).2.2.2.1)
 (fun j => (S.at' x4 j).2.2.2.2.1)
 (fun j => (S.at' x4 j).2.2.2.2.2.1)
 fun j => (S.at' x4 j).2.2.2.2.2.2)) +
 by1 * ((1 : Int) + Int.tmod u3 (20 : Int))))
 then (bif (decide
 (Prod.fst
 (Prod.snd
 (S.posS (1 : Int) (Int.tmod u1 (8 : Int)) x1 x2 ((1 : Int) + Int.tmod u3 (20 : Int))
 ((200 : Int) + (10 : Int) * u4) x3 (List.length x4) (fun j => (S.at' x4 j).1)
 (fun j => (S.at' x4 j).2.1)
 (fun j => (S.at' x4 j).2.2.1)
 (fun j => (S.at' x4 j).2.2.2.1)
 (fun j => (S.at' x4 j).2.2.2.2.1)
 (fun j => (S.at' x4 j).2.2.2.2.2.1)
 fun j => (S.at' x4 j).2.2.2.2.2.2)) +
 by1 * ((1 : Int) + Int.tmod u3 (20 : Int)) >
 (200 : Int) + (10 : Int) * u4))
 then (some (.inr (true)))
 else (bif (lim IntKind.i64 (-((200 : Int) + (10 : Int) * u4)))
 then (bif (decide
 (Prod.fst
 (Prod.snd
 (S.posS (1 : Int) (Int.tmod u1 (8 : Int)) x1 x2 ((1 : Int) + Int.tmod u3 (20 : Int))
 ((200 : Int) + (10 : Int) * u4) x3 (List.length x4) (fun j => (S.at' x4 j).1)
 (fun j => (S.at' x4 j).2.1)
 (fun j => (S.at' x4 j).2.2.1)
 (fun j => (S.at' x4 j).2.2.2.1)
 (fun j => (S.at' x4 j).2.2.2.2.1)
 (fun j => (S.at' x4 j).2.2.2.2.2.1)
 fun j => (S.at' x4 j).2.2.2.2.2.2)) +
 by1 * ((1 : Int) + Int.tmod u3 (20 : Int)) <
 -((200 : Int) + (10 : Int) * u4)))
 then (some (.inr (true)))
 else (some (.inr (false))))
 else (none)))
 else (none))
 else (none))
 else (none))))
 else (bif ((↑nl : Int) == (0 : Int))
 then (some (.inr (true)))
 else (some (.inr (true))))))))
 else (none))
 else (none))
 else (none))
 else (none)) : Option (St9 ⊕ Rt9)) = some x) : T9_0 cond Kst Kret u1 u2 u3 u4 al nl ml tl by1 x0 x1 x2 x3 x4 x5 := by
  unfold T9_0
  refine bif_split h
   (fun c0 h => bif_split h
   (fun c1 h => bif_split h
   (fun c2 h => bif_split h
   (fun c3 h => bif_split h
   (fun c4 h => bif_split h
   (fun c5 h => cond_yes c1 (cond_yes c2 (cond_yes c1 (cond_yes c2 (cond_yes c3 (cond_yes c4 (bif_split h
   (fun c6 h => cond_yes c1 (cond_yes c2 (bif_split h
   (fun c7 h => stop_at hS _ h (fun n => bif Nat.beq n 1 then 1 else bif Nat.beq n 2 then 2 else bif Nat.beq n 3 then 3 else n) rfl rfl rfl ⟨(rn_loose (use_lo rfl) rfl rfl rfl), ⟨(rn_int rfl), ⟨(rn_ptr (use_own rfl) rfl rfl), ⟨(rn_own (use_own rfl) rfl rfl), ⟨(rn_own (use_own rfl) rfl mkl_len), ⟨(rn_int rfl), ⟨(rn_int rfl), trivial⟩⟩⟩⟩⟩⟩⟩ rfl (entl_b (use_own rfl) rfl (by simp) (rb_cells ⟨(rn_int rfl), (rn_int rfl), (rn_int rfl), (rn_int rfl), (rn_int rfl), (rn_int rfl), (rn_int rfl), trivial⟩) (entl_new (use_own rfl) rfl (Nat.le_of_eq rfl) (rcs_int (fun _ _ => rfl) (rcs_int (fun _ _ => rfl) (rcs_int (fun _ _ => rfl) (rcs_int (fun _ _ => rfl) (rcs_int (fun _ _ => rfl) (rcs_int (fun _ _ => rfl) (rcs_int (fun _ _ => rfl) rcs_nil))))))) (entl_new (use_own rfl) rfl (Nat.le_of_eq mkl_len) (rcs_int (fun _ hj => col_mkl (fun (t : Int × Int × Int × Int × Int × Int × Int) => t.1) hj) (rcs_int (fun _ hj => col_mkl (fun (t : Int × Int × Int × Int × Int × Int × Int) => t.2.1) hj) (rcs_int (fun _ hj => col_mkl (fun (t : Int × Int × Int × Int × Int × Int × Int) => t.2.2.1) hj) (rcs_int (fun _ hj => col_mkl (fun (t : Int × Int × Int × Int × Int × Int × Int) => t.2.2.2.1) hj) (rcs_int (fun _ hj => col_mkl (fun (t : Int × Int × Int × Int × Int × Int × Int) => t.2.2.2.2.1) hj) (rcs_int (fun _ hj => col_mkl (fun (t : Int × Int × Int × Int × Int × Int × Int) => t.2.2.2.2.2.1) hj) (rcs_int (fun _ hj => col_mkl (fun (t : Int × Int × Int × Int × Int × Int × Int) => t.2.2.2.2.2.2) hj) rcs_nil))))))) (entl_bor (use_lo rfl) rfl rfl entl_nil)))))
   (fun c7 h => ?_))))
   (fun c6 h => ?_))))))))
   (fun c5 h => ?_))
   (fun c4 h => ?_))
   (fun c3 h => ?_))
   (fun c2 h => ?_))
   (fun c1 h => ?_))
   (fun c0 h => bif_split h
   (fun c1 h => bif_split h
   (fun c2 h => bif_split h
   (fun c3 h => cond_yes rfl (bif_split h
   (fun c4 h => bif_split h
   (fun c5 h => ?_)
   (fun c5 h => bif_split h
   (fun c6 h => ?_)
   (fun c6 h => bif_split h
   (fun c7 h => ?_)
   (fun c7 h => bif_split h
   (fun c8 h => bif_split h
   (fun c9 h => bif_split h
   (fun c10 h => bif_split h
   (fun c11 h => bif_split h
   (fun c12 h => bif_split h
   (fun c13 h => ?_)
   (fun c13 h => ?_))
   (fun c12 h => ?_))
   (fun c11 h => ?_))
   (fun c10 h => ?_))
   (fun c9 h => bif_split h
   (fun c10 h => ?_)
   (fun c10 h => cond_yes c8 (bif_split h
   (fun c11 h => bif_split h
   (fun c12 h => bif_split h
   (fun c13 h => bif_split h
   (fun c14 h => ?_)
   (fun c14 h => cond_yes c11 (cond_yes c12 (cond_yes c13 (bif_split h
   (fun c15 h => bif_split h
   (fun c16 h => ?_)
   (fun c16 h => ?_))
   (fun c15 h => ?_))))))
   (fun c13 h => ?_))
   (fun c12 h => ?_))
   (fun c11 h => ?_)))))
   (fun c8 h => bif_split h
   (fun c9 h => ?_)
   (fun c9 h => cond_no c8 (ret_at hR _ h (fun n => n) rfl rfl rfl (rn_bool_tf rfl) rfl (entl_bor (use_lo rfl) rfl rfl entl_nil))))))))
   (fun c4 h => ?_)))
   (fun c3 h => ?_))
   (fun c2 h => ?_))
   (fun c1 h => ?_))
  all_goals first
    | exact no_some h
    | exact ret_at hR _ h (fun n => n) rfl rfl rfl (rn_bool_tf rfl) rfl (entl_bor (use_lo rfl) rfl rfl entl_nil)
theorem a9 (u1 u2 u3 u4 : Int) (al nl ml : Nat) (tl : Nat → Int) (by1 : Int) {r : Rt9} (h : Goes ((q9 u1 u2 u3 u4 al nl ml tl by1)) ((p9 u1 u2 u3 u4 al nl ml tl by1)) r) : CallR Try.prog 9 [.agg [.int .u8 u1, .int .u8 u2, .int .u8 u3, .int .u8 u4], .loose ⟨0, 1, al, 0⟩ nl, .int .i8 by1] [[(0, (false, .cols ml [.int .i8 tl]))]] 1 ((V9 u1 u2 u3 u4 al nl ml tl by1) r) ((fun r => [newL (1 + 1) ((N9 u1 u2 u3 u4 al nl ml tl by1) r) ++ [(0, (false, .cols ml [.int .i8 tl]))]]) r) 400 ∧ ∃ F, Try.prog.funcs[9]? = some F ∧ F.body.isSome = true ∧ (F.name == "runtime.NumGoroutine") = false := by
  refine dec_calls (f := 9) (lo := 1) (hi := 400) (H := [[(0, (false, .cols ml [.int .i8 tl]))]]) (args := [.agg [.int .u8 u1, .int .u8 u2, .int .u8 u3, .int .u8 u4], .loose ⟨0, 1, al, 0⟩ nl, .int .i8 by1]) Try.envOk Try.mixed xF_ok ((I9 u1 u2 u3 u4 al nl ml tl by1)) ((V9 u1 u2 u3 u4 al nl ml tl by1)) (fun r => [newL (1 + 1) ((N9 u1 u2 u3 u4 al nl ml tl by1) r) ++ [(0, (false, .cols ml [.int .i8 tl]))]]) (fn := mkFn Try.f9) (ts := [1, 2, 7, 8, 9, 37, 38]) (n := 400) rfl (by decide) (by simp) (names_of rfl) ?_ ?_ ?_ h
  · intro s; cases s <;> exact ⟨hd_ok _ _, by simp [I9], names_of rfl, Nat.le_of_ble_eq_true rfl⟩
  · intro Kst Kret x hS hR h
    exact Holds.eq (te9 cond Kst Kret u1 u2 u3 u4 al nl ml tl by1) (be9 u1 u2 u3 u4 al nl ml tl by1 Kst Kret x hS hR h)
  · intro Kst Kret x hS hR s h
    cases s with
    | h0 x0 x1 x2 x3 x4 x5 => exact Holds.eq (t9_0 cond Kst Kret u1 u2 u3 u4 al nl ml tl by1 x0 x1 x2 x3 x4 x5) (b9_0 u1 u2 u3 u4 al nl ml tl by1 Kst Kret x hS hR x0 x1 x2 x3 x4 x5 h)
noncomputable def k9  : Con := ⟨9, [.agg [.plain (.int .u8), .plain (.int .u8), .plain (.int .u8), .plain (.int .u8)], .one (.list [.int .i8]), .one (.plain (.int .i8))], fun (x : (Int × Int × Int × Int × Unit) × (Nat × Nat × Nat × (Nat → Int) × Unit) × Int × Unit) => (fun (u1 : Int) (u2 : Int) (u3 : Int) (u4 : Int) (al nl ml : Nat) (tl : Nat → Int) (by1 : Int) => decide (al + nl ≤ ml ∧ (S.isB u1 = true ∧ S.isB u2 = true ∧ S.isB u3 = true ∧ S.isB u4 = true) ∧ S.i8B (fun j => tl (j + al)) nl = true ∧ decide (-128 ≤ by1 ∧ by1 ≤ 127) = true)) x.1.1 x.1.2.1 x.1.2.2.1 x.1.2.2.2.1 x.2.1.1 x.2.1.2.1 x.2.1.2.2.1 x.2.1.2.2.2.1 x.2.2.1, fun (x : (Int × Int × Int × Int × Unit) × (Nat × Nat × Nat × (Nat → Int) × Unit) × Int × Unit) => (fun (u1 : Int) (u2 : Int) (u3 : Int) (u4 : Int) (al nl ml : Nat) (tl : Nat → Int) (by1 : Int) => (V9 u1 u2 u3 u4 al nl ml tl by1) (true)) x.1.1 x.1.2.1 x.1.2.2.1 x.1.2.2.2.1 x.2.1.1 x.2.1.2.1 x.2.1.2.2.1 x.2.1.2.2.2.1 x.2.2.1, fun (x : (Int × Int × Int × Int × Unit) × (Nat × Nat × Nat × (Nat → Int) × Unit) × Int × Unit) => (fun (u1 : Int) (u2 : Int) (u3 : Int) (u4 : Int) (al nl ml : Nat) (tl : Nat → Int) (by1 : Int) => (N9 u1 u2 u3 u4 al nl ml tl by1) (true)) x.1.1 x.1.2.1 x.1.2.2.1 x.1.2.2.2.1 x.2.1.1 x.2.1.2.1 x.2.1.2.2.1 x.2.1.2.2.2.1 x.2.2.1, fun _ _ => .dead⟩
theorem s9' (u1 u2 u3 u4 : Int) (al nl ml : Nat) (tl : Nat → Int) (by1 : Int) (hp : al + nl ≤ ml ∧ (S.isB u1 = true ∧ S.isB u2 = true ∧ S.isB u3 = true ∧ S.isB u4 = true) ∧ S.i8B (fun j => tl (j + al)) nl = true ∧ decide (-128 ≤ by1 ∧ by1 ≤ 127) = true) (hn : nl ≤ 20) : ∀ k i : Nat, i + k = nl → Comes (q9 u1 u2 u3 u4 al nl ml tl by1) (.h0 (i : Int) (1 + Int.tmod u2 2) (Int.tmod u3 7 - 3) 0 (S.mkl nl (S.shB (fun j => tl (j + al)))) (S.mkl nl (S.shT (fun j => tl (j + al)) (by1 * (1 + Int.tmod u3 20)) i))) true := by
  obtain ⟨hp1, ⟨g1, g2, g3, g4⟩, hp3, hp4⟩ := hp
  have hb : ∀ j, j < nl → -128 ≤ tl (j + al) ∧ tl (j + al) ≤ 127 := fun j hj => of_decide_eq_true (all_iff.mp hp3 j hj)
  have g1 := of_decide_eq_true g1
  have g2 := of_decide_eq_true g2
  have g3 := of_decide_eq_true g3
  have g4 := of_decide_eq_true g4
  have hd := of_decide_eq_true hp4
  have m1 := tmd g1.1 (show (0 : Int) < 8 by decide)
  have m2 := tmd g2.1 (show (0 : Int) < 2 by decide)
  have m3 := tmd g3.1 (show (0 : Int) < 20 by decide)
  have m4 := tmd g3.1 (show (0 : Int) < 7 by decide)
  have hD : -2560 ≤ (by1 * (1 + Int.tmod u3 20)) ∧ (by1 * (1 + Int.tmod u3 20)) ≤ 2560 := by
    have h1 := Int.mul_le_mul_of_nonneg_right hd.2 (show 0 ≤ 1 + Int.tmod u3 20 by omega)
    have h2 := Int.mul_le_mul_of_nonneg_right hd.1 (show 0 ≤ 1 + Int.tmod u3 20 by omega)
    omega
  intro k
  induction k with
  | zero =>
    intro i hi
    obtain rfl : nl = i := by omega
    have cA : S.posS 1 (Int.tmod u1 8) (1 + Int.tmod u2 2) (Int.tmod u3 7 - 3) (1 + Int.tmod u3 20) (200 + 10 * u4) 0 (nl) (fun j => (S.at' (S.mkl nl (S.shB (fun j => tl (j + al)))) j).1) (fun j => (S.at' (S.mkl nl (S.shB (fun j => tl (j + al)))) j).2.1) (fun j => (S.at' (S.mkl nl (S.shB (fun j => tl (j + al)))) j).2.2.1) (fun j => (S.at' (S.mkl nl (S.shB (fun j => tl (j + al)))) j).2.2.2.1) (fun j => (S.at' (S.mkl nl (S.shB (fun j => tl (j + al)))) j).2.2.2.2.1) (fun j => (S.at' (S.mkl nl (S.shB (fun j => tl (j + al)))) j).2.2.2.2.2.1) (fun j => (S.at' (S.mkl nl (S.shB (fun j => tl (j + al)))) j).2.2.2.2.2.2) = S.posS 1 (Int.tmod u1 8) (1 + Int.tmod u2 2) (Int.tmod u3 7 - 3) (1 + Int.tmod u3 20) (200 + 10 * u4) 0 (nl) (fun j => tl (j + al)) (fun _ => 0) (fun j => 3 * (fun j => tl (j + al)) j) (fun _ => 0) (fun _ => 0) (fun j => if j % 4 = 3 then 2 else -1) (fun j => ((j % 3 : Nat) : Int)) := posS_congr fun j hj => by
      rw [at_mkl hj]
      exact ⟨rfl, rfl, rfl, rfl, rfl, rfl, rfl⟩
    have cB : S.posS 1 (Int.tmod u1 8) (1 + Int.tmod u2 2) (Int.tmod u3 7 - 3) (1 + Int.tmod u3 20) (200 + 10 * u4) 0 (nl + 1) (fun j => bif Nat.blt j nl then (S.at' (S.mkl nl (S.shT (fun j => tl (j + al)) (by1 * (1 + Int.tmod u3 20)) nl)) j).1 else 100000) (fun j => bif Nat.blt j nl then (S.at' (S.mkl nl (S.shT (fun j => tl (j + al)) (by1 * (1 + Int.tmod u3 20)) nl)) j).2.1 else 0) (fun j => bif Nat.blt j nl then (S.at' (S.mkl nl (S.shT (fun j => tl (j + al)) (by1 * (1 + Int.tmod u3 20)) nl)) j).2.2.1 else -100000) (fun j => bif Nat.blt j nl then (S.at' (S.mkl nl (S.shT (fun j => tl (j + al)) (by1 * (1 + Int.tmod u3 20)) nl)) j).2.2.2.1 else 0) (fun j => bif Nat.blt j nl then (S.at' (S.mkl nl (S.shT (fun j => tl (j + al)) (by1 * (1 + Int.tmod u3 20)) nl)) j).2.2.2.2.1 else 0) (fun j => bif Nat.blt j nl then (S.at' (S.mkl nl (S.shT (fun j => tl (j + al)) (by1 * (1 + Int.tmod u3 20)) nl)) j).2.2.2.2.2.1 else 0) (fun j => bif Nat.blt j nl then (S.at' (S.mkl nl (S.shT (fun j => tl (j + al)) (by1 * (1 + Int.tmod u3 20)) nl)) j).2.2.2.2.2.2 else 0) = S.posS 1 (Int.tmod u1 8) (1 + Int.tmod u2 2) (Int.tmod u3 7 - 3) (1 + Int.tmod u3 20) (200 + 10 * u4) 0 (nl + 1) (S.jn nl (fun j => (fun j => tl (j + al)) j + (by1 * (1 + Int.tmod u3 20))) 100000) (S.jn nl (fun _ => 0) 0) (S.jn nl (fun j => 3 * (fun j => tl (j + al)) j + (by1 * (1 + Int.tmod u3 20))) (-100000)) (S.jn nl (fun _ => 0) 0) (S.jn nl (fun _ => 0) 0) (S.jn nl (fun j => if j % 4 = 3 then 2 else -1) 0) (S.jn nl (fun j => ((j % 3 : Nat) : Int)) 0) := posS_congr fun j hj => by
      unfold S.jn
      cases hb : Nat.blt j nl
      · exact ⟨rfl, rfl, rfl, rfl, rfl, rfl, rfl⟩
      · have hj' : j < nl := by simpa using hb
        rw [at_mkl hj']
        unfold S.shT
        rw [if_pos hj']
        exact ⟨rfl, rfl, rfl, rfl, rfl, rfl, rfl⟩
    obtain ⟨T0, hh⟩ := shift (t := (fun j => tl (j + al))) (n := nl) (pc := Int.tmod u1 8) (pn := 1 + Int.tmod u2 2) (of := Int.tmod u3 7 - 3) (rs := 1 + Int.tmod u3 20) (rg := 200 + 10 * u4) (d := by1) hn hb hd (by omega) (by omega) (by omega) (by omega) (by omega)
    rw [← cA, ← cB] at hh
    clear cA cB
    apply Comes.of
    show Goes _ _ _
    rw [q9]
    simp only [mkl_len]
    rcases hh with ⟨hA, hB⟩ | ⟨v, hv, hA, hB⟩
    · rw [hA, hB]
      generalize (by1 * (1 + Int.tmod u3 20)) = D at *
      by_cases h0 : nl = 0
      · have h0' : ((nl : Int) == 0) = true := by simp [h0]
        (try dsimp only)
        repeat' first
          | with_reducible exact goes_inr.mpr rfl
          | (refine goes_ok ?_ ?_; focus (first | with_reducible exact beq_self_eq_true _ | (simp only [Bool.and_eq_true, decide_eq_true_eq, and_self, eq_self]; done) | with_reducible exact decide_eq_true trivial | with_reducible exact decide_eq_true rfl | (simp only [eq_self, decide_true, Bool.and_self, Bool.and_true, Bool.true_and]; done) | (apply decide_eq_true; omega) | (rw [lim64]; apply decide_eq_true; omega) | (apply decide_eq_true; simp only [mkl_len, mkl_zero, List.length_nil, true_and, and_true, and_self, Nat.zero_add, Nat.add_zero, Nat.le_refl]; done) | (apply decide_eq_true; simp only [mkl_len, mkl_zero, List.length_nil, true_and, and_true, and_self, Nat.zero_add, Nat.add_zero, Nat.le_refl]; omega) | decide | with_reducible exact h0'))
          | (refine goes_no ?_ ?_; focus (first | with_reducible exact bne_self_eq_false _ | (apply decide_eq_false; omega) | decide))

      · have h0' : ((nl : Int) == 0) = false := by simp [h0]
        (try dsimp only)
        repeat' first
          | with_reducible exact goes_inr.mpr rfl
          | (refine goes_ok ?_ ?_; focus (first | with_reducible exact beq_self_eq_true _ | (simp only [Bool.and_eq_true, decide_eq_true_eq, and_self, eq_self]; done) | with_reducible exact decide_eq_true trivial | with_reducible exact decide_eq_true rfl | (simp only [eq_self, decide_true, Bool.and_self, Bool.and_true, Bool.true_and]; done) | (apply decide_eq_true; omega) | (rw [lim64]; apply decide_eq_true; omega) | (apply decide_eq_true; simp only [mkl_len, mkl_zero, List.length_nil, true_and, and_true, and_self, Nat.zero_add, Nat.add_zero, Nat.le_refl]; done) | (apply decide_eq_true; simp only [mkl_len, mkl_zero, List.length_nil, true_and, and_true, and_self, Nat.zero_add, Nat.add_zero, Nat.le_refl]; omega) | decide))
          | (refine goes_no ?_ ?_; focus (first | with_reducible exact bne_self_eq_false _ | (apply decide_eq_false; omega) | decide | with_reducible exact h0'))

    · rw [hA, hB]
      generalize (by1 * (1 + Int.tmod u3 20)) = D at *
      unfold S.good
      by_cases q1 : -(200 + 10 * u4) ≤ v ∧ v ≤ 200 + 10 * u4
      · rw [if_pos q1]
        by_cases q2 : -(200 + 10 * u4) ≤ v + D ∧ v + D ≤ 200 + 10 * u4
        · rw [if_pos q2]
          (try dsimp only)
          repeat' first
            | with_reducible exact goes_inr.mpr rfl
            | (refine goes_ok ?_ ?_; focus (first | with_reducible exact beq_self_eq_true _ | (simp only [Bool.and_eq_true, decide_eq_true_eq, and_self, eq_self]; done) | with_reducible exact decide_eq_true trivial | with_reducible exact decide_eq_true rfl | (simp only [eq_self, decide_true, Bool.and_self, Bool.and_true, Bool.true_and]; done) | (apply decide_eq_true; omega) | (rw [lim64]; apply decide_eq_true; omega) | (apply decide_eq_true; simp only [mkl_len, mkl_zero, List.length_nil, true_and, and_true, and_self, Nat.zero_add, Nat.add_zero, Nat.le_refl]; done) | (apply decide_eq_true; simp only [mkl_len, mkl_zero, List.length_nil, true_and, and_true, and_self, Nat.zero_add, Nat.add_zero, Nat.le_refl]; omega) | decide))
            | (refine goes_no ?_ ?_; focus (first | with_reducible exact bne_self_eq_false _ | (apply decide_eq_false; omega) | decide))

        · rw [if_neg q2]
          by_cases h0 : nl = 0
          · have h0' : ((nl : Int) == 0) = true := by simp [h0]
            (try dsimp only)
            repeat' first
              | with_reducible exact goes_inr.mpr rfl
              | (refine goes_ok ?_ ?_; focus (first | with_reducible exact beq_self_eq_true _ | (simp only [Bool.and_eq_true, decide_eq_true_eq, and_self, eq_self]; done) | with_reducible exact decide_eq_true trivial | with_reducible exact decide_eq_true rfl | (simp only [eq_self, decide_true, Bool.and_self, Bool.and_true, Bool.true_and]; done) | (apply decide_eq_true; omega) | (rw [lim64]; apply decide_eq_true; omega) | (apply decide_eq_true; simp only [mkl_len, mkl_zero, List.length_nil, true_and, and_true, and_self, Nat.zero_add, Nat.add_zero, Nat.le_refl]; done) | (apply decide_eq_true; simp only [mkl_len, mkl_zero, List.length_nil, true_and, and_true, and_self, Nat.zero_add, Nat.add_zero, Nat.le_refl]; omega) | decide | with_reducible exact h0'))
              | (refine goes_no ?_ ?_; focus (first | with_reducible exact bne_self_eq_false _ | (apply decide_eq_false; omega) | decide))

          · have h0' : ((nl : Int) == 0) = false := by simp [h0]
            by_cases q3 : v + D > 200 + 10 * u4
            · (try dsimp only)
              repeat' first
                | with_reducible exact goes_inr.mpr rfl
                | (refine goes_ok ?_ ?_; focus (first | with_reducible exact beq_self_eq_true _ | (simp only [Bool.and_eq_true, decide_eq_true_eq, and_self, eq_self]; done) | with_reducible exact decide_eq_true trivial | with_reducible exact decide_eq_true rfl | (simp only [eq_self, decide_true, Bool.and_self, Bool.and_true, Bool.true_and]; done) | (apply decide_eq_true; omega) | (rw [lim64]; apply decide_eq_true; omega) | (apply decide_eq_true; simp only [mkl_len, mkl_zero, List.length_nil, true_and, and_true, and_self, Nat.zero_add, Nat.add_zero, Nat.le_refl]; done) | (apply decide_eq_true; simp only [mkl_len, mkl_zero, List.length_nil, true_and, and_true, and_self, Nat.zero_add, Nat.add_zero, Nat.le_refl]; omega) | decide))
                | (refine goes_no ?_ ?_; focus (first | with_reducible exact bne_self_eq_false _ | (apply decide_eq_false; omega) | decide | with_reducible exact h0'))

            · (try dsimp only)
              repeat' first
                | with_reducible exact goes_inr.mpr rfl
                | (refine goes_ok ?_ ?_; focus (first | with_reducible exact beq_self_eq_true _ | (simp only [Bool.and_eq_true, decide_eq_true_eq, and_self, eq_self]; done) | with_reducible exact decide_eq_true trivial | with_reducible exact decide_eq_true rfl | (simp only [eq_self, decide_true, Bool.and_self, Bool.and_true, Bool.true_and]; done) | (apply decide_eq_true; omega) | (rw [lim64]; apply decide_eq_true; omega) | (apply decide_eq_true; simp only [mkl_len, mkl_zero, List.length_nil, true_and, and_true, and_self, Nat.zero_add, Nat.add_zero, Nat.le_refl]; done) | (apply decide_eq_true; simp only [mkl_len, mkl_zero, List.length_nil, true_and, and_true, and_self, Nat.zero_add, Nat.add_zero, Nat.le_refl]; omega) | decide))
                | (refine goes_no ?_ ?_; focus (first | with_reducible exact bne_self_eq_false _ | (apply decide_eq_false; omega) | decide | with_reducible exact h0'))

      · rw [if_neg q1]
        by_cases h0 : nl = 0
        · have h0' : ((nl : Int) == 0) = true := by simp [h0]
          by_cases q2 : -(200 + 10 * u4) ≤ v + D ∧ v + D ≤ 200 + 10 * u4
          · rw [if_pos q2]
            (try dsimp only)
            repeat' first
              | with_reducible exact goes_inr.mpr rfl
              | (refine goes_ok ?_ ?_; focus (first | with_reducible exact beq_self_eq_true _ | (simp only [Bool.and_eq_true, decide_eq_true_eq, and_self, eq_self]; done) | with_reducible exact decide_eq_true trivial | with_reducible exact decide_eq_true rfl | (simp only [eq_self, decide_true, Bool.and_self, Bool.and_true, Bool.true_and]; done) | (apply decide_eq_true; omega) | (rw [lim64]; apply decide_eq_true; omega) | (apply decide_eq_true; simp only [mkl_len, mkl_zero, List.length_nil, true_and, and_true, and_self, Nat.zero_add, Nat.add_zero, Nat.le_refl]; done) | (apply decide_eq_true; simp only [mkl_len, mkl_zero, List.length_nil, true_and, and_true, and_self, Nat.zero_add, Nat.add_zero, Nat.le_refl]; omega) | decide | with_reducible exact h0'))
              | (refine goes_no ?_ ?_; focus (first | with_reducible exact bne_self_eq_false _ | (apply decide_eq_false; omega) | decide))

          · rw [if_neg q2]
            (try dsimp only)
            repeat' first
              | with_reducible exact goes_inr.mpr rfl
              | (refine goes_ok ?_ ?_; focus (first | with_reducible exact beq_self_eq_true _ | (simp only [Bool.and_eq_true, decide_eq_true_eq, and_self, eq_self]; done) | with_reducible exact decide_eq_true trivial | with_reducible exact decide_eq_true rfl | (simp only [eq_self, decide_true, Bool.and_self, Bool.and_true, Bool.true_and]; done) | (apply decide_eq_true; omega) | (rw [lim64]; apply decide_eq_true; omega) | (apply decide_eq_true; simp only [mkl_len, mkl_zero, List.length_nil, true_and, and_true, and_self, Nat.zero_add, Nat.add_zero, Nat.le_refl]; done) | (apply decide_eq_true; simp only [mkl_len, mkl_zero, List.length_nil, true_and, and_true, and_self, Nat.zero_add, Nat.add_zero, Nat.le_refl]; omega) | decide | with_reducible exact h0'))
              | (refine goes_no ?_ ?_; focus (first | with_reducible exact bne_self_eq_false _ | (apply decide_eq_false; omega) | decide))

        · have h0' : ((nl : Int) == 0) = false := by simp [h0]
          by_cases q2 : -(200 + 10 * u4) ≤ v + D ∧ v + D ≤ 200 + 10 * u4
          · rw [if_pos q2]
            (try dsimp only)
            repeat' first
              | with_reducible exact goes_inr.mpr rfl
              | (refine goes_ok ?_ ?_; focus (first | with_reducible exact beq_self_eq_true _ | (simp only [Bool.and_eq_true, decide_eq_true_eq, and_self, eq_self]; done) | with_reducible exact decide_eq_true trivial | with_reducible exact decide_eq_true rfl | (simp only [eq_self, decide_true, Bool.and_self, Bool.and_true, Bool.true_and]; done) | (apply decide_eq_true; omega) | (rw [lim64]; apply decide_eq_true; omega) | (apply decide_eq_true; simp only [mkl_len, mkl_zero, List.length_nil, true_and, and_true, and_self, Nat.zero_add, Nat.add_zero, Nat.le_refl]; done) | (apply decide_eq_true; simp only [mkl_len, mkl_zero, List.length_nil, true_and, and_true, and_self, Nat.zero_add, Nat.add_zero, Nat.le_refl]; omega) | decide))
              | (refine goes_no ?_ ?_; focus (first | with_reducible exact bne_self_eq_false _ | (apply decide_eq_false; omega) | decide | with_reducible exact h0'))

          · rw [if_neg q2]
            (try dsimp only)
            repeat' first
              | with_reducible exact goes_inr.mpr rfl
              | (refine goes_ok ?_ ?_; focus (first | with_reducible exact beq_self_eq_true _ | (simp only [Bool.and_eq_true, decide_eq_true_eq, and_self, eq_self]; done) | with_reducible exact decide_eq_true trivial | with_reducible exact decide_eq_true rfl | (simp only [eq_self, decide_true, Bool.and_self, Bool.and_true, Bool.true_and]; done) | (apply decide_eq_true; omega) | (rw [lim64]; apply decide_eq_true; omega) | (apply decide_eq_true; simp only [mkl_len, mkl_zero, List.length_nil, true_and, and_true, and_self, Nat.zero_add, Nat.add_zero, Nat.le_refl]; done) | (apply decide_eq_true; simp only [mkl_len, mkl_zero, List.length_nil, true_and, and_true, and_self, Nat.zero_add, Nat.add_zero, Nat.le_refl]; omega) | decide))
              | (refine goes_no ?_ ?_; focus (first | with_reducible exact bne_self_eq_false _ | (apply decide_eq_false; omega) | decide | with_reducible exact h0'))

  | succ k ih =>
    intro i hi
    have ih := ih (i + 1) (by omega)
    have hbi := hb i (by omega)
    have hs : (S.mkl nl fun j => (bif Nat.beq j i then (S.shB (fun j => tl (j + al)) i).1 + (by1 * (1 + Int.tmod u3 20)) else (S.at' (S.mkl nl (S.shT (fun j => tl (j + al)) (by1 * (1 + Int.tmod u3 20)) i)) j).1, (S.at' (S.mkl nl (S.shT (fun j => tl (j + al)) (by1 * (1 + Int.tmod u3 20)) i)) j).2.1, bif Nat.beq j i then (S.shB (fun j => tl (j + al)) i).2.2.1 + (by1 * (1 + Int.tmod u3 20)) else (S.at' (S.mkl nl (S.shT (fun j => tl (j + al)) (by1 * (1 + Int.tmod u3 20)) i)) j).2.2.1, (S.at' (S.mkl nl (S.shT (fun j => tl (j + al)) (by1 * (1 + Int.tmod u3 20)) i)) j).2.2.2.1, (S.at' (S.mkl nl (S.shT (fun j => tl (j + al)) (by1 * (1 + Int.tmod u3 20)) i)) j).2.2.2.2.1, (S.at' (S.mkl nl (S.shT (fun j => tl (j + al)) (by1 * (1 + Int.tmod u3 20)) i)) j).2.2.2.2.2.1, (S.at' (S.mkl nl (S.shT (fun j => tl (j + al)) (by1 * (1 + Int.tmod u3 20)) i)) j).2.2.2.2.2.2)) = S.mkl nl (S.shT (fun j => tl (j + al)) (by1 * (1 + Int.tmod u3 20)) (i + 1)) := by
      refine mkl_congr fun j hj => ?_
      rw [at_mkl hj]
      unfold S.shT
      by_cases h : j = i
      · subst h
        simp only [Nat.beq_refl, cond_true, if_neg (Nat.lt_irrefl j), if_pos (Nat.lt_succ_self j)]
        rfl
      · simp only [nbeq_no h, cond_false]
        by_cases h2 : j < i
        · simp only [if_pos h2, if_pos (show j < i + 1 by omega)]
        · simp only [if_neg h2, if_neg (show ¬ j < i + 1 by omega)]
    have ha : S.at' (S.mkl nl (S.shT (fun j => tl (j + al)) (by1 * (1 + Int.tmod u3 20)) i)) i = S.shB (fun j => tl (j + al)) i := by
      rw [at_mkl (by omega)]
      unfold S.shT
      rw [if_neg (Nat.lt_irrefl _)]
    have hx : (S.shB (fun j => tl (j + al)) i).1 = tl (i + al) := rfl
    have hz : (S.shB (fun j => tl (j + al)) i).2.2.1 = 3 * tl (i + al) := rfl
    apply Comes.of
    show Goes _ _ _
    rw [q9]
    simp only [mkl_len, Int.toNat_natCast, ha]
    rw [hs, hx, hz]
    repeat' first
      | with_reducible refine goes_if (fun h => ?_) (fun h => ?_) <;> (try simp only [SH, mkl_len] at h)
      | exact goes_none.mpr (by omega)
    all_goals first | (exfalso; omega) | exact ih
theorem s9 (u1 u2 u3 u4 : Int) (al nl ml : Nat) (tl : Nat → Int) (by1 : Int) (hp : al + nl ≤ ml ∧ (S.isB u1 = true ∧ S.isB u2 = true ∧ S.isB u3 = true ∧ S.isB u4 = true) ∧ S.i8B (fun j => tl (j + al)) nl = true ∧ decide (-128 ≤ by1 ∧ by1 ≤ 127) = true) : Goes ((q9 u1 u2 u3 u4 al nl ml tl by1)) ((p9 u1 u2 u3 u4 al nl ml tl by1)) (true) := by
  by_cases h0 : (nl : Int) > 20
  · unfold p9
    exact goes_ok (decide_eq_true h0) (goes_inr.mpr rfl)
  · have hm := s9' u1 u2 u3 u4 al nl ml tl by1 hp (by omega) nl 0 (by omega)
    obtain ⟨hp1, ⟨g1, g2, g3, g4⟩, hp3, hp4⟩ := hp
    have g1 := of_decide_eq_true g1
    have g2 := of_decide_eq_true g2
    have g3 := of_decide_eq_true g3
    have g4 := of_decide_eq_true g4
    have m1 := tmd g1.1 (show (0 : Int) < 8 by decide)
    have m2 := tmd g2.1 (show (0 : Int) < 2 by decide)
    have m3 := tmd g3.1 (show (0 : Int) < 20 by decide)
    have m4 := tmd g3.1 (show (0 : Int) < 7 by decide)
    have e0 : S.mkl nl (S.shT (fun j => tl (j + al)) (by1 * (1 + Int.tmod u3 20)) 0) = S.mkl nl (S.shB (fun j => tl (j + al))) := mkl_congr fun j hj => if_neg (Nat.not_lt_zero j)
    rw [e0] at hm
    have h5 : al + nl ≤ ml ∧ nl ≤ 1000 ∧ S.i8B (fun j => tl (j + al)) nl = true := ⟨hp1, by omega, hp3⟩
    unfold p9
    rw [decide_eq_true h5, cond_true]
    repeat' first
      | with_reducible refine goes_if (fun h => ?_) (fun h => ?_) <;> (try simp only [SH] at h)
      | exact goes_none.mpr (by omega)
    all_goals first | (exfalso; omega) | exact hm
theorem k9_ok  : k9.ok Try.prog := by
  intro x hx
  obtain ⟨⟨u1, u2, u3, u4, _⟩, ⟨al, nl, ml, tl, _⟩, by1, _⟩ := x
  obtain ⟨h1, h2⟩ := a9 u1 u2 u3 u4 al nl ml tl by1 (s9 u1 u2 u3 u4 al nl ml tl by1 (of_dec hx rfl))
  exact ⟨⟨400, (by decide : 1 + 1 + 0 ≤ 400), h1⟩, h2⟩
theorem pre9  {x : SsI k9.ss} (hx : ssFits k9.ss x) : k9.pre (ssj k9.ss x) = true := by
  obtain ⟨⟨v1, v2, v3, v4, u1⟩, ⟨n, t, u'⟩, d, u''⟩ := x
  obtain ⟨⟨h1, h2, h3, h4, -⟩, ⟨hn, ht, -⟩, hd, -⟩ := hx
  exact decide_eq_true ⟨Nat.le_of_eq (Nat.zero_add _), ⟨decide_eq_true h1, decide_eq_true h2, decide_eq_true h3, decide_eq_true h4⟩, i8B_mk ht, decide_eq_true hd⟩
end Go.Ev
