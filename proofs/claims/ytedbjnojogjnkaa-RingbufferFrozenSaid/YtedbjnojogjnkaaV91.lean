/-
  The parts that the statement needs, 1 of 2.
-/
import Derived.Test.YtedbjnojogjnkaaEnv
import Derived.Test.YtedbjnojogjnkaaEvY
import Derived.Test.YtedbjnojogjnkaaKit
namespace Go.Ev
open Go.Proofs
set_option linter.unusedVariables false
set_option linter.unusedSimpArgs false
set_option maxRecDepth 100000
set_option maxHeartbeats 4000000
noncomputable def k32 : Con := ⟨32, [.one (.list [.int .i64, .int .i64, .bool])], fun (x : (Nat × Nat × Nat × (Nat → Int) × (Nat → Int) × (Nat → Bool) × Unit) × Unit) => (fun (aa na ma : Nat) (ta : Nat → Int) (va : Nat → Int) (ga : Nat → Bool) => decide (aa + na ≤ ma ∧ na ≤ 1000000)) x.1.1 x.1.2.1 x.1.2.2.1 x.1.2.2.2.1 x.1.2.2.2.2.1 x.1.2.2.2.2.2.1, fun (x : (Nat × Nat × Nat × (Nat → Int) × (Nat → Int) × (Nat → Bool) × Unit) × Unit) => (fun (aa na ma : Nat) (ta : Nat → Int) (va : Nat → Int) (ga : Nat → Bool) => .own 2 3 na) x.1.1 x.1.2.1 x.1.2.2.1 x.1.2.2.2.1 x.1.2.2.2.2.1 x.1.2.2.2.2.2.1, fun (x : (Nat × Nat × Nat × (Nat → Int) × (Nat → Int) × (Nat → Bool) × Unit) × Unit) => (fun (aa na ma : Nat) (ta : Nat → Int) (va : Nat → Int) (ga : Nat → Bool) => [.cols na [.int .i64 (fun j => ta (j + aa)), .int .i64 (fun j => va (j + aa)), .bool (fun j => ga (j + aa))]]) x.1.1 x.1.2.1 x.1.2.2.1 x.1.2.2.2.1 x.1.2.2.2.2.1 x.1.2.2.2.2.2.1, fun _ _ => .dead⟩
theorem e32s (test : Bool → Prop → Prop → Prop) (Kst : List It → List PV → Heap → Nat → Prop) (Kret : PV → Heap → Nat → Prop) (aa na ma : Nat) (ta : Nat → Int) (va : Nat → Int) (ga : Nat → Bool) :
  (run test Try.env true noX true 300 ⟨32, [.cd (mkFn Try.f32).body], argT 0 [.sl ⟨0, 3, aa, 0⟩ na], [[], [(0, (false, .cols ma [.int .i64 ta, .int .i64 va, .bool ga]))]], 1⟩ (proj 1 [] Kst Kret)) =
  (test (decide (0 + na ≤ 1000000))
  (test true
    (test (decide (aa + na ≤ ma))
      (Kret (PV.own (2) (3) (0 + na))
        [[(0, false, Blk.cols ma [Col.int IntKind.i64 ta, Col.int IntKind.i64 va, Col.bool ga]),
            (2, true,
              Blk.cols (0 + na)
                [Col.int IntKind.i64 fun j => ta (j + aa), Col.int IntKind.i64 fun j => va (j + aa),
                  Col.bool fun j => ga (j + aa)])]]
        (3))
      False)
    False)
  False) := by kernel_rfl
theorem c32s (aa na ma : Nat) (ta : Nat → Int) (va : Nat → Int) (ga : Nat → Bool) (hp : aa + na ≤ ma ∧ na ≤ 1000000) (h0 : 0 < na) : CallR Try.prog 32 [.sl ⟨0, 3, aa, 0⟩ na] [[(0, (false, .cols ma [.int .i64 ta, .int .i64 va, .bool ga]))]] 1 (.own 2 3 na) [(2, (true, .cols na [.int .i64 (fun j => ta (j + aa)), .int .i64 (fun j => va (j + aa)), .bool (fun j => ga (j + aa))])) :: [(0, (false, .cols ma [.int .i64 ta, .int .i64 va, .bool ga]))]] 40 ∧ ∃ F, Try.prog.funcs[32]? = some F ∧ F.body.isSome = true ∧ (F.name == "runtime.NumGoroutine") = false := by
  refine @ret_eq _ _ Try.envOk Try.mixed _ noX_ok 32 (mkFn Try.f32) [.sl ⟨0, 3, aa, 0⟩ na] [[(0, (false, .cols ma [.int .i64 ta, .int .i64 va, .bool ga]))]] [(2, (true, .cols na [.int .i64 (fun j => ta (j + aa)), .int .i64 (fun j => va (j + aa)), .bool (fun j => ga (j + aa))])) :: [(0, (false, .cols ma [.int .i64 ta, .int .i64 va, .bool ga]))]] 1 40 (.own 2 3 na) true 300 rfl (by decide) (by simp) (names_of rfl) _ (e32s cond _ _ aa na ma ta va ga) ?_
  repeat' first
    | with_reducible refine cond_yes rfl ?_
    | with_reducible refine cond_no rfl ?_
    | (with_reducible refine cond_intro (fun h => ?_) (fun h => ?_)) <;> (try simp only [lim64, decide_eq_true_eq, decide_eq_false_iff_not, reduceCtorEq, Int.toNat_natCast, Bool.not_eq_true', Bool.not_eq_false', Bool.and_eq_true, Bool.or_eq_true, Bool.and_eq_false_iff, Bool.or_eq_false_iff, bne_iff_ne, beq_iff_eq, bne_eq_false_iff_eq, beq_eq_false_iff_ne, ne_eq] at h)
  all_goals first
    | with_reducible apply ret_k
    | omega
  repeat' first
    | with_reducible exact rns_nil
    | with_reducible refine rns_cons ?_ ?_
    | with_reducible refine rn_tup ?_
    | with_reducible refine rn_agg ?_
    | with_reducible refine rn_int ?_
    | with_reducible refine rn_tf ?_
    | with_reducible refine rn_bool_tf ?_
    | with_reducible refine rn_bool ?_
    | with_reducible refine rn_str ?_
    | with_reducible exact rn_nils
    | with_reducible refine rn_own_nils ?_
    | with_reducible refine rn_own ?_ ?_ ?_
    | with_reducible refine rn_own_sl ?_ ?_ ?_ ?_ ?_
    | with_reducible refine rn_own_loose ?_ ?_ ?_ ?_
    | with_reducible refine rn_loose ?_ ?_ ?_ ?_
    | with_reducible refine rn_loose_sl ?_ ?_ ?_ ?_
    | exact use_lo rfl
    | exact use_own rfl
    | exact nm_k rfl
    | exact nm_lo rfl
    | ((with_reducible refine (id : pos _ = pos _ → _) ?_); exact rfl)
    | ((with_reducible refine (id : pos _ = 0 → _) ?_); exact rfl)
    | ((with_reducible refine (id : Nat.ble _ _ = true → _) ?_); exact rfl)
    | ((with_reducible refine (id : injL _ _ = true → _) ?_); exact rfl)
    | ((with_reducible refine (id : plainC _ = true → _) ?_); exact rfl)
    | ((with_reducible refine (id : hget _ _ = some _ → _) ?_); exact rfl)
    | with_reducible exact (id : (_ : Bool) = true → _ = true)
    | with_reducible exact entl_nil
    | with_reducible refine entl_bor ?_ ?_ ?_ ?_
    | refine entl_new (use_own rfl) (by rfl) ?_ ?_ ?_
    | refine entl_rows (use_own rfl) (by rfl) rfl ?_ (nthc_all ?_) ?_
    | refine entl_zero (use_own rfl) (by rfl) (by simp) (by omega) ?_
    | with_reducible exact rcs_nil
    | with_reducible refine rcs_int (fun j hj => ?_) ?_
    | with_reducible refine rcs_bool (fun j hj => ?_) ?_
    | with_reducible refine rcs_str (fun j hj => ?_) ?_
    | refine entl_fresh (k := 2) (use_own rfl) (fresh_ok (n := 39) rfl) ?_
    | with_reducible rfl
  all_goals try exact (0 : Nat)
  all_goals try ((with_reducible refine (id : injL _ _ = true → _) ?_); exact rfl)
  all_goals first
    | omega
    | skip
theorem e32z (test : Bool → Prop → Prop → Prop) (Kst : List It → List PV → Heap → Nat → Prop) (Kret : PV → Heap → Nat → Prop) (aa na ma : Nat) (ta : Nat → Int) (va : Nat → Int) (ga : Nat → Bool) :
  (run test Try.env true noX true 300 ⟨32, [.cd (mkFn Try.f32).body], argT 0 [.zer true], [[], [(0, (false, .cols ma [.int .i64 ta, .int .i64 va, .bool ga]))]], 1⟩ (proj 1 [] Kst Kret)) =
  (Kret (PV.own (1) (3) (0))
  [[(0, false, Blk.cols ma [Col.int IntKind.i64 ta, Col.int IntKind.i64 va, Col.bool ga]),
      (1, true, Blk.cells [])]]
  (2)) := by kernel_rfl
theorem c32z (aa na ma : Nat) (ta : Nat → Int) (va : Nat → Int) (ga : Nat → Bool) (hp : aa + na ≤ ma ∧ na ≤ 1000000) (h0 : na = 0) : CallR Try.prog 32 [.zer true] [[(0, (false, .cols ma [.int .i64 ta, .int .i64 va, .bool ga]))]] 1 (.own 2 3 na) [(2, (true, .cols na [.int .i64 (fun j => ta (j + aa)), .int .i64 (fun j => va (j + aa)), .bool (fun j => ga (j + aa))])) :: [(0, (false, .cols ma [.int .i64 ta, .int .i64 va, .bool ga]))]] 40 ∧ ∃ F, Try.prog.funcs[32]? = some F ∧ F.body.isSome = true ∧ (F.name == "runtime.NumGoroutine") = false := by
  refine @ret_eq _ _ Try.envOk Try.mixed _ noX_ok 32 (mkFn Try.f32) [.zer true] [[(0, (false, .cols ma [.int .i64 ta, .int .i64 va, .bool ga]))]] [(2, (true, .cols na [.int .i64 (fun j => ta (j + aa)), .int .i64 (fun j => va (j + aa)), .bool (fun j => ga (j + aa))])) :: [(0, (false, .cols ma [.int .i64 ta, .int .i64 va, .bool ga]))]] 1 40 (.own 2 3 na) true 300 rfl (by decide) (by simp) (names_of rfl) _ (e32z cond _ _ aa na ma ta va ga) ?_
  repeat' first
    | with_reducible refine cond_yes rfl ?_
    | with_reducible refine cond_no rfl ?_
    | (with_reducible refine cond_intro (fun h => ?_) (fun h => ?_)) <;> (try simp only [lim64, decide_eq_true_eq, decide_eq_false_iff_not, reduceCtorEq, Int.toNat_natCast, Bool.not_eq_true', Bool.not_eq_false', Bool.and_eq_true, Bool.or_eq_true, Bool.and_eq_false_iff, Bool.or_eq_false_iff, bne_iff_ne, beq_iff_eq, bne_eq_false_iff_eq, beq_eq_false_iff_ne, ne_eq] at h)
  all_goals first
    | with_reducible apply ret_k
    | omega
  repeat' first
    | with_reducible exact rns_nil
    | with_reducible refine rns_cons ?_ ?_
    | with_reducible refine rn_tup ?_
    | with_reducible refine rn_agg ?_
    | with_reducible refine rn_int ?_
    | with_reducible refine rn_tf ?_
    | with_reducible refine rn_bool_tf ?_
    | with_reducible refine rn_bool ?_
    | with_reducible refine rn_str ?_
    | with_reducible exact rn_nils
    | with_reducible refine rn_own_nils ?_
    | with_reducible refine rn_own ?_ ?_ ?_
    | with_reducible refine rn_own_sl ?_ ?_ ?_ ?_ ?_
    | with_reducible refine rn_own_loose ?_ ?_ ?_ ?_
    | with_reducible refine rn_loose ?_ ?_ ?_ ?_
    | with_reducible refine rn_loose_sl ?_ ?_ ?_ ?_
    | exact use_lo rfl
    | exact use_own rfl
    | exact nm_k rfl
    | exact nm_lo rfl
    | ((with_reducible refine (id : pos _ = pos _ → _) ?_); exact rfl)
    | ((with_reducible refine (id : pos _ = 0 → _) ?_); exact rfl)
    | ((with_reducible refine (id : Nat.ble _ _ = true → _) ?_); exact rfl)
    | ((with_reducible refine (id : injL _ _ = true → _) ?_); exact rfl)
    | ((with_reducible refine (id : plainC _ = true → _) ?_); exact rfl)
    | ((with_reducible refine (id : hget _ _ = some _ → _) ?_); exact rfl)
    | with_reducible exact (id : (_ : Bool) = true → _ = true)
    | with_reducible exact entl_nil
    | with_reducible refine entl_bor ?_ ?_ ?_ ?_
    | refine entl_new (use_own rfl) (by rfl) ?_ ?_ ?_
    | refine entl_rows (use_own rfl) (by rfl) rfl ?_ (nthc_all ?_) ?_
    | refine entl_zero (use_own rfl) (by rfl) (by simp) (by omega) ?_
    | with_reducible exact rcs_nil
    | with_reducible refine rcs_int (fun j hj => ?_) ?_
    | with_reducible refine rcs_bool (fun j hj => ?_) ?_
    | with_reducible refine rcs_str (fun j hj => ?_) ?_
    | refine entl_fresh (k := 2) (use_own rfl) (fresh_ok (n := 39) rfl) ?_
    | with_reducible rfl
  all_goals try exact (0 : Nat)
  all_goals try ((with_reducible refine (id : injL _ _ = true → _) ?_); exact rfl)
  all_goals first
    | omega
    | skip
theorem e32y (test : Bool → Prop → Prop → Prop) (Kst : List It → List PV → Heap → Nat → Prop) (Kret : PV → Heap → Nat → Prop) (aa na ma : Nat) (ta : Nat → Int) (va : Nat → Int) (ga : Nat → Bool) :
  (run test Try.env true noX true 300 ⟨32, [.cd (mkFn Try.f32).body], argT 0 [.zer false], [[], [(0, (false, .cols ma [.int .i64 ta, .int .i64 va, .bool ga]))]], 1⟩ (proj 1 [] Kst Kret)) =
  (Kret PV.nils [[(0, false, Blk.cols ma [Col.int IntKind.i64 ta, Col.int IntKind.i64 va, Col.bool ga])]]
  (1)) := by kernel_rfl
theorem c32y (aa na ma : Nat) (ta : Nat → Int) (va : Nat → Int) (ga : Nat → Bool) (hp : aa + na ≤ ma ∧ na ≤ 1000000) (h0 : na = 0) : CallR Try.prog 32 [.zer false] [[(0, (false, .cols ma [.int .i64 ta, .int .i64 va, .bool ga]))]] 1 (.own 2 3 na) [(2, (true, .cols na [.int .i64 (fun j => ta (j + aa)), .int .i64 (fun j => va (j + aa)), .bool (fun j => ga (j + aa))])) :: [(0, (false, .cols ma [.int .i64 ta, .int .i64 va, .bool ga]))]] 40 ∧ ∃ F, Try.prog.funcs[32]? = some F ∧ F.body.isSome = true ∧ (F.name == "runtime.NumGoroutine") = false := by
  refine @ret_eq _ _ Try.envOk Try.mixed _ noX_ok 32 (mkFn Try.f32) [.zer false] [[(0, (false, .cols ma [.int .i64 ta, .int .i64 va, .bool ga]))]] [(2, (true, .cols na [.int .i64 (fun j => ta (j + aa)), .int .i64 (fun j => va (j + aa)), .bool (fun j => ga (j + aa))])) :: [(0, (false, .cols ma [.int .i64 ta, .int .i64 va, .bool ga]))]] 1 40 (.own 2 3 na) true 300 rfl (by decide) (by simp) (names_of rfl) _ (e32y cond _ _ aa na ma ta va ga) ?_
  repeat' first
    | with_reducible refine cond_yes rfl ?_
    | with_reducible refine cond_no rfl ?_
    | (with_reducible refine cond_intro (fun h => ?_) (fun h => ?_)) <;> (try simp only [lim64, decide_eq_true_eq, decide_eq_false_iff_not, reduceCtorEq, Int.toNat_natCast, Bool.not_eq_true', Bool.not_eq_false', Bool.and_eq_true, Bool.or_eq_true, Bool.and_eq_false_iff, Bool.or_eq_false_iff, bne_iff_ne, beq_iff_eq, bne_eq_false_iff_eq, beq_eq_false_iff_ne, ne_eq] at h)
  all_goals first
    | with_reducible apply ret_k
    | omega
  repeat' first
    | with_reducible exact rns_nil
    | with_reducible refine rns_cons ?_ ?_
    | with_reducible refine rn_tup ?_
    | with_reducible refine rn_agg ?_
    | with_reducible refine rn_int ?_
    | with_reducible refine rn_tf ?_
    | with_reducible refine rn_bool_tf ?_
    | with_reducible refine rn_bool ?_
    | with_reducible refine rn_str ?_
    | with_reducible exact rn_nils
    | with_reducible refine rn_own_nils ?_
    | with_reducible refine rn_own ?_ ?_ ?_
    | with_reducible refine rn_own_sl ?_ ?_ ?_ ?_ ?_
    | with_reducible refine rn_own_loose ?_ ?_ ?_ ?_
    | with_reducible refine rn_loose ?_ ?_ ?_ ?_
    | with_reducible refine rn_loose_sl ?_ ?_ ?_ ?_
    | exact use_lo rfl
    | exact use_own rfl
    | exact nm_k rfl
    | exact nm_lo rfl
    | ((with_reducible refine (id : pos _ = pos _ → _) ?_); exact rfl)
    | ((with_reducible refine (id : pos _ = 0 → _) ?_); exact rfl)
    | ((with_reducible refine (id : Nat.ble _ _ = true → _) ?_); exact rfl)
    | ((with_reducible refine (id : injL _ _ = true → _) ?_); exact rfl)
    | ((with_reducible refine (id : plainC _ = true → _) ?_); exact rfl)
    | ((with_reducible refine (id : hget _ _ = some _ → _) ?_); exact rfl)
    | with_reducible exact (id : (_ : Bool) = true → _ = true)
    | with_reducible exact entl_nil
    | with_reducible refine entl_bor ?_ ?_ ?_ ?_
    | refine entl_new (use_own rfl) (by rfl) ?_ ?_ ?_
    | refine entl_rows (use_own rfl) (by rfl) rfl ?_ (nthc_all ?_) ?_
    | refine entl_zero (use_own rfl) (by rfl) (by simp) (by omega) ?_
    | with_reducible exact rcs_nil
    | with_reducible refine rcs_int (fun j hj => ?_) ?_
    | with_reducible refine rcs_bool (fun j hj => ?_) ?_
    | with_reducible refine rcs_str (fun j hj => ?_) ?_
    | refine entl_fresh (k := 2) (use_own rfl) (fresh_ok (n := 39) rfl) ?_
    | with_reducible rfl
  all_goals try exact (0 : Nat)
  all_goals try ((with_reducible refine (id : injL _ _ = true → _) ?_); exact rfl)
  all_goals first
    | omega
    | skip
theorem c32 (aa na ma : Nat) (ta : Nat → Int) (va : Nat → Int) (ga : Nat → Bool) (hp : aa + na ≤ ma ∧ na ≤ 1000000) : CallR Try.prog 32 [.loose ⟨0, 3, aa, 0⟩ na] [[(0, (false, .cols ma [.int .i64 ta, .int .i64 va, .bool ga]))]] 1 (.own 2 3 na) [(2, (true, .cols na [.int .i64 (fun j => ta (j + aa)), .int .i64 (fun j => va (j + aa)), .bool (fun j => ga (j + aa))])) :: [(0, (false, .cols ma [.int .i64 ta, .int .i64 va, .bool ga]))]] 40 ∧ ∃ F, Try.prog.funcs[32]? = some F ∧ F.body.isSome = true ∧ (F.name == "runtime.NumGoroutine") = false :=
  ⟨loose_cases (fun h => (c32s aa na ma ta va ga hp h).1) (fun h b => by cases b; exact (c32y aa na ma ta va ga hp h).1; exact (c32z aa na ma ta va ga hp h).1), by
    rcases Nat.eq_zero_or_pos na with h | h
    · exact (c32y aa na ma ta va ga hp h).2
    · exact (c32s aa na ma ta va ga hp h).2⟩
theorem k32_ok : k32.ok Try.prog := by
  intro x hx
  obtain ⟨⟨aa, na, ma, ta, va, ga, _⟩, _⟩ := x
  have hp : aa + na ≤ ma ∧ na ≤ 1000000 := of_decide_eq_true hx
  obtain ⟨h1, h2⟩ := c32 aa na ma ta va ga hp
  exact ⟨⟨40, (by decide : 1 + 1 + 1 ≤ 40), h1⟩, h2⟩
namespace S
def okS (t v : Int) : Bool := decide (0 ≤ t ∧ t ≤ 1099511627776 ∧ -1099511627776 ≤ v ∧ v ≤ 1099511627776)
def errS (t v : Nat → Int) : Nat → Nat → Int
  | _, 0 => 0
  | i, k + 1 => if okS (t i) (v i) = true then (if 0 < i ∧ t i < t (i - 1) then 15 else errS t v (i + 1) k) else 6
end S
inductive St45 where
  | h0 (x0 : Int)
abbrev Rt45 := Int
noncomputable def V45 (aa na ma : Nat) (ta : Nat → Int) (va : Nat → Int) (ga : Nat → Bool) (r : Rt45) : PV := PV.int IntKind.i64 r
noncomputable def N45 (aa na ma : Nat) (ta : Nat → Int) (va : Nat → Int) (ga : Nat → Bool) (r : Rt45) : List Blk := []
noncomputable def I45 (aa na ma : Nat) (ta : Nat → Int) (va : Nat → Int) (ga : Nat → Bool) : St45 → Hd
  | .h0 x0 => ⟨hd Try.f45 0, [PV.loose (PA.mk (0) (3) aa (0)) na,
 PV.loose (PA.mk (0) (3) aa (0)) na, PV.int IntKind.i64 (↑na : Int),
 PV.int IntKind.i64 x0], [[], [(0, (false, .cols ma [.int .i64 ta, .int .i64 va, .bool ga]))]], 1⟩
noncomputable def q45 (aa na ma : Nat) (ta : Nat → Int) (va : Nat → Int) (ga : Nat → Bool) : St45 → Option (St45 ⊕ Rt45)
  | .h0 x0 => bif (decide (x0 < (↑na : Int)))
 then (bif (decide ((0 : Int) ≤ x0 ∧ x0 < (↑na : Int)))
 then (bif (decide (Int.toNat x0 + aa < ma))
 then (bif (decide (ta (Int.toNat x0 + aa) ≥ (0 : Int)))
 then (bif (decide (ta (Int.toNat x0 + aa) ≤ (1099511627776 : Int)))
 then (bif (decide (va (Int.toNat x0 + aa) ≥ (-1099511627776 : Int)))
 then (bif (decide (va (Int.toNat x0 + aa) ≤ (1099511627776 : Int)))
 then (bif (decide (x0 > (0 : Int)))
 then (bif (lim IntKind.i64 (x0 - (1 : Int)))
 then (bif (decide ((0 : Int) ≤ x0 - (1 : Int) ∧ x0 - (1 : Int) < (↑na : Int)))
 then (bif (decide (Int.toNat (x0 - (1 : Int)) + aa < ma))
 then (bif (decide (ta (Int.toNat x0 + aa) < ta (Int.toNat (x0 - (1 : Int)) + aa)))
 then (some (.inr ((15 : Int))))
 else (bif (lim IntKind.i64 (x0 + (1 : Int)))
 then (some (.inl (.h0 (x0 + (1 : Int)))))
 else (none)))
 else (none))
 else (none))
 else (none))
 else (bif (lim IntKind.i64 (x0 + (1 : Int)))
 then (some (.inl (.h0 (x0 + (1 : Int)))))
 else (none)))
 else (some (.inr ((6 : Int)))))
 else (some (.inr ((6 : Int)))))
 else (some (.inr ((6 : Int)))))
 else (some (.inr ((6 : Int)))))
 else (none))
 else (none))
 else (some (.inr ((0 : Int))))
noncomputable def p45 (aa na ma : Nat) (ta : Nat → Int) (va : Nat → Int) (ga : Nat → Bool) : Option (St45 ⊕ Rt45) := some (.inl (.h0 ((0 : Int))))
noncomputable def Te45 (test : Bool → Prop → Prop → Prop) (Kst : KS) (Kret : KR) (aa na ma : Nat) (ta : Nat → Int) (va : Nat → Int) (ga : Nat → Bool) : Prop :=
  Kst (hd Try.f45 0) ([PV.loose (PA.mk (0) (3) aa (0)) na,
 PV.loose (PA.mk (0) (3) aa (0)) na, PV.int IntKind.i64 (↑na : Int),
 PV.int IntKind.i64 (0 : Int)]) ([[(0, false,
 Blk.cols ma [Col.int IntKind.i64 ta, Col.int IntKind.i64 va, Col.bool ga])]]) (1)
theorem te45 (test : Bool → Prop → Prop → Prop) (Kst : KS) (Kret : KR) (aa na ma : Nat) (ta : Nat → Int) (va : Nat → Int) (ga : Nat → Bool) : run test Try.env true noX true 400 ⟨45, [.cd (mkFn Try.f45).body], argT 0 [.loose ⟨0, 3, aa, 0⟩ na], [[], [(0, (false, .cols ma [.int .i64 ta, .int .i64 va, .bool ga]))]], 1⟩ (proj 1 [0, 6, 7, 8] Kst Kret) =
  Te45 test Kst Kret aa na ma ta va ga := by kernel_rfl
noncomputable def T45_0 (test : Bool → Prop → Prop → Prop) (Kst : KS) (Kret : KR) (aa na ma : Nat) (ta : Nat → Int) (va : Nat → Int) (ga : Nat → Bool) (x0 : Int) : Prop :=
  test (decide (x0 < (↑na : Int)))
 (test (decide ((0 : Int) ≤ x0 ∧ x0 < (↑na : Int)))
 (test (decide (Int.toNat x0 + aa < ma))
 (test (decide (Int.toNat x0 + aa < ma))
 (test (decide (Int.toNat x0 + aa < ma))
 (test (decide (ta (Int.toNat x0 + aa) ≥ (0 : Int)))
 (test (decide (ta (Int.toNat x0 + aa) ≤ (1099511627776 : Int)))
 (test (decide (va (Int.toNat x0 + aa) ≥ (-1099511627776 : Int)))
 (test (decide (va (Int.toNat x0 + aa) ≤ (1099511627776 : Int)))
 (test (false)
 (Kret (PV.int IntKind.i64 (0 : Int)) ([[(0, false,
 Blk.cols ma [Col.int IntKind.i64 ta, Col.int IntKind.i64 va, Col.bool ga])]]) (3))
 (test (decide (x0 > (0 : Int)))
 (test (lim IntKind.i64 (x0 - (1 : Int)))
 (test (decide ((0 : Int) ≤ x0 - (1 : Int) ∧ x0 - (1 : Int) < (↑na : Int)))
 (test (decide (Int.toNat (x0 - (1 : Int)) + aa < ma))
 (test (decide (ta (Int.toNat x0 + aa) < ta (Int.toNat (x0 - (1 : Int)) + aa)))
 (Kret (PV.int IntKind.i64 (15 : Int)) ([[(0, false,
 Blk.cols ma [Col.int IntKind.i64 ta, Col.int IntKind.i64 va, Col.bool ga])]]) (3))
 (test (lim IntKind.i64 (x0 + (1 : Int)))
 (Kst (hd Try.f45 0) ([PV.loose (PA.mk (0) (3) aa (0)) na,
 PV.loose (PA.mk (0) (3) aa (0)) na, PV.int IntKind.i64 (↑na : Int),
 PV.int IntKind.i64 (x0 + (1 : Int))]) ([[(0, false,
 Blk.cols ma [Col.int IntKind.i64 ta, Col.int IntKind.i64 va, Col.bool ga])]]) (3))
 (False)))
 (False))
 (False))
 (False))
 (test (lim IntKind.i64 (x0 + (1 : Int)))
 (Kst (hd Try.f45 0) ([PV.loose (PA.mk (0) (3) aa (0)) na,
 PV.loose (PA.mk (0) (3) aa (0)) na, PV.int IntKind.i64 (↑na : Int),
 PV.int IntKind.i64 (x0 + (1 : Int))]) ([[(0, false,
 Blk.cols ma [Col.int IntKind.i64 ta, Col.int IntKind.i64 va, Col.bool ga])]]) (3))
 (False))))
 (test (true)
 (Kret (PV.int IntKind.i64 (6 : Int)) ([[(0, false,
 Blk.cols ma [Col.int IntKind.i64 ta, Col.int IntKind.i64 va, Col.bool ga])]]) (3))
 (test (decide (x0 > (0 : Int)))
 (test (lim IntKind.i64 (x0 - (1 : Int)))
 (test (decide ((0 : Int) ≤ x0 - (1 : Int) ∧ x0 - (1 : Int) < (↑na : Int)))
 (test (decide (Int.toNat (x0 - (1 : Int)) + aa < ma))
 (test (decide (ta (Int.toNat x0 + aa) < ta (Int.toNat (x0 - (1 : Int)) + aa)))
 (Kret (PV.int IntKind.i64 (15 : Int)) ([[(0, false,
 Blk.cols ma [Col.int IntKind.i64 ta, Col.int IntKind.i64 va, Col.bool ga])]]) (3))
 (test (lim IntKind.i64 (x0 + (1 : Int)))
 (Kst (hd Try.f45 0) ([PV.loose (PA.mk (0) (3) aa (0)) na,
 PV.loose (PA.mk (0) (3) aa (0)) na, PV.int IntKind.i64 (↑na : Int),
 PV.int IntKind.i64 (x0 + (1 : Int))]) ([[(0, false,
 Blk.cols ma [Col.int IntKind.i64 ta, Col.int IntKind.i64 va, Col.bool ga])]]) (3))
 (False)))
 (False))
 (False))
 (False))
 (test (lim IntKind.i64 (x0 + (1 : Int)))
 (Kst (hd Try.f45 0) ([PV.loose (PA.mk (0) (3) aa (0)) na,
 PV.loose (PA.mk (0) (3) aa (0)) na, PV.int IntKind.i64 (↑na : Int),
 PV.int IntKind.i64 (x0 + (1 : Int))]) ([[(0, false,
 Blk.cols ma [Col.int IntKind.i64 ta, Col.int IntKind.i64 va, Col.bool ga])]]) (3))
 (False)))))
 (test (true)
 (Kret (PV.int IntKind.i64 (6 : Int)) ([[(0, false,
 Blk.cols ma [Col.int IntKind.i64 ta, Col.int IntKind.i64 va, Col.bool ga])]]) (3))
 (test (decide (x0 > (0 : Int)))
 (test (lim IntKind.i64 (x0 - (1 : Int)))
 (test (decide ((0 : Int) ≤ x0 - (1 : Int) ∧ x0 - (1 : Int) < (↑na : Int)))
 (test (decide (Int.toNat (x0 - (1 : Int)) + aa < ma))
 (test (decide (ta (Int.toNat x0 + aa) < ta (Int.toNat (x0 - (1 : Int)) + aa)))
 (Kret (PV.int IntKind.i64 (15 : Int)) ([[(0, false,
 Blk.cols ma [Col.int IntKind.i64 ta, Col.int IntKind.i64 va, Col.bool ga])]]) (3))
 (test (lim IntKind.i64 (x0 + (1 : Int)))
 (Kst (hd Try.f45 0) ([PV.loose (PA.mk (0) (3) aa (0)) na,
 PV.loose (PA.mk (0) (3) aa (0)) na, PV.int IntKind.i64 (↑na : Int),
 PV.int IntKind.i64 (x0 + (1 : Int))]) ([[(0, false,
 Blk.cols ma [Col.int IntKind.i64 ta, Col.int IntKind.i64 va, Col.bool ga])]]) (3))
 (False)))
 (False))
 (False))
 (False))
 (test (lim IntKind.i64 (x0 + (1 : Int)))
 (Kst (hd Try.f45 0) ([PV.loose (PA.mk (0) (3) aa (0)) na,
 PV.loose (PA.mk (0) (3) aa (0)) na, PV.int IntKind.i64 (↑na : Int),
 PV.int IntKind.i64 (x0 + (1 : Int))]) ([[(0, false,
 Blk.cols ma [Col.int IntKind.i64 ta, Col.int IntKind.i64 va, Col.bool ga])]]) (3))
 (False)))))
 (test (true)
 (Kret (PV.int IntKind.i64 (6 : Int)) ([[(0, false,
 Blk.cols ma [Col.int IntKind.i64 ta, Col.int IntKind.i64 va, Col.bool ga])]]) (3))
 (test (decide (x0 > (0 : Int)))
 (test (lim IntKind.i64 (x0 - (1 : Int)))
 (test (decide ((0 : Int) ≤ x0 - (1 : Int) ∧ x0 - (1 : Int) < (↑na : Int)))
 (test (decide (Int.toNat (x0 - (1 : Int)) + aa < ma))
 (test (decide (ta (Int.toNat x0 + aa) < ta (Int.toNat (x0 - (1 : Int)) + aa)))
 (Kret (PV.int IntKind.i64 (15 : Int)) ([[(0, false,
 Blk.cols ma [Col.int IntKind.i64 ta, Col.int IntKind.i64 va, Col.bool ga])]]) (3))
 (test (lim IntKind.i64 (x0 + (1 : Int)))
 (Kst (hd Try.f45 0) ([PV.loose (PA.mk (0) (3) aa (0)) na,
 PV.loose (PA.mk (0) (3) aa (0)) na, PV.int IntKind.i64 (↑na : Int),
 PV.int IntKind.i64 (x0 + (1 : Int))]) ([[(0, false,
 Blk.cols ma [Col.int IntKind.i64 ta, Col.int IntKind.i64 va, Col.bool ga])]]) (3))
 (False)))
 (False))
 (False))
 (False))
 (test (lim IntKind.i64 (x0 + (1 : Int)))
 (Kst (hd Try.f45 0) ([PV.loose (PA.mk (0) (3) aa (0)) na,
 PV.loose (PA.mk (0) (3) aa (0)) na, PV.int IntKind.i64 (↑na : Int),
 PV.int IntKind.i64 (x0 + (1 : Int))]) ([[(0, false,
 Blk.cols ma [Col.int IntKind.i64 ta, Col.int IntKind.i64 va, Col.bool ga])]]) (3))
 (False)))))
 (test (true)
 (Kret (PV.int IntKind.i64 (6 : Int)) ([[(0, false,
 Blk.cols ma [Col.int IntKind.i64 ta, Col.int IntKind.i64 va, Col.bool ga])]]) (3))
 (test (decide (x0 > (0 : Int)))
 (test (lim IntKind.i64 (x0 - (1 : Int)))
 (test (decide ((0 : Int) ≤ x0 - (1 : Int) ∧ x0 - (1 : Int) < (↑na : Int)))
 (test (decide (Int.toNat (x0 - (1 : Int)) + aa < ma))
 (test (decide (ta (Int.toNat x0 + aa) < ta (Int.toNat (x0 - (1 : Int)) + aa)))
 (Kret (PV.int IntKind.i64 (15 : Int)) ([[(0, false,
 Blk.cols ma [Col.int IntKind.i64 ta, Col.int IntKind.i64 va, Col.bool ga])]]) (3))
 (test (lim IntKind.i64 (x0 + (1 : Int)))
 (Kst (hd Try.f45 0) ([PV.loose (PA.mk (0) (3) aa (0)) na,
 PV.loose (PA.mk (0) (3) aa (0)) na, PV.int IntKind.i64 (↑na : Int),
 PV.int IntKind.i64 (x0 + (1 : Int))]) ([[(0, false,
 Blk.cols ma [Col.int IntKind.i64 ta, Col.int IntKind.i64 va, Col.bool ga])]]) (3))
 (False)))
 (False))
 (False))
 (False))
 (test (lim IntKind.i64 (x0 + (1 : Int)))
 (Kst (hd Try.f45 0) ([PV.loose (PA.mk (0) (3) aa (0)) na,
 PV.loose (PA.mk (0) (3) aa (0)) na, PV.int IntKind.i64 (↑na : Int),
 PV.int IntKind.i64 (x0 + (1 : Int))]) ([[(0, false,
 Blk.cols ma [Col.int IntKind.i64 ta, Col.int IntKind.i64 va, Col.bool ga])]]) (3))
 (False)))))
 (False))
 (False))
 (False))
 (False))
 (Kret (PV.int IntKind.i64 (0 : Int)) ([[(0, false,
 Blk.cols ma [Col.int IntKind.i64 ta, Col.int IntKind.i64 va, Col.bool ga])]]) (1))
theorem t45_0 (test : Bool → Prop → Prop → Prop) (Kst : KS) (Kret : KR) (aa na ma : Nat) (ta : Nat → Int) (va : Nat → Int) (ga : Nat → Bool) (x0 : Int) : run test Try.env true noX true 400 ⟨45, hd Try.f45 0, zipT [0, 6, 7, 8] [PV.loose (PA.mk (0) (3) aa (0)) na,
 PV.loose (PA.mk (0) (3) aa (0)) na, PV.int IntKind.i64 (↑na : Int),
 PV.int IntKind.i64 x0], [[], [(0, (false, .cols ma [.int .i64 ta, .int .i64 va, .bool ga]))]], 1⟩ (proj 1 [0, 6, 7, 8] Kst Kret) =
  T45_0 test Kst Kret aa na ma ta va ga x0 := by kernel_rfl
theorem be45 (aa na ma : Nat) (ta : Nat → Int) (va : Nat → Int) (ga : Nat → Bool) (Kst : KS) (Kret : KR) (x : St45 ⊕ Rt45) (hS : HS 1 400 ((I45 aa na ma ta va ga)) Kst x) (hR : HR 1 400 ((V45 aa na ma ta va ga)) (fun r => [newL (1 + 1) ((N45 aa na ma ta va ga) r) ++ [(0, (false, .cols ma [.int .i64 ta, .int .i64 va, .bool ga]))]]) Kret x) (h : (some (.inl (.h0 ((0 : Int)))) : Option (St45 ⊕ Rt45)) = some x) : Te45 cond Kst Kret aa na ma ta va ga := by
  unfold Te45
  exact stop_at hS _ h (fun n => n) rfl rfl rfl ⟨(rn_loose (use_lo rfl) rfl rfl rfl), ⟨(rn_loose (use_lo rfl) rfl rfl rfl), ⟨(rn_int rfl), ⟨(rn_int rfl), trivial⟩⟩⟩⟩ rfl (entl_bor (use_lo rfl) rfl rfl entl_nil)
theorem b45_0 (aa na ma : Nat) (ta : Nat → Int) (va : Nat → Int) (ga : Nat → Bool) (Kst : KS) (Kret : KR) (x : St45 ⊕ Rt45) (hS : HS 1 400 ((I45 aa na ma ta va ga)) Kst x) (hR : HR 1 400 ((V45 aa na ma ta va ga)) (fun r => [newL (1 + 1) ((N45 aa na ma ta va ga) r) ++ [(0, (false, .cols ma [.int .i64 ta, .int .i64 va, .bool ga]))]]) Kret x) (x0 : Int) (h : (bif (decide (x0 < (↑na : Int)))
 then (bif (decide ((0 : Int) ≤ x0 ∧ x0 < (↑na : Int)))
 then (bif (decide (Int.toNat x0 + aa < ma))
 then (bif (decide (ta (Int.toNat x0 + aa) ≥ (0 : Int)))
 then (bif (decide (ta (Int.toNat x0 + aa) ≤ (1099511627776 : Int)))
 then (bif (decide (va (Int.toNat x0 + aa) ≥ (-1099511627776 : Int)))
 then (bif (decide (va (Int.toNat x0 + aa) ≤ (1099511627776 : Int)))
 then (bif (decide (x0 > (0 : Int)))
 then (bif (lim IntKind.i64 (x0 - (1 : Int)))
 then (bif (decide ((0 : Int) ≤ x0 - (1 : Int) ∧ x0 - (1 : Int) < (↑na : Int)))
 then (bif (decide (Int.toNat (x0 - (1 : Int)) + aa < ma))
 then (bif (decide (ta (Int.toNat x0 + aa) < ta (Int.toNat (x0 - (1 : Int)) + aa)))
 then (some (.inr ((15 : Int))))
 else (bif (lim IntKind.i64 (x0 + (1 : Int)))
 then (some (.inl (.h0 (x0 + (1 : Int)))))
 else (none)))
 else (none))
 else (none))
 else (none))
 else (bif (lim IntKind.i64 (x0 + (1 : Int)))
 then (some (.inl (.h0 (x0 + (1 : Int)))))
 else (none)))
 else (some (.inr ((6 : Int)))))
 else (some (.inr ((6 : Int)))))
 else (some (.inr ((6 : Int)))))
 else (some (.inr ((6 : Int)))))
 else (none))
 else (none))
 else (some (.inr ((0 : Int)))) : Option (St45 ⊕ Rt45)) = some x) : T45_0 cond Kst Kret aa na ma ta va ga x0 := by
  unfold T45_0
  refine bif_split h
   (fun c0 h => bif_split h
   (fun c1 h => bif_split h
   (fun c2 h => cond_yes c2 (cond_yes c2 (bif_split h
   (fun c3 h => bif_split h
   (fun c4 h => bif_split h
   (fun c5 h => bif_split h
   (fun c6 h => cond_no rfl (bif_split h
   (fun c7 h => bif_split h
   (fun c8 h => bif_split h
   (fun c9 h => bif_split h
   (fun c10 h => bif_split h
   (fun c11 h => ?_)
   (fun c11 h => bif_split h
   (fun c12 h => ?_)
   (fun c12 h => ?_)))
   (fun c10 h => ?_))
   (fun c9 h => ?_))
   (fun c8 h => ?_))
   (fun c7 h => bif_split h
   (fun c8 h => ?_)
   (fun c8 h => ?_))))
   (fun c6 h => cond_yes rfl (ret_at hR _ h (fun n => n) rfl rfl rfl (rn_int rfl) rfl (entl_bor (use_lo rfl) rfl rfl entl_nil))))
   (fun c5 h => cond_yes rfl (ret_at hR _ h (fun n => n) rfl rfl rfl (rn_int rfl) rfl (entl_bor (use_lo rfl) rfl rfl entl_nil))))
   (fun c4 h => cond_yes rfl (ret_at hR _ h (fun n => n) rfl rfl rfl (rn_int rfl) rfl (entl_bor (use_lo rfl) rfl rfl entl_nil))))
   (fun c3 h => cond_yes rfl (ret_at hR _ h (fun n => n) rfl rfl rfl (rn_int rfl) rfl (entl_bor (use_lo rfl) rfl rfl entl_nil))))))
   (fun c2 h => ?_))
   (fun c1 h => ?_))
   (fun c0 h => ?_)
  all_goals first
    | exact no_some h
    | exact ret_at hR _ h (fun n => n) rfl rfl rfl (rn_int rfl) rfl (entl_bor (use_lo rfl) rfl rfl entl_nil)
    | exact stop_at hS _ h (fun n => n) rfl rfl rfl ⟨(rn_loose (use_lo rfl) rfl rfl rfl), ⟨(rn_loose (use_lo rfl) rfl rfl rfl), ⟨(rn_int rfl), ⟨(rn_int rfl), trivial⟩⟩⟩⟩ rfl (entl_bor (use_lo rfl) rfl rfl entl_nil)
theorem a45 (aa na ma : Nat) (ta : Nat → Int) (va : Nat → Int) (ga : Nat → Bool) {r : Rt45} (h : Goes ((q45 aa na ma ta va ga)) ((p45 aa na ma ta va ga)) r) : CallR Try.prog 45 [.loose ⟨0, 3, aa, 0⟩ na] [[(0, (false, .cols ma [.int .i64 ta, .int .i64 va, .bool ga]))]] 1 ((V45 aa na ma ta va ga) r) ((fun r => [newL (1 + 1) ((N45 aa na ma ta va ga) r) ++ [(0, (false, .cols ma [.int .i64 ta, .int .i64 va, .bool ga]))]]) r) 400 ∧ ∃ F, Try.prog.funcs[45]? = some F ∧ F.body.isSome = true ∧ (F.name == "runtime.NumGoroutine") = false := by
  refine dec_calls (f := 45) (lo := 1) (hi := 400) (H := [[(0, (false, .cols ma [.int .i64 ta, .int .i64 va, .bool ga]))]]) (args := [.loose ⟨0, 3, aa, 0⟩ na]) Try.envOk Try.mixed noX_ok ((I45 aa na ma ta va ga)) ((V45 aa na ma ta va ga)) (fun r => [newL (1 + 1) ((N45 aa na ma ta va ga) r) ++ [(0, (false, .cols ma [.int .i64 ta, .int .i64 va, .bool ga]))]]) (fn := mkFn Try.f45) (ts := [0, 6, 7, 8]) (n := 400) rfl (by decide) (by simp) (names_of rfl) ?_ ?_ ?_ h
  · intro s; cases s <;> exact ⟨hd_ok _ _, by simp [I45], names_of rfl, Nat.le_of_ble_eq_true rfl⟩
  · intro Kst Kret x hS hR h
    exact Holds.eq (te45 cond Kst Kret aa na ma ta va ga) (be45 aa na ma ta va ga Kst Kret x hS hR h)
  · intro Kst Kret x hS hR s h
    cases s with
    | h0 x0 => exact Holds.eq (t45_0 cond Kst Kret aa na ma ta va ga x0) (b45_0 aa na ma ta va ga Kst Kret x hS hR x0 h)
noncomputable def k45 : Con := ⟨45, [.one (.list [.int .i64, .int .i64, .bool])], fun (x : (Nat × Nat × Nat × (Nat → Int) × (Nat → Int) × (Nat → Bool) × Unit) × Unit) => (fun (aa na ma : Nat) (ta : Nat → Int) (va : Nat → Int) (ga : Nat → Bool) => decide (aa + na ≤ ma ∧ na ≤ 1000000)) x.1.1 x.1.2.1 x.1.2.2.1 x.1.2.2.2.1 x.1.2.2.2.2.1 x.1.2.2.2.2.2.1, fun (x : (Nat × Nat × Nat × (Nat → Int) × (Nat → Int) × (Nat → Bool) × Unit) × Unit) => (fun (aa na ma : Nat) (ta : Nat → Int) (va : Nat → Int) (ga : Nat → Bool) => (V45 aa na ma ta va ga) (S.errS (fun j => ta (j + aa)) (fun j => va (j + aa)) 0 na)) x.1.1 x.1.2.1 x.1.2.2.1 x.1.2.2.2.1 x.1.2.2.2.2.1 x.1.2.2.2.2.2.1, fun (x : (Nat × Nat × Nat × (Nat → Int) × (Nat → Int) × (Nat → Bool) × Unit) × Unit) => (fun (aa na ma : Nat) (ta : Nat → Int) (va : Nat → Int) (ga : Nat → Bool) => (N45 aa na ma ta va ga) (S.errS (fun j => ta (j + aa)) (fun j => va (j + aa)) 0 na)) x.1.1 x.1.2.1 x.1.2.2.1 x.1.2.2.2.1 x.1.2.2.2.2.1 x.1.2.2.2.2.2.1, fun _ _ => .dead⟩
theorem s45' (aa na ma : Nat) (ta : Nat → Int) (va : Nat → Int) (ga : Nat → Bool) (hp : aa + na ≤ ma ∧ na ≤ 1000000) : ∀ k i : Nat, i + k = na → Comes (q45 aa na ma ta va ga) (.h0 (i : Int)) (S.errS (fun j => ta (j + aa)) (fun j => va (j + aa)) i k) := by
  obtain ⟨hp1, hp2⟩ := hp
  intro k
  induction k with
  | zero =>
    intro i hi
    apply Comes.of
    show Goes _ _ _
    (first | rw [q45] | unfold q45)
    repeat' first
      | with_reducible refine goes_if (fun h => ?_) (fun h => ?_) <;> (try simp only [lim64, imp_false, decide_eq_true_eq, decide_eq_false_iff_not, Int.toNat_natCast, toNat_pred, toNat_succ, Option.getD_some, Option.getD_none, Bool.not_eq_true', Bool.not_eq_false', Bool.and_eq_true, Bool.or_eq_true, Bool.and_eq_false_iff, Bool.or_eq_false_iff, bne_iff_ne, beq_iff_eq, bne_eq_false_iff_eq, beq_eq_false_iff_ne, ne_eq, not_and, Int.not_le, Int.not_lt, ge_iff_le, gt_iff_lt, Nat.not_lt, Nat.not_le, Bool.not_eq_true, Bool.not_eq_false, Bool.true_eq_false, Bool.false_eq_true, not_false_eq_true, not_true_eq_false] at h)
      | exact goes_none.mpr (by omega)
    all_goals first | (exfalso; omega) | rfl
  | succ k ih =>
    intro i hi
    have ih := ih (i + 1) (by omega)
    have e1 : 0 < i → ((i : Int) - 1).toNat = i - 1 := fun _ => by omega
    apply Comes.of
    show Goes _ _ _
    (first | rw [q45] | unfold q45)
    repeat' first
      | with_reducible refine goes_if (fun h => ?_) (fun h => ?_) <;> (try simp only [lim64, imp_false, decide_eq_true_eq, decide_eq_false_iff_not, Int.toNat_natCast, toNat_pred, toNat_succ, Option.getD_some, Option.getD_none, Bool.not_eq_true', Bool.not_eq_false', Bool.and_eq_true, Bool.or_eq_true, Bool.and_eq_false_iff, Bool.or_eq_false_iff, bne_iff_ne, beq_iff_eq, bne_eq_false_iff_eq, beq_eq_false_iff_ne, ne_eq, not_and, Int.not_le, Int.not_lt, ge_iff_le, gt_iff_lt, Nat.not_lt, Nat.not_le, Bool.not_eq_true, Bool.not_eq_false, Bool.true_eq_false, Bool.false_eq_true, not_false_eq_true, not_true_eq_false] at h)
      | exact goes_none.mpr (by omega)
    all_goals first | (exfalso; omega) | (refine Eq.mpr (congrArg (Comes _ _) ?_) ih; simp only [S.errS, S.okS, decide_eq_true_eq]; (try rw [e1 (by omega)] at *); (repeat' split) <;> first | omega | rfl) | (refine goes_inr.mpr ?_; simp only [S.errS, S.okS, decide_eq_true_eq]; (try rw [e1 (by omega)] at *); (repeat' split) <;> first | omega | rfl)
theorem s45 (aa na ma : Nat) (ta : Nat → Int) (va : Nat → Int) (ga : Nat → Bool) (hp : aa + na ≤ ma ∧ na ≤ 1000000) : Goes ((q45 aa na ma ta va ga)) ((p45 aa na ma ta va ga)) (S.errS (fun j => ta (j + aa)) (fun j => va (j + aa)) 0 na) := by
  exact s45' aa na ma ta va ga hp na 0 (by omega)
theorem k45_ok : k45.ok Try.prog := by
  intro x hx
  obtain ⟨⟨aa, na, ma, ta, va, ga, _⟩, _⟩ := x
  obtain ⟨h1, h2⟩ := a45 aa na ma ta va ga (s45 aa na ma ta va ga (of_dec hx rfl))
  exact ⟨⟨400, (by decide : 1 + 1 + 0 ≤ 400), h1⟩, h2⟩
noncomputable def xA (test : Bool → Prop → Prop → Prop) : Ext := consX test [k45, k32]
theorem xA_ok : ExtOk Try.prog (xA cond) := consX_ok ⟨k45_ok, k32_ok, trivial⟩
namespace S
def vB (ca af : Int) (n : Nat) (t v : Nat → Int) (ov re : Int) (fz : Bool) : Int :=
  if 1 ≤ ca ∧ ca ≤ 200 ∧ 0 ≤ af ∧ af ≤ 200 ∧ 0 ≤ ov ∧ ov ≤ 1099511627776 ∧ -1 ≤ re ∧ re ≤ af then
    (if errS t v 0 n = 0 then (if (n : Int) ≤ ca then (if (fz = true → re = 0) ∧ (re = 0 → fz = true) ∧ ¬ (0 < ov ∧ (n : Int) < ca) then 0 else 1) else 3) else errS t v 0 n)
  else 6
end S
abbrev St19 := Empty
abbrev Rt19 := Int
noncomputable def V19 (ca : Int) (af : Int) (al nl ml : Nat) (tl : Nat → Int) (vl : Nat → Int) (gl : Nat → Bool) (ov : Int) (re : Int) (fz : Bool) (r : Rt19) : PV := PV.int IntKind.i64 r
noncomputable def N19 (ca : Int) (af : Int) (al nl ml : Nat) (tl : Nat → Int) (vl : Nat → Int) (gl : Nat → Bool) (ov : Int) (re : Int) (fz : Bool) (r : Rt19) : List Blk := []
noncomputable def I19 (ca : Int) (af : Int) (al nl ml : Nat) (tl : Nat → Int) (vl : Nat → Int) (gl : Nat → Bool) (ov : Int) (re : Int) (fz : Bool) : St19 → Hd := fun s => s.elim
noncomputable def q19 (ca : Int) (af : Int) (al nl ml : Nat) (tl : Nat → Int) (vl : Nat → Int) (gl : Nat → Bool) (ov : Int) (re : Int) (fz : Bool) : St19 → Option (St19 ⊕ Rt19) := fun s => s.elim
noncomputable def p19 (ca : Int) (af : Int) (al nl ml : Nat) (tl : Nat → Int) (vl : Nat → Int) (gl : Nat → Bool) (ov : Int) (re : Int) (fz : Bool) : Option (St19 ⊕ Rt19) := bif (decide (ca ≥ (1 : Int)))
 then (bif (decide (ca ≤ (200 : Int)))
 then (bif (decide (af ≥ (0 : Int)))
 then (bif (decide (af ≤ (200 : Int)))
 then (bif (decide (ov ≥ (0 : Int)))
 then (bif (decide (ov ≤ (1099511627776 : Int)))
 then (bif (decide (re ≥ (-1 : Int)))
 then (bif (decide (re ≤ af))
 then (bif (decide (al + nl ≤ ml ∧ nl ≤ 1000000))
 then (bif (S.errS (fun j => tl (j + al)) (fun j => vl (j + al)) (0) nl != (0 : Int))
 then (some (.inr (S.errS (fun j => tl (j + al)) (fun j => vl (j + al)) (0) nl)))
 else (bif (decide ((↑nl : Int) > ca))
 then (some (.inr ((3 : Int))))
 else (bif (fz)
 then (bif (re == (0 : Int))
 then (bif (decide (ov > (0 : Int)))
 then (bif (decide ((↑nl : Int) < ca))
 then (some (.inr ((1 : Int))))
 else (some (.inr ((0 : Int)))))
 else (some (.inr ((0 : Int)))))
 else (some (.inr ((1 : Int)))))
 else (bif (re == (0 : Int))
 then (some (.inr ((1 : Int))))
 else (bif (decide (ov > (0 : Int)))
 then (bif (decide ((↑nl : Int) < ca))
 then (some (.inr ((1 : Int))))
 else (some (.inr ((0 : Int)))))
 else (some (.inr ((0 : Int)))))))))
 else (none))
 else (some (.inr ((6 : Int)))))
 else (some (.inr ((6 : Int)))))
 else (some (.inr ((6 : Int)))))
 else (some (.inr ((6 : Int)))))
 else (some (.inr ((6 : Int)))))
 else (some (.inr ((6 : Int)))))
 else (some (.inr ((6 : Int)))))
 else (some (.inr ((6 : Int))))
noncomputable def Te19 (test : Bool → Prop → Prop → Prop) (Kst : KS) (Kret : KR) (ca : Int) (af : Int) (al nl ml : Nat) (tl : Nat → Int) (vl : Nat → Int) (gl : Nat → Bool) (ov : Int) (re : Int) (fz : Bool) : Prop :=
  test (decide (ca ≥ (1 : Int)))
 (test (decide (ca ≤ (200 : Int)))
 (test (decide (af ≥ (0 : Int)))
 (test (decide (af ≤ (200 : Int)))
 (test (decide (ov ≥ (0 : Int)))
 (test (decide (ov ≤ (1099511627776 : Int)))
 (test (decide (re ≥ (-1 : Int)))
 (test (decide (re ≤ af))
 (test (decide (al + nl ≤ ml ∧ nl ≤ 1000000))
 (test (S.errS (fun j => tl (j + al)) (fun j => vl (j + al)) (0) nl != (0 : Int))
 (Kret (PV.int IntKind.i64 (S.errS (fun j => tl (j + al)) (fun j => vl (j + al)) (0) nl)) ([[(0, false,
 Blk.cols ml [Col.int IntKind.i64 tl, Col.int IntKind.i64 vl, Col.bool gl])]]) (3))
 (test (decide ((↑nl : Int) > ca))
 (Kret (PV.int IntKind.i64 (3 : Int)) ([[(0, false,
 Blk.cols ml [Col.int IntKind.i64 tl, Col.int IntKind.i64 vl, Col.bool gl])]]) (3))
 (test (fz)
 (test (re == (0 : Int))
 (test (decide (ov > (0 : Int)))
 (test (decide ((↑nl : Int) < ca))
 (Kret (PV.int IntKind.i64 (1 : Int)) ([[(0, false,
 Blk.cols ml [Col.int IntKind.i64 tl, Col.int IntKind.i64 vl, Col.bool gl])]]) (3))
 (Kret (PV.int IntKind.i64 (0 : Int)) ([[(0, false,
 Blk.cols ml [Col.int IntKind.i64 tl, Col.int IntKind.i64 vl, Col.bool gl])]]) (3)))
 (Kret (PV.int IntKind.i64 (0 : Int)) ([[(0, false,
 Blk.cols ml [Col.int IntKind.i64 tl, Col.int IntKind.i64 vl, Col.bool gl])]]) (3)))
 (Kret (PV.int IntKind.i64 (1 : Int)) ([[(0, false,
 Blk.cols ml [Col.int IntKind.i64 tl, Col.int IntKind.i64 vl, Col.bool gl])]]) (3)))
 (test (re == (0 : Int))
 (Kret (PV.int IntKind.i64 (1 : Int)) ([[(0, false,
 Blk.cols ml [Col.int IntKind.i64 tl, Col.int IntKind.i64 vl, Col.bool gl])]]) (3))
 (test (decide (ov > (0 : Int)))
 (test (decide ((↑nl : Int) < ca))
 (Kret (PV.int IntKind.i64 (1 : Int)) ([[(0, false,
 Blk.cols ml [Col.int IntKind.i64 tl, Col.int IntKind.i64 vl, Col.bool gl])]]) (3))
 (Kret (PV.int IntKind.i64 (0 : Int)) ([[(0, false,
 Blk.cols ml [Col.int IntKind.i64 tl, Col.int IntKind.i64 vl, Col.bool gl])]]) (3)))
 (Kret (PV.int IntKind.i64 (0 : Int)) ([[(0, false,
 Blk.cols ml [Col.int IntKind.i64 tl, Col.int IntKind.i64 vl, Col.bool gl])]]) (3)))))))
 (False))
 (Kret (PV.int IntKind.i64 (6 : Int)) ([[(0, false,
 Blk.cols ml [Col.int IntKind.i64 tl, Col.int IntKind.i64 vl, Col.bool gl])]]) (2)))
 (Kret (PV.int IntKind.i64 (6 : Int)) ([[(0, false,
 Blk.cols ml [Col.int IntKind.i64 tl, Col.int IntKind.i64 vl, Col.bool gl])]]) (2)))
 (Kret (PV.int IntKind.i64 (6 : Int)) ([[(0, false,
 Blk.cols ml [Col.int IntKind.i64 tl, Col.int IntKind.i64 vl, Col.bool gl])]]) (2)))
 (Kret (PV.int IntKind.i64 (6 : Int)) ([[(0, false,
 Blk.cols ml [Col.int IntKind.i64 tl, Col.int IntKind.i64 vl, Col.bool gl])]]) (2)))
 (Kret (PV.int IntKind.i64 (6 : Int)) ([[(0, false,
 Blk.cols ml [Col.int IntKind.i64 tl, Col.int IntKind.i64 vl, Col.bool gl])]]) (2)))
 (Kret (PV.int IntKind.i64 (6 : Int)) ([[(0, false,
 Blk.cols ml [Col.int IntKind.i64 tl, Col.int IntKind.i64 vl, Col.bool gl])]]) (2)))
 (Kret (PV.int IntKind.i64 (6 : Int)) ([[(0, false,
 Blk.cols ml [Col.int IntKind.i64 tl, Col.int IntKind.i64 vl, Col.bool gl])]]) (2)))
 (Kret (PV.int IntKind.i64 (6 : Int)) ([[(0, false,
 Blk.cols ml [Col.int IntKind.i64 tl, Col.int IntKind.i64 vl, Col.bool gl])]]) (2))
theorem te19 (test : Bool → Prop → Prop → Prop) (Kst : KS) (Kret : KR) (ca : Int) (af : Int) (al nl ml : Nat) (tl : Nat → Int) (vl : Nat → Int) (gl : Nat → Bool) (ov : Int) (re : Int) (fz : Bool) : run test Try.env true (xA test) true 400 ⟨19, [.cd (mkFn Try.f19).body], argT 0 [.agg [.int .i64 ca, .int .i64 af, .loose ⟨0, 3, al, 0⟩ nl, .int .i64 ov, .int .i64 re, .bool fz]], [[], [(0, (false, .cols ml [.int .i64 tl, .int .i64 vl, .bool gl]))]], 1⟩ (proj 1 [] Kst Kret) =
  Te19 test Kst Kret ca af al nl ml tl vl gl ov re fz := by kernel_rfl
theorem be19 (ca : Int) (af : Int) (al nl ml : Nat) (tl : Nat → Int) (vl : Nat → Int) (gl : Nat → Bool) (ov : Int) (re : Int) (fz : Bool) (Kst : KS) (Kret : KR) (x : St19 ⊕ Rt19) (hS : HS 1 400 ((I19 ca af al nl ml tl vl gl ov re fz)) Kst x) (hR : HR 1 400 ((V19 ca af al nl ml tl vl gl ov re fz)) (fun r => [newL (1 + 1) ((N19 ca af al nl ml tl vl gl ov re fz) r) ++ [(0, (false, .cols ml [.int .i64 tl, .int .i64 vl, .bool gl]))]]) Kret x) (h : p19 ca af al nl ml tl vl gl ov re fz = some x) : Te19 cond Kst Kret ca af al nl ml tl vl gl ov re fz := by
  unfold Te19
  unfold p19 at h
  refine bif_split h
   (fun c0 h => bif_split h
   (fun c1 h => bif_split h
   (fun c2 h => bif_split h
   (fun c3 h => bif_split h
   (fun c4 h => bif_split h
   (fun c5 h => bif_split h
   (fun c6 h => bif_split h
   (fun c7 h => bif_split h
   (fun c8 h => bif_split h
   (fun c9 h => ?_)
   (fun c9 h => bif_split h
   (fun c10 h => ?_)
   (fun c10 h => bif_split h
   (fun c11 h => bif_split h
   (fun c12 h => bif_split h
   (fun c13 h => bif_split h
   (fun c14 h => ?_)
   (fun c14 h => ?_))
   (fun c13 h => ?_))
   (fun c12 h => ?_))
   (fun c11 h => bif_split h
   (fun c12 h => ?_)
   (fun c12 h => bif_split h
   (fun c13 h => bif_split h
   (fun c14 h => ?_)
   (fun c14 h => ?_))
   (fun c13 h => ?_))))))
   (fun c8 h => no_some h))
   (fun c7 h => ?_))
   (fun c6 h => ?_))
   (fun c5 h => ?_))
   (fun c4 h => ?_))
   (fun c3 h => ?_))
   (fun c2 h => ?_))
   (fun c1 h => ?_))
   (fun c0 h => ?_)
  all_goals first
    | exact ret_at hR _ h (fun n => n) rfl rfl rfl (rn_int rfl) rfl (entl_bor (use_lo rfl) rfl rfl entl_nil)
theorem a19 (ca : Int) (af : Int) (al nl ml : Nat) (tl : Nat → Int) (vl : Nat → Int) (gl : Nat → Bool) (ov : Int) (re : Int) (fz : Bool) {r : Rt19} (h : Goes ((q19 ca af al nl ml tl vl gl ov re fz)) ((p19 ca af al nl ml tl vl gl ov re fz)) r) : CallR Try.prog 19 [.agg [.int .i64 ca, .int .i64 af, .loose ⟨0, 3, al, 0⟩ nl, .int .i64 ov, .int .i64 re, .bool fz]] [[(0, (false, .cols ml [.int .i64 tl, .int .i64 vl, .bool gl]))]] 1 ((V19 ca af al nl ml tl vl gl ov re fz) r) ((fun r => [newL (1 + 1) ((N19 ca af al nl ml tl vl gl ov re fz) r) ++ [(0, (false, .cols ml [.int .i64 tl, .int .i64 vl, .bool gl]))]]) r) 400 ∧ ∃ F, Try.prog.funcs[19]? = some F ∧ F.body.isSome = true ∧ (F.name == "runtime.NumGoroutine") = false := by
  refine dec_calls (f := 19) (lo := 1) (hi := 400) (H := [[(0, (false, .cols ml [.int .i64 tl, .int .i64 vl, .bool gl]))]]) (args := [.agg [.int .i64 ca, .int .i64 af, .loose ⟨0, 3, al, 0⟩ nl, .int .i64 ov, .int .i64 re, .bool fz]]) Try.envOk Try.mixed xA_ok ((I19 ca af al nl ml tl vl gl ov re fz)) ((V19 ca af al nl ml tl vl gl ov re fz)) (fun r => [newL (1 + 1) ((N19 ca af al nl ml tl vl gl ov re fz) r) ++ [(0, (false, .cols ml [.int .i64 tl, .int .i64 vl, .bool gl]))]]) (fn := mkFn Try.f19) (ts := []) (n := 400) rfl (by decide) (by simp) (names_of rfl) ?_ ?_ ?_ h
  · intro s; exact s.elim
  · intro Kst Kret x hS hR h
    exact Holds.eq (te19 cond Kst Kret ca af al nl ml tl vl gl ov re fz) (be19 ca af al nl ml tl vl gl ov re fz Kst Kret x hS hR h)
  · intro Kst Kret x hS hR s h; exact s.elim
noncomputable def k19 : Con := ⟨19, [.agg [.plain (.int .i64), .plain (.int .i64), .list [.int .i64, .int .i64, .bool], .plain (.int .i64), .plain (.int .i64), .plain (.bool)]], fun (x : (Int × Int × (Nat × Nat × Nat × (Nat → Int) × (Nat → Int) × (Nat → Bool) × Unit) × Int × Int × Bool × Unit) × Unit) => (fun (ca : Int) (af : Int) (al nl ml : Nat) (tl : Nat → Int) (vl : Nat → Int) (gl : Nat → Bool) (ov : Int) (re : Int) (fz : Bool) => decide (al + nl ≤ ml ∧ nl ≤ 1000000)) x.1.1 x.1.2.1 x.1.2.2.1.1 x.1.2.2.1.2.1 x.1.2.2.1.2.2.1 x.1.2.2.1.2.2.2.1 x.1.2.2.1.2.2.2.2.1 x.1.2.2.1.2.2.2.2.2.1 x.1.2.2.2.1 x.1.2.2.2.2.1 x.1.2.2.2.2.2.1, fun (x : (Int × Int × (Nat × Nat × Nat × (Nat → Int) × (Nat → Int) × (Nat → Bool) × Unit) × Int × Int × Bool × Unit) × Unit) => (fun (ca : Int) (af : Int) (al nl ml : Nat) (tl : Nat → Int) (vl : Nat → Int) (gl : Nat → Bool) (ov : Int) (re : Int) (fz : Bool) => (V19 ca af al nl ml tl vl gl ov re fz) (S.vB ca af nl (fun j => tl (j + al)) (fun j => vl (j + al)) ov re fz)) x.1.1 x.1.2.1 x.1.2.2.1.1 x.1.2.2.1.2.1 x.1.2.2.1.2.2.1 x.1.2.2.1.2.2.2.1 x.1.2.2.1.2.2.2.2.1 x.1.2.2.1.2.2.2.2.2.1 x.1.2.2.2.1 x.1.2.2.2.2.1 x.1.2.2.2.2.2.1, fun (x : (Int × Int × (Nat × Nat × Nat × (Nat → Int) × (Nat → Int) × (Nat → Bool) × Unit) × Int × Int × Bool × Unit) × Unit) => (fun (ca : Int) (af : Int) (al nl ml : Nat) (tl : Nat → Int) (vl : Nat → Int) (gl : Nat → Bool) (ov : Int) (re : Int) (fz : Bool) => (N19 ca af al nl ml tl vl gl ov re fz) (S.vB ca af nl (fun j => tl (j + al)) (fun j => vl (j + al)) ov re fz)) x.1.1 x.1.2.1 x.1.2.2.1.1 x.1.2.2.1.2.1 x.1.2.2.1.2.2.1 x.1.2.2.1.2.2.2.1 x.1.2.2.1.2.2.2.2.1 x.1.2.2.1.2.2.2.2.2.1 x.1.2.2.2.1 x.1.2.2.2.2.1 x.1.2.2.2.2.2.1, fun _ _ => .dead⟩
theorem s19 (ca : Int) (af : Int) (al nl ml : Nat) (tl : Nat → Int) (vl : Nat → Int) (gl : Nat → Bool) (ov : Int) (re : Int) (fz : Bool) (hp : al + nl ≤ ml ∧ nl ≤ 1000000) : Goes ((q19 ca af al nl ml tl vl gl ov re fz)) ((p19 ca af al nl ml tl vl gl ov re fz)) (S.vB ca af nl (fun j => tl (j + al)) (fun j => vl (j + al)) ov re fz) := by
  obtain ⟨hp1, hp2⟩ := hp
  generalize he : S.errS (fun j => tl (j + al)) (fun j => vl (j + al)) 0 nl = e
  cases fz <;> (
  show Goes _ _ _
  unfold p19; rw [he]
  repeat' first
    | with_reducible refine goes_if (fun h => ?_) (fun h => ?_) <;> (try simp only [lim64, imp_false, decide_eq_true_eq, decide_eq_false_iff_not, Int.toNat_natCast, toNat_pred, toNat_succ, Option.getD_some, Option.getD_none, Bool.not_eq_true', Bool.not_eq_false', Bool.and_eq_true, Bool.or_eq_true, Bool.and_eq_false_iff, Bool.or_eq_false_iff, bne_iff_ne, beq_iff_eq, bne_eq_false_iff_eq, beq_eq_false_iff_ne, ne_eq, not_and, Int.not_le, Int.not_lt, ge_iff_le, gt_iff_lt, Nat.not_lt, Nat.not_le, Bool.not_eq_true, Bool.not_eq_false, Bool.true_eq_false, Bool.false_eq_true, not_false_eq_true, not_true_eq_false] at h)
    | exact goes_none.mpr (by omega)
  all_goals first | (exfalso; omega) | (refine goes_inr.mpr ?_; simp only [S.vB, he, eq_self, true_imp_iff, Bool.false_eq_true, false_imp_iff, imp_false, true_and, and_true, implies_true]; (repeat' split) <;> first | rfl | omega))
theorem k19_ok : k19.ok Try.prog := by
  intro x hx
  obtain ⟨⟨ca, af, ⟨al, nl, ml, tl, vl, gl, _⟩, ov, re, fz, _⟩, _⟩ := x
  obtain ⟨h1, h2⟩ := a19 ca af al nl ml tl vl gl ov re fz (s19 ca af al nl ml tl vl gl ov re fz (of_dec hx rfl))
  exact ⟨⟨400, (by decide : 1 + 1 + 0 ≤ 400), h1⟩, h2⟩
noncomputable def xB (test : Bool → Prop → Prop → Prop) : Ext := consX test [k19, k45, k32]
theorem xB_ok : ExtOk Try.prog (xB cond) := consX_ok ⟨k19_ok, k45_ok, k32_ok, trivial⟩
theorem vB_ok {ca af : Int} {n : Nat} {t v : Nat → Int} {ov re : Int} {fz : Bool} (h : S.vB ca af n t v ov re fz = 0) : 1 ≤ ca ∧ ca ≤ 200 ∧ 0 ≤ af ∧ af ≤ 200 ∧ 0 ≤ ov ∧ ov ≤ 1099511627776 ∧ -1 ≤ re ∧ re ≤ af ∧ (n : Int) ≤ ca ∧ (fz = true → re = 0) ∧ (re = 0 → fz = true) ∧ ¬ (0 < ov ∧ (n : Int) < ca) ∧ S.errS t v 0 n = 0 := by
  unfold S.vB at h
  split at h
  · split at h
    · split at h
      · split at h
        · simp_all
        · cases h
      · cases h
    · contradiction
  · cases h
namespace S
abbrev Bu := Int × Int × Int × Int × Bool × Int × List (Int × Int × Bool)
def noB (e : Int) : Bu := (0, 0, 0, 0, false, e, [])
def putE (ca af : Int) (n : Nat) (t v : Nat → Int) (ov re : Int) (fz : Bool) (st sv : Int) : Int :=
  if vB ca af n t v ov re fz = 0 then (if fz = true then 8 else if okS st sv = true then (if 0 < n ∧ st < t (n - 1) then 15 else if ov = 1099511627776 then 16 else 0) else 6) else vB ca af n t v ov re fz
def putS (ca af : Int) (n : Nat) (t v : Nat → Int) (g : Nat → Bool) (ov re : Int) (fz : Bool) (st sv : Int) (sg : Bool) : Bu :=
  if putE ca af n t v ov re fz st sv = 0 then
    (ca, af, (if (n : Int) = ca then ov + 1 else ov), (if 0 < re then re - 1 else re), (if re = 1 then true else false), 0, snoc (if (n : Int) = ca then mkl (n - 1) fun j => (t (j + 1), v (j + 1), g (j + 1)) else mkl n fun j => (t j, v j, g j)) (st, sv, sg))
  else noB (putE ca af n t v ov re fz st sv)
def frzS (ca af : Int) (n : Nat) (t v : Nat → Int) (g : Nat → Bool) (ov re : Int) (fz : Bool) (a : Int) : Bu :=
  if vB ca af n t v ov re fz = 0 then (if 0 ≤ a ∧ a ≤ 1099511627776 then
    (ca, af, ov, (if re = -1 then af else re), (if re = -1 then (if af = 0 then true else false) else fz), 0, mkl n fun j => (t j, v j, g j)) else noB 6) else noB (vB ca af n t v ov re fz)
def newS (ca af : Int) : Int × Int × Int × Int := if 1 ≤ ca ∧ ca ≤ 200 ∧ 0 ≤ af ∧ af ≤ 200 then (ca, af, -1, 0) else (0, 0, 0, 6)
end S
abbrev St12 := Empty
abbrev Rt12 := Int × Int × Int × Int × Bool × Int × List (Int × Int × Bool)
noncomputable def V12 (ca : Int) (af : Int) (al nl ml : Nat) (tl : Nat → Int) (vl : Nat → Int) (gl : Nat → Bool) (ov : Int) (re : Int) (fz : Bool) (st : Int) (sv : Int) (sg : Bool) (r : Rt12) : PV := PV.tup
 [PV.agg
 [PV.int IntKind.i64 r.1, PV.int IntKind.i64 r.2.1,
 PV.own (2) (3) (List.length r.2.2.2.2.2.2), PV.int IntKind.i64 r.2.2.1,
 PV.int IntKind.i64 r.2.2.2.1, PV.bool r.2.2.2.2.1],
 PV.int IntKind.i64 r.2.2.2.2.2.1]
noncomputable def N12 (ca : Int) (af : Int) (al nl ml : Nat) (tl : Nat → Int) (vl : Nat → Int) (gl : Nat → Bool) (ov : Int) (re : Int) (fz : Bool) (st : Int) (sv : Int) (sg : Bool) (r : Rt12) : List Blk := [Blk.cols (List.length r.2.2.2.2.2.2)
 [Col.int IntKind.i64 fun j => (S.at' r.2.2.2.2.2.2 j).1,
 Col.int IntKind.i64 fun j => (S.at' r.2.2.2.2.2.2 j).2.1,
 Col.bool fun j => (S.at' r.2.2.2.2.2.2 j).2.2]]
noncomputable def I12 (ca : Int) (af : Int) (al nl ml : Nat) (tl : Nat → Int) (vl : Nat → Int) (gl : Nat → Bool) (ov : Int) (re : Int) (fz : Bool) (st : Int) (sv : Int) (sg : Bool) : St12 → Hd := fun s => s.elim
noncomputable def q12 (ca : Int) (af : Int) (al nl ml : Nat) (tl : Nat → Int) (vl : Nat → Int) (gl : Nat → Bool) (ov : Int) (re : Int) (fz : Bool) (st : Int) (sv : Int) (sg : Bool) : St12 → Option (St12 ⊕ Rt12) := fun s => s.elim
noncomputable def p12 (ca : Int) (af : Int) (al nl ml : Nat) (tl : Nat → Int) (vl : Nat → Int) (gl : Nat → Bool) (ov : Int) (re : Int) (fz : Bool) (st : Int) (sv : Int) (sg : Bool) : Option (St12 ⊕ Rt12) := bif (decide (al + nl ≤ ml ∧ nl ≤ 1000000))
 then (bif (S.vB ca af nl (fun j => tl (j + al)) (fun j => vl (j + al)) ov re fz != (0 : Int))
 then (some (.inr ((0 : Int), (0 : Int), (0 : Int), (0 : Int), false, S.vB ca af nl (fun j => tl (j + al)) (fun j => vl (j + al)) ov re fz, [])))
 else (bif (fz)
 then (some (.inr ((0 : Int), (0 : Int), (0 : Int), (0 : Int), false, (8 : Int), [])))
 else (bif (decide (st ≥ (0 : Int)))
 then (bif (decide (st ≤ (1099511627776 : Int)))
 then (bif (decide (sv ≥ (-1099511627776 : Int)))
 then (bif (decide (sv ≤ (1099511627776 : Int)))
 then (bif (decide ((↑nl : Int) > (0 : Int)))
 then (bif (lim IntKind.i64 ((↑nl : Int) - (1 : Int)))
 then (bif (decide ((0 : Int) ≤ (↑nl : Int) - (1 : Int) ∧ (↑nl : Int) - (1 : Int) < (↑nl : Int)))
 then (bif (decide (Int.toNat ((↑nl : Int) - (1 : Int)) + al < ml))
 then (bif (decide (st < tl (Int.toNat ((↑nl : Int) - (1 : Int)) + al)))
 then (some (.inr ((0 : Int), (0 : Int), (0 : Int), (0 : Int), false, (15 : Int), [])))
 else (bif (ov == (1099511627776 : Int))
 then (some (.inr ((0 : Int), (0 : Int), (0 : Int), (0 : Int), false, (16 : Int), [])))
 else (bif ((↑nl : Int) == ca)
 then (bif (decide
 ((0 : Int) ≤ Option.getD (Option.some (1 : Int)) (0 : Int) ∧ (1 : Int) ≤ (↑nl : Int) ∧ (↑nl : Int) ≤ (↑nl : Int)))
 then (bif (lim IntKind.i64 (ov + (1 : Int)))
 then (bif (decide (1 + al + (nl - 1) ≤ ml ∧ nl - 1 ≤ 1000000))
 then (bif (decide (nl - 1 + 1 ≤ 1000000))
 then (bif (decide (nl - 1 ≤ nl - 1))
 then (bif (decide (re > (0 : Int)))
 then (bif (lim IntKind.i64 (re - (1 : Int)))
 then (bif (re - (1 : Int) == (0 : Int))
 then (some (.inr (ca, af, ov + (1 : Int), re - (1 : Int), true, (0 : Int), S.snoc
 (S.mkl (nl - 1) fun j =>
 (tl (j + (1 + al)), vl (j + (1 + al)), gl (j + (1 + al))))
 (st, sv, sg))))
 else (some (.inr (ca, af, ov + (1 : Int), re - (1 : Int), false, (0 : Int), S.snoc
 (S.mkl (nl - 1) fun j =>
 (tl (j + (1 + al)), vl (j + (1 + al)), gl (j + (1 + al))))
 (st, sv, sg)))))
 else (none))
 else (some (.inr (ca, af, ov + (1 : Int), re, fz, (0 : Int), S.snoc
 (S.mkl (nl - 1) fun j =>
 (tl (j + (1 + al)), vl (j + (1 + al)), gl (j + (1 + al))))
 (st, sv, sg)))))
 else (none))
 else (none))
 else (none))
 else (none))
 else (none))
 else (bif (decide (nl + 1 ≤ 1000000))
 then (bif (decide (nl ≤ nl))
 then (bif (decide (re > (0 : Int)))
 then (bif (lim IntKind.i64 (re - (1 : Int)))
 then (bif (re - (1 : Int) == (0 : Int))
 then (some (.inr (ca, af, ov, re - (1 : Int), true, (0 : Int), S.snoc (S.mkl nl fun j => (tl (j + al), vl (j + al), gl (j + al))) (st, sv, sg))))
 else (some (.inr (ca, af, ov, re - (1 : Int), false, (0 : Int), S.snoc (S.mkl nl fun j => (tl (j + al), vl (j + al), gl (j + al))) (st, sv, sg)))))
 else (none))
 else (some (.inr (ca, af, ov, re, fz, (0 : Int), S.snoc (S.mkl nl fun j => (tl (j + al), vl (j + al), gl (j + al))) (st, sv, sg)))))
 else (none))
 else (none)))))
 else (none))
 else (none))
 else (none))
 else (bif (ov == (1099511627776 : Int))
 then (some (.inr ((0 : Int), (0 : Int), (0 : Int), (0 : Int), false, (16 : Int), [])))
 else (bif ((↑nl : Int) == ca)
 then (bif (decide
 ((0 : Int) ≤ Option.getD (Option.some (1 : Int)) (0 : Int) ∧ (1 : Int) ≤ (↑nl : Int) ∧ (↑nl : Int) ≤ (↑nl : Int)))
 then (bif (lim IntKind.i64 (ov + (1 : Int)))
 then (bif (decide (1 + al + (nl - 1) ≤ ml ∧ nl - 1 ≤ 1000000))
 then (bif (decide (nl - 1 + 1 ≤ 1000000))
 then (bif (decide (nl - 1 ≤ nl - 1))
 then (bif (decide (re > (0 : Int)))
 then (bif (lim IntKind.i64 (re - (1 : Int)))
 then (bif (re - (1 : Int) == (0 : Int))
 then (some (.inr (ca, af, ov + (1 : Int), re - (1 : Int), true, (0 : Int), S.snoc
 (S.mkl (nl - 1) fun j =>
 (tl (j + (1 + al)), vl (j + (1 + al)), gl (j + (1 + al))))
 (st, sv, sg))))
 else (some (.inr (ca, af, ov + (1 : Int), re - (1 : Int), false, (0 : Int), S.snoc
 (S.mkl (nl - 1) fun j =>
 (tl (j + (1 + al)), vl (j + (1 + al)), gl (j + (1 + al))))
 (st, sv, sg)))))
 else (none))
 else (some (.inr (ca, af, ov + (1 : Int), re, fz, (0 : Int), S.snoc
 (S.mkl (nl - 1) fun j =>
 (tl (j + (1 + al)), vl (j + (1 + al)), gl (j + (1 + al))))
 (st, sv, sg)))))
 else (none))
 else (none))
 else (none))
 else (none))
 else (none))
 else (bif (decide (nl + 1 ≤ 1000000))
 then (bif (decide (nl ≤ nl))
 then (bif (decide (re > (0 : Int)))
 then (bif (lim IntKind.i64 (re - (1 : Int)))
 then (bif (re - (1 : Int) == (0 : Int))
 then (some (.inr (ca, af, ov, re - (1 : Int), true, (0 : Int), S.snoc (S.mkl nl fun j => (tl (j + al), vl (j + al), gl (j + al))) (st, sv, sg))))
 else (some (.inr (ca, af, ov, re - (1 : Int), false, (0 : Int), S.snoc (S.mkl nl fun j => (tl (j + al), vl (j + al), gl (j + al))) (st, sv, sg)))))
 else (none))
 else (some (.inr (ca, af, ov, re, fz, (0 : Int), S.snoc (S.mkl nl fun j => (tl (j + al), vl (j + al), gl (j + al))) (st, sv, sg)))))
 else (none))
 else (none)))))
 else (some (.inr ((0 : Int), (0 : Int), (0 : Int), (0 : Int), false, (6 : Int), []))))
 else (some (.inr ((0 : Int), (0 : Int), (0 : Int), (0 : Int), false, (6 : Int), []))))
 else (some (.inr ((0 : Int), (0 : Int), (0 : Int), (0 : Int), false, (6 : Int), []))))
 else (some (.inr ((0 : Int), (0 : Int), (0 : Int), (0 : Int), false, (6 : Int), []))))))
 else (none)
noncomputable def Te12 (test : Bool → Prop → Prop → Prop) (Kst : KS) (Kret : KR) (ca : Int) (af : Int) (al nl ml : Nat) (tl : Nat → Int) (vl : Nat → Int) (gl : Nat → Bool) (ov : Int) (re : Int) (fz : Bool) (st : Int) (sv : Int) (sg : Bool) : Prop :=
  test (decide (al + nl ≤ ml ∧ nl ≤ 1000000))
 (test (S.vB ca af nl (fun j => tl (j + al)) (fun j => vl (j + al)) ov re fz != (0 : Int))
 (Kret (PV.tup
 [PV.agg
 [PV.int IntKind.i64 (0 : Int), PV.int IntKind.i64 (0 : Int), PV.nils,
 PV.int IntKind.i64 (0 : Int), PV.int IntKind.i64 (0 : Int), PV.tf false],
 PV.int IntKind.i64
 (S.vB ca af nl (fun j => tl (j + al)) (fun j => vl (j + al)) ov re fz)]) ([[(0, false,
 Blk.cols ml [Col.int IntKind.i64 tl, Col.int IntKind.i64 vl, Col.bool gl])]]) (5))
 (test (fz)
 (Kret (PV.tup
 [PV.agg
 [PV.int IntKind.i64 (0 : Int), PV.int IntKind.i64 (0 : Int), PV.nils,
 PV.int IntKind.i64 (0 : Int), PV.int IntKind.i64 (0 : Int), PV.tf false],
 PV.int IntKind.i64 (8 : Int)]) ([[(0, false,
 Blk.cols ml [Col.int IntKind.i64 tl, Col.int IntKind.i64 vl, Col.bool gl])]]) (5))
 (test (decide (st ≥ (0 : Int)))
 (test (decide (st ≤ (1099511627776 : Int)))
 (test (decide (sv ≥ (-1099511627776 : Int)))
 (test (decide (sv ≤ (1099511627776 : Int)))
 (test (false)
 (Kret (PV.tup
 [PV.agg
 [PV.int IntKind.i64 (0 : Int), PV.int IntKind.i64 (0 : Int), PV.nils,
 PV.int IntKind.i64 (0 : Int), PV.int IntKind.i64 (0 : Int), PV.tf false],
 PV.int IntKind.i64 (0 : Int)]) ([[(0, false,
 Blk.cols ml [Col.int IntKind.i64 tl, Col.int IntKind.i64 vl, Col.bool gl])]]) (6))
 (test (decide ((↑nl : Int) > (0 : Int)))
 (test (lim IntKind.i64 ((↑nl : Int) - (1 : Int)))
 (test (decide ((0 : Int) ≤ (↑nl : Int) - (1 : Int) ∧ (↑nl : Int) - (1 : Int) < (↑nl : Int)))
 (test (decide (Int.toNat ((↑nl : Int) - (1 : Int)) + al < ml))
 (test (decide (st < tl (Int.toNat ((↑nl : Int) - (1 : Int)) + al)))
 (Kret (PV.tup
 [PV.agg
 [PV.int IntKind.i64 (0 : Int), PV.int IntKind.i64 (0 : Int), PV.nils,
 PV.int IntKind.i64 (0 : Int), PV.int IntKind.i64 (0 : Int), PV.tf false],
 PV.int IntKind.i64 (15 : Int)]) ([[(0, false,
 Blk.cols ml [Col.int IntKind.i64 tl, Col.int IntKind.i64 vl, Col.bool gl])]]) (6))
 (test (ov == (1099511627776 : Int))
 (Kret (PV.tup
 [PV.agg
 [PV.int IntKind.i64 (0 : Int), PV.int IntKind.i64 (0 : Int), PV.nils,
 PV.int IntKind.i64 (0 : Int), PV.int IntKind.i64 (0 : Int), PV.tf false],
 PV.int IntKind.i64 (16 : Int)]) ([[(0, false,
 Blk.cols ml [Col.int IntKind.i64 tl, Col.int IntKind.i64 vl, Col.bool gl])]]) (6))
 (test ((↑nl : Int) == ca)
 (test (decide
 ((0 : Int) ≤ Option.getD (Option.some (1 : Int)) (0 : Int) ∧ (1 : Int) ≤ (↑nl : Int) ∧ (↑nl : Int) ≤ (↑nl : Int)))
 (test (lim IntKind.i64 (ov + (1 : Int)))
 (test (decide (1 + al + (nl - 1) ≤ ml ∧ nl - 1 ≤ 1000000))
 (test (decide (nl - 1 + 1 ≤ 1000000))
 (test (decide (nl - 1 ≤ nl - 1))
 (test (true)
 (test (decide (re > (0 : Int)))
 (test (lim IntKind.i64 (re - (1 : Int)))
 (test (re - (1 : Int) == (0 : Int))
 (Kret (PV.tup
 [PV.agg
 [PV.int IntKind.i64 ca, PV.int IntKind.i64 af,
 PV.own (9) (3) (nl - 1 + 1), PV.int IntKind.i64 (ov + (1 : Int)),
 PV.int IntKind.i64 (re - (1 : Int)), PV.tf true],
 PV.int IntKind.i64 (0 : Int)]) ([[(0, false,
 Blk.cols ml [Col.int IntKind.i64 tl, Col.int IntKind.i64 vl, Col.bool gl]),
 (9, true,
 Blk.cols (nl - 1 + 1)
 [Col.int IntKind.i64 fun j =>
 bif Nat.blt j (nl - 1) then tl (j + (1 + al)) else st,
 Col.int IntKind.i64 fun j =>
 bif Nat.blt j (nl - 1) then vl (j + (1 + al)) else sv,
 Col.bool fun j => bif Nat.blt j (nl - 1) then gl (j + (1 + al)) else sg])]]) (10))
 (Kret (PV.tup
 [PV.agg
 [PV.int IntKind.i64 ca, PV.int IntKind.i64 af,
 PV.own (9) (3) (nl - 1 + 1), PV.int IntKind.i64 (ov + (1 : Int)),
 PV.int IntKind.i64 (re - (1 : Int)), PV.tf false],
 PV.int IntKind.i64 (0 : Int)]) ([[(0, false,
 Blk.cols ml [Col.int IntKind.i64 tl, Col.int IntKind.i64 vl, Col.bool gl]),
 (9, true,
 Blk.cols (nl - 1 + 1)
 [Col.int IntKind.i64 fun j =>
 bif Nat.blt j (nl - 1) then tl (j + (1 + al)) else st,
 Col.int IntKind.i64 fun j =>
 bif Nat.blt j (nl - 1) then vl (j + (1 + al)) else sv,
 Col.bool fun j => bif Nat.blt j (nl - 1) then gl (j + (1 + al)) else sg])]]) (10)))
 (False))
 (Kret (PV.tup
 [PV.agg
 [PV.int IntKind.i64 ca, PV.int IntKind.i64 af,
 PV.own (9) (3) (nl - 1 + 1), PV.int IntKind.i64 (ov + (1 : Int)),
 PV.int IntKind.i64 re, PV.bool fz],
 PV.int IntKind.i64 (0 : Int)]) ([[(0, false,
 Blk.cols ml [Col.int IntKind.i64 tl, Col.int IntKind.i64 vl, Col.bool gl]),
 (9, true,
 Blk.cols (nl - 1 + 1)
 [Col.int IntKind.i64 fun j =>
 bif Nat.blt j (nl - 1) then tl (j + (1 + al)) else st,
 Col.int IntKind.i64 fun j =>
 bif Nat.blt j (nl - 1) then vl (j + (1 + al)) else sv,
 Col.bool fun j => bif Nat.blt j (nl - 1) then gl (j + (1 + al)) else sg])]]) (10)))
 (False))
 (False))
 (False))
 (False))
 (False))
 (False))
 (test (decide (al + nl ≤ ml ∧ nl ≤ 1000000))
 (test (decide (nl + 1 ≤ 1000000))
 (test (decide (nl ≤ nl))
 (test (true)
 (test (decide (re > (0 : Int)))
 (test (lim IntKind.i64 (re - (1 : Int)))
 (test (re - (1 : Int) == (0 : Int))
 (Kret (PV.tup
 [PV.agg
 [PV.int IntKind.i64 ca, PV.int IntKind.i64 af,
 PV.own (9) (3) (nl + 1), PV.int IntKind.i64 ov,
 PV.int IntKind.i64 (re - (1 : Int)), PV.tf true],
 PV.int IntKind.i64 (0 : Int)]) ([[(0, false,
 Blk.cols ml [Col.int IntKind.i64 tl, Col.int IntKind.i64 vl, Col.bool gl]),
 (9, true,
 Blk.cols (nl + 1)
 [Col.int IntKind.i64 fun j => bif Nat.blt j nl then tl (j + al) else st,
 Col.int IntKind.i64 fun j => bif Nat.blt j nl then vl (j + al) else sv,
 Col.bool fun j => bif Nat.blt j nl then gl (j + al) else sg])]]) (10))
 (Kret (PV.tup
 [PV.agg
 [PV.int IntKind.i64 ca, PV.int IntKind.i64 af,
 PV.own (9) (3) (nl + 1), PV.int IntKind.i64 ov,
 PV.int IntKind.i64 (re - (1 : Int)), PV.tf false],
 PV.int IntKind.i64 (0 : Int)]) ([[(0, false,
 Blk.cols ml [Col.int IntKind.i64 tl, Col.int IntKind.i64 vl, Col.bool gl]),
 (9, true,
 Blk.cols (nl + 1)
 [Col.int IntKind.i64 fun j => bif Nat.blt j nl then tl (j + al) else st,
 Col.int IntKind.i64 fun j => bif Nat.blt j nl then vl (j + al) else sv,
 Col.bool fun j => bif Nat.blt j nl then gl (j + al) else sg])]]) (10)))
 (False))
 (Kret (PV.tup
 [PV.agg
 [PV.int IntKind.i64 ca, PV.int IntKind.i64 af,
 PV.own (9) (3) (nl + 1), PV.int IntKind.i64 ov,
 PV.int IntKind.i64 re, PV.bool fz],
 PV.int IntKind.i64 (0 : Int)]) ([[(0, false,
 Blk.cols ml [Col.int IntKind.i64 tl, Col.int IntKind.i64 vl, Col.bool gl]),
 (9, true,
 Blk.cols (nl + 1)
 [Col.int IntKind.i64 fun j => bif Nat.blt j nl then tl (j + al) else st,
 Col.int IntKind.i64 fun j => bif Nat.blt j nl then vl (j + al) else sv,
 Col.bool fun j => bif Nat.blt j nl then gl (j + al) else sg])]]) (10)))
 (False))
 (False))
 (False))
 (False)))))
 (False))
 (False))
 (False))
 (test (ov == (1099511627776 : Int))
 (Kret (PV.tup
 [PV.agg
 [PV.int IntKind.i64 (0 : Int), PV.int IntKind.i64 (0 : Int), PV.nils,
 PV.int IntKind.i64 (0 : Int), PV.int IntKind.i64 (0 : Int), PV.tf false],
 PV.int IntKind.i64 (16 : Int)]) ([[(0, false,
 Blk.cols ml [Col.int IntKind.i64 tl, Col.int IntKind.i64 vl, Col.bool gl])]]) (6))
 (test ((↑nl : Int) == ca)
 (test (decide
 ((0 : Int) ≤ Option.getD (Option.some (1 : Int)) (0 : Int) ∧ (1 : Int) ≤ (↑nl : Int) ∧ (↑nl : Int) ≤ (↑nl : Int)))
 (test (lim IntKind.i64 (ov + (1 : Int)))
 (test (decide (1 + al + (nl - 1) ≤ ml ∧ nl - 1 ≤ 1000000))
 (test (decide (nl - 1 + 1 ≤ 1000000))
 (test (decide (nl - 1 ≤ nl - 1))
 (test (true)
 (test (decide (re > (0 : Int)))
 (test (lim IntKind.i64 (re - (1 : Int)))
 (test (re - (1 : Int) == (0 : Int))
 (Kret (PV.tup
 [PV.agg
 [PV.int IntKind.i64 ca, PV.int IntKind.i64 af,
 PV.own (9) (3) (nl - 1 + 1), PV.int IntKind.i64 (ov + (1 : Int)),
 PV.int IntKind.i64 (re - (1 : Int)), PV.tf true],
 PV.int IntKind.i64 (0 : Int)]) ([[(0, false,
 Blk.cols ml [Col.int IntKind.i64 tl, Col.int IntKind.i64 vl, Col.bool gl]),
 (9, true,
 Blk.cols (nl - 1 + 1)
 [Col.int IntKind.i64 fun j =>
 bif Nat.blt j (nl - 1) then tl (j + (1 + al)) else st,
 Col.int IntKind.i64 fun j =>
 bif Nat.blt j (nl - 1) then vl (j + (1 + al)) else sv,
 Col.bool fun j => bif Nat.blt j (nl - 1) then gl (j + (1 + al)) else sg])]]) (10))
 (Kret (PV.tup
 [PV.agg
 [PV.int IntKind.i64 ca, PV.int IntKind.i64 af,
 PV.own (9) (3) (nl - 1 + 1), PV.int IntKind.i64 (ov + (1 : Int)),
 PV.int IntKind.i64 (re - (1 : Int)), PV.tf false],
 PV.int IntKind.i64 (0 : Int)]) ([[(0, false,
 Blk.cols ml [Col.int IntKind.i64 tl, Col.int IntKind.i64 vl, Col.bool gl]),
 (9, true,
 Blk.cols (nl - 1 + 1)
 [Col.int IntKind.i64 fun j =>
 bif Nat.blt j (nl - 1) then tl (j + (1 + al)) else st,
 Col.int IntKind.i64 fun j =>
 bif Nat.blt j (nl - 1) then vl (j + (1 + al)) else sv,
 Col.bool fun j => bif Nat.blt j (nl - 1) then gl (j + (1 + al)) else sg])]]) (10)))
 (False))
 (Kret (PV.tup
 [PV.agg
 [PV.int IntKind.i64 ca, PV.int IntKind.i64 af,
 PV.own (9) (3) (nl - 1 + 1), PV.int IntKind.i64 (ov + (1 : Int)),
 PV.int IntKind.i64 re, PV.bool fz],
 PV.int IntKind.i64 (0 : Int)]) ([[(0, false,
 Blk.cols ml [Col.int IntKind.i64 tl, Col.int IntKind.i64 vl, Col.bool gl]),
 (9, true,
 Blk.cols (nl - 1 + 1)
 [Col.int IntKind.i64 fun j =>
 bif Nat.blt j (nl - 1) then tl (j + (1 + al)) else st,
 Col.int IntKind.i64 fun j =>
 bif Nat.blt j (nl - 1) then vl (j + (1 + al)) else sv,
 Col.bool fun j => bif Nat.blt j (nl - 1) then gl (j + (1 + al)) else sg])]]) (10)))
 (False))
 (False))
 (False))
 (False))
 (False))
 (False))
 (test (decide (al + nl ≤ ml ∧ nl ≤ 1000000))
 (test (decide (nl + 1 ≤ 1000000))
 (test (decide (nl ≤ nl))
 (test (true)
 (test (decide (re > (0 : Int)))
 (test (lim IntKind.i64 (re - (1 : Int)))
 (test (re - (1 : Int) == (0 : Int))
 (Kret (PV.tup
 [PV.agg
 [PV.int IntKind.i64 ca, PV.int IntKind.i64 af,
 PV.own (9) (3) (nl + 1), PV.int IntKind.i64 ov,
 PV.int IntKind.i64 (re - (1 : Int)), PV.tf true],
 PV.int IntKind.i64 (0 : Int)]) ([[(0, false,
 Blk.cols ml [Col.int IntKind.i64 tl, Col.int IntKind.i64 vl, Col.bool gl]),
 (9, true,
 Blk.cols (nl + 1)
 [Col.int IntKind.i64 fun j => bif Nat.blt j nl then tl (j + al) else st,
 Col.int IntKind.i64 fun j => bif Nat.blt j nl then vl (j + al) else sv,
 Col.bool fun j => bif Nat.blt j nl then gl (j + al) else sg])]]) (10))
 (Kret (PV.tup
 [PV.agg
 [PV.int IntKind.i64 ca, PV.int IntKind.i64 af,
 PV.own (9) (3) (nl + 1), PV.int IntKind.i64 ov,
 PV.int IntKind.i64 (re - (1 : Int)), PV.tf false],
 PV.int IntKind.i64 (0 : Int)]) ([[(0, false,
 Blk.cols ml [Col.int IntKind.i64 tl, Col.int IntKind.i64 vl, Col.bool gl]),
 (9, true,
 Blk.cols (nl + 1)
 [Col.int IntKind.i64 fun j => bif Nat.blt j nl then tl (j + al) else st,
 Col.int IntKind.i64 fun j => bif Nat.blt j nl then vl (j + al) else sv,
 Col.bool fun j => bif Nat.blt j nl then gl (j + al) else sg])]]) (10)))
 (False))
 (Kret (PV.tup
 [PV.agg
 [PV.int IntKind.i64 ca, PV.int IntKind.i64 af,
 PV.own (9) (3) (nl + 1), PV.int IntKind.i64 ov,
 PV.int IntKind.i64 re, PV.bool fz],
 PV.int IntKind.i64 (0 : Int)]) ([[(0, false,
 Blk.cols ml [Col.int IntKind.i64 tl, Col.int IntKind.i64 vl, Col.bool gl]),
 (9, true,
 Blk.cols (nl + 1)
 [Col.int IntKind.i64 fun j => bif Nat.blt j nl then tl (j + al) else st,
 Col.int IntKind.i64 fun j => bif Nat.blt j nl then vl (j + al) else sv,
 Col.bool fun j => bif Nat.blt j nl then gl (j + al) else sg])]]) (10)))
 (False))
 (False))
 (False))
 (False))))))
 (test (true)
 (Kret (PV.tup
 [PV.agg
 [PV.int IntKind.i64 (0 : Int), PV.int IntKind.i64 (0 : Int), PV.nils,
 PV.int IntKind.i64 (0 : Int), PV.int IntKind.i64 (0 : Int), PV.tf false],
 PV.int IntKind.i64 (6 : Int)]) ([[(0, false,
 Blk.cols ml [Col.int IntKind.i64 tl, Col.int IntKind.i64 vl, Col.bool gl])]]) (6))
 (test (decide ((↑nl : Int) > (0 : Int)))
 (test (lim IntKind.i64 ((↑nl : Int) - (1 : Int)))
 (test (decide ((0 : Int) ≤ (↑nl : Int) - (1 : Int) ∧ (↑nl : Int) - (1 : Int) < (↑nl : Int)))
 (test (decide (Int.toNat ((↑nl : Int) - (1 : Int)) + al < ml))
 (test (decide (st < tl (Int.toNat ((↑nl : Int) - (1 : Int)) + al)))
 (Kret (PV.tup
 [PV.agg
 [PV.int IntKind.i64 (0 : Int), PV.int IntKind.i64 (0 : Int), PV.nils,
 PV.int IntKind.i64 (0 : Int), PV.int IntKind.i64 (0 : Int), PV.tf false],
 PV.int IntKind.i64 (15 : Int)]) ([[(0, false,
 Blk.cols ml [Col.int IntKind.i64 tl, Col.int IntKind.i64 vl, Col.bool gl])]]) (6))
 (test (ov == (1099511627776 : Int))
 (Kret (PV.tup
 [PV.agg
 [PV.int IntKind.i64 (0 : Int), PV.int IntKind.i64 (0 : Int), PV.nils,
 PV.int IntKind.i64 (0 : Int), PV.int IntKind.i64 (0 : Int), PV.tf false],
 PV.int IntKind.i64 (16 : Int)]) ([[(0, false,
 Blk.cols ml [Col.int IntKind.i64 tl, Col.int IntKind.i64 vl, Col.bool gl])]]) (6))
 (test ((↑nl : Int) == ca)
 (test (decide
 ((0 : Int) ≤ Option.getD (Option.some (1 : Int)) (0 : Int) ∧ (1 : Int) ≤ (↑nl : Int) ∧ (↑nl : Int) ≤ (↑nl : Int)))
 (test (lim IntKind.i64 (ov + (1 : Int)))
 (test (decide (1 + al + (nl - 1) ≤ ml ∧ nl - 1 ≤ 1000000))
 (test (decide (nl - 1 + 1 ≤ 1000000))
 (test (decide (nl - 1 ≤ nl - 1))
 (test (true)
 (test (decide (re > (0 : Int)))
 (test (lim IntKind.i64 (re - (1 : Int)))
 (test (re - (1 : Int) == (0 : Int))
 (Kret (PV.tup
 [PV.agg
 [PV.int IntKind.i64 ca, PV.int IntKind.i64 af,
 PV.own (9) (3) (nl - 1 + 1), PV.int IntKind.i64 (ov + (1 : Int)),
 PV.int IntKind.i64 (re - (1 : Int)), PV.tf true],
 PV.int IntKind.i64 (0 : Int)]) ([[(0, false,
 Blk.cols ml [Col.int IntKind.i64 tl, Col.int IntKind.i64 vl, Col.bool gl]),
 (9, true,
 Blk.cols (nl - 1 + 1)
 [Col.int IntKind.i64 fun j =>
 bif Nat.blt j (nl - 1) then tl (j + (1 + al)) else st,
 Col.int IntKind.i64 fun j =>
 bif Nat.blt j (nl - 1) then vl (j + (1 + al)) else sv,
 Col.bool fun j => bif Nat.blt j (nl - 1) then gl (j + (1 + al)) else sg])]]) (10))
 (Kret (PV.tup
 [PV.agg
 [PV.int IntKind.i64 ca, PV.int IntKind.i64 af,
 PV.own (9) (3) (nl - 1 + 1), PV.int IntKind.i64 (ov + (1 : Int)),
 PV.int IntKind.i64 (re - (1 : Int)), PV.tf false],
 PV.int IntKind.i64 (0 : Int)]) ([[(0, false,
 Blk.cols ml [Col.int IntKind.i64 tl, Col.int IntKind.i64 vl, Col.bool gl]),
 (9, true,
 Blk.cols (nl - 1 + 1)
 [Col.int IntKind.i64 fun j =>
 bif Nat.blt j (nl - 1) then tl (j + (1 + al)) else st,
 Col.int IntKind.i64 fun j =>
 bif Nat.blt j (nl - 1) then vl (j + (1 + al)) else sv,
 Col.bool fun j => bif Nat.blt j (nl - 1) then gl (j + (1 + al)) else sg])]]) (10)))
 (False))
 (Kret (PV.tup
 [PV.agg
 [PV.int IntKind.i64 ca, PV.int IntKind.i64 af,
 PV.own (9) (3) (nl - 1 + 1), PV.int IntKind.i64 (ov + (1 : Int)),
 PV.int IntKind.i64 re, PV.bool fz],
 PV.int IntKind.i64 (0 : Int)]) ([[(0, false,
 Blk.cols ml [Col.int IntKind.i64 tl, Col.int IntKind.i64 vl, Col.bool gl]),
 (9, true,
 Blk.cols (nl - 1 + 1)
 [Col.int IntKind.i64 fun j =>
 bif Nat.blt j (nl - 1) then tl (j + (1 + al)) else st,
 Col.int IntKind.i64 fun j =>
 bif Nat.blt j (nl - 1) then vl (j + (1 + al)) else sv,
 Col.bool fun j => bif Nat.blt j (nl - 1) then gl (j + (1 + al)) else sg])]]) (10)))
 (False))
 (False))
 (False))
 (False))
 (False))
 (False))
 (test (decide (al + nl ≤ ml ∧ nl ≤ 1000000))
 (test (decide (nl + 1 ≤ 1000000))
 (test (decide (nl ≤ nl))
 (test (true)
 (test (decide (re > (0 : Int)))
 (test (lim IntKind.i64 (re - (1 : Int)))
 (test (re - (1 : Int) == (0 : Int))
 (Kret (PV.tup
 [PV.agg
 [PV.int IntKind.i64 ca, PV.int IntKind.i64 af,
 PV.own (9) (3) (nl + 1), PV.int IntKind.i64 ov,
 PV.int IntKind.i64 (re - (1 : Int)), PV.tf true],
 PV.int IntKind.i64 (0 : Int)]) ([[(0, false,
 Blk.cols ml [Col.int IntKind.i64 tl, Col.int IntKind.i64 vl, Col.bool gl]),
 (9, true,
 Blk.cols (nl + 1)
 [Col.int IntKind.i64 fun j => bif Nat.blt j nl then tl (j + al) else st,
 Col.int IntKind.i64 fun j => bif Nat.blt j nl then vl (j + al) else sv,
 Col.bool fun j => bif Nat.blt j nl then gl (j + al) else sg])]]) (10))
 (Kret (PV.tup
 [PV.agg
 [PV.int IntKind.i64 ca, PV.int IntKind.i64 af,
 PV.own (9) (3) (nl + 1), PV.int IntKind.i64 ov,
 PV.int IntKind.i64 (re - (1 : Int)), PV.tf false],
 PV.int IntKind.i64 (0 : Int)]) ([[(0, false,
 Blk.cols ml [Col.int IntKind.i64 tl, Col.int IntKind.i64 vl, Col.bool gl]),
 (9, true,
 Blk.cols (nl + 1)
 [Col.int IntKind.i64 fun j => bif Nat.blt j nl then tl (j + al) else st,
 Col.int IntKind.i64 fun j => bif Nat.blt j nl then vl (j + al) else sv,
 Col.bool fun j => bif Nat.blt j nl then gl (j + al) else sg])]]) (10)))
 (False))
 (Kret (PV.tup
 [PV.agg
 [PV.int IntKind.i64 ca, PV.int IntKind.i64 af,
 PV.own (9) (3) (nl + 1), PV.int IntKind.i64 ov,
 PV.int IntKind.i64 re, PV.bool fz],
 PV.int IntKind.i64 (0 : Int)]) ([[(0, false,
 Blk.cols ml [Col.int IntKind.i64 tl, Col.int IntKind.i64 vl, Col.bool gl]),
 (9, true,
 Blk.cols (nl + 1)
 [Col.int IntKind.i64 fun j => bif Nat.blt j nl then tl (j + al) else st,
 Col.int IntKind.i64 fun j => bif Nat.blt j nl then vl (j + al) else sv,
 Col.bool fun j => bif Nat.blt j nl then gl (j + al) else sg])]]) (10)))
 (False))
 (False))
 (False))
 (False)))))
 (False))
 (False))
 (False))
 (test (ov == (1099511627776 : Int))
 (Kret (PV.tup
 [PV.agg
 [PV.int IntKind.i64 (0 : Int), PV.int IntKind.i64 (0 : Int), PV.nils,
 PV.int IntKind.i64 (0 : Int), PV.int IntKind.i64 (0 : Int), PV.tf false],
 PV.int IntKind.i64 (16 : Int)]) ([[(0, false,
 Blk.cols ml [Col.int IntKind.i64 tl, Col.int IntKind.i64 vl, Col.bool gl])]]) (6))
 (test ((↑nl : Int) == ca)
 (test (decide
 ((0 : Int) ≤ Option.getD (Option.some (1 : Int)) (0 : Int) ∧ (1 : Int) ≤ (↑nl : Int) ∧ (↑nl : Int) ≤ (↑nl : Int)))
 (test (lim IntKind.i64 (ov + (1 : Int)))
 (test (decide (1 + al + (nl - 1) ≤ ml ∧ nl - 1 ≤ 1000000))
 (test (decide (nl - 1 + 1 ≤ 1000000))
 (test (decide (nl - 1 ≤ nl - 1))
 (test (true)
 (test (decide (re > (0 : Int)))
 (test (lim IntKind.i64 (re - (1 : Int)))
 (test (re - (1 : Int) == (0 : Int))
 (Kret (PV.tup
 [PV.agg
 [PV.int IntKind.i64 ca, PV.int IntKind.i64 af,
 PV.own (9) (3) (nl - 1 + 1), PV.int IntKind.i64 (ov + (1 : Int)),
 PV.int IntKind.i64 (re - (1 : Int)), PV.tf true],
 PV.int IntKind.i64 (0 : Int)]) ([[(0, false,
 Blk.cols ml [Col.int IntKind.i64 tl, Col.int IntKind.i64 vl, Col.bool gl]),
 (9, true,
 Blk.cols (nl - 1 + 1)
 [Col.int IntKind.i64 fun j =>
 bif Nat.blt j (nl - 1) then tl (j + (1 + al)) else st,
 Col.int IntKind.i64 fun j =>
 bif Nat.blt j (nl - 1) then vl (j + (1 + al)) else sv,
 Col.bool fun j => bif Nat.blt j (nl - 1) then gl (j + (1 + al)) else sg])]]) (10))
 (Kret (PV.tup
 [PV.agg
 [PV.int IntKind.i64 ca, PV.int IntKind.i64 af,
 PV.own (9) (3) (nl - 1 + 1), PV.int IntKind.i64 (ov + (1 : Int)),
 PV.int IntKind.i64 (re - (1 : Int)), PV.tf false],
 PV.int IntKind.i64 (0 : Int)]) ([[(0, false,
 Blk.cols ml [Col.int IntKind.i64 tl, Col.int IntKind.i64 vl, Col.bool gl]),
 (9, true,
 Blk.cols (nl - 1 + 1)
 [Col.int IntKind.i64 fun j =>
 bif Nat.blt j (nl - 1) then tl (j + (1 + al)) else st,
 Col.int IntKind.i64 fun j =>
 bif Nat.blt j (nl - 1) then vl (j + (1 + al)) else sv,
 Col.bool fun j => bif Nat.blt j (nl - 1) then gl (j + (1 + al)) else sg])]]) (10)))
 (False))
 (Kret (PV.tup
 [PV.agg
 [PV.int IntKind.i64 ca, PV.int IntKind.i64 af,
 PV.own (9) (3) (nl - 1 + 1), PV.int IntKind.i64 (ov + (1 : Int)),
 PV.int IntKind.i64 re, PV.bool fz],
 PV.int IntKind.i64 (0 : Int)]) ([[(0, false,
 Blk.cols ml [Col.int IntKind.i64 tl, Col.int IntKind.i64 vl, Col.bool gl]),
 (9, true,
 Blk.cols (nl - 1 + 1)
 [Col.int IntKind.i64 fun j =>
 bif Nat.blt j (nl - 1) then tl (j + (1 + al)) else st,
 Col.int IntKind.i64 fun j =>
 bif Nat.blt j (nl - 1) then vl (j + (1 + al)) else sv,
 Col.bool fun j => bif Nat.blt j (nl - 1) then gl (j + (1 + al)) else sg])]]) (10)))
 (False))
 (False))
 (False))
 (False))
 (False))
 (False))
 (test (decide (al + nl ≤ ml ∧ nl ≤ 1000000))
 (test (decide (nl + 1 ≤ 1000000))
 (test (decide (nl ≤ nl))
 (test (true)
 (test (decide (re > (0 : Int)))
 (test (lim IntKind.i64 (re - (1 : Int)))
 (test (re - (1 : Int) == (0 : Int))
 (Kret (PV.tup
 [PV.agg
 [PV.int IntKind.i64 ca, PV.int IntKind.i64 af,
 PV.own (9) (3) (nl + 1), PV.int IntKind.i64 ov,
 PV.int IntKind.i64 (re - (1 : Int)), PV.tf true],
 PV.int IntKind.i64 (0 : Int)]) ([[(0, false,
 Blk.cols ml [Col.int IntKind.i64 tl, Col.int IntKind.i64 vl, Col.bool gl]),
 (9, true,
 Blk.cols (nl + 1)
 [Col.int IntKind.i64 fun j => bif Nat.blt j nl then tl (j + al) else st,
 Col.int IntKind.i64 fun j => bif Nat.blt j nl then vl (j + al) else sv,
 Col.bool fun j => bif Nat.blt j nl then gl (j + al) else sg])]]) (10))
 (Kret (PV.tup
 [PV.agg
 [PV.int IntKind.i64 ca, PV.int IntKind.i64 af,
 PV.own (9) (3) (nl + 1), PV.int IntKind.i64 ov,
 PV.int IntKind.i64 (re - (1 : Int)), PV.tf false],
 PV.int IntKind.i64 (0 : Int)]) ([[(0, false,
 Blk.cols ml [Col.int IntKind.i64 tl, Col.int IntKind.i64 vl, Col.bool gl]),
 (9, true,
 Blk.cols (nl + 1)
 [Col.int IntKind.i64 fun j => bif Nat.blt j nl then tl (j + al) else st,
 Col.int IntKind.i64 fun j => bif Nat.blt j nl then vl (j + al) else sv,
 Col.bool fun j => bif Nat.blt j nl then gl (j + al) else sg])]]) (10)))
 (False))
 (Kret (PV.tup
 [PV.agg
 [PV.int IntKind.i64 ca, PV.int IntKind.i64 af,
 PV.own (9) (3) (nl + 1), PV.int IntKind.i64 ov,
 PV.int IntKind.i64 re, PV.bool fz],
 PV.int IntKind.i64 (0 : Int)]) ([[(0, false,
 Blk.cols ml [Col.int IntKind.i64 tl, Col.int IntKind.i64 vl, Col.bool gl]),
 (9, true,
 Blk.cols (nl + 1)
 [Col.int IntKind.i64 fun j => bif Nat.blt j nl then tl (j + al) else st,
 Col.int IntKind.i64 fun j => bif Nat.blt j nl then vl (j + al) else sv,
 Col.bool fun j => bif Nat.blt j nl then gl (j + al) else sg])]]) (10)))
 (False))
 (False))
 (False))
 (False)))))))
 (test (true)
 (Kret (PV.tup
 [PV.agg
 [PV.int IntKind.i64 (0 : Int), PV.int IntKind.i64 (0 : Int), PV.nils,
 PV.int IntKind.i64 (0 : Int), PV.int IntKind.i64 (0 : Int), PV.tf false],
 PV.int IntKind.i64 (6 : Int)]) ([[(0, false,
 Blk.cols ml [Col.int IntKind.i64 tl, Col.int IntKind.i64 vl, Col.bool gl])]]) (6))
 (test (decide ((↑nl : Int) > (0 : Int)))
 (test (lim IntKind.i64 ((↑nl : Int) - (1 : Int)))
 (test (decide ((0 : Int) ≤ (↑nl : Int) - (1 : Int) ∧ (↑nl : Int) - (1 : Int) < (↑nl : Int)))
 (test (decide (Int.toNat ((↑nl : Int) - (1 : Int)) + al < ml))
 (test (decide (st < tl (Int.toNat ((↑nl : Int) - (1 : Int)) + al)))
 (Kret (PV.tup
 [PV.agg
 [PV.int IntKind.i64 (0 : Int), PV.int IntKind.i64 (0 : Int), PV.nils,
 PV.int IntKind.i64 (0 : Int), PV.int IntKind.i64 (0 : Int), PV.tf false],
 PV.int IntKind.i64 (15 : Int)]) ([[(0, false,
 Blk.cols ml [Col.int IntKind.i64 tl, Col.int IntKind.i64 vl, Col.bool gl])]]) (6))
 (test (ov == (1099511627776 : Int))
 (Kret (PV.tup
 [PV.agg
 [PV.int IntKind.i64 (0 : Int), PV.int IntKind.i64 (0 : Int), PV.nils,
 PV.int IntKind.i64 (0 : Int), PV.int IntKind.i64 (0 : Int), PV.tf false],
 PV.int IntKind.i64 (16 : Int)]) ([[(0, false,
 Blk.cols ml [Col.int IntKind.i64 tl, Col.int IntKind.i64 vl, Col.bool gl])]]) (6))
 (test ((↑nl : Int) == ca)
 (test (decide
 ((0 : Int) ≤ Option.getD (Option.some (1 : Int)) (0 : Int) ∧ (1 : Int) ≤ (↑nl : Int) ∧ (↑nl : Int) ≤ (↑nl : Int)))
 (test (lim IntKind.i64 (ov + (1 : Int)))
 (test (decide (1 + al + (nl - 1) ≤ ml ∧ nl - 1 ≤ 1000000))
 (test (decide (nl - 1 + 1 ≤ 1000000))
 (test (decide (nl - 1 ≤ nl - 1))
 (test (true)
 (test (decide (re > (0 : Int)))
 (test (lim IntKind.i64 (re - (1 : Int)))
 (test (re - (1 : Int) == (0 : Int))
 (Kret (PV.tup
 [PV.agg
 [PV.int IntKind.i64 ca, PV.int IntKind.i64 af,
 PV.own (9) (3) (nl - 1 + 1), PV.int IntKind.i64 (ov + (1 : Int)),
 PV.int IntKind.i64 (re - (1 : Int)), PV.tf true],
 PV.int IntKind.i64 (0 : Int)]) ([[(0, false,
 Blk.cols ml [Col.int IntKind.i64 tl, Col.int IntKind.i64 vl, Col.bool gl]),
 (9, true,
 Blk.cols (nl - 1 + 1)
 [Col.int IntKind.i64 fun j =>
 bif Nat.blt j (nl - 1) then tl (j + (1 + al)) else st,
 Col.int IntKind.i64 fun j =>
 bif Nat.blt j (nl - 1) then vl (j + (1 + al)) else sv,
 Col.bool fun j => bif Nat.blt j (nl - 1) then gl (j + (1 + al)) else sg])]]) (10))
 (Kret (PV.tup
 [PV.agg
 [PV.int IntKind.i64 ca, PV.int IntKind.i64 af,
 PV.own (9) (3) (nl - 1 + 1), PV.int IntKind.i64 (ov + (1 : Int)),
 PV.int IntKind.i64 (re - (1 : Int)), PV.tf false],
 PV.int IntKind.i64 (0 : Int)]) ([[(0, false,
 Blk.cols ml [Col.int IntKind.i64 tl, Col.int IntKind.i64 vl, Col.bool gl]),
 (9, true,
 Blk.cols (nl - 1 + 1)
 [Col.int IntKind.i64 fun j =>
 bif Nat.blt j (nl - 1) then tl (j + (1 + al)) else st,
 Col.int IntKind.i64 fun j =>
 bif Nat.blt j (nl - 1) then vl (j + (1 + al)) else sv,
 Col.bool fun j => bif Nat.blt j (nl - 1) then gl (j + (1 + al)) else sg])]]) (10)))
 (False))
 (Kret (PV.tup
 [PV.agg
 [PV.int IntKind.i64 ca, PV.int IntKind.i64 af,
 PV.own (9) (3) (nl - 1 + 1), PV.int IntKind.i64 (ov + (1 : Int)),
 PV.int IntKind.i64 re, PV.bool fz],
 PV.int IntKind.i64 (0 : Int)]) ([[(0, false,
 Blk.cols ml [Col.int IntKind.i64 tl, Col.int IntKind.i64 vl, Col.bool gl]),
 (9, true,
 Blk.cols (nl - 1 + 1)
 [Col.int IntKind.i64 fun j =>
 bif Nat.blt j (nl - 1) then tl (j + (1 + al)) else st,
 Col.int IntKind.i64 fun j =>
 bif Nat.blt j (nl - 1) then vl (j + (1 + al)) else sv,
 Col.bool fun j => bif Nat.blt j (nl - 1) then gl (j + (1 + al)) else sg])]]) (10)))
 (False))
 (False))
 (False))
 (False))
 (False))
 (False))
 (test (decide (al + nl ≤ ml ∧ nl ≤ 1000000))
 (test (decide (nl + 1 ≤ 1000000))
 (test (decide (nl ≤ nl))
 (test (true)
 (test (decide (re > (0 : Int)))
 (test (lim IntKind.i64 (re - (1 : Int)))
 (test (re - (1 : Int) == (0 : Int))
 (Kret (PV.tup
 [PV.agg
 [PV.int IntKind.i64 ca, PV.int IntKind.i64 af,
 PV.own (9) (3) (nl + 1), PV.int IntKind.i64 ov,
 PV.int IntKind.i64 (re - (1 : Int)), PV.tf true],
 PV.int IntKind.i64 (0 : Int)]) ([[(0, false,
 Blk.cols ml [Col.int IntKind.i64 tl, Col.int IntKind.i64 vl, Col.bool gl]),
 (9, true,
 Blk.cols (nl + 1)
 [Col.int IntKind.i64 fun j => bif Nat.blt j nl then tl (j + al) else st,
 Col.int IntKind.i64 fun j => bif Nat.blt j nl then vl (j + al) else sv,
 Col.bool fun j => bif Nat.blt j nl then gl (j + al) else sg])]]) (10))
 (Kret (PV.tup
 [PV.agg
 [PV.int IntKind.i64 ca, PV.int IntKind.i64 af,
 PV.own (9) (3) (nl + 1), PV.int IntKind.i64 ov,
 PV.int IntKind.i64 (re - (1 : Int)), PV.tf false],
 PV.int IntKind.i64 (0 : Int)]) ([[(0, false,
 Blk.cols ml [Col.int IntKind.i64 tl, Col.int IntKind.i64 vl, Col.bool gl]),
 (9, true,
 Blk.cols (nl + 1)
 [Col.int IntKind.i64 fun j => bif Nat.blt j nl then tl (j + al) else st,
 Col.int IntKind.i64 fun j => bif Nat.blt j nl then vl (j + al) else sv,
 Col.bool fun j => bif Nat.blt j nl then gl (j + al) else sg])]]) (10)))
 (False))
 (Kret (PV.tup
 [PV.agg
 [PV.int IntKind.i64 ca, PV.int IntKind.i64 af,
 PV.own (9) (3) (nl + 1), PV.int IntKind.i64 ov,
 PV.int IntKind.i64 re, PV.bool fz],
 PV.int IntKind.i64 (0 : Int)]) ([[(0, false,
 Blk.cols ml [Col.int IntKind.i64 tl, Col.int IntKind.i64 vl, Col.bool gl]),
 (9, true,
 Blk.cols (nl + 1)
 [Col.int IntKind.i64 fun j => bif Nat.blt j nl then tl (j + al) else st,
 Col.int IntKind.i64 fun j => bif Nat.blt j nl then vl (j + al) else sv,
 Col.bool fun j => bif Nat.blt j nl then gl (j + al) else sg])]]) (10)))
 (False))
 (False))
 (False))
 (False)))))
 (False))
 (False))
 (False))
 (test (ov == (1099511627776 : Int))
 (Kret (PV.tup
 [PV.agg
 [PV.int IntKind.i64 (0 : Int), PV.int IntKind.i64 (0 : Int), PV.nils,
 PV.int IntKind.i64 (0 : Int), PV.int IntKind.i64 (0 : Int), PV.tf false],
 PV.int IntKind.i64 (16 : Int)]) ([[(0, false,
 Blk.cols ml [Col.int IntKind.i64 tl, Col.int IntKind.i64 vl, Col.bool gl])]]) (6))
 (test ((↑nl : Int) == ca)
 (test (decide
 ((0 : Int) ≤ Option.getD (Option.some (1 : Int)) (0 : Int) ∧ (1 : Int) ≤ (↑nl : Int) ∧ (↑nl : Int) ≤ (↑nl : Int)))
 (test (lim IntKind.i64 (ov + (1 : Int)))
 (test (decide (1 + al + (nl - 1) ≤ ml ∧ nl - 1 ≤ 1000000))
 (test (decide (nl - 1 + 1 ≤ 1000000))
 (test (decide (nl - 1 ≤ nl - 1))
 (test (true)
 (test (decide (re > (0 : Int)))
 (test (lim IntKind.i64 (re - (1 : Int)))
 (test (re - (1 : Int) == (0 : Int))
 (Kret (PV.tup
 [PV.agg
 [PV.int IntKind.i64 ca, PV.int IntKind.i64 af,
 PV.own (9) (3) (nl - 1 + 1), PV.int IntKind.i64 (ov + (1 : Int)),
 PV.int IntKind.i64 (re - (1 : Int)), PV.tf true],
 PV.int IntKind.i64 (0 : Int)]) ([[(0, false,
 Blk.cols ml [Col.int IntKind.i64 tl, Col.int IntKind.i64 vl, Col.bool gl]),
 (9, true,
 Blk.cols (nl - 1 + 1)
 [Col.int IntKind.i64 fun j =>
 bif Nat.blt j (nl - 1) then tl (j + (1 + al)) else st,
 Col.int IntKind.i64 fun j =>
 bif Nat.blt j (nl - 1) then vl (j + (1 + al)) else sv,
 Col.bool fun j => bif Nat.blt j (nl - 1) then gl (j + (1 + al)) else sg])]]) (10))
 (Kret (PV.tup
 [PV.agg
 [PV.int IntKind.i64 ca, PV.int IntKind.i64 af,
 PV.own (9) (3) (nl - 1 + 1), PV.int IntKind.i64 (ov + (1 : Int)),
 PV.int IntKind.i64 (re - (1 : Int)), PV.tf false],
 PV.int IntKind.i64 (0 : Int)]) ([[(0, false,
 Blk.cols ml [Col.int IntKind.i64 tl, Col.int IntKind.i64 vl, Col.bool gl]),
 (9, true,
 Blk.cols (nl - 1 + 1)
 [Col.int IntKind.i64 fun j =>
 bif Nat.blt j (nl - 1) then tl (j + (1 + al)) else st,
 Col.int IntKind.i64 fun j =>
 bif Nat.blt j (nl - 1) then vl (j + (1 + al)) else sv,
 Col.bool fun j => bif Nat.blt j (nl - 1) then gl (j + (1 + al)) else sg])]]) (10)))
 (False))
 (Kret (PV.tup
 [PV.agg
 [PV.int IntKind.i64 ca, PV.int IntKind.i64 af,
 PV.own (9) (3) (nl - 1 + 1), PV.int IntKind.i64 (ov + (1 : Int)),
 PV.int IntKind.i64 re, PV.bool fz],
 PV.int IntKind.i64 (0 : Int)]) ([[(0, false,
 Blk.cols ml [Col.int IntKind.i64 tl, Col.int IntKind.i64 vl, Col.bool gl]),
 (9, true,
 Blk.cols (nl - 1 + 1)
 [Col.int IntKind.i64 fun j =>
 bif Nat.blt j (nl - 1) then tl (j + (1 + al)) else st,
 Col.int IntKind.i64 fun j =>
 bif Nat.blt j (nl - 1) then vl (j + (1 + al)) else sv,
 Col.bool fun j => bif Nat.blt j (nl - 1) then gl (j + (1 + al)) else sg])]]) (10)))
 (False))
 (False))
 (False))
 (False))
 (False))
 (False))
 (test (decide (al + nl ≤ ml ∧ nl ≤ 1000000))
 (test (decide (nl + 1 ≤ 1000000))
 (test (decide (nl ≤ nl))
 (test (true)
 (test (decide (re > (0 : Int)))
 (test (lim IntKind.i64 (re - (1 : Int)))
 (test (re - (1 : Int) == (0 : Int))
 (Kret (PV.tup
 [PV.agg
 [PV.int IntKind.i64 ca, PV.int IntKind.i64 af,
 PV.own (9) (3) (nl + 1), PV.int IntKind.i64 ov,
 PV.int IntKind.i64 (re - (1 : Int)), PV.tf true],
 PV.int IntKind.i64 (0 : Int)]) ([[(0, false,
 Blk.cols ml [Col.int IntKind.i64 tl, Col.int IntKind.i64 vl, Col.bool gl]),
 (9, true,
 Blk.cols (nl + 1)
 [Col.int IntKind.i64 fun j => bif Nat.blt j nl then tl (j + al) else st,
 Col.int IntKind.i64 fun j => bif Nat.blt j nl then vl (j + al) else sv,
 Col.bool fun j => bif Nat.blt j nl then gl (j + al) else sg])]]) (10))
 (Kret (PV.tup
 [PV.agg
 [PV.int IntKind.i64 ca, PV.int IntKind.i64 af,
 PV.own (9) (3) (nl + 1), PV.int IntKind.i64 ov,
 PV.int IntKind.i64 (re - (1 : Int)), PV.tf false],
 PV.int IntKind.i64 (0 : Int)]) ([[(0, false,
 Blk.cols ml [Col.int IntKind.i64 tl, Col.int IntKind.i64 vl, Col.bool gl]),
 (9, true,
 Blk.cols (nl + 1)
 [Col.int IntKind.i64 fun j => bif Nat.blt j nl then tl (j + al) else st,
 Col.int IntKind.i64 fun j => bif Nat.blt j nl then vl (j + al) else sv,
 Col.bool fun j => bif Nat.blt j nl then gl (j + al) else sg])]]) (10)))
 (False))
 (Kret (PV.tup
 [PV.agg
 [PV.int IntKind.i64 ca, PV.int IntKind.i64 af,
 PV.own (9) (3) (nl + 1), PV.int IntKind.i64 ov,
 PV.int IntKind.i64 re, PV.bool fz],
 PV.int IntKind.i64 (0 : Int)]) ([[(0, false,
 Blk.cols ml [Col.int IntKind.i64 tl, Col.int IntKind.i64 vl, Col.bool gl]),
 (9, true,
 Blk.cols (nl + 1)
 [Col.int IntKind.i64 fun j => bif Nat.blt j nl then tl (j + al) else st,
 Col.int IntKind.i64 fun j => bif Nat.blt j nl then vl (j + al) else sv,
 Col.bool fun j => bif Nat.blt j nl then gl (j + al) else sg])]]) (10)))
 (False))
 (False))
 (False))
 (False)))))))
 (test (true)
 (Kret (PV.tup
 [PV.agg
 [PV.int IntKind.i64 (0 : Int), PV.int IntKind.i64 (0 : Int), PV.nils,
 PV.int IntKind.i64 (0 : Int), PV.int IntKind.i64 (0 : Int), PV.tf false],
 PV.int IntKind.i64 (6 : Int)]) ([[(0, false,
 Blk.cols ml [Col.int IntKind.i64 tl, Col.int IntKind.i64 vl, Col.bool gl])]]) (6))
 (test (decide ((↑nl : Int) > (0 : Int)))
 (test (lim IntKind.i64 ((↑nl : Int) - (1 : Int)))
 (test (decide ((0 : Int) ≤ (↑nl : Int) - (1 : Int) ∧ (↑nl : Int) - (1 : Int) < (↑nl : Int)))
 (test (decide (Int.toNat ((↑nl : Int) - (1 : Int)) + al < ml))
 (test (decide (st < tl (Int.toNat ((↑nl : Int) - (1 : Int)) + al)))
 (Kret (PV.tup
 [PV.agg
 [PV.int IntKind.i64 (0 : Int), PV.int IntKind.i64 (0 : Int), PV.nils,
 PV.int IntKind.i64 (0 : Int), PV.int IntKind.i64 (0 : Int), PV.tf false],
 PV.int IntKind.i64 (15 : Int)]) ([[(0, false,
 Blk.cols ml [Col.int IntKind.i64 tl, Col.int IntKind.i64 vl, Col.bool gl])]]) (6))
 (test (ov == (1099511627776 : Int))
 (Kret (PV.tup
 [PV.agg
 [PV.int IntKind.i64 (0 : Int), PV.int IntKind.i64 (0 : Int), PV.nils,
 PV.int IntKind.i64 (0 : Int), PV.int IntKind.i64 (0 : Int), PV.tf false],
 PV.int IntKind.i64 (16 : Int)]) ([[(0, false,
 Blk.cols ml [Col.int IntKind.i64 tl, Col.int IntKind.i64 vl, Col.bool gl])]]) (6))
 (test ((↑nl : Int) == ca)
 (test (decide
 ((0 : Int) ≤ Option.getD (Option.some (1 : Int)) (0 : Int) ∧ (1 : Int) ≤ (↑nl : Int) ∧ (↑nl : Int) ≤ (↑nl : Int)))
 (test (lim IntKind.i64 (ov + (1 : Int)))
 (test (decide (1 + al + (nl - 1) ≤ ml ∧ nl - 1 ≤ 1000000))
 (test (decide (nl - 1 + 1 ≤ 1000000))
 (test (decide (nl - 1 ≤ nl - 1))
 (test (true)
 (test (decide (re > (0 : Int)))
 (test (lim IntKind.i64 (re - (1 : Int)))
 (test (re - (1 : Int) == (0 : Int))
 (Kret (PV.tup
 [PV.agg
 [PV.int IntKind.i64 ca, PV.int IntKind.i64 af,
 PV.own (9) (3) (nl - 1 + 1), PV.int IntKind.i64 (ov + (1 : Int)),
 PV.int IntKind.i64 (re - (1 : Int)), PV.tf true],
 PV.int IntKind.i64 (0 : Int)]) ([[(0, false,
 Blk.cols ml [Col.int IntKind.i64 tl, Col.int IntKind.i64 vl, Col.bool gl]),
 (9, true,
 Blk.cols (nl - 1 + 1)
 [Col.int IntKind.i64 fun j =>
 bif Nat.blt j (nl - 1) then tl (j + (1 + al)) else st,
 Col.int IntKind.i64 fun j =>
 bif Nat.blt j (nl - 1) then vl (j + (1 + al)) else sv,
 Col.bool fun j => bif Nat.blt j (nl - 1) then gl (j + (1 + al)) else sg])]]) (10))
 (Kret (PV.tup
 [PV.agg
 [PV.int IntKind.i64 ca, PV.int IntKind.i64 af,
 PV.own (9) (3) (nl - 1 + 1), PV.int IntKind.i64 (ov + (1 : Int)),
 PV.int IntKind.i64 (re - (1 : Int)), PV.tf false],
 PV.int IntKind.i64 (0 : Int)]) ([[(0, false,
 Blk.cols ml [Col.int IntKind.i64 tl, Col.int IntKind.i64 vl, Col.bool gl]),
 (9, true,
 Blk.cols (nl - 1 + 1)
 [Col.int IntKind.i64 fun j =>
 bif Nat.blt j (nl - 1) then tl (j + (1 + al)) else st,
 Col.int IntKind.i64 fun j =>
 bif Nat.blt j (nl - 1) then vl (j + (1 + al)) else sv,
 Col.bool fun j => bif Nat.blt j (nl - 1) then gl (j + (1 + al)) else sg])]]) (10)))
 (False))
 (Kret (PV.tup
 [PV.agg
 [PV.int IntKind.i64 ca, PV.int IntKind.i64 af,
 PV.own (9) (3) (nl - 1 + 1), PV.int IntKind.i64 (ov + (1 : Int)),
 PV.int IntKind.i64 re, PV.bool fz],
 PV.int IntKind.i64 (0 : Int)]) ([[(0, false,
 Blk.cols ml [Col.int IntKind.i64 tl, Col.int IntKind.i64 vl, Col.bool gl]),
 (9, true,
 Blk.cols (nl - 1 + 1)
 [Col.int IntKind.i64 fun j =>
 bif Nat.blt j (nl - 1) then tl (j + (1 + al)) else st,
 Col.int IntKind.i64 fun j =>
 bif Nat.blt j (nl - 1) then vl (j + (1 + al)) else sv,
 Col.bool fun j => bif Nat.blt j (nl - 1) then gl (j + (1 + al)) else sg])]]) (10)))
 (False))
 (False))
 (False))
 (False))
 (False))
 (False))
 (test (decide (al + nl ≤ ml ∧ nl ≤ 1000000))
 (test (decide (nl + 1 ≤ 1000000))
 (test (decide (nl ≤ nl))
 (test (true)
 (test (decide (re > (0 : Int)))
 (test (lim IntKind.i64 (re - (1 : Int)))
 (test (re - (1 : Int) == (0 : Int))
 (Kret (PV.tup
 [PV.agg
 [PV.int IntKind.i64 ca, PV.int IntKind.i64 af,
 PV.own (9) (3) (nl + 1), PV.int IntKind.i64 ov,
 PV.int IntKind.i64 (re - (1 : Int)), PV.tf true],
 PV.int IntKind.i64 (0 : Int)]) ([[(0, false,
 Blk.cols ml [Col.int IntKind.i64 tl, Col.int IntKind.i64 vl, Col.bool gl]),
 (9, true,
 Blk.cols (nl + 1)
 [Col.int IntKind.i64 fun j => bif Nat.blt j nl then tl (j + al) else st,
 Col.int IntKind.i64 fun j => bif Nat.blt j nl then vl (j + al) else sv,
 Col.bool fun j => bif Nat.blt j nl then gl (j + al) else sg])]]) (10))
 (Kret (PV.tup
 [PV.agg
 [PV.int IntKind.i64 ca, PV.int IntKind.i64 af,
 PV.own (9) (3) (nl + 1), PV.int IntKind.i64 ov,
 PV.int IntKind.i64 (re - (1 : Int)), PV.tf false],
 PV.int IntKind.i64 (0 : Int)]) ([[(0, false,
 Blk.cols ml [Col.int IntKind.i64 tl, Col.int IntKind.i64 vl, Col.bool gl]),
 (9, true,
 Blk.cols (nl + 1)
 [Col.int IntKind.i64 fun j => bif Nat.blt j nl then tl (j + al) else st,
 Col.int IntKind.i64 fun j => bif Nat.blt j nl then vl (j + al) else sv,
 Col.bool fun j => bif Nat.blt j nl then gl (j + al) else sg])]]) (10)))
 (False))
 (Kret (PV.tup
 [PV.agg
 [PV.int IntKind.i64 ca, PV.int IntKind.i64 af,
 PV.own (9) (3) (nl + 1), PV.int IntKind.i64 ov,
 PV.int IntKind.i64 re, PV.bool fz],
 PV.int IntKind.i64 (0 : Int)]) ([[(0, false,
 Blk.cols ml [Col.int IntKind.i64 tl, Col.int IntKind.i64 vl, Col.bool gl]),
 (9, true,
 Blk.cols (nl + 1)
 [Col.int IntKind.i64 fun j => bif Nat.blt j nl then tl (j + al) else st,
 Col.int IntKind.i64 fun j => bif Nat.blt j nl then vl (j + al) else sv,
 Col.bool fun j => bif Nat.blt j nl then gl (j + al) else sg])]]) (10)))
 (False))
 (False))
 (False))
 (False)))))
 (False))
 (False))
 (False))
 (test (ov == (1099511627776 : Int))
 (Kret (PV.tup
 [PV.agg
 [PV.int IntKind.i64 (0 : Int), PV.int IntKind.i64 (0 : Int), PV.nils,
 PV.int IntKind.i64 (0 : Int), PV.int IntKind.i64 (0 : Int), PV.tf false],
 PV.int IntKind.i64 (16 : Int)]) ([[(0, false,
 Blk.cols ml [Col.int IntKind.i64 tl, Col.int IntKind.i64 vl, Col.bool gl])]]) (6))
 (test ((↑nl : Int) == ca)
 (test (decide
 ((0 : Int) ≤ Option.getD (Option.some (1 : Int)) (0 : Int) ∧ (1 : Int) ≤ (↑nl : Int) ∧ (↑nl : Int) ≤ (↑nl : Int)))
 (test (lim IntKind.i64 (ov + (1 : Int)))
 (test (decide (1 + al + (nl - 1) ≤ ml ∧ nl - 1 ≤ 1000000))
 (test (decide (nl - 1 + 1 ≤ 1000000))
 (test (decide (nl - 1 ≤ nl - 1))
 (test (true)
 (test (decide (re > (0 : Int)))
 (test (lim IntKind.i64 (re - (1 : Int)))
 (test (re - (1 : Int) == (0 : Int))
 (Kret (PV.tup
 [PV.agg
 [PV.int IntKind.i64 ca, PV.int IntKind.i64 af,
 PV.own (9) (3) (nl - 1 + 1), PV.int IntKind.i64 (ov + (1 : Int)),
 PV.int IntKind.i64 (re - (1 : Int)), PV.tf true],
 PV.int IntKind.i64 (0 : Int)]) ([[(0, false,
 Blk.cols ml [Col.int IntKind.i64 tl, Col.int IntKind.i64 vl, Col.bool gl]),
 (9, true,
 Blk.cols (nl - 1 + 1)
 [Col.int IntKind.i64 fun j =>
 bif Nat.blt j (nl - 1) then tl (j + (1 + al)) else st,
 Col.int IntKind.i64 fun j =>
 bif Nat.blt j (nl - 1) then vl (j + (1 + al)) else sv,
 Col.bool fun j => bif Nat.blt j (nl - 1) then gl (j + (1 + al)) else sg])]]) (10))
 (Kret (PV.tup
 [PV.agg
 [PV.int IntKind.i64 ca, PV.int IntKind.i64 af,
 PV.own (9) (3) (nl - 1 + 1), PV.int IntKind.i64 (ov + (1 : Int)),
 PV.int IntKind.i64 (re - (1 : Int)), PV.tf false],
 PV.int IntKind.i64 (0 : Int)]) ([[(0, false,
 Blk.cols ml [Col.int IntKind.i64 tl, Col.int IntKind.i64 vl, Col.bool gl]),
 (9, true,
 Blk.cols (nl - 1 + 1)
 [Col.int IntKind.i64 fun j =>
 bif Nat.blt j (nl - 1) then tl (j + (1 + al)) else st,
 Col.int IntKind.i64 fun j =>
 bif Nat.blt j (nl - 1) then vl (j + (1 + al)) else sv,
 Col.bool fun j => bif Nat.blt j (nl - 1) then gl (j + (1 + al)) else sg])]]) (10)))
 (False))
 (Kret (PV.tup
 [PV.agg
 [PV.int IntKind.i64 ca, PV.int IntKind.i64 af,
 PV.own (9) (3) (nl - 1 + 1), PV.int IntKind.i64 (ov + (1 : Int)),
 PV.int IntKind.i64 re, PV.bool fz],
 PV.int IntKind.i64 (0 : Int)]) ([[(0, false,
 Blk.cols ml [Col.int IntKind.i64 tl, Col.int IntKind.i64 vl, Col.bool gl]),
 (9, true,
 Blk.cols (nl - 1 + 1)
 [Col.int IntKind.i64 fun j =>
 bif Nat.blt j (nl - 1) then tl (j + (1 + al)) else st,
 Col.int IntKind.i64 fun j =>
 bif Nat.blt j (nl - 1) then vl (j + (1 + al)) else sv,
 Col.bool fun j => bif Nat.blt j (nl - 1) then gl (j + (1 + al)) else sg])]]) (10)))
 (False))
 (False))
 (False))
 (False))
 (False))
 (False))
 (test (decide (al + nl ≤ ml ∧ nl ≤ 1000000))
 (test (decide (nl + 1 ≤ 1000000))
 (test (decide (nl ≤ nl))
 (test (true)
 (test (decide (re > (0 : Int)))
 (test (lim IntKind.i64 (re - (1 : Int)))
 (test (re - (1 : Int) == (0 : Int))
 (Kret (PV.tup
 [PV.agg
 [PV.int IntKind.i64 ca, PV.int IntKind.i64 af,
 PV.own (9) (3) (nl + 1), PV.int IntKind.i64 ov,
 PV.int IntKind.i64 (re - (1 : Int)), PV.tf true],
 PV.int IntKind.i64 (0 : Int)]) ([[(0, false,
 Blk.cols ml [Col.int IntKind.i64 tl, Col.int IntKind.i64 vl, Col.bool gl]),
 (9, true,
 Blk.cols (nl + 1)
 [Col.int IntKind.i64 fun j => bif Nat.blt j nl then tl (j + al) else st,
 Col.int IntKind.i64 fun j => bif Nat.blt j nl then vl (j + al) else sv,
 Col.bool fun j => bif Nat.blt j nl then gl (j + al) else sg])]]) (10))
 (Kret (PV.tup
 [PV.agg
 [PV.int IntKind.i64 ca, PV.int IntKind.i64 af,
 PV.own (9) (3) (nl + 1), PV.int IntKind.i64 ov,
 PV.int IntKind.i64 (re - (1 : Int)), PV.tf false],
 PV.int IntKind.i64 (0 : Int)]) ([[(0, false,
 Blk.cols ml [Col.int IntKind.i64 tl, Col.int IntKind.i64 vl, Col.bool gl]),
 (9, true,
 Blk.cols (nl + 1)
 [Col.int IntKind.i64 fun j => bif Nat.blt j nl then tl (j + al) else st,
 Col.int IntKind.i64 fun j => bif Nat.blt j nl then vl (j + al) else sv,
 Col.bool fun j => bif Nat.blt j nl then gl (j + al) else sg])]]) (10)))
 (False))
 (Kret (PV.tup
 [PV.agg
 [PV.int IntKind.i64 ca, PV.int IntKind.i64 af,
 PV.own (9) (3) (nl + 1), PV.int IntKind.i64 ov,
 PV.int IntKind.i64 re, PV.bool fz],
 PV.int IntKind.i64 (0 : Int)]) ([[(0, false,
 Blk.cols ml [Col.int IntKind.i64 tl, Col.int IntKind.i64 vl, Col.bool gl]),
 (9, true,
 Blk.cols (nl + 1)
 [Col.int IntKind.i64 fun j => bif Nat.blt j nl then tl (j + al) else st,
 Col.int IntKind.i64 fun j => bif Nat.blt j nl then vl (j + al) else sv,
 Col.bool fun j => bif Nat.blt j nl then gl (j + al) else sg])]]) (10)))
 (False))
 (False))
 (False))
 (False)))))))
 (test (true)
 (Kret (PV.tup
 [PV.agg
 [PV.int IntKind.i64 (0 : Int), PV.int IntKind.i64 (0 : Int), PV.nils,
 PV.int IntKind.i64 (0 : Int), PV.int IntKind.i64 (0 : Int), PV.tf false],
 PV.int IntKind.i64 (6 : Int)]) ([[(0, false,
 Blk.cols ml [Col.int IntKind.i64 tl, Col.int IntKind.i64 vl, Col.bool gl])]]) (6))
 (test (decide ((↑nl : Int) > (0 : Int)))
 (test (lim IntKind.i64 ((↑nl : Int) - (1 : Int)))
 (test (decide ((0 : Int) ≤ (↑nl : Int) - (1 : Int) ∧ (↑nl : Int) - (1 : Int) < (↑nl : Int)))
 (test (decide (Int.toNat ((↑nl : Int) - (1 : Int)) + al < ml))
 (test (decide (st < tl (Int.toNat ((↑nl : Int) - (1 : Int)) + al)))
 (Kret (PV.tup
 [PV.agg
 [PV.int IntKind.i64 (0 : Int), PV.int IntKind.i64 (0 : Int), PV.nils,
 PV.int IntKind.i64 (0 : Int), PV.int IntKind.i64 (0 : Int), PV.tf false],
 PV.int IntKind.i64 (15 : Int)]) ([[(0, false,
 Blk.cols ml [Col.int IntKind.i64 tl, Col.int IntKind.i64 vl, Col.bool gl])]]) (6))
 (test (ov == (1099511627776 : Int))
 (Kret (PV.tup
 [PV.agg
 [PV.int IntKind.i64 (0 : Int), PV.int IntKind.i64 (0 : Int), PV.nils,
 PV.int IntKind.i64 (0 : Int), PV.int IntKind.i64 (0 : Int), PV.tf false],
 PV.int IntKind.i64 (16 : Int)]) ([[(0, false,
 Blk.cols ml [Col.int IntKind.i64 tl, Col.int IntKind.i64 vl, Col.bool gl])]]) (6))
 (test ((↑nl : Int) == ca)
 (test (decide
 ((0 : Int) ≤ Option.getD (Option.some (1 : Int)) (0 : Int) ∧ (1 : Int) ≤ (↑nl : Int) ∧ (↑nl : Int) ≤ (↑nl : Int)))
 (test (lim IntKind.i64 (ov + (1 : Int)))
 (test (decide (1 + al + (nl - 1) ≤ ml ∧ nl - 1 ≤ 1000000))
 (test (decide (nl - 1 + 1 ≤ 1000000))
 (test (decide (nl - 1 ≤ nl - 1))
 (test (true)
 (test (decide (re > (0 : Int)))
 (test (lim IntKind.i64 (re - (1 : Int)))
 (test (re - (1 : Int) == (0 : Int))
 (Kret (PV.tup
 [PV.agg
 [PV.int IntKind.i64 ca, PV.int IntKind.i64 af,
 PV.own (9) (3) (nl - 1 + 1), PV.int IntKind.i64 (ov + (1 : Int)),
 PV.int IntKind.i64 (re - (1 : Int)), PV.tf true],
 PV.int IntKind.i64 (0 : Int)]) ([[(0, false,
 Blk.cols ml [Col.int IntKind.i64 tl, Col.int IntKind.i64 vl, Col.bool gl]),
 (9, true,
 Blk.cols (nl - 1 + 1)
 [Col.int IntKind.i64 fun j =>
 bif Nat.blt j (nl - 1) then tl (j + (1 + al)) else st,
 Col.int IntKind.i64 fun j =>
 bif Nat.blt j (nl - 1) then vl (j + (1 + al)) else sv,
 Col.bool fun j => bif Nat.blt j (nl - 1) then gl (j + (1 + al)) else sg])]]) (10))
 (Kret (PV.tup
 [PV.agg
 [PV.int IntKind.i64 ca, PV.int IntKind.i64 af,
 PV.own (9) (3) (nl - 1 + 1), PV.int IntKind.i64 (ov + (1 : Int)),
 PV.int IntKind.i64 (re - (1 : Int)), PV.tf false],
 PV.int IntKind.i64 (0 : Int)]) ([[(0, false,
 Blk.cols ml [Col.int IntKind.i64 tl, Col.int IntKind.i64 vl, Col.bool gl]),
 (9, true,
 Blk.cols (nl - 1 + 1)
 [Col.int IntKind.i64 fun j =>
 bif Nat.blt j (nl - 1) then tl (j + (1 + al)) else st,
 Col.int IntKind.i64 fun j =>
 bif Nat.blt j (nl - 1) then vl (j + (1 + al)) else sv,
 Col.bool fun j => bif Nat.blt j (nl - 1) then gl (j + (1 + al)) else sg])]]) (10)))
 (False))
 (Kret (PV.tup
 [PV.agg
 [PV.int IntKind.i64 ca, PV.int IntKind.i64 af,
 PV.own (9) (3) (nl - 1 + 1), PV.int IntKind.i64 (ov + (1 : Int)),
 PV.int IntKind.i64 re, PV.bool fz],
 PV.int IntKind.i64 (0 : Int)]) ([[(0, false,
 Blk.cols ml [Col.int IntKind.i64 tl, Col.int IntKind.i64 vl, Col.bool gl]),
 (9, true,
 Blk.cols (nl - 1 + 1)
 [Col.int IntKind.i64 fun j =>
 bif Nat.blt j (nl - 1) then tl (j + (1 + al)) else st,
 Col.int IntKind.i64 fun j =>
 bif Nat.blt j (nl - 1) then vl (j + (1 + al)) else sv,
 Col.bool fun j => bif Nat.blt j (nl - 1) then gl (j + (1 + al)) else sg])]]) (10)))
 (False))
 (False))
 (False))
 (False))
 (False))
 (False))
 (test (decide (al + nl ≤ ml ∧ nl ≤ 1000000))
 (test (decide (nl + 1 ≤ 1000000))
 (test (decide (nl ≤ nl))
 (test (true)
 (test (decide (re > (0 : Int)))
 (test (lim IntKind.i64 (re - (1 : Int)))
 (test (re - (1 : Int) == (0 : Int))
 (Kret (PV.tup
 [PV.agg
 [PV.int IntKind.i64 ca, PV.int IntKind.i64 af,
 PV.own (9) (3) (nl + 1), PV.int IntKind.i64 ov,
 PV.int IntKind.i64 (re - (1 : Int)), PV.tf true],
 PV.int IntKind.i64 (0 : Int)]) ([[(0, false,
 Blk.cols ml [Col.int IntKind.i64 tl, Col.int IntKind.i64 vl, Col.bool gl]),
 (9, true,
 Blk.cols (nl + 1)
 [Col.int IntKind.i64 fun j => bif Nat.blt j nl then tl (j + al) else st,
 Col.int IntKind.i64 fun j => bif Nat.blt j nl then vl (j + al) else sv,
 Col.bool fun j => bif Nat.blt j nl then gl (j + al) else sg])]]) (10))
 (Kret (PV.tup
 [PV.agg
 [PV.int IntKind.i64 ca, PV.int IntKind.i64 af,
 PV.own (9) (3) (nl + 1), PV.int IntKind.i64 ov,
 PV.int IntKind.i64 (re - (1 : Int)), PV.tf false],
 PV.int IntKind.i64 (0 : Int)]) ([[(0, false,
 Blk.cols ml [Col.int IntKind.i64 tl, Col.int IntKind.i64 vl, Col.bool gl]),
 (9, true,
 Blk.cols (nl + 1)
 [Col.int IntKind.i64 fun j => bif Nat.blt j nl then tl (j + al) else st,
 Col.int IntKind.i64 fun j => bif Nat.blt j nl then vl (j + al) else sv,
 Col.bool fun j => bif Nat.blt j nl then gl (j + al) else sg])]]) (10)))
 (False))
 (Kret (PV.tup
 [PV.agg
 [PV.int IntKind.i64 ca, PV.int IntKind.i64 af,
 PV.own (9) (3) (nl + 1), PV.int IntKind.i64 ov,
 PV.int IntKind.i64 re, PV.bool fz],
 PV.int IntKind.i64 (0 : Int)]) ([[(0, false,
 Blk.cols ml [Col.int IntKind.i64 tl, Col.int IntKind.i64 vl, Col.bool gl]),
 (9, true,
 Blk.cols (nl + 1)
 [Col.int IntKind.i64 fun j => bif Nat.blt j nl then tl (j + al) else st,
 Col.int IntKind.i64 fun j => bif Nat.blt j nl then vl (j + al) else sv,
 Col.bool fun j => bif Nat.blt j nl then gl (j + al) else sg])]]) (10)))
 (False))
 (False))
 (False))
 (False)))))
 (False))
 (False))
 (False))
 (test (ov == (1099511627776 : Int))
 (Kret (PV.tup
 [PV.agg
 [PV.int IntKind.i64 (0 : Int), PV.int IntKind.i64 (0 : Int), PV.nils,
 PV.int IntKind.i64 (0 : Int), PV.int IntKind.i64 (0 : Int), PV.tf false],
 PV.int IntKind.i64 (16 : Int)]) ([[(0, false,
 Blk.cols ml [Col.int IntKind.i64 tl, Col.int IntKind.i64 vl, Col.bool gl])]]) (6))
 (test ((↑nl : Int) == ca)
 (test (decide
 ((0 : Int) ≤ Option.getD (Option.some (1 : Int)) (0 : Int) ∧ (1 : Int) ≤ (↑nl : Int) ∧ (↑nl : Int) ≤ (↑nl : Int)))
 (test (lim IntKind.i64 (ov + (1 : Int)))
 (test (decide (1 + al + (nl - 1) ≤ ml ∧ nl - 1 ≤ 1000000))
 (test (decide (nl - 1 + 1 ≤ 1000000))
 (test (decide (nl - 1 ≤ nl - 1))
 (test (true)
 (test (decide (re > (0 : Int)))
 (test (lim IntKind.i64 (re - (1 : Int)))
 (test (re - (1 : Int) == (0 : Int))
 (Kret (PV.tup
 [PV.agg
 [PV.int IntKind.i64 ca, PV.int IntKind.i64 af,
 PV.own (9) (3) (nl - 1 + 1), PV.int IntKind.i64 (ov + (1 : Int)),
 PV.int IntKind.i64 (re - (1 : Int)), PV.tf true],
 PV.int IntKind.i64 (0 : Int)]) ([[(0, false,
 Blk.cols ml [Col.int IntKind.i64 tl, Col.int IntKind.i64 vl, Col.bool gl]),
 (9, true,
 Blk.cols (nl - 1 + 1)
 [Col.int IntKind.i64 fun j =>
 bif Nat.blt j (nl - 1) then tl (j + (1 + al)) else st,
 Col.int IntKind.i64 fun j =>
 bif Nat.blt j (nl - 1) then vl (j + (1 + al)) else sv,
 Col.bool fun j => bif Nat.blt j (nl - 1) then gl (j + (1 + al)) else sg])]]) (10))
 (Kret (PV.tup
 [PV.agg
 [PV.int IntKind.i64 ca, PV.int IntKind.i64 af,
 PV.own (9) (3) (nl - 1 + 1), PV.int IntKind.i64 (ov + (1 : Int)),
 PV.int IntKind.i64 (re - (1 : Int)), PV.tf false],
 PV.int IntKind.i64 (0 : Int)]) ([[(0, false,
 Blk.cols ml [Col.int IntKind.i64 tl, Col.int IntKind.i64 vl, Col.bool gl]),
 (9, true,
 Blk.cols (nl - 1 + 1)
 [Col.int IntKind.i64 fun j =>
 bif Nat.blt j (nl - 1) then tl (j + (1 + al)) else st,
 Col.int IntKind.i64 fun j =>
 bif Nat.blt j (nl - 1) then vl (j + (1 + al)) else sv,
 Col.bool fun j => bif Nat.blt j (nl - 1) then gl (j + (1 + al)) else sg])]]) (10)))
 (False))
 (Kret (PV.tup
 [PV.agg
 [PV.int IntKind.i64 ca, PV.int IntKind.i64 af,
 PV.own (9) (3) (nl - 1 + 1), PV.int IntKind.i64 (ov + (1 : Int)),
 PV.int IntKind.i64 re, PV.bool fz],
 PV.int IntKind.i64 (0 : Int)]) ([[(0, false,
 Blk.cols ml [Col.int IntKind.i64 tl, Col.int IntKind.i64 vl, Col.bool gl]),
 (9, true,
 Blk.cols (nl - 1 + 1)
 [Col.int IntKind.i64 fun j =>
 bif Nat.blt j (nl - 1) then tl (j + (1 + al)) else st,
 Col.int IntKind.i64 fun j =>
 bif Nat.blt j (nl - 1) then vl (j + (1 + al)) else sv,
 Col.bool fun j => bif Nat.blt j (nl - 1) then gl (j + (1 + al)) else sg])]]) (10)))
 (False))
 (False))
 (False))
 (False))
 (False))
 (False))
 (test (decide (al + nl ≤ ml ∧ nl ≤ 1000000))
 (test (decide (nl + 1 ≤ 1000000))
 (test (decide (nl ≤ nl))
 (test (true)
 (test (decide (re > (0 : Int)))
 (test (lim IntKind.i64 (re - (1 : Int)))
 (test (re - (1 : Int) == (0 : Int))
 (Kret (PV.tup
 [PV.agg
 [PV.int IntKind.i64 ca, PV.int IntKind.i64 af,
 PV.own (9) (3) (nl + 1), PV.int IntKind.i64 ov,
 PV.int IntKind.i64 (re - (1 : Int)), PV.tf true],
 PV.int IntKind.i64 (0 : Int)]) ([[(0, false,
 Blk.cols ml [Col.int IntKind.i64 tl, Col.int IntKind.i64 vl, Col.bool gl]),
 (9, true,
 Blk.cols (nl + 1)
 [Col.int IntKind.i64 fun j => bif Nat.blt j nl then tl (j + al) else st,
 Col.int IntKind.i64 fun j => bif Nat.blt j nl then vl (j + al) else sv,
 Col.bool fun j => bif Nat.blt j nl then gl (j + al) else sg])]]) (10))
 (Kret (PV.tup
 [PV.agg
 [PV.int IntKind.i64 ca, PV.int IntKind.i64 af,
 PV.own (9) (3) (nl + 1), PV.int IntKind.i64 ov,
 PV.int IntKind.i64 (re - (1 : Int)), PV.tf false],
 PV.int IntKind.i64 (0 : Int)]) ([[(0, false,
 Blk.cols ml [Col.int IntKind.i64 tl, Col.int IntKind.i64 vl, Col.bool gl]),
 (9, true,
 Blk.cols (nl + 1)
 [Col.int IntKind.i64 fun j => bif Nat.blt j nl then tl (j + al) else st,
 Col.int IntKind.i64 fun j => bif Nat.blt j nl then vl (j + al) else sv,
 Col.bool fun j => bif Nat.blt j nl then gl (j + al) else sg])]]) (10)))
 (False))
 (Kret (PV.tup
 [PV.agg
 [PV.int IntKind.i64 ca, PV.int IntKind.i64 af,
 PV.own (9) (3) (nl + 1), PV.int IntKind.i64 ov,
 PV.int IntKind.i64 re, PV.bool fz],
 PV.int IntKind.i64 (0 : Int)]) ([[(0, false,
 Blk.cols ml [Col.int IntKind.i64 tl, Col.int IntKind.i64 vl, Col.bool gl]),
 (9, true,
 Blk.cols (nl + 1)
 [Col.int IntKind.i64 fun j => bif Nat.blt j nl then tl (j + al) else st,
 Col.int IntKind.i64 fun j => bif Nat.blt j nl then vl (j + al) else sv,
 Col.bool fun j => bif Nat.blt j nl then gl (j + al) else sg])]]) (10)))
 (False))
 (False))
 (False))
 (False)))))))))
 (False)
theorem te12 (test : Bool → Prop → Prop → Prop) (Kst : KS) (Kret : KR) (ca : Int) (af : Int) (al nl ml : Nat) (tl : Nat → Int) (vl : Nat → Int) (gl : Nat → Bool) (ov : Int) (re : Int) (fz : Bool) (st : Int) (sv : Int) (sg : Bool) : run test Try.env true (xB test) true 400 ⟨12, [.cd (mkFn Try.f12).body], argT 0 [.agg [.int .i64 ca, .int .i64 af, .loose ⟨0, 3, al, 0⟩ nl, .int .i64 ov, .int .i64 re, .bool fz], .agg [.int .i64 st, .int .i64 sv, .bool sg]], [[], [(0, (false, .cols ml [.int .i64 tl, .int .i64 vl, .bool gl]))]], 1⟩ (proj 1 [] Kst Kret) =
  Te12 test Kst Kret ca af al nl ml tl vl gl ov re fz st sv sg := by kernel_rfl
theorem be12 (ca : Int) (af : Int) (al nl ml : Nat) (tl : Nat → Int) (vl : Nat → Int) (gl : Nat → Bool) (ov : Int) (re : Int) (fz : Bool) (st : Int) (sv : Int) (sg : Bool) (Kst : KS) (Kret : KR) (x : St12 ⊕ Rt12) (hS : HS 1 400 ((I12 ca af al nl ml tl vl gl ov re fz st sv sg)) Kst x) (hR : HR 1 400 ((V12 ca af al nl ml tl vl gl ov re fz st sv sg)) (fun r => [newL (1 + 1) ((N12 ca af al nl ml tl vl gl ov re fz st sv sg) r) ++ [(0, (false, .cols ml [.int .i64 tl, .int .i64 vl, .bool gl]))]]) Kret x) (h : p12 ca af al nl ml tl vl gl ov re fz st sv sg = some x) : Te12 cond Kst Kret ca af al nl ml tl vl gl ov re fz st sv sg := by
  unfold Te12
  unfold p12 at h
  refine bif_split h
   (fun c0 h => bif_split h
   (fun c1 h => ?_)
   (fun c1 h => bif_split h
   (fun c2 h => ?_)
   (fun c2 h => bif_split h
   (fun c3 h => bif_split h
   (fun c4 h => bif_split h
   (fun c5 h => bif_split h
   (fun c6 h => cond_no rfl (bif_split h
   (fun c7 h => bif_split h
   (fun c8 h => bif_split h
   (fun c9 h => bif_split h
   (fun c10 h => bif_split h
   (fun c11 h => ?_)
   (fun c11 h => bif_split h
   (fun c12 h => ?_)
   (fun c12 h => bif_split h
   (fun c13 h => bif_split h
   (fun c14 h => bif_split h
   (fun c15 h => bif_split h
   (fun c16 h => bif_split h
   (fun c17 h => bif_split h
   (fun c18 h => cond_yes rfl (bif_split h
   (fun c19 h => bif_split h
   (fun c20 h => bif_split h
   (fun c21 h => ?_)
   (fun c21 h => ?_))
   (fun c20 h => ?_))
   (fun c19 h => ?_)))
   (fun c18 h => ?_))
   (fun c17 h => ?_))
   (fun c16 h => ?_))
   (fun c15 h => ?_))
   (fun c14 h => ?_))
   (fun c13 h => cond_yes c0 (bif_split h
   (fun c14 h => bif_split h
   (fun c15 h => cond_yes rfl (bif_split h
   (fun c16 h => bif_split h
   (fun c17 h => bif_split h
   (fun c18 h => ?_)
   (fun c18 h => ?_))
   (fun c17 h => ?_))
   (fun c16 h => ?_)))
   (fun c15 h => ?_))
   (fun c14 h => ?_))))))
   (fun c10 h => ?_))
   (fun c9 h => ?_))
   (fun c8 h => ?_))
   (fun c7 h => bif_split h
   (fun c8 h => ?_)
   (fun c8 h => bif_split h
   (fun c9 h => bif_split h
   (fun c10 h => bif_split h
   (fun c11 h => bif_split h
   (fun c12 h => bif_split h
   (fun c13 h => bif_split h
   (fun c14 h => cond_yes rfl (bif_split h
   (fun c15 h => bif_split h
   (fun c16 h => bif_split h
   (fun c17 h => ?_)
   (fun c17 h => ?_))
   (fun c16 h => ?_))
   (fun c15 h => ?_)))
   (fun c14 h => ?_))
   (fun c13 h => ?_))
   (fun c12 h => ?_))
   (fun c11 h => ?_))
   (fun c10 h => ?_))
   (fun c9 h => cond_yes c0 (bif_split h
   (fun c10 h => bif_split h
   (fun c11 h => cond_yes rfl (bif_split h
   (fun c12 h => bif_split h
   (fun c13 h => bif_split h
   (fun c14 h => ?_)
   (fun c14 h => ?_))
   (fun c13 h => ?_))
   (fun c12 h => ?_)))
   (fun c11 h => ?_))
   (fun c10 h => ?_)))))))
   (fun c6 h => cond_yes rfl (ret_at hR _ h (fun n => bif Nat.beq n 2 then 399 else n) rfl rfl rfl (rn_tup ⟨(rn_agg ⟨(rn_int rfl), (rn_int rfl), (rn_own_nils rfl), (rn_int rfl), (rn_int rfl), (rn_bool_tf rfl), trivial⟩), (rn_int rfl), trivial⟩) rfl (entl_fresh (use_own rfl) (fresh_ok rfl) (entl_bor (use_lo rfl) rfl rfl entl_nil)))))
   (fun c5 h => cond_yes rfl (ret_at hR _ h (fun n => bif Nat.beq n 2 then 399 else n) rfl rfl rfl (rn_tup ⟨(rn_agg ⟨(rn_int rfl), (rn_int rfl), (rn_own_nils rfl), (rn_int rfl), (rn_int rfl), (rn_bool_tf rfl), trivial⟩), (rn_int rfl), trivial⟩) rfl (entl_fresh (use_own rfl) (fresh_ok rfl) (entl_bor (use_lo rfl) rfl rfl entl_nil)))))
   (fun c4 h => cond_yes rfl (ret_at hR _ h (fun n => bif Nat.beq n 2 then 399 else n) rfl rfl rfl (rn_tup ⟨(rn_agg ⟨(rn_int rfl), (rn_int rfl), (rn_own_nils rfl), (rn_int rfl), (rn_int rfl), (rn_bool_tf rfl), trivial⟩), (rn_int rfl), trivial⟩) rfl (entl_fresh (use_own rfl) (fresh_ok rfl) (entl_bor (use_lo rfl) rfl rfl entl_nil)))))
   (fun c3 h => cond_yes rfl (ret_at hR _ h (fun n => bif Nat.beq n 2 then 399 else n) rfl rfl rfl (rn_tup ⟨(rn_agg ⟨(rn_int rfl), (rn_int rfl), (rn_own_nils rfl), (rn_int rfl), (rn_int rfl), (rn_bool_tf rfl), trivial⟩), (rn_int rfl), trivial⟩) rfl (entl_fresh (use_own rfl) (fresh_ok rfl) (entl_bor (use_lo rfl) rfl rfl entl_nil)))))))
   (fun c0 h => ?_)
  all_goals first
    | exact no_some h
    | exact ret_at hR _ h (fun n => bif Nat.beq n 2 then 9 else n) rfl rfl rfl (rn_tup ⟨(rn_agg ⟨(rn_int rfl), (rn_int rfl), (rn_own (use_own rfl) rfl (snoc_len' mkl_len)), (rn_int rfl), (rn_int rfl), (rn_bool_tf rfl), trivial⟩), (rn_int rfl), trivial⟩) rfl (entl_new (use_own rfl) rfl (Nat.le_of_eq (snoc_len' mkl_len)) (rcs_int (col_snoc' (fun (t : Int × Int × Bool) => t.1) mkl_len (fun _ hj => col_mkl (fun (t : Int × Int × Bool) => t.1) hj)) (rcs_int (col_snoc' (fun (t : Int × Int × Bool) => t.2.1) mkl_len (fun _ hj => col_mkl (fun (t : Int × Int × Bool) => t.2.1) hj)) (rcs_bool (col_snoc' (fun (t : Int × Int × Bool) => t.2.2) mkl_len (fun _ hj => col_mkl (fun (t : Int × Int × Bool) => t.2.2) hj)) rcs_nil))) (entl_bor (use_lo rfl) rfl rfl entl_nil))
    | exact ret_at hR _ h (fun n => bif Nat.beq n 2 then 399 else n) rfl rfl rfl (rn_tup ⟨(rn_agg ⟨(rn_int rfl), (rn_int rfl), (rn_own_nils rfl), (rn_int rfl), (rn_int rfl), (rn_bool_tf rfl), trivial⟩), (rn_int rfl), trivial⟩) rfl (entl_fresh (use_own rfl) (fresh_ok rfl) (entl_bor (use_lo rfl) rfl rfl entl_nil))
    | exact ret_at hR _ h (fun n => bif Nat.beq n 2 then 9 else n) rfl rfl rfl (rn_tup ⟨(rn_agg ⟨(rn_int rfl), (rn_int rfl), (rn_own (use_own rfl) rfl (snoc_len' mkl_len)), (rn_int rfl), (rn_int rfl), (rn_bool rfl), trivial⟩), (rn_int rfl), trivial⟩) rfl (entl_new (use_own rfl) rfl (Nat.le_of_eq (snoc_len' mkl_len)) (rcs_int (col_snoc' (fun (t : Int × Int × Bool) => t.1) mkl_len (fun _ hj => col_mkl (fun (t : Int × Int × Bool) => t.1) hj)) (rcs_int (col_snoc' (fun (t : Int × Int × Bool) => t.2.1) mkl_len (fun _ hj => col_mkl (fun (t : Int × Int × Bool) => t.2.1) hj)) (rcs_bool (col_snoc' (fun (t : Int × Int × Bool) => t.2.2) mkl_len (fun _ hj => col_mkl (fun (t : Int × Int × Bool) => t.2.2) hj)) rcs_nil))) (entl_bor (use_lo rfl) rfl rfl entl_nil))
theorem a12 (ca : Int) (af : Int) (al nl ml : Nat) (tl : Nat → Int) (vl : Nat → Int) (gl : Nat → Bool) (ov : Int) (re : Int) (fz : Bool) (st : Int) (sv : Int) (sg : Bool) {r : Rt12} (h : Goes ((q12 ca af al nl ml tl vl gl ov re fz st sv sg)) ((p12 ca af al nl ml tl vl gl ov re fz st sv sg)) r) : CallR Try.prog 12 [.agg [.int .i64 ca, .int .i64 af, .loose ⟨0, 3, al, 0⟩ nl, .int .i64 ov, .int .i64 re, .bool fz], .agg [.int .i64 st, .int .i64 sv, .bool sg]] [[(0, (false, .cols ml [.int .i64 tl, .int .i64 vl, .bool gl]))]] 1 ((V12 ca af al nl ml tl vl gl ov re fz st sv sg) r) ((fun r => [newL (1 + 1) ((N12 ca af al nl ml tl vl gl ov re fz st sv sg) r) ++ [(0, (false, .cols ml [.int .i64 tl, .int .i64 vl, .bool gl]))]]) r) 400 ∧ ∃ F, Try.prog.funcs[12]? = some F ∧ F.body.isSome = true ∧ (F.name == "runtime.NumGoroutine") = false := by
  refine dec_calls (f := 12) (lo := 1) (hi := 400) (H := [[(0, (false, .cols ml [.int .i64 tl, .int .i64 vl, .bool gl]))]]) (args := [.agg [.int .i64 ca, .int .i64 af, .loose ⟨0, 3, al, 0⟩ nl, .int .i64 ov, .int .i64 re, .bool fz], .agg [.int .i64 st, .int .i64 sv, .bool sg]]) Try.envOk Try.mixed xB_ok ((I12 ca af al nl ml tl vl gl ov re fz st sv sg)) ((V12 ca af al nl ml tl vl gl ov re fz st sv sg)) (fun r => [newL (1 + 1) ((N12 ca af al nl ml tl vl gl ov re fz st sv sg) r) ++ [(0, (false, .cols ml [.int .i64 tl, .int .i64 vl, .bool gl]))]]) (fn := mkFn Try.f12) (ts := []) (n := 400) rfl (by decide) (by simp) (names_of rfl) ?_ ?_ ?_ h
  · intro s; exact s.elim
  · intro Kst Kret x hS hR h
    exact Holds.eq (te12 cond Kst Kret ca af al nl ml tl vl gl ov re fz st sv sg) (be12 ca af al nl ml tl vl gl ov re fz st sv sg Kst Kret x hS hR h)
  · intro Kst Kret x hS hR s h; exact s.elim
noncomputable def k12 : Con := ⟨12, [.agg [.plain (.int .i64), .plain (.int .i64), .list [.int .i64, .int .i64, .bool], .plain (.int .i64), .plain (.int .i64), .plain (.bool)], .agg [.plain (.int .i64), .plain (.int .i64), .plain (.bool)]], fun (x : (Int × Int × (Nat × Nat × Nat × (Nat → Int) × (Nat → Int) × (Nat → Bool) × Unit) × Int × Int × Bool × Unit) × (Int × Int × Bool × Unit) × Unit) => (fun (ca : Int) (af : Int) (al nl ml : Nat) (tl : Nat → Int) (vl : Nat → Int) (gl : Nat → Bool) (ov : Int) (re : Int) (fz : Bool) (st : Int) (sv : Int) (sg : Bool) => decide (al + nl ≤ ml ∧ nl ≤ 1000000)) x.1.1 x.1.2.1 x.1.2.2.1.1 x.1.2.2.1.2.1 x.1.2.2.1.2.2.1 x.1.2.2.1.2.2.2.1 x.1.2.2.1.2.2.2.2.1 x.1.2.2.1.2.2.2.2.2.1 x.1.2.2.2.1 x.1.2.2.2.2.1 x.1.2.2.2.2.2.1 x.2.1.1 x.2.1.2.1 x.2.1.2.2.1, fun (x : (Int × Int × (Nat × Nat × Nat × (Nat → Int) × (Nat → Int) × (Nat → Bool) × Unit) × Int × Int × Bool × Unit) × (Int × Int × Bool × Unit) × Unit) => (fun (ca : Int) (af : Int) (al nl ml : Nat) (tl : Nat → Int) (vl : Nat → Int) (gl : Nat → Bool) (ov : Int) (re : Int) (fz : Bool) (st : Int) (sv : Int) (sg : Bool) => (V12 ca af al nl ml tl vl gl ov re fz st sv sg) (S.putS ca af nl (fun j => tl (j + al)) (fun j => vl (j + al)) (fun j => gl (j + al)) ov re fz st sv sg)) x.1.1 x.1.2.1 x.1.2.2.1.1 x.1.2.2.1.2.1 x.1.2.2.1.2.2.1 x.1.2.2.1.2.2.2.1 x.1.2.2.1.2.2.2.2.1 x.1.2.2.1.2.2.2.2.2.1 x.1.2.2.2.1 x.1.2.2.2.2.1 x.1.2.2.2.2.2.1 x.2.1.1 x.2.1.2.1 x.2.1.2.2.1, fun (x : (Int × Int × (Nat × Nat × Nat × (Nat → Int) × (Nat → Int) × (Nat → Bool) × Unit) × Int × Int × Bool × Unit) × (Int × Int × Bool × Unit) × Unit) => (fun (ca : Int) (af : Int) (al nl ml : Nat) (tl : Nat → Int) (vl : Nat → Int) (gl : Nat → Bool) (ov : Int) (re : Int) (fz : Bool) (st : Int) (sv : Int) (sg : Bool) => (N12 ca af al nl ml tl vl gl ov re fz st sv sg) (S.putS ca af nl (fun j => tl (j + al)) (fun j => vl (j + al)) (fun j => gl (j + al)) ov re fz st sv sg)) x.1.1 x.1.2.1 x.1.2.2.1.1 x.1.2.2.1.2.1 x.1.2.2.1.2.2.1 x.1.2.2.1.2.2.2.1 x.1.2.2.1.2.2.2.2.1 x.1.2.2.1.2.2.2.2.2.1 x.1.2.2.2.1 x.1.2.2.2.2.1 x.1.2.2.2.2.2.1 x.2.1.1 x.2.1.2.1 x.2.1.2.2.1, fun _ _ => .dead⟩
set_option maxHeartbeats 4000000 in
theorem s12 (ca : Int) (af : Int) (al nl ml : Nat) (tl : Nat → Int) (vl : Nat → Int) (gl : Nat → Bool) (ov : Int) (re : Int) (fz : Bool) (st : Int) (sv : Int) (sg : Bool) (hp : al + nl ≤ ml ∧ nl ≤ 1000000) : Goes ((q12 ca af al nl ml tl vl gl ov re fz st sv sg)) ((p12 ca af al nl ml tl vl gl ov re fz st sv sg)) (S.putS ca af nl (fun j => tl (j + al)) (fun j => vl (j + al)) (fun j => gl (j + al)) ov re fz st sv sg) := by
  obtain ⟨hp1, hp2⟩ := hp
  have hv : S.vB ca af nl (fun j => tl (j + al)) (fun j => vl (j + al)) ov re fz = 0 → _ := vB_ok
  generalize he : S.vB ca af nl (fun j => tl (j + al)) (fun j => vl (j + al)) ov re fz = e at hv
  by_cases h0 : e = 0
  · obtain ⟨v1, v2, v3, v4, v5, v6, v7, v8, v9, v10, v11, v12, -⟩ := hv h0
    subst h0
    cases fz <;> simp only [Bool.false_eq_true, true_imp_iff, false_imp_iff, imp_false, eq_self, reduceCtorEq, Bool.true_eq_false] at v10 v11 <;> (
    show Goes _ _ _
    unfold p12; rw [he]
    repeat' first
      | with_reducible refine goes_if (fun h => ?_) (fun h => ?_) <;> (try simp only [lim64, imp_false, decide_eq_true_eq, decide_eq_false_iff_not, Int.toNat_natCast, toNat_pred, toNat_succ, Option.getD_some, Option.getD_none, Bool.not_eq_true', Bool.not_eq_false', Bool.and_eq_true, Bool.or_eq_true, Bool.and_eq_false_iff, Bool.or_eq_false_iff, bne_iff_ne, beq_iff_eq, bne_eq_false_iff_eq, beq_eq_false_iff_ne, ne_eq, not_and, Int.not_le, Int.not_lt, ge_iff_le, gt_iff_lt, Nat.not_lt, Nat.not_le, Bool.not_eq_true, Bool.not_eq_false, Bool.true_eq_false, Bool.false_eq_true, not_false_eq_true, not_true_eq_false] at h)
      | exact goes_none.mpr (by omega)
    all_goals first | (exfalso; omega) | (refine goes_inr.mpr ?_; simp only [S.putS, S.putE, he, S.okS, decide_eq_true_eq, S.noB, Nat.add_assoc, Nat.zero_add, Nat.add_zero, toNat_pred]; (repeat' split) <;> first | rfl | omega | (exfalso; simp_all; done) | (exfalso; simp_all; omega)))
  · show Goes _ _ _
    unfold p12; rw [he]
    repeat' first
      | with_reducible refine goes_if (fun h => ?_) (fun h => ?_) <;> (try simp only [lim64, imp_false, decide_eq_true_eq, decide_eq_false_iff_not, Int.toNat_natCast, toNat_pred, toNat_succ, Option.getD_some, Option.getD_none, Bool.not_eq_true', Bool.not_eq_false', Bool.and_eq_true, Bool.or_eq_true, Bool.and_eq_false_iff, Bool.or_eq_false_iff, bne_iff_ne, beq_iff_eq, bne_eq_false_iff_eq, beq_eq_false_iff_ne, ne_eq, not_and, Int.not_le, Int.not_lt, ge_iff_le, gt_iff_lt, Nat.not_lt, Nat.not_le, Bool.not_eq_true, Bool.not_eq_false, Bool.true_eq_false, Bool.false_eq_true, not_false_eq_true, not_true_eq_false] at h)
      | exact goes_none.mpr (by omega)
    all_goals first | (exfalso; omega) | (refine goes_inr.mpr ?_; simp only [S.putS, S.putE, he, S.okS, decide_eq_true_eq, S.noB, Nat.add_assoc, Nat.zero_add, Nat.add_zero, toNat_pred]; (repeat' split) <;> first | rfl | omega | (exfalso; simp_all; done) | (exfalso; simp_all; omega))
theorem k12_ok : k12.ok Try.prog := by
  intro x hx
  obtain ⟨⟨ca, af, ⟨al, nl, ml, tl, vl, gl, _⟩, ov, re, fz, _⟩, ⟨st, sv, sg, _⟩, _⟩ := x
  obtain ⟨h1, h2⟩ := a12 ca af al nl ml tl vl gl ov re fz st sv sg (s12 ca af al nl ml tl vl gl ov re fz st sv sg (of_dec hx rfl))
  exact ⟨⟨400, (by decide : 1 + 1 + 1 ≤ 400), h1⟩, h2⟩
abbrev St23 := Empty
abbrev Rt23 := Int × Int × Int × Int × Bool × Int × List (Int × Int × Bool)
noncomputable def V23 (ca : Int) (af : Int) (al nl ml : Nat) (tl : Nat → Int) (vl : Nat → Int) (gl : Nat → Bool) (ov : Int) (re : Int) (fz : Bool) (t0 : Int) (r : Rt23) : PV := PV.tup
 [PV.agg
 [PV.int IntKind.i64 r.1, PV.int IntKind.i64 r.2.1,
 PV.own (2) (3) (List.length r.2.2.2.2.2.2), PV.int IntKind.i64 r.2.2.1,
 PV.int IntKind.i64 r.2.2.2.1, PV.bool r.2.2.2.2.1],
 PV.int IntKind.i64 r.2.2.2.2.2.1]
noncomputable def N23 (ca : Int) (af : Int) (al nl ml : Nat) (tl : Nat → Int) (vl : Nat → Int) (gl : Nat → Bool) (ov : Int) (re : Int) (fz : Bool) (t0 : Int) (r : Rt23) : List Blk := [Blk.cols (List.length r.2.2.2.2.2.2)
 [Col.int IntKind.i64 fun j => (S.at' r.2.2.2.2.2.2 j).1,
 Col.int IntKind.i64 fun j => (S.at' r.2.2.2.2.2.2 j).2.1,
 Col.bool fun j => (S.at' r.2.2.2.2.2.2 j).2.2]]
noncomputable def I23 (ca : Int) (af : Int) (al nl ml : Nat) (tl : Nat → Int) (vl : Nat → Int) (gl : Nat → Bool) (ov : Int) (re : Int) (fz : Bool) (t0 : Int) : St23 → Hd := fun s => s.elim
noncomputable def q23 (ca : Int) (af : Int) (al nl ml : Nat) (tl : Nat → Int) (vl : Nat → Int) (gl : Nat → Bool) (ov : Int) (re : Int) (fz : Bool) (t0 : Int) : St23 → Option (St23 ⊕ Rt23) := fun s => s.elim
noncomputable def p23 (ca : Int) (af : Int) (al nl ml : Nat) (tl : Nat → Int) (vl : Nat → Int) (gl : Nat → Bool) (ov : Int) (re : Int) (fz : Bool) (t0 : Int) : Option (St23 ⊕ Rt23) := bif (decide (al + nl ≤ ml ∧ nl ≤ 1000000))
 then (bif (S.vB ca af nl (fun j => tl (j + al)) (fun j => vl (j + al)) ov re fz != (0 : Int))
 then (some (.inr ((0 : Int), (0 : Int), (0 : Int), (0 : Int), false, S.vB ca af nl (fun j => tl (j + al)) (fun j => vl (j + al)) ov re fz, [])))
 else (bif (decide (t0 ≥ (0 : Int)))
 then (bif (decide (t0 ≤ (1099511627776 : Int)))
 then (bif (re == (-1 : Int))
 then (bif (af == (0 : Int))
 then (some (.inr (ca, af, ov, af, true, (0 : Int), S.mkl nl fun j => (tl (j + al), vl (j + al), gl (j + al)))))
 else (some (.inr (ca, af, ov, af, false, (0 : Int), S.mkl nl fun j => (tl (j + al), vl (j + al), gl (j + al))))))
 else (some (.inr (ca, af, ov, re, fz, (0 : Int), S.mkl nl fun j => (tl (j + al), vl (j + al), gl (j + al))))))
 else (some (.inr ((0 : Int), (0 : Int), (0 : Int), (0 : Int), false, (6 : Int), []))))
 else (some (.inr ((0 : Int), (0 : Int), (0 : Int), (0 : Int), false, (6 : Int), [])))))
 else (none)
noncomputable def Te23 (test : Bool → Prop → Prop → Prop) (Kst : KS) (Kret : KR) (ca : Int) (af : Int) (al nl ml : Nat) (tl : Nat → Int) (vl : Nat → Int) (gl : Nat → Bool) (ov : Int) (re : Int) (fz : Bool) (t0 : Int) : Prop :=
  test (decide (al + nl ≤ ml ∧ nl ≤ 1000000))
 (test (S.vB ca af nl (fun j => tl (j + al)) (fun j => vl (j + al)) ov re fz != (0 : Int))
 (Kret (PV.tup
 [PV.agg
 [PV.int IntKind.i64 (0 : Int), PV.int IntKind.i64 (0 : Int), PV.nils,
 PV.int IntKind.i64 (0 : Int), PV.int IntKind.i64 (0 : Int), PV.tf false],
 PV.int IntKind.i64
 (S.vB ca af nl (fun j => tl (j + al)) (fun j => vl (j + al)) ov re fz)]) ([[(0, false,
 Blk.cols ml [Col.int IntKind.i64 tl, Col.int IntKind.i64 vl, Col.bool gl])]]) (4))
 (test (decide (t0 ≥ (0 : Int)))
 (test (decide (t0 ≤ (1099511627776 : Int)))
 (test (decide (al + nl ≤ ml ∧ nl ≤ 1000000))
 (test (re == (-1 : Int))
 (test (af == (0 : Int))
 (Kret (PV.tup
 [PV.agg
 [PV.int IntKind.i64 ca, PV.int IntKind.i64 af, PV.own (7) (3) nl,
 PV.int IntKind.i64 ov, PV.int IntKind.i64 af, PV.tf true],
 PV.int IntKind.i64 (0 : Int)]) ([[(0, false,
 Blk.cols ml [Col.int IntKind.i64 tl, Col.int IntKind.i64 vl, Col.bool gl]),
 (7, true,
 Blk.cols nl
 [Col.int IntKind.i64 fun j => tl (j + al),
 Col.int IntKind.i64 fun j => vl (j + al), Col.bool fun j => gl (j + al)])]]) (9))
 (Kret (PV.tup
 [PV.agg
 [PV.int IntKind.i64 ca, PV.int IntKind.i64 af, PV.own (7) (3) nl,
 PV.int IntKind.i64 ov, PV.int IntKind.i64 af, PV.tf false],
 PV.int IntKind.i64 (0 : Int)]) ([[(0, false,
 Blk.cols ml [Col.int IntKind.i64 tl, Col.int IntKind.i64 vl, Col.bool gl]),
 (7, true,
 Blk.cols nl
 [Col.int IntKind.i64 fun j => tl (j + al),
 Col.int IntKind.i64 fun j => vl (j + al), Col.bool fun j => gl (j + al)])]]) (9)))
 (Kret (PV.tup
 [PV.agg
 [PV.int IntKind.i64 ca, PV.int IntKind.i64 af, PV.own (7) (3) nl,
 PV.int IntKind.i64 ov, PV.int IntKind.i64 re, PV.bool fz],
 PV.int IntKind.i64 (0 : Int)]) ([[(0, false,
 Blk.cols ml [Col.int IntKind.i64 tl, Col.int IntKind.i64 vl, Col.bool gl]),
 (7, true,
 Blk.cols nl
 [Col.int IntKind.i64 fun j => tl (j + al),
 Col.int IntKind.i64 fun j => vl (j + al), Col.bool fun j => gl (j + al)])]]) (9)))
 (False))
 (Kret (PV.tup
 [PV.agg
 [PV.int IntKind.i64 (0 : Int), PV.int IntKind.i64 (0 : Int), PV.nils,
 PV.int IntKind.i64 (0 : Int), PV.int IntKind.i64 (0 : Int), PV.tf false],
 PV.int IntKind.i64 (6 : Int)]) ([[(0, false,
 Blk.cols ml [Col.int IntKind.i64 tl, Col.int IntKind.i64 vl, Col.bool gl])]]) (4)))
 (Kret (PV.tup
 [PV.agg
 [PV.int IntKind.i64 (0 : Int), PV.int IntKind.i64 (0 : Int), PV.nils,
 PV.int IntKind.i64 (0 : Int), PV.int IntKind.i64 (0 : Int), PV.tf false],
 PV.int IntKind.i64 (6 : Int)]) ([[(0, false,
 Blk.cols ml [Col.int IntKind.i64 tl, Col.int IntKind.i64 vl, Col.bool gl])]]) (4))))
 (False)
theorem te23 (test : Bool → Prop → Prop → Prop) (Kst : KS) (Kret : KR) (ca : Int) (af : Int) (al nl ml : Nat) (tl : Nat → Int) (vl : Nat → Int) (gl : Nat → Bool) (ov : Int) (re : Int) (fz : Bool) (t0 : Int) : run test Try.env true (xB test) true 400 ⟨23, [.cd (mkFn Try.f23).body], argT 0 [.agg [.int .i64 ca, .int .i64 af, .loose ⟨0, 3, al, 0⟩ nl, .int .i64 ov, .int .i64 re, .bool fz], .int .i64 t0], [[], [(0, (false, .cols ml [.int .i64 tl, .int .i64 vl, .bool gl]))]], 1⟩ (proj 1 [] Kst Kret) =
  Te23 test Kst Kret ca af al nl ml tl vl gl ov re fz t0 := by kernel_rfl
theorem be23 (ca : Int) (af : Int) (al nl ml : Nat) (tl : Nat → Int) (vl : Nat → Int) (gl : Nat → Bool) (ov : Int) (re : Int) (fz : Bool) (t0 : Int) (Kst : KS) (Kret : KR) (x : St23 ⊕ Rt23) (hS : HS 1 400 ((I23 ca af al nl ml tl vl gl ov re fz t0)) Kst x) (hR : HR 1 400 ((V23 ca af al nl ml tl vl gl ov re fz t0)) (fun r => [newL (1 + 1) ((N23 ca af al nl ml tl vl gl ov re fz t0) r) ++ [(0, (false, .cols ml [.int .i64 tl, .int .i64 vl, .bool gl]))]]) Kret x) (h : p23 ca af al nl ml tl vl gl ov re fz t0 = some x) : Te23 cond Kst Kret ca af al nl ml tl vl gl ov re fz t0 := by
  unfold Te23
  unfold p23 at h
  refine bif_split h
   (fun c0 h => bif_split h
   (fun c1 h => ?_)
   (fun c1 h => bif_split h
   (fun c2 h => bif_split h
   (fun c3 h => cond_yes c0 (bif_split h
   (fun c4 h => bif_split h
   (fun c5 h => ?_)
   (fun c5 h => ?_))
   (fun c4 h => ret_at hR _ h (fun n => bif Nat.beq n 2 then 7 else n) rfl rfl rfl (rn_tup ⟨(rn_agg ⟨(rn_int rfl), (rn_int rfl), (rn_own (use_own rfl) rfl mkl_len), (rn_int rfl), (rn_int rfl), (rn_bool rfl), trivial⟩), (rn_int rfl), trivial⟩) rfl (entl_new (use_own rfl) rfl (Nat.le_of_eq mkl_len) (rcs_int (fun _ hj => col_mkl (fun (t : Int × Int × Bool) => t.1) hj) (rcs_int (fun _ hj => col_mkl (fun (t : Int × Int × Bool) => t.2.1) hj) (rcs_bool (fun _ hj => col_mkl (fun (t : Int × Int × Bool) => t.2.2) hj) rcs_nil))) (entl_bor (use_lo rfl) rfl rfl entl_nil)))))
   (fun c3 h => ?_))
   (fun c2 h => ?_)))
   (fun c0 h => no_some h)
  all_goals first
    | exact ret_at hR _ h (fun n => bif Nat.beq n 2 then 399 else n) rfl rfl rfl (rn_tup ⟨(rn_agg ⟨(rn_int rfl), (rn_int rfl), (rn_own_nils rfl), (rn_int rfl), (rn_int rfl), (rn_bool_tf rfl), trivial⟩), (rn_int rfl), trivial⟩) rfl (entl_fresh (use_own rfl) (fresh_ok rfl) (entl_bor (use_lo rfl) rfl rfl entl_nil))
    | exact ret_at hR _ h (fun n => bif Nat.beq n 2 then 7 else n) rfl rfl rfl (rn_tup ⟨(rn_agg ⟨(rn_int rfl), (rn_int rfl), (rn_own (use_own rfl) rfl mkl_len), (rn_int rfl), (rn_int rfl), (rn_bool_tf rfl), trivial⟩), (rn_int rfl), trivial⟩) rfl (entl_new (use_own rfl) rfl (Nat.le_of_eq mkl_len) (rcs_int (fun _ hj => col_mkl (fun (t : Int × Int × Bool) => t.1) hj) (rcs_int (fun _ hj => col_mkl (fun (t : Int × Int × Bool) => t.2.1) hj) (rcs_bool (fun _ hj => col_mkl (fun (t : Int × Int × Bool) => t.2.2) hj) rcs_nil))) (entl_bor (use_lo rfl) rfl rfl entl_nil))
theorem a23 (ca : Int) (af : Int) (al nl ml : Nat) (tl : Nat → Int) (vl : Nat → Int) (gl : Nat → Bool) (ov : Int) (re : Int) (fz : Bool) (t0 : Int) {r : Rt23} (h : Goes ((q23 ca af al nl ml tl vl gl ov re fz t0)) ((p23 ca af al nl ml tl vl gl ov re fz t0)) r) : CallR Try.prog 23 [.agg [.int .i64 ca, .int .i64 af, .loose ⟨0, 3, al, 0⟩ nl, .int .i64 ov, .int .i64 re, .bool fz], .int .i64 t0] [[(0, (false, .cols ml [.int .i64 tl, .int .i64 vl, .bool gl]))]] 1 ((V23 ca af al nl ml tl vl gl ov re fz t0) r) ((fun r => [newL (1 + 1) ((N23 ca af al nl ml tl vl gl ov re fz t0) r) ++ [(0, (false, .cols ml [.int .i64 tl, .int .i64 vl, .bool gl]))]]) r) 400 ∧ ∃ F, Try.prog.funcs[23]? = some F ∧ F.body.isSome = true ∧ (F.name == "runtime.NumGoroutine") = false := by
  refine dec_calls (f := 23) (lo := 1) (hi := 400) (H := [[(0, (false, .cols ml [.int .i64 tl, .int .i64 vl, .bool gl]))]]) (args := [.agg [.int .i64 ca, .int .i64 af, .loose ⟨0, 3, al, 0⟩ nl, .int .i64 ov, .int .i64 re, .bool fz], .int .i64 t0]) Try.envOk Try.mixed xB_ok ((I23 ca af al nl ml tl vl gl ov re fz t0)) ((V23 ca af al nl ml tl vl gl ov re fz t0)) (fun r => [newL (1 + 1) ((N23 ca af al nl ml tl vl gl ov re fz t0) r) ++ [(0, (false, .cols ml [.int .i64 tl, .int .i64 vl, .bool gl]))]]) (fn := mkFn Try.f23) (ts := []) (n := 400) rfl (by decide) (by simp) (names_of rfl) ?_ ?_ ?_ h
  · intro s; exact s.elim
  · intro Kst Kret x hS hR h
    exact Holds.eq (te23 cond Kst Kret ca af al nl ml tl vl gl ov re fz t0) (be23 ca af al nl ml tl vl gl ov re fz t0 Kst Kret x hS hR h)
  · intro Kst Kret x hS hR s h; exact s.elim
noncomputable def k23 : Con := ⟨23, [.agg [.plain (.int .i64), .plain (.int .i64), .list [.int .i64, .int .i64, .bool], .plain (.int .i64), .plain (.int .i64), .plain (.bool)], .one (.plain (.int .i64))], fun (x : (Int × Int × (Nat × Nat × Nat × (Nat → Int) × (Nat → Int) × (Nat → Bool) × Unit) × Int × Int × Bool × Unit) × Int × Unit) => (fun (ca : Int) (af : Int) (al nl ml : Nat) (tl : Nat → Int) (vl : Nat → Int) (gl : Nat → Bool) (ov : Int) (re : Int) (fz : Bool) (t0 : Int) => decide (al + nl ≤ ml ∧ nl ≤ 1000000)) x.1.1 x.1.2.1 x.1.2.2.1.1 x.1.2.2.1.2.1 x.1.2.2.1.2.2.1 x.1.2.2.1.2.2.2.1 x.1.2.2.1.2.2.2.2.1 x.1.2.2.1.2.2.2.2.2.1 x.1.2.2.2.1 x.1.2.2.2.2.1 x.1.2.2.2.2.2.1 x.2.1, fun (x : (Int × Int × (Nat × Nat × Nat × (Nat → Int) × (Nat → Int) × (Nat → Bool) × Unit) × Int × Int × Bool × Unit) × Int × Unit) => (fun (ca : Int) (af : Int) (al nl ml : Nat) (tl : Nat → Int) (vl : Nat → Int) (gl : Nat → Bool) (ov : Int) (re : Int) (fz : Bool) (t0 : Int) => (V23 ca af al nl ml tl vl gl ov re fz t0) (S.frzS ca af nl (fun j => tl (j + al)) (fun j => vl (j + al)) (fun j => gl (j + al)) ov re fz t0)) x.1.1 x.1.2.1 x.1.2.2.1.1 x.1.2.2.1.2.1 x.1.2.2.1.2.2.1 x.1.2.2.1.2.2.2.1 x.1.2.2.1.2.2.2.2.1 x.1.2.2.1.2.2.2.2.2.1 x.1.2.2.2.1 x.1.2.2.2.2.1 x.1.2.2.2.2.2.1 x.2.1, fun (x : (Int × Int × (Nat × Nat × Nat × (Nat → Int) × (Nat → Int) × (Nat → Bool) × Unit) × Int × Int × Bool × Unit) × Int × Unit) => (fun (ca : Int) (af : Int) (al nl ml : Nat) (tl : Nat → Int) (vl : Nat → Int) (gl : Nat → Bool) (ov : Int) (re : Int) (fz : Bool) (t0 : Int) => (N23 ca af al nl ml tl vl gl ov re fz t0) (S.frzS ca af nl (fun j => tl (j + al)) (fun j => vl (j + al)) (fun j => gl (j + al)) ov re fz t0)) x.1.1 x.1.2.1 x.1.2.2.1.1 x.1.2.2.1.2.1 x.1.2.2.1.2.2.1 x.1.2.2.1.2.2.2.1 x.1.2.2.1.2.2.2.2.1 x.1.2.2.1.2.2.2.2.2.1 x.1.2.2.2.1 x.1.2.2.2.2.1 x.1.2.2.2.2.2.1 x.2.1, fun _ _ => .dead⟩
theorem s23 (ca : Int) (af : Int) (al nl ml : Nat) (tl : Nat → Int) (vl : Nat → Int) (gl : Nat → Bool) (ov : Int) (re : Int) (fz : Bool) (t0 : Int) (hp : al + nl ≤ ml ∧ nl ≤ 1000000) : Goes ((q23 ca af al nl ml tl vl gl ov re fz t0)) ((p23 ca af al nl ml tl vl gl ov re fz t0)) (S.frzS ca af nl (fun j => tl (j + al)) (fun j => vl (j + al)) (fun j => gl (j + al)) ov re fz t0) := by
  obtain ⟨hp1, hp2⟩ := hp
  have hv : S.vB ca af nl (fun j => tl (j + al)) (fun j => vl (j + al)) ov re fz = 0 → _ := vB_ok
  generalize he : S.vB ca af nl (fun j => tl (j + al)) (fun j => vl (j + al)) ov re fz = e at hv
  by_cases h0 : e = 0
  · obtain ⟨v1, v2, v3, v4, v5, v6, v7, v8, v9, v10, v11, v12, -⟩ := hv h0
    subst h0
    cases fz <;> simp only [Bool.false_eq_true, true_imp_iff, false_imp_iff, imp_false, eq_self, reduceCtorEq, Bool.true_eq_false] at v10 v11 <;> (
    show Goes _ _ _
    unfold p23; rw [he]
    repeat' first
      | with_reducible refine goes_if (fun h => ?_) (fun h => ?_) <;> (try simp only [lim64, imp_false, decide_eq_true_eq, decide_eq_false_iff_not, Int.toNat_natCast, toNat_pred, toNat_succ, Option.getD_some, Option.getD_none, Bool.not_eq_true', Bool.not_eq_false', Bool.and_eq_true, Bool.or_eq_true, Bool.and_eq_false_iff, Bool.or_eq_false_iff, bne_iff_ne, beq_iff_eq, bne_eq_false_iff_eq, beq_eq_false_iff_ne, ne_eq, not_and, Int.not_le, Int.not_lt, ge_iff_le, gt_iff_lt, Nat.not_lt, Nat.not_le, Bool.not_eq_true, Bool.not_eq_false, Bool.true_eq_false, Bool.false_eq_true, not_false_eq_true, not_true_eq_false] at h)
      | exact goes_none.mpr (by omega)
    all_goals first | (exfalso; omega) | (refine goes_inr.mpr ?_; (try simp only [S.frzS, he, S.okS, decide_eq_true_eq, S.noB, Nat.add_assoc, Nat.zero_add, Nat.add_zero, toNat_pred]); (repeat' split) <;> first | rfl | omega | (exfalso; simp_all; done) | (exfalso; simp_all; omega)))
  · show Goes _ _ _
    unfold p23; rw [he]
    repeat' first
      | with_reducible refine goes_if (fun h => ?_) (fun h => ?_) <;> (try simp only [lim64, imp_false, decide_eq_true_eq, decide_eq_false_iff_not, Int.toNat_natCast, toNat_pred, toNat_succ, Option.getD_some, Option.getD_none, Bool.not_eq_true', Bool.not_eq_false', Bool.and_eq_true, Bool.or_eq_true, Bool.and_eq_false_iff, Bool.or_eq_false_iff, bne_iff_ne, beq_iff_eq, bne_eq_false_iff_eq, beq_eq_false_iff_ne, ne_eq, not_and, Int.not_le, Int.not_lt, ge_iff_le, gt_iff_lt, Nat.not_lt, Nat.not_le, Bool.not_eq_true, Bool.not_eq_false, Bool.true_eq_false, Bool.false_eq_true, not_false_eq_true, not_true_eq_false] at h)
      | exact goes_none.mpr (by omega)
    all_goals first | (exfalso; omega) | (refine goes_inr.mpr ?_; (try simp only [S.frzS, he, S.okS, decide_eq_true_eq, S.noB, Nat.add_assoc, Nat.zero_add, Nat.add_zero, toNat_pred]); (repeat' split) <;> first | rfl | omega | (exfalso; simp_all; done) | (exfalso; simp_all; omega))
theorem k23_ok : k23.ok Try.prog := by
  intro x hx
  obtain ⟨⟨ca, af, ⟨al, nl, ml, tl, vl, gl, _⟩, ov, re, fz, _⟩, t0, _⟩ := x
  obtain ⟨h1, h2⟩ := a23 ca af al nl ml tl vl gl ov re fz t0 (s23 ca af al nl ml tl vl gl ov re fz t0 (of_dec hx rfl))
  exact ⟨⟨400, (by decide : 1 + 1 + 1 ≤ 400), h1⟩, h2⟩
abbrev St15 := Empty
abbrev Rt15 := Int × Int × List (Int × Int × Bool)
noncomputable def V15 (ca : Int) (af : Int) (al nl ml : Nat) (tl : Nat → Int) (vl : Nat → Int) (gl : Nat → Bool) (ov : Int) (re : Int) (fz : Bool) (r : Rt15) : PV := PV.tup
 [PV.own (2) (3) (List.length r.2.2), PV.int IntKind.i64 r.1,
 PV.int IntKind.i64 r.2.1]
noncomputable def N15 (ca : Int) (af : Int) (al nl ml : Nat) (tl : Nat → Int) (vl : Nat → Int) (gl : Nat → Bool) (ov : Int) (re : Int) (fz : Bool) (r : Rt15) : List Blk := [Blk.cols (List.length r.2.2)
 [Col.int IntKind.i64 fun j => (S.at' r.2.2 j).1,
 Col.int IntKind.i64 fun j => (S.at' r.2.2 j).2.1,
 Col.bool fun j => (S.at' r.2.2 j).2.2]]
noncomputable def I15 (ca : Int) (af : Int) (al nl ml : Nat) (tl : Nat → Int) (vl : Nat → Int) (gl : Nat → Bool) (ov : Int) (re : Int) (fz : Bool) : St15 → Hd := fun s => s.elim
noncomputable def q15 (ca : Int) (af : Int) (al nl ml : Nat) (tl : Nat → Int) (vl : Nat → Int) (gl : Nat → Bool) (ov : Int) (re : Int) (fz : Bool) : St15 → Option (St15 ⊕ Rt15) := fun s => s.elim
noncomputable def p15 (ca : Int) (af : Int) (al nl ml : Nat) (tl : Nat → Int) (vl : Nat → Int) (gl : Nat → Bool) (ov : Int) (re : Int) (fz : Bool) : Option (St15 ⊕ Rt15) := bif (decide (al + nl ≤ ml ∧ nl ≤ 1000000))
 then (bif (S.vB ca af nl (fun j => tl (j + al)) (fun j => vl (j + al)) ov re fz != (0 : Int))
 then (some (.inr ((0 : Int), S.vB ca af nl (fun j => tl (j + al)) (fun j => vl (j + al)) ov re fz, [])))
 else (some (.inr (ov, (0 : Int), S.mkl nl fun j => (tl (j + al), vl (j + al), gl (j + al))))))
 else (none)
noncomputable def Te15 (test : Bool → Prop → Prop → Prop) (Kst : KS) (Kret : KR) (ca : Int) (af : Int) (al nl ml : Nat) (tl : Nat → Int) (vl : Nat → Int) (gl : Nat → Bool) (ov : Int) (re : Int) (fz : Bool) : Prop :=
  test (decide (al + nl ≤ ml ∧ nl ≤ 1000000))
 (test (S.vB ca af nl (fun j => tl (j + al)) (fun j => vl (j + al)) ov re fz != (0 : Int))
 (Kret (PV.tup
 [PV.nils, PV.int IntKind.i64 (0 : Int),
 PV.int IntKind.i64
 (S.vB ca af nl (fun j => tl (j + al)) (fun j => vl (j + al)) ov re fz)]) ([[(0, false,
 Blk.cols ml [Col.int IntKind.i64 tl, Col.int IntKind.i64 vl, Col.bool gl])]]) (3))
 (test (decide (al + nl ≤ ml ∧ nl ≤ 1000000))
 (Kret (PV.tup
 [PV.own (4) (3) nl, PV.int IntKind.i64 ov, PV.int IntKind.i64 (0 : Int)]) ([[(0, false,
 Blk.cols ml [Col.int IntKind.i64 tl, Col.int IntKind.i64 vl, Col.bool gl]),
 (4, true,
 Blk.cols nl
 [Col.int IntKind.i64 fun j => tl (j + al),
 Col.int IntKind.i64 fun j => vl (j + al), Col.bool fun j => gl (j + al)])]]) (5))
 (False)))
 (False)
theorem te15 (test : Bool → Prop → Prop → Prop) (Kst : KS) (Kret : KR) (ca : Int) (af : Int) (al nl ml : Nat) (tl : Nat → Int) (vl : Nat → Int) (gl : Nat → Bool) (ov : Int) (re : Int) (fz : Bool) : run test Try.env true (xB test) true 400 ⟨15, [.cd (mkFn Try.f15).body], argT 0 [.agg [.int .i64 ca, .int .i64 af, .loose ⟨0, 3, al, 0⟩ nl, .int .i64 ov, .int .i64 re, .bool fz]], [[], [(0, (false, .cols ml [.int .i64 tl, .int .i64 vl, .bool gl]))]], 1⟩ (proj 1 [] Kst Kret) =
  Te15 test Kst Kret ca af al nl ml tl vl gl ov re fz := by kernel_rfl
theorem be15 (ca : Int) (af : Int) (al nl ml : Nat) (tl : Nat → Int) (vl : Nat → Int) (gl : Nat → Bool) (ov : Int) (re : Int) (fz : Bool) (Kst : KS) (Kret : KR) (x : St15 ⊕ Rt15) (hS : HS 1 400 ((I15 ca af al nl ml tl vl gl ov re fz)) Kst x) (hR : HR 1 400 ((V15 ca af al nl ml tl vl gl ov re fz)) (fun r => [newL (1 + 1) ((N15 ca af al nl ml tl vl gl ov re fz) r) ++ [(0, (false, .cols ml [.int .i64 tl, .int .i64 vl, .bool gl]))]]) Kret x) (h : p15 ca af al nl ml tl vl gl ov re fz = some x) : Te15 cond Kst Kret ca af al nl ml tl vl gl ov re fz := by
  unfold Te15
  unfold p15 at h
  refine bif_split h
   (fun c0 h => bif_split h
   (fun c1 h => ret_at hR _ h (fun n => bif Nat.beq n 2 then 399 else n) rfl rfl rfl (rn_tup ⟨(rn_own_nils rfl), (rn_int rfl), (rn_int rfl), trivial⟩) rfl (entl_fresh (use_own rfl) (fresh_ok rfl) (entl_bor (use_lo rfl) rfl rfl entl_nil)))
   (fun c1 h => cond_yes c0 (ret_at hR _ h (fun n => bif Nat.beq n 2 then 4 else n) rfl rfl rfl (rn_tup ⟨(rn_own (use_own rfl) rfl mkl_len), (rn_int rfl), (rn_int rfl), trivial⟩) rfl (entl_new (use_own rfl) rfl (Nat.le_of_eq mkl_len) (rcs_int (fun _ hj => col_mkl (fun (t : Int × Int × Bool) => t.1) hj) (rcs_int (fun _ hj => col_mkl (fun (t : Int × Int × Bool) => t.2.1) hj) (rcs_bool (fun _ hj => col_mkl (fun (t : Int × Int × Bool) => t.2.2) hj) rcs_nil))) (entl_bor (use_lo rfl) rfl rfl entl_nil)))))
   (fun c0 h => no_some h)
theorem a15 (ca : Int) (af : Int) (al nl ml : Nat) (tl : Nat → Int) (vl : Nat → Int) (gl : Nat → Bool) (ov : Int) (re : Int) (fz : Bool) {r : Rt15} (h : Goes ((q15 ca af al nl ml tl vl gl ov re fz)) ((p15 ca af al nl ml tl vl gl ov re fz)) r) : CallR Try.prog 15 [.agg [.int .i64 ca, .int .i64 af, .loose ⟨0, 3, al, 0⟩ nl, .int .i64 ov, .int .i64 re, .bool fz]] [[(0, (false, .cols ml [.int .i64 tl, .int .i64 vl, .bool gl]))]] 1 ((V15 ca af al nl ml tl vl gl ov re fz) r) ((fun r => [newL (1 + 1) ((N15 ca af al nl ml tl vl gl ov re fz) r) ++ [(0, (false, .cols ml [.int .i64 tl, .int .i64 vl, .bool gl]))]]) r) 400 ∧ ∃ F, Try.prog.funcs[15]? = some F ∧ F.body.isSome = true ∧ (F.name == "runtime.NumGoroutine") = false := by
  refine dec_calls (f := 15) (lo := 1) (hi := 400) (H := [[(0, (false, .cols ml [.int .i64 tl, .int .i64 vl, .bool gl]))]]) (args := [.agg [.int .i64 ca, .int .i64 af, .loose ⟨0, 3, al, 0⟩ nl, .int .i64 ov, .int .i64 re, .bool fz]]) Try.envOk Try.mixed xB_ok ((I15 ca af al nl ml tl vl gl ov re fz)) ((V15 ca af al nl ml tl vl gl ov re fz)) (fun r => [newL (1 + 1) ((N15 ca af al nl ml tl vl gl ov re fz) r) ++ [(0, (false, .cols ml [.int .i64 tl, .int .i64 vl, .bool gl]))]]) (fn := mkFn Try.f15) (ts := []) (n := 400) rfl (by decide) (by simp) (names_of rfl) ?_ ?_ ?_ h
  · intro s; exact s.elim
  · intro Kst Kret x hS hR h
    exact Holds.eq (te15 cond Kst Kret ca af al nl ml tl vl gl ov re fz) (be15 ca af al nl ml tl vl gl ov re fz Kst Kret x hS hR h)
  · intro Kst Kret x hS hR s h; exact s.elim
noncomputable def k15 : Con := ⟨15, [.agg [.plain (.int .i64), .plain (.int .i64), .list [.int .i64, .int .i64, .bool], .plain (.int .i64), .plain (.int .i64), .plain (.bool)]], fun (x : (Int × Int × (Nat × Nat × Nat × (Nat → Int) × (Nat → Int) × (Nat → Bool) × Unit) × Int × Int × Bool × Unit) × Unit) => (fun (ca : Int) (af : Int) (al nl ml : Nat) (tl : Nat → Int) (vl : Nat → Int) (gl : Nat → Bool) (ov : Int) (re : Int) (fz : Bool) => decide (al + nl ≤ ml ∧ nl ≤ 1000000)) x.1.1 x.1.2.1 x.1.2.2.1.1 x.1.2.2.1.2.1 x.1.2.2.1.2.2.1 x.1.2.2.1.2.2.2.1 x.1.2.2.1.2.2.2.2.1 x.1.2.2.1.2.2.2.2.2.1 x.1.2.2.2.1 x.1.2.2.2.2.1 x.1.2.2.2.2.2.1, fun (x : (Int × Int × (Nat × Nat × Nat × (Nat → Int) × (Nat → Int) × (Nat → Bool) × Unit) × Int × Int × Bool × Unit) × Unit) => (fun (ca : Int) (af : Int) (al nl ml : Nat) (tl : Nat → Int) (vl : Nat → Int) (gl : Nat → Bool) (ov : Int) (re : Int) (fz : Bool) => (V15 ca af al nl ml tl vl gl ov re fz) (if S.vB ca af nl (fun j => tl (j + al)) (fun j => vl (j + al)) ov re fz = 0 then (ov, 0, (S.mkl nl fun j => (tl (j + al), vl (j + al), gl (j + al)))) else (0, S.vB ca af nl (fun j => tl (j + al)) (fun j => vl (j + al)) ov re fz, []))) x.1.1 x.1.2.1 x.1.2.2.1.1 x.1.2.2.1.2.1 x.1.2.2.1.2.2.1 x.1.2.2.1.2.2.2.1 x.1.2.2.1.2.2.2.2.1 x.1.2.2.1.2.2.2.2.2.1 x.1.2.2.2.1 x.1.2.2.2.2.1 x.1.2.2.2.2.2.1, fun (x : (Int × Int × (Nat × Nat × Nat × (Nat → Int) × (Nat → Int) × (Nat → Bool) × Unit) × Int × Int × Bool × Unit) × Unit) => (fun (ca : Int) (af : Int) (al nl ml : Nat) (tl : Nat → Int) (vl : Nat → Int) (gl : Nat → Bool) (ov : Int) (re : Int) (fz : Bool) => (N15 ca af al nl ml tl vl gl ov re fz) (if S.vB ca af nl (fun j => tl (j + al)) (fun j => vl (j + al)) ov re fz = 0 then (ov, 0, (S.mkl nl fun j => (tl (j + al), vl (j + al), gl (j + al)))) else (0, S.vB ca af nl (fun j => tl (j + al)) (fun j => vl (j + al)) ov re fz, []))) x.1.1 x.1.2.1 x.1.2.2.1.1 x.1.2.2.1.2.1 x.1.2.2.1.2.2.1 x.1.2.2.1.2.2.2.1 x.1.2.2.1.2.2.2.2.1 x.1.2.2.1.2.2.2.2.2.1 x.1.2.2.2.1 x.1.2.2.2.2.1 x.1.2.2.2.2.2.1, fun _ _ => .dead⟩
theorem s15 (ca : Int) (af : Int) (al nl ml : Nat) (tl : Nat → Int) (vl : Nat → Int) (gl : Nat → Bool) (ov : Int) (re : Int) (fz : Bool) (hp : al + nl ≤ ml ∧ nl ≤ 1000000) : Goes ((q15 ca af al nl ml tl vl gl ov re fz)) ((p15 ca af al nl ml tl vl gl ov re fz)) (if S.vB ca af nl (fun j => tl (j + al)) (fun j => vl (j + al)) ov re fz = 0 then (ov, 0, (S.mkl nl fun j => (tl (j + al), vl (j + al), gl (j + al)))) else (0, S.vB ca af nl (fun j => tl (j + al)) (fun j => vl (j + al)) ov re fz, [])) := by
  obtain ⟨hp1, hp2⟩ := hp
  have hv : S.vB ca af nl (fun j => tl (j + al)) (fun j => vl (j + al)) ov re fz = 0 → _ := vB_ok
  generalize he : S.vB ca af nl (fun j => tl (j + al)) (fun j => vl (j + al)) ov re fz = e at hv
  by_cases h0 : e = 0
  · obtain ⟨v1, v2, v3, v4, v5, v6, v7, v8, v9, v10, v11, v12, -⟩ := hv h0
    subst h0
    cases fz <;> simp only [Bool.false_eq_true, true_imp_iff, false_imp_iff, imp_false, eq_self, reduceCtorEq, Bool.true_eq_false] at v10 v11 <;> (
    show Goes _ _ _
    unfold p15; rw [he]
    repeat' first
      | with_reducible refine goes_if (fun h => ?_) (fun h => ?_) <;> (try simp only [lim64, imp_false, decide_eq_true_eq, decide_eq_false_iff_not, Int.toNat_natCast, toNat_pred, toNat_succ, Option.getD_some, Option.getD_none, Bool.not_eq_true', Bool.not_eq_false', Bool.and_eq_true, Bool.or_eq_true, Bool.and_eq_false_iff, Bool.or_eq_false_iff, bne_iff_ne, beq_iff_eq, bne_eq_false_iff_eq, beq_eq_false_iff_ne, ne_eq, not_and, Int.not_le, Int.not_lt, ge_iff_le, gt_iff_lt, Nat.not_lt, Nat.not_le, Bool.not_eq_true, Bool.not_eq_false, Bool.true_eq_false, Bool.false_eq_true, not_false_eq_true, not_true_eq_false] at h)
      | exact goes_none.mpr (by omega)
    all_goals first | (exfalso; omega) | (refine goes_inr.mpr ?_; (try simp only [S.vB, he, S.okS, decide_eq_true_eq, S.noB, Nat.add_assoc, Nat.zero_add, Nat.add_zero, toNat_pred]); (repeat' split) <;> first | rfl | omega | (exfalso; simp_all; done) | (exfalso; simp_all; omega)))
  · show Goes _ _ _
    unfold p15; rw [he]
    repeat' first
      | with_reducible refine goes_if (fun h => ?_) (fun h => ?_) <;> (try simp only [lim64, imp_false, decide_eq_true_eq, decide_eq_false_iff_not, Int.toNat_natCast, toNat_pred, toNat_succ, Option.getD_some, Option.getD_none, Bool.not_eq_true', Bool.not_eq_false', Bool.and_eq_true, Bool.or_eq_true, Bool.and_eq_false_iff, Bool.or_eq_false_iff, bne_iff_ne, beq_iff_eq, bne_eq_false_iff_eq, beq_eq_false_iff_ne, ne_eq, not_and, Int.not_le, Int.not_lt, ge_iff_le, gt_iff_lt, Nat.not_lt, Nat.not_le, Bool.not_eq_true, Bool.not_eq_false, Bool.true_eq_false, Bool.false_eq_true, not_false_eq_true, not_true_eq_false] at h)
      | exact goes_none.mpr (by omega)
    all_goals first | (exfalso; omega) | (refine goes_inr.mpr ?_; (try simp only [S.vB, he, S.okS, decide_eq_true_eq, S.noB, Nat.add_assoc, Nat.zero_add, Nat.add_zero, toNat_pred]); (repeat' split) <;> first | rfl | omega | (exfalso; simp_all; done) | (exfalso; simp_all; omega))
theorem k15_ok : k15.ok Try.prog := by
  intro x hx
  obtain ⟨⟨ca, af, ⟨al, nl, ml, tl, vl, gl, _⟩, ov, re, fz, _⟩, _⟩ := x
  obtain ⟨h1, h2⟩ := a15 ca af al nl ml tl vl gl ov re fz (s15 ca af al nl ml tl vl gl ov re fz (of_dec hx rfl))
  exact ⟨⟨400, (by decide : 1 + 1 + 1 ≤ 400), h1⟩, h2⟩
abbrev St17 := Empty
abbrev Rt17 := Int × Int × Int × Int
noncomputable def V17 (ca : Int) (af : Int) (r : Rt17) : PV := PV.tup
 [PV.agg
 [PV.int IntKind.i64 r.1, PV.int IntKind.i64 r.2.1, PV.nils,
 PV.int IntKind.i64 (0 : Int), PV.int IntKind.i64 r.2.2.1, PV.tf false],
 PV.int IntKind.i64 r.2.2.2]
noncomputable def N17 (ca : Int) (af : Int) (r : Rt17) : List Blk := []
noncomputable def I17 (ca : Int) (af : Int) : St17 → Hd := fun s => s.elim
noncomputable def q17 (ca : Int) (af : Int) : St17 → Option (St17 ⊕ Rt17) := fun s => s.elim
noncomputable def p17 (ca : Int) (af : Int) : Option (St17 ⊕ Rt17) := bif (decide (ca ≥ (1 : Int)))
 then (bif (decide (ca ≤ (200 : Int)))
 then (bif (decide (af ≥ (0 : Int)))
 then (bif (decide (af ≤ (200 : Int)))
 then (some (.inr (ca, af, (-1 : Int), (0 : Int))))
 else (some (.inr ((0 : Int), (0 : Int), (0 : Int), (6 : Int)))))
 else (some (.inr ((0 : Int), (0 : Int), (0 : Int), (6 : Int)))))
 else (some (.inr ((0 : Int), (0 : Int), (0 : Int), (6 : Int)))))
 else (some (.inr ((0 : Int), (0 : Int), (0 : Int), (6 : Int))))
noncomputable def Te17 (test : Bool → Prop → Prop → Prop) (Kst : KS) (Kret : KR) (ca : Int) (af : Int) : Prop :=
  test (decide (ca ≥ (1 : Int)))
 (test (decide (ca ≤ (200 : Int)))
 (test (decide (af ≥ (0 : Int)))
 (test (decide (af ≤ (200 : Int)))
 (Kret (PV.tup
 [PV.agg
 [PV.int IntKind.i64 ca, PV.int IntKind.i64 af, PV.nils,
 PV.int IntKind.i64 (0 : Int), PV.int IntKind.i64 (-1 : Int), PV.tf false],
 PV.int IntKind.i64 (0 : Int)]) ([[]]) (2))
 (Kret (PV.tup
 [PV.agg
 [PV.int IntKind.i64 (0 : Int), PV.int IntKind.i64 (0 : Int), PV.nils,
 PV.int IntKind.i64 (0 : Int), PV.int IntKind.i64 (0 : Int), PV.tf false],
 PV.int IntKind.i64 (6 : Int)]) ([[]]) (1)))
 (Kret (PV.tup
 [PV.agg
 [PV.int IntKind.i64 (0 : Int), PV.int IntKind.i64 (0 : Int), PV.nils,
 PV.int IntKind.i64 (0 : Int), PV.int IntKind.i64 (0 : Int), PV.tf false],
 PV.int IntKind.i64 (6 : Int)]) ([[]]) (1)))
 (Kret (PV.tup
 [PV.agg
 [PV.int IntKind.i64 (0 : Int), PV.int IntKind.i64 (0 : Int), PV.nils,
 PV.int IntKind.i64 (0 : Int), PV.int IntKind.i64 (0 : Int), PV.tf false],
 PV.int IntKind.i64 (6 : Int)]) ([[]]) (1)))
 (Kret (PV.tup
 [PV.agg
 [PV.int IntKind.i64 (0 : Int), PV.int IntKind.i64 (0 : Int), PV.nils,
 PV.int IntKind.i64 (0 : Int), PV.int IntKind.i64 (0 : Int), PV.tf false],
 PV.int IntKind.i64 (6 : Int)]) ([[]]) (1))
theorem te17 (test : Bool → Prop → Prop → Prop) (Kst : KS) (Kret : KR) (ca : Int) (af : Int) : run test Try.env true (xB test) true 400 ⟨17, [.cd (mkFn Try.f17).body], argT 0 [.int .i64 ca, .int .i64 af], [[], []], 0⟩ (proj 0 [] Kst Kret) =
  Te17 test Kst Kret ca af := by kernel_rfl
theorem be17 (ca : Int) (af : Int) (Kst : KS) (Kret : KR) (x : St17 ⊕ Rt17) (hS : HS 0 400 ((I17 ca af)) Kst x) (hR : HR 0 400 ((V17 ca af)) (fun r => [newL (0 + 1) ((N17 ca af) r) ++ []]) Kret x) (h : p17 ca af = some x) : Te17 cond Kst Kret ca af := by
  unfold Te17
  unfold p17 at h
  refine bif_split h
   (fun c0 h => bif_split h
   (fun c1 h => bif_split h
   (fun c2 h => bif_split h
   (fun c3 h => ?_)
   (fun c3 h => ?_))
   (fun c2 h => ?_))
   (fun c1 h => ?_))
   (fun c0 h => ?_)
  all_goals first
    | exact ret_at hR _ h (fun n => n) rfl rfl rfl (rn_tup ⟨(rn_agg ⟨(rn_int rfl), (rn_int rfl), rn_nils, (rn_int rfl), (rn_int rfl), (rn_tf rfl), trivial⟩), (rn_int rfl), trivial⟩) rfl entl_nil
theorem a17 (ca : Int) (af : Int) {r : Rt17} (h : Goes ((q17 ca af)) ((p17 ca af)) r) : CallR Try.prog 17 [.int .i64 ca, .int .i64 af] [[]] 0 ((V17 ca af) r) ((fun r => [newL (0 + 1) ((N17 ca af) r) ++ []]) r) 400 ∧ ∃ F, Try.prog.funcs[17]? = some F ∧ F.body.isSome = true ∧ (F.name == "runtime.NumGoroutine") = false := by
  refine dec_calls (f := 17) (lo := 0) (hi := 400) (H := [[]]) (args := [.int .i64 ca, .int .i64 af]) Try.envOk Try.mixed xB_ok ((I17 ca af)) ((V17 ca af)) (fun r => [newL (0 + 1) ((N17 ca af) r) ++ []]) (fn := mkFn Try.f17) (ts := []) (n := 400) rfl (by decide) (by simp) (names_of rfl) ?_ ?_ ?_ h
  · intro s; exact s.elim
  · intro Kst Kret x hS hR h
    exact Holds.eq (te17 cond Kst Kret ca af) (be17 ca af Kst Kret x hS hR h)
  · intro Kst Kret x hS hR s h; exact s.elim
noncomputable def k17 : Con := ⟨17, [.one (.plain (.int .i64)), .one (.plain (.int .i64))], fun (x : Int × Int × Unit) => (fun (ca : Int) (af : Int) => decide (True)) x.1 x.2.1, fun (x : Int × Int × Unit) => (fun (ca : Int) (af : Int) => (V17 ca af) (S.newS ca af)) x.1 x.2.1, fun (x : Int × Int × Unit) => (fun (ca : Int) (af : Int) => (N17 ca af) (S.newS ca af)) x.1 x.2.1, fun _ _ => .dead⟩
theorem s17 (ca : Int) (af : Int) (hp : True) : Goes ((q17 ca af)) ((p17 ca af)) (S.newS ca af) := by
  show Goes _ _ _
  unfold p17
  repeat' first
    | with_reducible refine goes_if (fun h => ?_) (fun h => ?_) <;> (try simp only [lim64, imp_false, decide_eq_true_eq, decide_eq_false_iff_not, Int.toNat_natCast, toNat_pred, toNat_succ, Option.getD_some, Option.getD_none, Bool.not_eq_true', Bool.not_eq_false', Bool.and_eq_true, Bool.or_eq_true, Bool.and_eq_false_iff, Bool.or_eq_false_iff, bne_iff_ne, beq_iff_eq, bne_eq_false_iff_eq, beq_eq_false_iff_ne, ne_eq, not_and, Int.not_le, Int.not_lt, ge_iff_le, gt_iff_lt, Nat.not_lt, Nat.not_le, Bool.not_eq_true, Bool.not_eq_false, Bool.true_eq_false, Bool.false_eq_true, not_false_eq_true, not_true_eq_false] at h)
    | exact goes_none.mpr (by omega)
  all_goals first | (exfalso; omega) | (refine goes_inr.mpr ?_; simp only [S.newS]; (repeat' split) <;> first | rfl | omega)
theorem k17_ok : k17.ok Try.prog := by
  intro x hx
  obtain ⟨ca, af, _⟩ := x
  obtain ⟨h1, h2⟩ := a17 ca af (s17 ca af (of_dec hx rfl))
  exact ⟨⟨400, (by decide : 0 + 1 + 0 ≤ 400), h1⟩, h2⟩
abbrev St47 := Empty
abbrev Rt47 := List (Int × Int × Bool)
noncomputable def V47 (ca : Int) (af : Int) (al nl ml : Nat) (tl : Nat → Int) (vl : Nat → Int) (gl : Nat → Bool) (ov : Int) (re : Int) (fz : Bool) (r : Rt47) : PV := PV.agg
 [PV.int IntKind.i64 ca, PV.int IntKind.i64 af,
 PV.own (2) (3) (List.length r), PV.int IntKind.i64 ov,
 PV.int IntKind.i64 re, PV.bool fz]
noncomputable def N47 (ca : Int) (af : Int) (al nl ml : Nat) (tl : Nat → Int) (vl : Nat → Int) (gl : Nat → Bool) (ov : Int) (re : Int) (fz : Bool) (r : Rt47) : List Blk := [Blk.cols (List.length r)
 [Col.int IntKind.i64 fun j => (S.at' r j).1,
 Col.int IntKind.i64 fun j => (S.at' r j).2.1,
 Col.bool fun j => (S.at' r j).2.2]]
noncomputable def I47 (ca : Int) (af : Int) (al nl ml : Nat) (tl : Nat → Int) (vl : Nat → Int) (gl : Nat → Bool) (ov : Int) (re : Int) (fz : Bool) : St47 → Hd := fun s => s.elim
noncomputable def q47 (ca : Int) (af : Int) (al nl ml : Nat) (tl : Nat → Int) (vl : Nat → Int) (gl : Nat → Bool) (ov : Int) (re : Int) (fz : Bool) : St47 → Option (St47 ⊕ Rt47) := fun s => s.elim
noncomputable def p47 (ca : Int) (af : Int) (al nl ml : Nat) (tl : Nat → Int) (vl : Nat → Int) (gl : Nat → Bool) (ov : Int) (re : Int) (fz : Bool) : Option (St47 ⊕ Rt47) := bif (decide (al + nl ≤ ml ∧ nl ≤ 1000000))
 then (some (.inr (S.mkl nl fun j => (tl (j + al), vl (j + al), gl (j + al)))))
 else (none)
noncomputable def Te47 (test : Bool → Prop → Prop → Prop) (Kst : KS) (Kret : KR) (ca : Int) (af : Int) (al nl ml : Nat) (tl : Nat → Int) (vl : Nat → Int) (gl : Nat → Bool) (ov : Int) (re : Int) (fz : Bool) : Prop :=
  test (decide (al + nl ≤ ml ∧ nl ≤ 1000000))
 (Kret (PV.agg
 [PV.int IntKind.i64 ca, PV.int IntKind.i64 af, PV.own (4) (3) nl,
 PV.int IntKind.i64 ov, PV.int IntKind.i64 re, PV.bool fz]) ([[(0, false,
 Blk.cols ml [Col.int IntKind.i64 tl, Col.int IntKind.i64 vl, Col.bool gl]),
 (4, true,
 Blk.cols nl
 [Col.int IntKind.i64 fun j => tl (j + al),
 Col.int IntKind.i64 fun j => vl (j + al), Col.bool fun j => gl (j + al)])]]) (5))
 (False)
theorem te47 (test : Bool → Prop → Prop → Prop) (Kst : KS) (Kret : KR) (ca : Int) (af : Int) (al nl ml : Nat) (tl : Nat → Int) (vl : Nat → Int) (gl : Nat → Bool) (ov : Int) (re : Int) (fz : Bool) : run test Try.env true (xB test) true 400 ⟨47, [.cd (mkFn Try.f47).body], argT 0 [.agg [.int .i64 ca, .int .i64 af, .loose ⟨0, 3, al, 0⟩ nl, .int .i64 ov, .int .i64 re, .bool fz]], [[], [(0, (false, .cols ml [.int .i64 tl, .int .i64 vl, .bool gl]))]], 1⟩ (proj 1 [] Kst Kret) =
  Te47 test Kst Kret ca af al nl ml tl vl gl ov re fz := by kernel_rfl
theorem be47 (ca : Int) (af : Int) (al nl ml : Nat) (tl : Nat → Int) (vl : Nat → Int) (gl : Nat → Bool) (ov : Int) (re : Int) (fz : Bool) (Kst : KS) (Kret : KR) (x : St47 ⊕ Rt47) (hS : HS 1 400 ((I47 ca af al nl ml tl vl gl ov re fz)) Kst x) (hR : HR 1 400 ((V47 ca af al nl ml tl vl gl ov re fz)) (fun r => [newL (1 + 1) ((N47 ca af al nl ml tl vl gl ov re fz) r) ++ [(0, (false, .cols ml [.int .i64 tl, .int .i64 vl, .bool gl]))]]) Kret x) (h : p47 ca af al nl ml tl vl gl ov re fz = some x) : Te47 cond Kst Kret ca af al nl ml tl vl gl ov re fz := by
  unfold Te47
  unfold p47 at h
  refine bif_split h
   (fun c0 h => ret_at hR _ h (fun n => bif Nat.beq n 2 then 4 else n) rfl rfl rfl (rn_agg ⟨(rn_int rfl), (rn_int rfl), (rn_own (use_own rfl) rfl mkl_len), (rn_int rfl), (rn_int rfl), (rn_bool rfl), trivial⟩) rfl (entl_new (use_own rfl) rfl (Nat.le_of_eq mkl_len) (rcs_int (fun _ hj => col_mkl (fun (t : Int × Int × Bool) => t.1) hj) (rcs_int (fun _ hj => col_mkl (fun (t : Int × Int × Bool) => t.2.1) hj) (rcs_bool (fun _ hj => col_mkl (fun (t : Int × Int × Bool) => t.2.2) hj) rcs_nil))) (entl_bor (use_lo rfl) rfl rfl entl_nil)))
   (fun c0 h => no_some h)
theorem a47 (ca : Int) (af : Int) (al nl ml : Nat) (tl : Nat → Int) (vl : Nat → Int) (gl : Nat → Bool) (ov : Int) (re : Int) (fz : Bool) {r : Rt47} (h : Goes ((q47 ca af al nl ml tl vl gl ov re fz)) ((p47 ca af al nl ml tl vl gl ov re fz)) r) : CallR Try.prog 47 [.agg [.int .i64 ca, .int .i64 af, .loose ⟨0, 3, al, 0⟩ nl, .int .i64 ov, .int .i64 re, .bool fz]] [[(0, (false, .cols ml [.int .i64 tl, .int .i64 vl, .bool gl]))]] 1 ((V47 ca af al nl ml tl vl gl ov re fz) r) ((fun r => [newL (1 + 1) ((N47 ca af al nl ml tl vl gl ov re fz) r) ++ [(0, (false, .cols ml [.int .i64 tl, .int .i64 vl, .bool gl]))]]) r) 400 ∧ ∃ F, Try.prog.funcs[47]? = some F ∧ F.body.isSome = true ∧ (F.name == "runtime.NumGoroutine") = false := by
  refine dec_calls (f := 47) (lo := 1) (hi := 400) (H := [[(0, (false, .cols ml [.int .i64 tl, .int .i64 vl, .bool gl]))]]) (args := [.agg [.int .i64 ca, .int .i64 af, .loose ⟨0, 3, al, 0⟩ nl, .int .i64 ov, .int .i64 re, .bool fz]]) Try.envOk Try.mixed xB_ok ((I47 ca af al nl ml tl vl gl ov re fz)) ((V47 ca af al nl ml tl vl gl ov re fz)) (fun r => [newL (1 + 1) ((N47 ca af al nl ml tl vl gl ov re fz) r) ++ [(0, (false, .cols ml [.int .i64 tl, .int .i64 vl, .bool gl]))]]) (fn := mkFn Try.f47) (ts := []) (n := 400) rfl (by decide) (by simp) (names_of rfl) ?_ ?_ ?_ h
  · intro s; exact s.elim
  · intro Kst Kret x hS hR h
    exact Holds.eq (te47 cond Kst Kret ca af al nl ml tl vl gl ov re fz) (be47 ca af al nl ml tl vl gl ov re fz Kst Kret x hS hR h)
  · intro Kst Kret x hS hR s h; exact s.elim
noncomputable def k47 : Con := ⟨47, [.agg [.plain (.int .i64), .plain (.int .i64), .list [.int .i64, .int .i64, .bool], .plain (.int .i64), .plain (.int .i64), .plain (.bool)]], fun (x : (Int × Int × (Nat × Nat × Nat × (Nat → Int) × (Nat → Int) × (Nat → Bool) × Unit) × Int × Int × Bool × Unit) × Unit) => (fun (ca : Int) (af : Int) (al nl ml : Nat) (tl : Nat → Int) (vl : Nat → Int) (gl : Nat → Bool) (ov : Int) (re : Int) (fz : Bool) => decide (al + nl ≤ ml ∧ nl ≤ 1000000)) x.1.1 x.1.2.1 x.1.2.2.1.1 x.1.2.2.1.2.1 x.1.2.2.1.2.2.1 x.1.2.2.1.2.2.2.1 x.1.2.2.1.2.2.2.2.1 x.1.2.2.1.2.2.2.2.2.1 x.1.2.2.2.1 x.1.2.2.2.2.1 x.1.2.2.2.2.2.1, fun (x : (Int × Int × (Nat × Nat × Nat × (Nat → Int) × (Nat → Int) × (Nat → Bool) × Unit) × Int × Int × Bool × Unit) × Unit) => (fun (ca : Int) (af : Int) (al nl ml : Nat) (tl : Nat → Int) (vl : Nat → Int) (gl : Nat → Bool) (ov : Int) (re : Int) (fz : Bool) => (V47 ca af al nl ml tl vl gl ov re fz) ((S.mkl nl fun j => (tl (j + al), vl (j + al), gl (j + al))))) x.1.1 x.1.2.1 x.1.2.2.1.1 x.1.2.2.1.2.1 x.1.2.2.1.2.2.1 x.1.2.2.1.2.2.2.1 x.1.2.2.1.2.2.2.2.1 x.1.2.2.1.2.2.2.2.2.1 x.1.2.2.2.1 x.1.2.2.2.2.1 x.1.2.2.2.2.2.1, fun (x : (Int × Int × (Nat × Nat × Nat × (Nat → Int) × (Nat → Int) × (Nat → Bool) × Unit) × Int × Int × Bool × Unit) × Unit) => (fun (ca : Int) (af : Int) (al nl ml : Nat) (tl : Nat → Int) (vl : Nat → Int) (gl : Nat → Bool) (ov : Int) (re : Int) (fz : Bool) => (N47 ca af al nl ml tl vl gl ov re fz) ((S.mkl nl fun j => (tl (j + al), vl (j + al), gl (j + al))))) x.1.1 x.1.2.1 x.1.2.2.1.1 x.1.2.2.1.2.1 x.1.2.2.1.2.2.1 x.1.2.2.1.2.2.2.1 x.1.2.2.1.2.2.2.2.1 x.1.2.2.1.2.2.2.2.2.1 x.1.2.2.2.1 x.1.2.2.2.2.1 x.1.2.2.2.2.2.1, fun _ _ => .dead⟩
theorem s47 (ca : Int) (af : Int) (al nl ml : Nat) (tl : Nat → Int) (vl : Nat → Int) (gl : Nat → Bool) (ov : Int) (re : Int) (fz : Bool) (hp : al + nl ≤ ml ∧ nl ≤ 1000000) : Goes ((q47 ca af al nl ml tl vl gl ov re fz)) ((p47 ca af al nl ml tl vl gl ov re fz)) ((S.mkl nl fun j => (tl (j + al), vl (j + al), gl (j + al)))) := by
  obtain ⟨hp1, hp2⟩ := hp
  show Goes _ _ _
  unfold p47
  repeat' first
    | with_reducible refine goes_if (fun h => ?_) (fun h => ?_) <;> (try simp only [lim64, imp_false, decide_eq_true_eq, decide_eq_false_iff_not, Int.toNat_natCast, toNat_pred, toNat_succ, Option.getD_some, Option.getD_none, Bool.not_eq_true', Bool.not_eq_false', Bool.and_eq_true, Bool.or_eq_true, Bool.and_eq_false_iff, Bool.or_eq_false_iff, bne_iff_ne, beq_iff_eq, bne_eq_false_iff_eq, beq_eq_false_iff_ne, ne_eq, not_and, Int.not_le, Int.not_lt, ge_iff_le, gt_iff_lt, Nat.not_lt, Nat.not_le, Bool.not_eq_true, Bool.not_eq_false, Bool.true_eq_false, Bool.false_eq_true, not_false_eq_true, not_true_eq_false] at h)
    | exact goes_none.mpr (by omega)
  all_goals first | (exfalso; omega) | rfl
theorem k47_ok : k47.ok Try.prog := by
  intro x hx
  obtain ⟨⟨ca, af, ⟨al, nl, ml, tl, vl, gl, _⟩, ov, re, fz, _⟩, _⟩ := x
  obtain ⟨h1, h2⟩ := a47 ca af al nl ml tl vl gl ov re fz (s47 ca af al nl ml tl vl gl ov re fz (of_dec hx rfl))
  exact ⟨⟨400, (by decide : 1 + 1 + 1 ≤ 400), h1⟩, h2⟩
inductive St22 where
  | h0 (x0 : Int)
abbrev Rt22 := Bool
noncomputable def V22 (al nl ml : Nat) (tl : Nat → Int) (vl : Nat → Int) (gl : Nat → Bool) (ak nk mk : Nat) (tk : Nat → Int) (vk : Nat → Int) (gk : Nat → Bool) (r : Rt22) : PV := PV.bool r
noncomputable def N22 (al nl ml : Nat) (tl : Nat → Int) (vl : Nat → Int) (gl : Nat → Bool) (ak nk mk : Nat) (tk : Nat → Int) (vk : Nat → Int) (gk : Nat → Bool) (r : Rt22) : List Blk := []
noncomputable def I22 (al nl ml : Nat) (tl : Nat → Int) (vl : Nat → Int) (gl : Nat → Bool) (ak nk mk : Nat) (tk : Nat → Int) (vk : Nat → Int) (gk : Nat → Bool) : St22 → Hd
  | .h0 x0 => ⟨hd Try.f22 0, [PV.loose (PA.mk (0) (3) al (0)) nl,
 PV.loose (PA.mk (1) (3) ak (0)) nk, PV.int IntKind.i64 x0], [[], [(0, (false, .cols ml [.int .i64 tl, .int .i64 vl, .bool gl])), (1, (false, .cols mk [.int .i64 tk, .int .i64 vk, .bool gk]))]], 2⟩
noncomputable def q22 (al nl ml : Nat) (tl : Nat → Int) (vl : Nat → Int) (gl : Nat → Bool) (ak nk mk : Nat) (tk : Nat → Int) (vk : Nat → Int) (gk : Nat → Bool) : St22 → Option (St22 ⊕ Rt22)
  | .h0 x0 => bif (decide (x0 < (↑nl : Int)))
 then (bif (decide ((0 : Int) ≤ x0 ∧ x0 < (↑nl : Int)))
 then (bif (decide (Int.toNat x0 + al < ml))
 then (bif (decide ((0 : Int) ≤ x0 ∧ x0 < (↑nk : Int)))
 then (bif (decide (Int.toNat x0 + ak < mk))
 then (bif (!(tl (Int.toNat x0 + al) == tk (Int.toNat x0 + ak) &&
 (vl (Int.toNat x0 + al) == vk (Int.toNat x0 + ak) &&
 (gl (Int.toNat x0 + al) == gk (Int.toNat x0 + ak) && true))))
 then (some (.inr (false)))
 else (bif (lim IntKind.i64 (x0 + (1 : Int)))
 then (some (.inl (.h0 (x0 + (1 : Int)))))
 else (none)))
 else (none))
 else (none))
 else (none))
 else (none))
 else (some (.inr (true)))
noncomputable def p22 (al nl ml : Nat) (tl : Nat → Int) (vl : Nat → Int) (gl : Nat → Bool) (ak nk mk : Nat) (tk : Nat → Int) (vk : Nat → Int) (gk : Nat → Bool) : Option (St22 ⊕ Rt22) := bif ((↑nl : Int) != (↑nk : Int))
 then (some (.inr (false)))
 else (some (.inl (.h0 ((0 : Int)))))
noncomputable def Te22 (test : Bool → Prop → Prop → Prop) (Kst : KS) (Kret : KR) (al nl ml : Nat) (tl : Nat → Int) (vl : Nat → Int) (gl : Nat → Bool) (ak nk mk : Nat) (tk : Nat → Int) (vk : Nat → Int) (gk : Nat → Bool) : Prop :=
  test ((↑nl : Int) != (↑nk : Int))
 (Kret (PV.tf false) ([[(1, false,
 Blk.cols mk [Col.int IntKind.i64 tk, Col.int IntKind.i64 vk, Col.bool gk]),
 (0, false,
 Blk.cols ml [Col.int IntKind.i64 tl, Col.int IntKind.i64 vl, Col.bool gl])]]) (2))
 (Kst (hd Try.f22 0) ([PV.loose (PA.mk (0) (3) al (0)) nl,
 PV.loose (PA.mk (1) (3) ak (0)) nk, PV.int IntKind.i64 (0 : Int)]) ([[(1, false,
 Blk.cols mk [Col.int IntKind.i64 tk, Col.int IntKind.i64 vk, Col.bool gk]),
 (0, false,
 Blk.cols ml [Col.int IntKind.i64 tl, Col.int IntKind.i64 vl, Col.bool gl])]]) (2))
theorem te22 (test : Bool → Prop → Prop → Prop) (Kst : KS) (Kret : KR) (al nl ml : Nat) (tl : Nat → Int) (vl : Nat → Int) (gl : Nat → Bool) (ak nk mk : Nat) (tk : Nat → Int) (vk : Nat → Int) (gk : Nat → Bool) : run test Try.env true (xB test) true 400 ⟨22, [.cd (mkFn Try.f22).body], argT 0 [.loose ⟨0, 3, al, 0⟩ nl, .loose ⟨1, 3, ak, 0⟩ nk], [[], [(0, (false, .cols ml [.int .i64 tl, .int .i64 vl, .bool gl])), (1, (false, .cols mk [.int .i64 tk, .int .i64 vk, .bool gk]))]], 2⟩ (proj 2 [0, 1, 5] Kst Kret) =
  Te22 test Kst Kret al nl ml tl vl gl ak nk mk tk vk gk := by kernel_rfl
noncomputable def T22_0 (test : Bool → Prop → Prop → Prop) (Kst : KS) (Kret : KR) (al nl ml : Nat) (tl : Nat → Int) (vl : Nat → Int) (gl : Nat → Bool) (ak nk mk : Nat) (tk : Nat → Int) (vk : Nat → Int) (gk : Nat → Bool) (x0 : Int) : Prop :=
  test (decide (x0 < (↑nl : Int)))
 (test (decide ((0 : Int) ≤ x0 ∧ x0 < (↑nl : Int)))
 (test (decide (Int.toNat x0 + al < ml))
 (test (decide (Int.toNat x0 + al < ml))
 (test (decide (Int.toNat x0 + al < ml))
 (test (decide ((0 : Int) ≤ x0 ∧ x0 < (↑nk : Int)))
 (test (decide (Int.toNat x0 + ak < mk))
 (test (decide (Int.toNat x0 + ak < mk))
 (test (decide (Int.toNat x0 + ak < mk))
 (test (!(tl (Int.toNat x0 + al) == tk (Int.toNat x0 + ak) &&
 (vl (Int.toNat x0 + al) == vk (Int.toNat x0 + ak) &&
 (gl (Int.toNat x0 + al) == gk (Int.toNat x0 + ak) && true))))
 (Kret (PV.tf false) ([[(1, false,
 Blk.cols mk [Col.int IntKind.i64 tk, Col.int IntKind.i64 vk, Col.bool gk]),
 (0, false,
 Blk.cols ml [Col.int IntKind.i64 tl, Col.int IntKind.i64 vl, Col.bool gl])]]) (2))
 (test (lim IntKind.i64 (x0 + (1 : Int)))
 (Kst (hd Try.f22 0) ([PV.loose (PA.mk (0) (3) al (0)) nl,
 PV.loose (PA.mk (1) (3) ak (0)) nk, PV.int IntKind.i64 (x0 + (1 : Int))]) ([[(1, false,
 Blk.cols mk [Col.int IntKind.i64 tk, Col.int IntKind.i64 vk, Col.bool gk]),
 (0, false,
 Blk.cols ml [Col.int IntKind.i64 tl, Col.int IntKind.i64 vl, Col.bool gl])]]) (2))
 (False)))
 (False))
 (False))
 (False))
 (False))
 (False))
 (False))
 (False))
 (False))
 (Kret (PV.tf true) ([[(1, false,
 Blk.cols mk [Col.int IntKind.i64 tk, Col.int IntKind.i64 vk, Col.bool gk]),
 (0, false,
 Blk.cols ml [Col.int IntKind.i64 tl, Col.int IntKind.i64 vl, Col.bool gl])]]) (2))
theorem t22_0 (test : Bool → Prop → Prop → Prop) (Kst : KS) (Kret : KR) (al nl ml : Nat) (tl : Nat → Int) (vl : Nat → Int) (gl : Nat → Bool) (ak nk mk : Nat) (tk : Nat → Int) (vk : Nat → Int) (gk : Nat → Bool) (x0 : Int) : run test Try.env true (xB test) true 400 ⟨22, hd Try.f22 0, zipT [0, 1, 5] [PV.loose (PA.mk (0) (3) al (0)) nl,
 PV.loose (PA.mk (1) (3) ak (0)) nk, PV.int IntKind.i64 x0], [[], [(0, (false, .cols ml [.int .i64 tl, .int .i64 vl, .bool gl])), (1, (false, .cols mk [.int .i64 tk, .int .i64 vk, .bool gk]))]], 2⟩ (proj 2 [0, 1, 5] Kst Kret) =
  T22_0 test Kst Kret al nl ml tl vl gl ak nk mk tk vk gk x0 := by kernel_rfl
theorem be22 (al nl ml : Nat) (tl : Nat → Int) (vl : Nat → Int) (gl : Nat → Bool) (ak nk mk : Nat) (tk : Nat → Int) (vk : Nat → Int) (gk : Nat → Bool) (Kst : KS) (Kret : KR) (x : St22 ⊕ Rt22) (hS : HS 2 400 ((I22 al nl ml tl vl gl ak nk mk tk vk gk)) Kst x) (hR : HR 2 400 ((V22 al nl ml tl vl gl ak nk mk tk vk gk)) (fun r => [newL (2 + 1) ((N22 al nl ml tl vl gl ak nk mk tk vk gk) r) ++ [(0, (false, .cols ml [.int .i64 tl, .int .i64 vl, .bool gl])), (1, (false, .cols mk [.int .i64 tk, .int .i64 vk, .bool gk]))]]) Kret x) (h : p22 al nl ml tl vl gl ak nk mk tk vk gk = some x) : Te22 cond Kst Kret al nl ml tl vl gl ak nk mk tk vk gk := by
  unfold Te22
  unfold p22 at h
  refine bif_split h
   (fun c0 h => ret_at hR _ h (fun n => n) rfl rfl rfl (rn_bool_tf rfl) rfl (entl_bor (use_lo rfl) rfl rfl (entl_bor (use_lo rfl) rfl rfl entl_nil)))
   (fun c0 h => stop_at hS _ h (fun n => n) rfl rfl rfl ⟨(rn_loose (use_lo rfl) rfl rfl rfl), ⟨(rn_loose (use_lo rfl) rfl rfl rfl), ⟨(rn_int rfl), trivial⟩⟩⟩ rfl (entl_bor (use_lo rfl) rfl rfl (entl_bor (use_lo rfl) rfl rfl entl_nil)))
theorem b22_0 (al nl ml : Nat) (tl : Nat → Int) (vl : Nat → Int) (gl : Nat → Bool) (ak nk mk : Nat) (tk : Nat → Int) (vk : Nat → Int) (gk : Nat → Bool) (Kst : KS) (Kret : KR) (x : St22 ⊕ Rt22) (hS : HS 2 400 ((I22 al nl ml tl vl gl ak nk mk tk vk gk)) Kst x) (hR : HR 2 400 ((V22 al nl ml tl vl gl ak nk mk tk vk gk)) (fun r => [newL (2 + 1) ((N22 al nl ml tl vl gl ak nk mk tk vk gk) r) ++ [(0, (false, .cols ml [.int .i64 tl, .int .i64 vl, .bool gl])), (1, (false, .cols mk [.int .i64 tk, .int .i64 vk, .bool gk]))]]) Kret x) (x0 : Int) (h : (bif (decide (x0 < (↑nl : Int)))
 then (bif (decide ((0 : Int) ≤ x0 ∧ x0 < (↑nl : Int)))
 then (bif (decide (Int.toNat x0 + al < ml))
 then (bif (decide ((0 : Int) ≤ x0 ∧ x0 < (↑nk : Int)))
 then (bif (decide (Int.toNat x0 + ak < mk))
 then (bif (!(tl (Int.toNat x0 + al) == tk (Int.toNat x0 + ak) &&
 (vl (Int.toNat x0 + al) == vk (Int.toNat x0 + ak) &&
 (gl (Int.toNat x0 + al) == gk (Int.toNat x0 + ak) && true))))
 then (some (.inr (false)))
 else (bif (lim IntKind.i64 (x0 + (1 : Int)))
 then (some (.inl (.h0 (x0 + (1 : Int)))))
 else (none)))
 else (none))
 else (none))
 else (none))
 else (none))
 else (some (.inr (true))) : Option (St22 ⊕ Rt22)) = some x) : T22_0 cond Kst Kret al nl ml tl vl gl ak nk mk tk vk gk x0 := by
  unfold T22_0
  exact bif_split h
   (fun c0 h => bif_split h
   (fun c1 h => bif_split h
   (fun c2 h => cond_yes c2 (cond_yes c2 (bif_split h
   (fun c3 h => bif_split h
   (fun c4 h => cond_yes c4 (cond_yes c4 (bif_split h
   (fun c5 h => ret_at hR _ h (fun n => n) rfl rfl rfl (rn_bool_tf rfl) rfl (entl_bor (use_lo rfl) rfl rfl (entl_bor (use_lo rfl) rfl rfl entl_nil)))
   (fun c5 h => bif_split h
   (fun c6 h => stop_at hS _ h (fun n => n) rfl rfl rfl ⟨(rn_loose (use_lo rfl) rfl rfl rfl), ⟨(rn_loose (use_lo rfl) rfl rfl rfl), ⟨(rn_int rfl), trivial⟩⟩⟩ rfl (entl_bor (use_lo rfl) rfl rfl (entl_bor (use_lo rfl) rfl rfl entl_nil)))
   (fun c6 h => no_some h)))))
   (fun c4 h => no_some h))
   (fun c3 h => no_some h))))
   (fun c2 h => no_some h))
   (fun c1 h => no_some h))
   (fun c0 h => ret_at hR _ h (fun n => n) rfl rfl rfl (rn_bool_tf rfl) rfl (entl_bor (use_lo rfl) rfl rfl (entl_bor (use_lo rfl) rfl rfl entl_nil)))
theorem a22 (al nl ml : Nat) (tl : Nat → Int) (vl : Nat → Int) (gl : Nat → Bool) (ak nk mk : Nat) (tk : Nat → Int) (vk : Nat → Int) (gk : Nat → Bool) {r : Rt22} (h : Goes ((q22 al nl ml tl vl gl ak nk mk tk vk gk)) ((p22 al nl ml tl vl gl ak nk mk tk vk gk)) r) : CallR Try.prog 22 [.loose ⟨0, 3, al, 0⟩ nl, .loose ⟨1, 3, ak, 0⟩ nk] [[(0, (false, .cols ml [.int .i64 tl, .int .i64 vl, .bool gl])), (1, (false, .cols mk [.int .i64 tk, .int .i64 vk, .bool gk]))]] 2 ((V22 al nl ml tl vl gl ak nk mk tk vk gk) r) ((fun r => [newL (2 + 1) ((N22 al nl ml tl vl gl ak nk mk tk vk gk) r) ++ [(0, (false, .cols ml [.int .i64 tl, .int .i64 vl, .bool gl])), (1, (false, .cols mk [.int .i64 tk, .int .i64 vk, .bool gk]))]]) r) 400 ∧ ∃ F, Try.prog.funcs[22]? = some F ∧ F.body.isSome = true ∧ (F.name == "runtime.NumGoroutine") = false := by
  refine dec_calls (f := 22) (lo := 2) (hi := 400) (H := [[(0, (false, .cols ml [.int .i64 tl, .int .i64 vl, .bool gl])), (1, (false, .cols mk [.int .i64 tk, .int .i64 vk, .bool gk]))]]) (args := [.loose ⟨0, 3, al, 0⟩ nl, .loose ⟨1, 3, ak, 0⟩ nk]) Try.envOk Try.mixed xB_ok ((I22 al nl ml tl vl gl ak nk mk tk vk gk)) ((V22 al nl ml tl vl gl ak nk mk tk vk gk)) (fun r => [newL (2 + 1) ((N22 al nl ml tl vl gl ak nk mk tk vk gk) r) ++ [(0, (false, .cols ml [.int .i64 tl, .int .i64 vl, .bool gl])), (1, (false, .cols mk [.int .i64 tk, .int .i64 vk, .bool gk]))]]) (fn := mkFn Try.f22) (ts := [0, 1, 5]) (n := 400) rfl (by decide) (by simp) (names_of rfl) ?_ ?_ ?_ h
  · intro s; cases s <;> exact ⟨hd_ok _ _, by simp [I22], names_of rfl, Nat.le_of_ble_eq_true rfl⟩
  · intro Kst Kret x hS hR h
    exact Holds.eq (te22 cond Kst Kret al nl ml tl vl gl ak nk mk tk vk gk) (be22 al nl ml tl vl gl ak nk mk tk vk gk Kst Kret x hS hR h)
  · intro Kst Kret x hS hR s h
    cases s with
    | h0 x0 => exact Holds.eq (t22_0 cond Kst Kret al nl ml tl vl gl ak nk mk tk vk gk x0) (b22_0 al nl ml tl vl gl ak nk mk tk vk gk Kst Kret x hS hR x0 h)
noncomputable def k22 : Con := ⟨22, [.one (.list [.int .i64, .int .i64, .bool]), .one (.list [.int .i64, .int .i64, .bool])], fun (x : (Nat × Nat × Nat × (Nat → Int) × (Nat → Int) × (Nat → Bool) × Unit) × (Nat × Nat × Nat × (Nat → Int) × (Nat → Int) × (Nat → Bool) × Unit) × Unit) => (fun (al nl ml : Nat) (tl : Nat → Int) (vl : Nat → Int) (gl : Nat → Bool) (ak nk mk : Nat) (tk : Nat → Int) (vk : Nat → Int) (gk : Nat → Bool) => decide (al + nl ≤ ml ∧ nl ≤ 1000000 ∧ ak + nk ≤ mk ∧ nk ≤ 1000000)) x.1.1 x.1.2.1 x.1.2.2.1 x.1.2.2.2.1 x.1.2.2.2.2.1 x.1.2.2.2.2.2.1 x.2.1.1 x.2.1.2.1 x.2.1.2.2.1 x.2.1.2.2.2.1 x.2.1.2.2.2.2.1 x.2.1.2.2.2.2.2.1, fun (x : (Nat × Nat × Nat × (Nat → Int) × (Nat → Int) × (Nat → Bool) × Unit) × (Nat × Nat × Nat × (Nat → Int) × (Nat → Int) × (Nat → Bool) × Unit) × Unit) => (fun (al nl ml : Nat) (tl : Nat → Int) (vl : Nat → Int) (gl : Nat → Bool) (ak nk mk : Nat) (tk : Nat → Int) (vk : Nat → Int) (gk : Nat → Bool) => (V22 al nl ml tl vl gl ak nk mk tk vk gk) (decide ((S.mkl nl fun j => (tl (j + al), vl (j + al), gl (j + al))) = (S.mkl nk fun j => (tk (j + ak), vk (j + ak), gk (j + ak)))))) x.1.1 x.1.2.1 x.1.2.2.1 x.1.2.2.2.1 x.1.2.2.2.2.1 x.1.2.2.2.2.2.1 x.2.1.1 x.2.1.2.1 x.2.1.2.2.1 x.2.1.2.2.2.1 x.2.1.2.2.2.2.1 x.2.1.2.2.2.2.2.1, fun (x : (Nat × Nat × Nat × (Nat → Int) × (Nat → Int) × (Nat → Bool) × Unit) × (Nat × Nat × Nat × (Nat → Int) × (Nat → Int) × (Nat → Bool) × Unit) × Unit) => (fun (al nl ml : Nat) (tl : Nat → Int) (vl : Nat → Int) (gl : Nat → Bool) (ak nk mk : Nat) (tk : Nat → Int) (vk : Nat → Int) (gk : Nat → Bool) => (N22 al nl ml tl vl gl ak nk mk tk vk gk) (decide ((S.mkl nl fun j => (tl (j + al), vl (j + al), gl (j + al))) = (S.mkl nk fun j => (tk (j + ak), vk (j + ak), gk (j + ak)))))) x.1.1 x.1.2.1 x.1.2.2.1 x.1.2.2.2.1 x.1.2.2.2.2.1 x.1.2.2.2.2.2.1 x.2.1.1 x.2.1.2.1 x.2.1.2.2.1 x.2.1.2.2.2.1 x.2.1.2.2.2.2.1 x.2.1.2.2.2.2.2.1, fun _ _ => .dead⟩
theorem s22' (al nl ml : Nat) (tl : Nat → Int) (vl : Nat → Int) (gl : Nat → Bool) (ak nk mk : Nat) (tk : Nat → Int) (vk : Nat → Int) (gk : Nat → Bool) (hp : al + nl ≤ ml ∧ nl ≤ 1000000 ∧ ak + nk ≤ mk ∧ nk ≤ 1000000) (hn : nl = nk) : ∀ d i : Nat, i + d = nl → (∀ j, j < i → (tl (j + al), vl (j + al), gl (j + al)) = (tk (j + ak), vk (j + ak), gk (j + ak))) → Comes (q22 al nl ml tl vl gl ak nk mk tk vk gk) (.h0 (i : Int)) (decide ((S.mkl nl fun j => (tl (j + al), vl (j + al), gl (j + al))) = (S.mkl nk fun j => (tk (j + ak), vk (j + ak), gk (j + ak))))) := by
  obtain ⟨hp1, hp2, hp3, hp4⟩ := hp
  intro d
  induction d with
  | zero =>
    intro i hi hj
    apply Comes.of
    show Goes _ _ _
    (first | rw [q22] | unfold q22)
    repeat' first
      | with_reducible refine goes_if (fun h => ?_) (fun h => ?_) <;> (try simp only [lim64, imp_false, decide_eq_true_eq, decide_eq_false_iff_not, Int.toNat_natCast, toNat_pred, toNat_succ, Option.getD_some, Option.getD_none, Bool.not_eq_true', Bool.not_eq_false', Bool.and_eq_true, Bool.or_eq_true, Bool.and_eq_false_iff, Bool.or_eq_false_iff, bne_iff_ne, beq_iff_eq, bne_eq_false_iff_eq, beq_eq_false_iff_ne, ne_eq, not_and, Int.not_le, Int.not_lt, ge_iff_le, gt_iff_lt, Nat.not_lt, Nat.not_le, Bool.not_eq_true, Bool.not_eq_false, Bool.true_eq_false, Bool.false_eq_true, not_false_eq_true, not_true_eq_false] at h)
      | exact goes_none.mpr (by omega)
    all_goals first | (exfalso; omega) | (refine goes_inr.mpr ?_; exact (decide_eq_true (mkl_inj.2 ⟨hn, fun j h => hj j (by omega)⟩)).symm)
  | succ d ih =>
    intro i hi hj
    have ih := ih (i + 1) (by omega)
    apply Comes.of
    show Goes _ _ _
    (first | rw [q22] | unfold q22)
    repeat' first
      | with_reducible refine goes_if (fun h => ?_) (fun h => ?_) <;> (try simp only [lim64, imp_false, decide_eq_true_eq, decide_eq_false_iff_not, Int.toNat_natCast, toNat_pred, toNat_succ, Option.getD_some, Option.getD_none, Bool.not_eq_true', Bool.not_eq_false', Bool.and_eq_true, Bool.or_eq_true, Bool.and_eq_false_iff, Bool.or_eq_false_iff, bne_iff_ne, beq_iff_eq, bne_eq_false_iff_eq, beq_eq_false_iff_ne, ne_eq, not_and, Int.not_le, Int.not_lt, ge_iff_le, gt_iff_lt, Nat.not_lt, Nat.not_le, Bool.not_eq_true, Bool.not_eq_false, Bool.true_eq_false, Bool.false_eq_true, not_false_eq_true, not_true_eq_false] at h)
      | exact goes_none.mpr (by omega)
    all_goals first
      | (exfalso; omega)
      | (refine goes_inr.mpr ?_
         refine (decide_eq_false fun h' => ?_).symm
         have := (mkl_inj.1 h').2 i (by omega)
         simp only [Prod.mk.injEq] at this
         simp_all)
      | (refine ih fun j h' => ?_
         rcases Nat.lt_or_ge j i with h'' | h''
         · exact hj j h''
         · obtain rfl : j = i := by omega
           simp_all)
theorem s22 (al nl ml : Nat) (tl : Nat → Int) (vl : Nat → Int) (gl : Nat → Bool) (ak nk mk : Nat) (tk : Nat → Int) (vk : Nat → Int) (gk : Nat → Bool) (hp : al + nl ≤ ml ∧ nl ≤ 1000000 ∧ ak + nk ≤ mk ∧ nk ≤ 1000000) : Goes ((q22 al nl ml tl vl gl ak nk mk tk vk gk)) ((p22 al nl ml tl vl gl ak nk mk tk vk gk)) (decide ((S.mkl nl fun j => (tl (j + al), vl (j + al), gl (j + al))) = (S.mkl nk fun j => (tk (j + ak), vk (j + ak), gk (j + ak))))) := by
  by_cases hn : nl = nk
  · show Goes _ _ _
    unfold p22
    repeat' first
      | with_reducible refine goes_if (fun h => ?_) (fun h => ?_) <;> (try simp only [lim64, imp_false, decide_eq_true_eq, decide_eq_false_iff_not, Int.toNat_natCast, toNat_pred, toNat_succ, Option.getD_some, Option.getD_none, Bool.not_eq_true', Bool.not_eq_false', Bool.and_eq_true, Bool.or_eq_true, Bool.and_eq_false_iff, Bool.or_eq_false_iff, bne_iff_ne, beq_iff_eq, bne_eq_false_iff_eq, beq_eq_false_iff_ne, ne_eq, not_and, Int.not_le, Int.not_lt, ge_iff_le, gt_iff_lt, Nat.not_lt, Nat.not_le, Bool.not_eq_true, Bool.not_eq_false, Bool.true_eq_false, Bool.false_eq_true, not_false_eq_true, not_true_eq_false] at h)
      | exact goes_none.mpr (by omega)
    all_goals first | (exfalso; omega) | exact s22' al nl ml tl vl gl ak nk mk tk vk gk hp hn nl 0 (by omega) (fun j h => absurd h (by omega))
  · show Goes _ _ _
    unfold p22
    repeat' first
      | with_reducible refine goes_if (fun h => ?_) (fun h => ?_) <;> (try simp only [lim64, imp_false, decide_eq_true_eq, decide_eq_false_iff_not, Int.toNat_natCast, toNat_pred, toNat_succ, Option.getD_some, Option.getD_none, Bool.not_eq_true', Bool.not_eq_false', Bool.and_eq_true, Bool.or_eq_true, Bool.and_eq_false_iff, Bool.or_eq_false_iff, bne_iff_ne, beq_iff_eq, bne_eq_false_iff_eq, beq_eq_false_iff_ne, ne_eq, not_and, Int.not_le, Int.not_lt, ge_iff_le, gt_iff_lt, Nat.not_lt, Nat.not_le, Bool.not_eq_true, Bool.not_eq_false, Bool.true_eq_false, Bool.false_eq_true, not_false_eq_true, not_true_eq_false] at h)
      | exact goes_none.mpr (by omega)
    all_goals first | (exfalso; omega) | (refine goes_inr.mpr ?_; exact (decide_eq_false fun h' => hn (mkl_inj.1 h').1).symm)
theorem k22_ok : k22.ok Try.prog := by
  intro x hx
  obtain ⟨⟨al, nl, ml, tl, vl, gl, _⟩, ⟨ak, nk, mk, tk, vk, gk, _⟩, _⟩ := x
  obtain ⟨h1, h2⟩ := a22 al nl ml tl vl gl ak nk mk tk vk gk (s22 al nl ml tl vl gl ak nk mk tk vk gk (of_dec hx rfl))
  exact ⟨⟨400, (by decide : 2 + 1 + 0 ≤ 400), h1⟩, h2⟩
noncomputable def xC (test : Bool → Prop → Prop → Prop) : Ext := consX test [k19, k45, k32, k12, k23, k15, k17, k47, k22]
theorem xC_ok : ExtOk Try.prog (xC cond) := consX_ok ⟨k19_ok, k45_ok, k32_ok, k12_ok, k23_ok, k15_ok, k17_ok, k47_ok, k22_ok, trivial⟩
noncomputable def k11 : Con := ⟨11, [], fun _ => true, fun _ => .bool true, fun _ => [], fun _ _ => .dead⟩
theorem te11 (Kst : KS) (Kret : KR) : run cond Try.env true noX false 4000 ⟨11, [.cd (mkFn Try.f11).body], [], [[], []], 0⟩ (proj 0 [] Kst Kret) = Kret (.tf true) [[]] 113 := by kernel_rfl
theorem k11_ok : k11.ok Try.prog := awake_ok (fn := mkFn Try.f11) (hi := 114) (n := 4000) Try.envOk Try.mixed noX_ok rfl (by decide) (by decide : Nat.ble 113 114 = true) te11
abbrev St21 := Empty
abbrev Rt21 := Bool
noncomputable def V21 (ca : Int) (af : Int) (al nl ml : Nat) (tl : Nat → Int) (vl : Nat → Int) (gl : Nat → Bool) (ov : Int) (re : Int) (fz : Bool) (cb : Int) (ab : Int) (ak nk mk : Nat) (tk : Nat → Int) (vk : Nat → Int) (gk : Nat → Bool) (ou : Int) (rd : Int) (fy : Bool) (r : Rt21) : PV := PV.bool r
noncomputable def N21 (ca : Int) (af : Int) (al nl ml : Nat) (tl : Nat → Int) (vl : Nat → Int) (gl : Nat → Bool) (ov : Int) (re : Int) (fz : Bool) (cb : Int) (ab : Int) (ak nk mk : Nat) (tk : Nat → Int) (vk : Nat → Int) (gk : Nat → Bool) (ou : Int) (rd : Int) (fy : Bool) (r : Rt21) : List Blk := []
noncomputable def I21 (ca : Int) (af : Int) (al nl ml : Nat) (tl : Nat → Int) (vl : Nat → Int) (gl : Nat → Bool) (ov : Int) (re : Int) (fz : Bool) (cb : Int) (ab : Int) (ak nk mk : Nat) (tk : Nat → Int) (vk : Nat → Int) (gk : Nat → Bool) (ou : Int) (rd : Int) (fy : Bool) : St21 → Hd := fun s => s.elim
noncomputable def q21 (ca : Int) (af : Int) (al nl ml : Nat) (tl : Nat → Int) (vl : Nat → Int) (gl : Nat → Bool) (ov : Int) (re : Int) (fz : Bool) (cb : Int) (ab : Int) (ak nk mk : Nat) (tk : Nat → Int) (vk : Nat → Int) (gk : Nat → Bool) (ou : Int) (rd : Int) (fy : Bool) : St21 → Option (St21 ⊕ Rt21) := fun s => s.elim
noncomputable def p21 (ca : Int) (af : Int) (al nl ml : Nat) (tl : Nat → Int) (vl : Nat → Int) (gl : Nat → Bool) (ov : Int) (re : Int) (fz : Bool) (cb : Int) (ab : Int) (ak nk mk : Nat) (tk : Nat → Int) (vk : Nat → Int) (gk : Nat → Bool) (ou : Int) (rd : Int) (fy : Bool) : Option (St21 ⊕ Rt21) := bif (ca == cb)
 then (bif (af == ab)
 then (bif (ov == ou)
 then (bif (re == rd)
 then (bif (fz)
 then (bif (fy)
 then (bif (decide (al + nl ≤ ml ∧ nl ≤ 1000000 ∧ ak + nk ≤ mk ∧ nk ≤ 1000000))
 then (bif (decide
 ((S.mkl nl fun j => (tl (j + al), vl (j + al), gl (j + al))) =
 S.mkl nk fun j => (tk (j + ak), vk (j + ak), gk (j + ak))))
 then (some (.inr (true)))
 else (some (.inr (false))))
 else (none))
 else (some (.inr (false))))
 else (bif (fy)
 then (some (.inr (false)))
 else (bif (decide (al + nl ≤ ml ∧ nl ≤ 1000000 ∧ ak + nk ≤ mk ∧ nk ≤ 1000000))
 then (bif (decide
 ((S.mkl nl fun j => (tl (j + al), vl (j + al), gl (j + al))) =
 S.mkl nk fun j => (tk (j + ak), vk (j + ak), gk (j + ak))))
 then (some (.inr (true)))
 else (some (.inr (false))))
 else (none))))
 else (some (.inr (false))))
 else (some (.inr (false))))
 else (some (.inr (false))))
 else (some (.inr (false)))
noncomputable def Te21 (test : Bool → Prop → Prop → Prop) (Kst : KS) (Kret : KR) (ca : Int) (af : Int) (al nl ml : Nat) (tl : Nat → Int) (vl : Nat → Int) (gl : Nat → Bool) (ov : Int) (re : Int) (fz : Bool) (cb : Int) (ab : Int) (ak nk mk : Nat) (tk : Nat → Int) (vk : Nat → Int) (gk : Nat → Bool) (ou : Int) (rd : Int) (fy : Bool) : Prop :=
  test (ca == cb)
 (test (af == ab)
 (test (ov == ou)
 (test (re == rd)
 (test (fz)
 (test (fy)
 (test (decide (al + nl ≤ ml ∧ nl ≤ 1000000 ∧ ak + nk ≤ mk ∧ nk ≤ 1000000))
 (test (decide
 ((S.mkl nl fun j => (tl (j + al), vl (j + al), gl (j + al))) =
 S.mkl nk fun j => (tk (j + ak), vk (j + ak), gk (j + ak))))
 (Kret (PV.tf true) ([[(1, false,
 Blk.cols mk [Col.int IntKind.i64 tk, Col.int IntKind.i64 vk, Col.bool gk]),
 (0, false,
 Blk.cols ml [Col.int IntKind.i64 tl, Col.int IntKind.i64 vl, Col.bool gl])]]) (5))
 (Kret (PV.tf false) ([[(1, false,
 Blk.cols mk [Col.int IntKind.i64 tk, Col.int IntKind.i64 vk, Col.bool gk]),
 (0, false,
 Blk.cols ml [Col.int IntKind.i64 tl, Col.int IntKind.i64 vl, Col.bool gl])]]) (5)))
 (False))
 (Kret (PV.tf false) ([[(1, false,
 Blk.cols mk [Col.int IntKind.i64 tk, Col.int IntKind.i64 vk, Col.bool gk]),
 (0, false,
 Blk.cols ml [Col.int IntKind.i64 tl, Col.int IntKind.i64 vl, Col.bool gl])]]) (4)))
 (test (fy)
 (Kret (PV.tf false) ([[(1, false,
 Blk.cols mk [Col.int IntKind.i64 tk, Col.int IntKind.i64 vk, Col.bool gk]),
 (0, false,
 Blk.cols ml [Col.int IntKind.i64 tl, Col.int IntKind.i64 vl, Col.bool gl])]]) (4))
 (test (decide (al + nl ≤ ml ∧ nl ≤ 1000000 ∧ ak + nk ≤ mk ∧ nk ≤ 1000000))
 (test (decide
 ((S.mkl nl fun j => (tl (j + al), vl (j + al), gl (j + al))) =
 S.mkl nk fun j => (tk (j + ak), vk (j + ak), gk (j + ak))))
 (Kret (PV.tf true) ([[(1, false,
 Blk.cols mk [Col.int IntKind.i64 tk, Col.int IntKind.i64 vk, Col.bool gk]),
 (0, false,
 Blk.cols ml [Col.int IntKind.i64 tl, Col.int IntKind.i64 vl, Col.bool gl])]]) (5))
 (Kret (PV.tf false) ([[(1, false,
 Blk.cols mk [Col.int IntKind.i64 tk, Col.int IntKind.i64 vk, Col.bool gk]),
 (0, false,
 Blk.cols ml [Col.int IntKind.i64 tl, Col.int IntKind.i64 vl, Col.bool gl])]]) (5)))
 (False))))
 (Kret (PV.tf false) ([[(1, false,
 Blk.cols mk [Col.int IntKind.i64 tk, Col.int IntKind.i64 vk, Col.bool gk]),
 (0, false,
 Blk.cols ml [Col.int IntKind.i64 tl, Col.int IntKind.i64 vl, Col.bool gl])]]) (4)))
 (Kret (PV.tf false) ([[(1, false,
 Blk.cols mk [Col.int IntKind.i64 tk, Col.int IntKind.i64 vk, Col.bool gk]),
 (0, false,
 Blk.cols ml [Col.int IntKind.i64 tl, Col.int IntKind.i64 vl, Col.bool gl])]]) (4)))
 (Kret (PV.tf false) ([[(1, false,
 Blk.cols mk [Col.int IntKind.i64 tk, Col.int IntKind.i64 vk, Col.bool gk]),
 (0, false,
 Blk.cols ml [Col.int IntKind.i64 tl, Col.int IntKind.i64 vl, Col.bool gl])]]) (4)))
 (Kret (PV.tf false) ([[(1, false,
 Blk.cols mk [Col.int IntKind.i64 tk, Col.int IntKind.i64 vk, Col.bool gk]),
 (0, false,
 Blk.cols ml [Col.int IntKind.i64 tl, Col.int IntKind.i64 vl, Col.bool gl])]]) (4))
theorem te21 (test : Bool → Prop → Prop → Prop) (Kst : KS) (Kret : KR) (ca : Int) (af : Int) (al nl ml : Nat) (tl : Nat → Int) (vl : Nat → Int) (gl : Nat → Bool) (ov : Int) (re : Int) (fz : Bool) (cb : Int) (ab : Int) (ak nk mk : Nat) (tk : Nat → Int) (vk : Nat → Int) (gk : Nat → Bool) (ou : Int) (rd : Int) (fy : Bool) : run test Try.env true (xC test) true 400 ⟨21, [.cd (mkFn Try.f21).body], argT 0 [.agg [.int .i64 ca, .int .i64 af, .loose ⟨0, 3, al, 0⟩ nl, .int .i64 ov, .int .i64 re, .bool fz], .agg [.int .i64 cb, .int .i64 ab, .loose ⟨1, 3, ak, 0⟩ nk, .int .i64 ou, .int .i64 rd, .bool fy]], [[], [(0, (false, .cols ml [.int .i64 tl, .int .i64 vl, .bool gl])), (1, (false, .cols mk [.int .i64 tk, .int .i64 vk, .bool gk]))]], 2⟩ (proj 2 [] Kst Kret) =
  Te21 test Kst Kret ca af al nl ml tl vl gl ov re fz cb ab ak nk mk tk vk gk ou rd fy := by kernel_rfl
theorem be21 (ca : Int) (af : Int) (al nl ml : Nat) (tl : Nat → Int) (vl : Nat → Int) (gl : Nat → Bool) (ov : Int) (re : Int) (fz : Bool) (cb : Int) (ab : Int) (ak nk mk : Nat) (tk : Nat → Int) (vk : Nat → Int) (gk : Nat → Bool) (ou : Int) (rd : Int) (fy : Bool) (Kst : KS) (Kret : KR) (x : St21 ⊕ Rt21) (hS : HS 2 400 ((I21 ca af al nl ml tl vl gl ov re fz cb ab ak nk mk tk vk gk ou rd fy)) Kst x) (hR : HR 2 400 ((V21 ca af al nl ml tl vl gl ov re fz cb ab ak nk mk tk vk gk ou rd fy)) (fun r => [newL (2 + 1) ((N21 ca af al nl ml tl vl gl ov re fz cb ab ak nk mk tk vk gk ou rd fy) r) ++ [(0, (false, .cols ml [.int .i64 tl, .int .i64 vl, .bool gl])), (1, (false, .cols mk [.int .i64 tk, .int .i64 vk, .bool gk]))]]) Kret x) (h : p21 ca af al nl ml tl vl gl ov re fz cb ab ak nk mk tk vk gk ou rd fy = some x) : Te21 cond Kst Kret ca af al nl ml tl vl gl ov re fz cb ab ak nk mk tk vk gk ou rd fy := by
  unfold Te21
  unfold p21 at h
  refine bif_split h
   (fun c0 h => bif_split h
   (fun c1 h => bif_split h
   (fun c2 h => bif_split h
   (fun c3 h => bif_split h
   (fun c4 h => bif_split h
   (fun c5 h => bif_split h
   (fun c6 h => bif_split h
   (fun c7 h => ?_)
   (fun c7 h => ?_))
   (fun c6 h => ?_))
   (fun c5 h => ?_))
   (fun c4 h => bif_split h
   (fun c5 h => ?_)
   (fun c5 h => bif_split h
   (fun c6 h => bif_split h
   (fun c7 h => ?_)
   (fun c7 h => ?_))
   (fun c6 h => ?_))))
   (fun c3 h => ?_))
   (fun c2 h => ?_))
   (fun c1 h => ?_))
   (fun c0 h => ?_)
  all_goals first
    | exact ret_at hR _ h (fun n => n) rfl rfl rfl (rn_bool_tf rfl) rfl (entl_bor (use_lo rfl) rfl rfl (entl_bor (use_lo rfl) rfl rfl entl_nil))
    | exact no_some h
theorem a21 (ca : Int) (af : Int) (al nl ml : Nat) (tl : Nat → Int) (vl : Nat → Int) (gl : Nat → Bool) (ov : Int) (re : Int) (fz : Bool) (cb : Int) (ab : Int) (ak nk mk : Nat) (tk : Nat → Int) (vk : Nat → Int) (gk : Nat → Bool) (ou : Int) (rd : Int) (fy : Bool) {r : Rt21} (h : Goes ((q21 ca af al nl ml tl vl gl ov re fz cb ab ak nk mk tk vk gk ou rd fy)) ((p21 ca af al nl ml tl vl gl ov re fz cb ab ak nk mk tk vk gk ou rd fy)) r) : CallR Try.prog 21 [.agg [.int .i64 ca, .int .i64 af, .loose ⟨0, 3, al, 0⟩ nl, .int .i64 ov, .int .i64 re, .bool fz], .agg [.int .i64 cb, .int .i64 ab, .loose ⟨1, 3, ak, 0⟩ nk, .int .i64 ou, .int .i64 rd, .bool fy]] [[(0, (false, .cols ml [.int .i64 tl, .int .i64 vl, .bool gl])), (1, (false, .cols mk [.int .i64 tk, .int .i64 vk, .bool gk]))]] 2 ((V21 ca af al nl ml tl vl gl ov re fz cb ab ak nk mk tk vk gk ou rd fy) r) ((fun r => [newL (2 + 1) ((N21 ca af al nl ml tl vl gl ov re fz cb ab ak nk mk tk vk gk ou rd fy) r) ++ [(0, (false, .cols ml [.int .i64 tl, .int .i64 vl, .bool gl])), (1, (false, .cols mk [.int .i64 tk, .int .i64 vk, .bool gk]))]]) r) 400 ∧ ∃ F, Try.prog.funcs[21]? = some F ∧ F.body.isSome = true ∧ (F.name == "runtime.NumGoroutine") = false := by
  refine dec_calls (f := 21) (lo := 2) (hi := 400) (H := [[(0, (false, .cols ml [.int .i64 tl, .int .i64 vl, .bool gl])), (1, (false, .cols mk [.int .i64 tk, .int .i64 vk, .bool gk]))]]) (args := [.agg [.int .i64 ca, .int .i64 af, .loose ⟨0, 3, al, 0⟩ nl, .int .i64 ov, .int .i64 re, .bool fz], .agg [.int .i64 cb, .int .i64 ab, .loose ⟨1, 3, ak, 0⟩ nk, .int .i64 ou, .int .i64 rd, .bool fy]]) Try.envOk Try.mixed xC_ok ((I21 ca af al nl ml tl vl gl ov re fz cb ab ak nk mk tk vk gk ou rd fy)) ((V21 ca af al nl ml tl vl gl ov re fz cb ab ak nk mk tk vk gk ou rd fy)) (fun r => [newL (2 + 1) ((N21 ca af al nl ml tl vl gl ov re fz cb ab ak nk mk tk vk gk ou rd fy) r) ++ [(0, (false, .cols ml [.int .i64 tl, .int .i64 vl, .bool gl])), (1, (false, .cols mk [.int .i64 tk, .int .i64 vk, .bool gk]))]]) (fn := mkFn Try.f21) (ts := []) (n := 400) rfl (by decide) (by simp) (names_of rfl) ?_ ?_ ?_ h
  · intro s; exact s.elim
  · intro Kst Kret x hS hR h
    exact Holds.eq (te21 cond Kst Kret ca af al nl ml tl vl gl ov re fz cb ab ak nk mk tk vk gk ou rd fy) (be21 ca af al nl ml tl vl gl ov re fz cb ab ak nk mk tk vk gk ou rd fy Kst Kret x hS hR h)
  · intro Kst Kret x hS hR s h; exact s.elim
noncomputable def k21 : Con := ⟨21, [.agg [.plain (.int .i64), .plain (.int .i64), .list [.int .i64, .int .i64, .bool], .plain (.int .i64), .plain (.int .i64), .plain (.bool)], .agg [.plain (.int .i64), .plain (.int .i64), .list [.int .i64, .int .i64, .bool], .plain (.int .i64), .plain (.int .i64), .plain (.bool)]], fun (x : (Int × Int × (Nat × Nat × Nat × (Nat → Int) × (Nat → Int) × (Nat → Bool) × Unit) × Int × Int × Bool × Unit) × (Int × Int × (Nat × Nat × Nat × (Nat → Int) × (Nat → Int) × (Nat → Bool) × Unit) × Int × Int × Bool × Unit) × Unit) => (fun (ca : Int) (af : Int) (al nl ml : Nat) (tl : Nat → Int) (vl : Nat → Int) (gl : Nat → Bool) (ov : Int) (re : Int) (fz : Bool) (cb : Int) (ab : Int) (ak nk mk : Nat) (tk : Nat → Int) (vk : Nat → Int) (gk : Nat → Bool) (ou : Int) (rd : Int) (fy : Bool) => decide (al + nl ≤ ml ∧ nl ≤ 1000000 ∧ ak + nk ≤ mk ∧ nk ≤ 1000000)) x.1.1 x.1.2.1 x.1.2.2.1.1 x.1.2.2.1.2.1 x.1.2.2.1.2.2.1 x.1.2.2.1.2.2.2.1 x.1.2.2.1.2.2.2.2.1 x.1.2.2.1.2.2.2.2.2.1 x.1.2.2.2.1 x.1.2.2.2.2.1 x.1.2.2.2.2.2.1 x.2.1.1 x.2.1.2.1 x.2.1.2.2.1.1 x.2.1.2.2.1.2.1 x.2.1.2.2.1.2.2.1 x.2.1.2.2.1.2.2.2.1 x.2.1.2.2.1.2.2.2.2.1 x.2.1.2.2.1.2.2.2.2.2.1 x.2.1.2.2.2.1 x.2.1.2.2.2.2.1 x.2.1.2.2.2.2.2.1, fun (x : (Int × Int × (Nat × Nat × Nat × (Nat → Int) × (Nat → Int) × (Nat → Bool) × Unit) × Int × Int × Bool × Unit) × (Int × Int × (Nat × Nat × Nat × (Nat → Int) × (Nat → Int) × (Nat → Bool) × Unit) × Int × Int × Bool × Unit) × Unit) => (fun (ca : Int) (af : Int) (al nl ml : Nat) (tl : Nat → Int) (vl : Nat → Int) (gl : Nat → Bool) (ov : Int) (re : Int) (fz : Bool) (cb : Int) (ab : Int) (ak nk mk : Nat) (tk : Nat → Int) (vk : Nat → Int) (gk : Nat → Bool) (ou : Int) (rd : Int) (fy : Bool) => (V21 ca af al nl ml tl vl gl ov re fz cb ab ak nk mk tk vk gk ou rd fy) (decide (ca = cb ∧ af = ab ∧ ov = ou ∧ re = rd ∧ fz = fy ∧ (S.mkl nl fun j => (tl (j + al), vl (j + al), gl (j + al))) = (S.mkl nk fun j => (tk (j + ak), vk (j + ak), gk (j + ak)))))) x.1.1 x.1.2.1 x.1.2.2.1.1 x.1.2.2.1.2.1 x.1.2.2.1.2.2.1 x.1.2.2.1.2.2.2.1 x.1.2.2.1.2.2.2.2.1 x.1.2.2.1.2.2.2.2.2.1 x.1.2.2.2.1 x.1.2.2.2.2.1 x.1.2.2.2.2.2.1 x.2.1.1 x.2.1.2.1 x.2.1.2.2.1.1 x.2.1.2.2.1.2.1 x.2.1.2.2.1.2.2.1 x.2.1.2.2.1.2.2.2.1 x.2.1.2.2.1.2.2.2.2.1 x.2.1.2.2.1.2.2.2.2.2.1 x.2.1.2.2.2.1 x.2.1.2.2.2.2.1 x.2.1.2.2.2.2.2.1, fun (x : (Int × Int × (Nat × Nat × Nat × (Nat → Int) × (Nat → Int) × (Nat → Bool) × Unit) × Int × Int × Bool × Unit) × (Int × Int × (Nat × Nat × Nat × (Nat → Int) × (Nat → Int) × (Nat → Bool) × Unit) × Int × Int × Bool × Unit) × Unit) => (fun (ca : Int) (af : Int) (al nl ml : Nat) (tl : Nat → Int) (vl : Nat → Int) (gl : Nat → Bool) (ov : Int) (re : Int) (fz : Bool) (cb : Int) (ab : Int) (ak nk mk : Nat) (tk : Nat → Int) (vk : Nat → Int) (gk : Nat → Bool) (ou : Int) (rd : Int) (fy : Bool) => (N21 ca af al nl ml tl vl gl ov re fz cb ab ak nk mk tk vk gk ou rd fy) (decide (ca = cb ∧ af = ab ∧ ov = ou ∧ re = rd ∧ fz = fy ∧ (S.mkl nl fun j => (tl (j + al), vl (j + al), gl (j + al))) = (S.mkl nk fun j => (tk (j + ak), vk (j + ak), gk (j + ak)))))) x.1.1 x.1.2.1 x.1.2.2.1.1 x.1.2.2.1.2.1 x.1.2.2.1.2.2.1 x.1.2.2.1.2.2.2.1 x.1.2.2.1.2.2.2.2.1 x.1.2.2.1.2.2.2.2.2.1 x.1.2.2.2.1 x.1.2.2.2.2.1 x.1.2.2.2.2.2.1 x.2.1.1 x.2.1.2.1 x.2.1.2.2.1.1 x.2.1.2.2.1.2.1 x.2.1.2.2.1.2.2.1 x.2.1.2.2.1.2.2.2.1 x.2.1.2.2.1.2.2.2.2.1 x.2.1.2.2.1.2.2.2.2.2.1 x.2.1.2.2.2.1 x.2.1.2.2.2.2.1 x.2.1.2.2.2.2.2.1, fun _ _ => .dead⟩
theorem s21 (ca : Int) (af : Int) (al nl ml : Nat) (tl : Nat → Int) (vl : Nat → Int) (gl : Nat → Bool) (ov : Int) (re : Int) (fz : Bool) (cb : Int) (ab : Int) (ak nk mk : Nat) (tk : Nat → Int) (vk : Nat → Int) (gk : Nat → Bool) (ou : Int) (rd : Int) (fy : Bool) (hp : al + nl ≤ ml ∧ nl ≤ 1000000 ∧ ak + nk ≤ mk ∧ nk ≤ 1000000) : Goes ((q21 ca af al nl ml tl vl gl ov re fz cb ab ak nk mk tk vk gk ou rd fy)) ((p21 ca af al nl ml tl vl gl ov re fz cb ab ak nk mk tk vk gk ou rd fy)) (decide (ca = cb ∧ af = ab ∧ ov = ou ∧ re = rd ∧ fz = fy ∧ (S.mkl nl fun j => (tl (j + al), vl (j + al), gl (j + al))) = (S.mkl nk fun j => (tk (j + ak), vk (j + ak), gk (j + ak))))) := by
  obtain ⟨hp1, hp2, hp3, hp4⟩ := hp
  show Goes _ _ _
  unfold p21
  repeat' first
    | with_reducible refine goes_if (fun h => ?_) (fun h => ?_) <;> (try simp only [lim64, imp_false, decide_eq_true_eq, decide_eq_false_iff_not, Int.toNat_natCast, toNat_pred, toNat_succ, Option.getD_some, Option.getD_none, Bool.not_eq_true', Bool.not_eq_false', Bool.and_eq_true, Bool.or_eq_true, Bool.and_eq_false_iff, Bool.or_eq_false_iff, bne_iff_ne, beq_iff_eq, bne_eq_false_iff_eq, beq_eq_false_iff_ne, ne_eq, not_and, Int.not_le, Int.not_lt, ge_iff_le, gt_iff_lt, Nat.not_lt, Nat.not_le, Bool.not_eq_true, Bool.not_eq_false, Bool.true_eq_false, Bool.false_eq_true, not_false_eq_true, not_true_eq_false] at h)
    | exact goes_none.mpr (by omega)
  all_goals first
    | (exfalso; omega)
    | (refine goes_inr.mpr ?_; refine (decide_eq_true ?_).symm; simp_all; done)
    | (refine goes_inr.mpr ?_; refine (decide_eq_false ?_).symm; simp_all; done)
    | (refine goes_inr.mpr ?_; simp_all; done)
theorem k21_ok : k21.ok Try.prog := by
  intro x hx
  obtain ⟨⟨ca, af, ⟨al, nl, ml, tl, vl, gl, _⟩, ov, re, fz, _⟩, ⟨cb, ab, ⟨ak, nk, mk, tk, vk, gk, _⟩, ou, rd, fy, _⟩, _⟩ := x
  obtain ⟨h1, h2⟩ := a21 ca af al nl ml tl vl gl ov re fz cb ab ak nk mk tk vk gk ou rd fy (s21 ca af al nl ml tl vl gl ov re fz cb ab ak nk mk tk vk gk ou rd fy (of_dec hx rfl))
  exact ⟨⟨400, (by decide : 2 + 1 + 0 ≤ 400), h1⟩, h2⟩
theorem errS_congr {t v t' v' : Nat → Int} : ∀ (k i : Nat), (∀ j, i - 1 ≤ j → j < i + k → t j = t' j ∧ v j = v' j) → S.errS t v i k = S.errS t' v' i k := by
  intro k
  induction k with
  | zero => intro i h; rfl
  | succ k ih =>
    intro i h
    have h1 := h i (by omega) (by omega)
    have h2 := h (i - 1) (by omega) (by omega)
    simp only [S.errS]
    rw [h1.1, h1.2, h2.1, ih (i + 1) fun j a b => h j (by omega) (by omega)]
theorem vB_congr {ca af ov re : Int} {fz : Bool} {n : Nat} {t v t' v' : Nat → Int} (h : ∀ j, j < n → t j = t' j ∧ v j = v' j) : S.vB ca af n t v ov re fz = S.vB ca af n t' v' ov re fz := by
  simp only [S.vB, errS_congr n 0 fun j _ hj => h j (by omega)]
theorem putE_congr {ca af ov re st sv : Int} {fz : Bool} {n : Nat} {t v t' v' : Nat → Int} (h : ∀ j, j < n → t j = t' j ∧ v j = v' j) : S.putE ca af n t v ov re fz st sv = S.putE ca af n t' v' ov re fz st sv := by
  simp only [S.putE, vB_congr (ca := ca) (af := af) (ov := ov) (re := re) (fz := fz) h]
  by_cases h0 : 0 < n
  · rw [(h (n - 1) (by omega)).1]
  · simp only [h0, false_and]
theorem putS_congr {ca af ov re st sv : Int} {fz sg : Bool} {n : Nat} {t v t' v' : Nat → Int} {g g' : Nat → Bool} (h : ∀ j, j < n → t j = t' j ∧ v j = v' j ∧ g j = g' j) : S.putS ca af n t v g ov re fz st sv sg = S.putS ca af n t' v' g' ov re fz st sv sg := by
  simp only [S.putS, putE_congr (ca := ca) (af := af) (ov := ov) (re := re) (fz := fz) (st := st) (sv := sv) fun j hj => ⟨(h j hj).1, (h j hj).2.1⟩]
  rw [mkl_congr (n := n - 1) (f := fun j => (t (j + 1), v (j + 1), g (j + 1))) (g := fun j => (t' (j + 1), v' (j + 1), g' (j + 1))) fun j hj => by obtain ⟨a, b, c⟩ := h (j + 1) (by omega); simp only [a, b, c],
    mkl_congr (n := n) (f := fun j => (t j, v j, g j)) (g := fun j => (t' j, v' j, g' j)) fun j hj => by obtain ⟨a, b, c⟩ := h j hj; simp only [a, b, c]]
abbrev Row := Int × Int × Bool
section
variable {ca af ov re st sv a : Int} {fz sg : Bool} {n : Nat} {f : Nat → Row}
theorem vB_mkl : S.vB ca af (S.mkl n f).length (fun j => (S.at' (S.mkl n f) j).1) (fun j => (S.at' (S.mkl n f) j).2.1) ov re fz = S.vB ca af n (fun j => (f j).1) (fun j => (f j).2.1) ov re fz := by
  rw [mkl_len]; exact vB_congr fun j hj => by simp only [at_mkl hj, and_self]
theorem putS_mkl : S.putS ca af (S.mkl n f).length (fun j => (S.at' (S.mkl n f) j).1) (fun j => (S.at' (S.mkl n f) j).2.1) (fun j => (S.at' (S.mkl n f) j).2.2) ov re fz st sv sg = S.putS ca af n (fun j => (f j).1) (fun j => (f j).2.1) (fun j => (f j).2.2) ov re fz st sv sg := by
  rw [mkl_len]; exact putS_congr fun j hj => by simp only [at_mkl hj, and_self]
end
noncomputable def xG (test : Bool → Prop → Prop → Prop) : Ext := consX test [k11, k32, k21, k22, k17, k19, k12, k23, k47]
theorem xG_ok : ExtOk Try.prog (xG cond) := consX_ok ⟨k11_ok, k32_ok, k21_ok, k22_ok, k17_ok, k19_ok, k12_ok, k23_ok, k47_ok, trivial⟩
inductive St29 where
  | h0 (x0 : Int)
abbrev Rt29 := Bool
noncomputable def V29 (al nl ml : Nat) (tl : Nat → Int) (vl : Nat → Int) (gl : Nat → Bool) (ak nk mk : Nat) (tk : Nat → Int) (vk : Nat → Int) (gk : Nat → Bool) (r : Rt29) : PV := PV.bool r
noncomputable def N29 (al nl ml : Nat) (tl : Nat → Int) (vl : Nat → Int) (gl : Nat → Bool) (ak nk mk : Nat) (tk : Nat → Int) (vk : Nat → Int) (gk : Nat → Bool) (r : Rt29) : List Blk := []
noncomputable def I29 (al nl ml : Nat) (tl : Nat → Int) (vl : Nat → Int) (gl : Nat → Bool) (ak nk mk : Nat) (tk : Nat → Int) (vk : Nat → Int) (gk : Nat → Bool) : St29 → Hd
  | .h0 x0 => ⟨hd Try.f29 0, [PV.loose (PA.mk (0) (3) al (0)) nl,
 PV.loose (PA.mk (1) (3) ak (0)) nk, PV.int IntKind.i64 (↑nl : Int),
 PV.int IntKind.i64 x0], [[], [(0, (false, .cols ml [.int .i64 tl, .int .i64 vl, .bool gl])), (1, (false, .cols mk [.int .i64 tk, .int .i64 vk, .bool gk]))]], 2⟩
noncomputable def q29 (al nl ml : Nat) (tl : Nat → Int) (vl : Nat → Int) (gl : Nat → Bool) (ak nk mk : Nat) (tk : Nat → Int) (vk : Nat → Int) (gk : Nat → Bool) : St29 → Option (St29 ⊕ Rt29)
  | .h0 x0 => bif (decide (x0 < (↑nl : Int)))
 then (bif (decide ((0 : Int) ≤ x0 ∧ x0 < (↑nl : Int)))
 then (bif (decide (Int.toNat x0 + al < ml))
 then (bif (decide ((0 : Int) ≤ x0 ∧ x0 < (↑nk : Int)))
 then (bif (decide (Int.toNat x0 + ak < mk))
 then (bif (!(tl (Int.toNat x0 + al) == tk (Int.toNat x0 + ak) &&
 (vl (Int.toNat x0 + al) == vk (Int.toNat x0 + ak) &&
 (gl (Int.toNat x0 + al) == gk (Int.toNat x0 + ak) && true))))
 then (some (.inr (false)))
 else (bif (lim IntKind.i64 (x0 + (1 : Int)))
 then (some (.inl (.h0 (x0 + (1 : Int)))))
 else (none)))
 else (none))
 else (none))
 else (none))
 else (none))
 else (some (.inr (true)))
noncomputable def p29 (al nl ml : Nat) (tl : Nat → Int) (vl : Nat → Int) (gl : Nat → Bool) (ak nk mk : Nat) (tk : Nat → Int) (vk : Nat → Int) (gk : Nat → Bool) : Option (St29 ⊕ Rt29) := bif ((↑nl : Int) != (↑nk : Int))
 then (some (.inr (false)))
 else (some (.inl (.h0 ((0 : Int)))))
noncomputable def Te29 (test : Bool → Prop → Prop → Prop) (Kst : KS) (Kret : KR) (al nl ml : Nat) (tl : Nat → Int) (vl : Nat → Int) (gl : Nat → Bool) (ak nk mk : Nat) (tk : Nat → Int) (vk : Nat → Int) (gk : Nat → Bool) : Prop :=
  test ((↑nl : Int) != (↑nk : Int))
 (Kret (PV.tf false) ([[(1, false,
 Blk.cols mk [Col.int IntKind.i64 tk, Col.int IntKind.i64 vk, Col.bool gk]),
 (0, false,
 Blk.cols ml [Col.int IntKind.i64 tl, Col.int IntKind.i64 vl, Col.bool gl])]]) (2))
 (Kst (hd Try.f29 0) ([PV.loose (PA.mk (0) (3) al (0)) nl,
 PV.loose (PA.mk (1) (3) ak (0)) nk, PV.int IntKind.i64 (↑nl : Int),
 PV.int IntKind.i64 (0 : Int)]) ([[(1, false,
 Blk.cols mk [Col.int IntKind.i64 tk, Col.int IntKind.i64 vk, Col.bool gk]),
 (0, false,
 Blk.cols ml [Col.int IntKind.i64 tl, Col.int IntKind.i64 vl, Col.bool gl])]]) (2))
theorem te29 (test : Bool → Prop → Prop → Prop) (Kst : KS) (Kret : KR) (al nl ml : Nat) (tl : Nat → Int) (vl : Nat → Int) (gl : Nat → Bool) (ak nk mk : Nat) (tk : Nat → Int) (vk : Nat → Int) (gk : Nat → Bool) : run test Try.env true (xG test) true 400 ⟨29, [.cd (mkFn Try.f29).body], argT 0 [.loose ⟨0, 3, al, 0⟩ nl, .loose ⟨1, 3, ak, 0⟩ nk], [[], [(0, (false, .cols ml [.int .i64 tl, .int .i64 vl, .bool gl])), (1, (false, .cols mk [.int .i64 tk, .int .i64 vk, .bool gk]))]], 2⟩ (proj 2 [0, 1, 12, 13] Kst Kret) =
  Te29 test Kst Kret al nl ml tl vl gl ak nk mk tk vk gk := by kernel_rfl
noncomputable def T29_0 (test : Bool → Prop → Prop → Prop) (Kst : KS) (Kret : KR) (al nl ml : Nat) (tl : Nat → Int) (vl : Nat → Int) (gl : Nat → Bool) (ak nk mk : Nat) (tk : Nat → Int) (vk : Nat → Int) (gk : Nat → Bool) (x0 : Int) : Prop :=
  test (decide (x0 < (↑nl : Int)))
 (test (decide ((0 : Int) ≤ x0 ∧ x0 < (↑nl : Int)))
 (test (decide (Int.toNat x0 + al < ml))
 (test (decide (Int.toNat x0 + al < ml))
 (test (decide (Int.toNat x0 + al < ml))
 (test (decide ((0 : Int) ≤ x0 ∧ x0 < (↑nk : Int)))
 (test (decide (Int.toNat x0 + ak < mk))
 (test (decide (Int.toNat x0 + ak < mk))
 (test (decide (Int.toNat x0 + ak < mk))
 (test (!(tl (Int.toNat x0 + al) == tk (Int.toNat x0 + ak) &&
 (vl (Int.toNat x0 + al) == vk (Int.toNat x0 + ak) &&
 (gl (Int.toNat x0 + al) == gk (Int.toNat x0 + ak) && true))))
 (Kret (PV.tf false) ([[(1, false,
 Blk.cols mk [Col.int IntKind.i64 tk, Col.int IntKind.i64 vk, Col.bool gk]),
 (0, false,
 Blk.cols ml [Col.int IntKind.i64 tl, Col.int IntKind.i64 vl, Col.bool gl])]]) (2))
 (test (lim IntKind.i64 (x0 + (1 : Int)))
 (Kst (hd Try.f29 0) ([PV.loose (PA.mk (0) (3) al (0)) nl,
 PV.loose (PA.mk (1) (3) ak (0)) nk, PV.int IntKind.i64 (↑nl : Int),
 PV.int IntKind.i64 (x0 + (1 : Int))]) ([[(1, false,
 Blk.cols mk [Col.int IntKind.i64 tk, Col.int IntKind.i64 vk, Col.bool gk]),
 (0, false,
 Blk.cols ml [Col.int IntKind.i64 tl, Col.int IntKind.i64 vl, Col.bool gl])]]) (2))
 (False)))
 (False))
 (False))
 (False))
 (False))
 (False))
 (False))
 (False))
 (False))
 (Kret (PV.tf true) ([[(1, false,
 Blk.cols mk [Col.int IntKind.i64 tk, Col.int IntKind.i64 vk, Col.bool gk]),
 (0, false,
 Blk.cols ml [Col.int IntKind.i64 tl, Col.int IntKind.i64 vl, Col.bool gl])]]) (2))
theorem t29_0 (test : Bool → Prop → Prop → Prop) (Kst : KS) (Kret : KR) (al nl ml : Nat) (tl : Nat → Int) (vl : Nat → Int) (gl : Nat → Bool) (ak nk mk : Nat) (tk : Nat → Int) (vk : Nat → Int) (gk : Nat → Bool) (x0 : Int) : run test Try.env true (xG test) true 400 ⟨29, hd Try.f29 0, zipT [0, 1, 12, 13] [PV.loose (PA.mk (0) (3) al (0)) nl,
 PV.loose (PA.mk (1) (3) ak (0)) nk, PV.int IntKind.i64 (↑nl : Int),
 PV.int IntKind.i64 x0], [[], [(0, (false, .cols ml [.int .i64 tl, .int .i64 vl, .bool gl])), (1, (false, .cols mk [.int .i64 tk, .int .i64 vk, .bool gk]))]], 2⟩ (proj 2 [0, 1, 12, 13] Kst Kret) =
  T29_0 test Kst Kret al nl ml tl vl gl ak nk mk tk vk gk x0 := by kernel_rfl
theorem be29 (al nl ml : Nat) (tl : Nat → Int) (vl : Nat → Int) (gl : Nat → Bool) (ak nk mk : Nat) (tk : Nat → Int) (vk : Nat → Int) (gk : Nat → Bool) (Kst : KS) (Kret : KR) (x : St29 ⊕ Rt29) (hS : HS 2 400 ((I29 al nl ml tl vl gl ak nk mk tk vk gk)) Kst x) (hR : HR 2 400 ((V29 al nl ml tl vl gl ak nk mk tk vk gk)) (fun r => [newL (2 + 1) ((N29 al nl ml tl vl gl ak nk mk tk vk gk) r) ++ [(0, (false, .cols ml [.int .i64 tl, .int .i64 vl, .bool gl])), (1, (false, .cols mk [.int .i64 tk, .int .i64 vk, .bool gk]))]]) Kret x) (h : p29 al nl ml tl vl gl ak nk mk tk vk gk = some x) : Te29 cond Kst Kret al nl ml tl vl gl ak nk mk tk vk gk := by
  unfold Te29
  unfold p29 at h
  refine bif_split h
   (fun c0 h => ret_at hR _ h (fun n => n) rfl rfl rfl (rn_bool_tf rfl) rfl (entl_bor (use_lo rfl) rfl rfl (entl_bor (use_lo rfl) rfl rfl entl_nil)))
   (fun c0 h => stop_at hS _ h (fun n => n) rfl rfl rfl ⟨(rn_loose (use_lo rfl) rfl rfl rfl), ⟨(rn_loose (use_lo rfl) rfl rfl rfl), ⟨(rn_int rfl), ⟨(rn_int rfl), trivial⟩⟩⟩⟩ rfl (entl_bor (use_lo rfl) rfl rfl (entl_bor (use_lo rfl) rfl rfl entl_nil)))
theorem b29_0 (al nl ml : Nat) (tl : Nat → Int) (vl : Nat → Int) (gl : Nat → Bool) (ak nk mk : Nat) (tk : Nat → Int) (vk : Nat → Int) (gk : Nat → Bool) (Kst : KS) (Kret : KR) (x : St29 ⊕ Rt29) (hS : HS 2 400 ((I29 al nl ml tl vl gl ak nk mk tk vk gk)) Kst x) (hR : HR 2 400 ((V29 al nl ml tl vl gl ak nk mk tk vk gk)) (fun r => [newL (2 + 1) ((N29 al nl ml tl vl gl ak nk mk tk vk gk) r) ++ [(0, (false, .cols ml [.int .i64 tl, .int .i64 vl, .bool gl])), (1, (false, .cols mk [.int .i64 tk, .int .i64 vk, .bool gk]))]]) Kret x) (x0 : Int) (h : (bif (decide (x0 < (↑nl : Int)))
 then (bif (decide ((0 : Int) ≤ x0 ∧ x0 < (↑nl : Int)))
 then (bif (decide (Int.toNat x0 + al < ml))
 then (bif (decide ((0 : Int) ≤ x0 ∧ x0 < (↑nk : Int)))
 then (bif (decide (Int.toNat x0 + ak < mk))
 then (bif (!(tl (Int.toNat x0 + al) == tk (Int.toNat x0 + ak) &&
 (vl (Int.toNat x0 + al) == vk (Int.toNat x0 + ak) &&
 (gl (Int.toNat x0 + al) == gk (Int.toNat x0 + ak) && true))))
 then (some (.inr (false)))
 else (bif (lim IntKind.i64 (x0 + (1 : Int)))
 then (some (.inl (.h0 (x0 + (1 : Int)))))
 else (none)))
 else (none))
 else (none))
 else (none))
 else (none))
 else (some (.inr (true))) : Option (St29 ⊕ Rt29)) = some x) : T29_0 cond Kst Kret al nl ml tl vl gl ak nk mk tk vk gk x0 := by
  unfold T29_0
  exact bif_split h
   (fun c0 h => bif_split h
   (fun c1 h => bif_split h
   (fun c2 h => cond_yes c2 (cond_yes c2 (bif_split h
   (fun c3 h => bif_split h
   (fun c4 h => cond_yes c4 (cond_yes c4 (bif_split h
   (fun c5 h => ret_at hR _ h (fun n => n) rfl rfl rfl (rn_bool_tf rfl) rfl (entl_bor (use_lo rfl) rfl rfl (entl_bor (use_lo rfl) rfl rfl entl_nil)))
   (fun c5 h => bif_split h
   (fun c6 h => stop_at hS _ h (fun n => n) rfl rfl rfl ⟨(rn_loose (use_lo rfl) rfl rfl rfl), ⟨(rn_loose (use_lo rfl) rfl rfl rfl), ⟨(rn_int rfl), ⟨(rn_int rfl), trivial⟩⟩⟩⟩ rfl (entl_bor (use_lo rfl) rfl rfl (entl_bor (use_lo rfl) rfl rfl entl_nil)))
   (fun c6 h => no_some h)))))
   (fun c4 h => no_some h))
   (fun c3 h => no_some h))))
   (fun c2 h => no_some h))
   (fun c1 h => no_some h))
   (fun c0 h => ret_at hR _ h (fun n => n) rfl rfl rfl (rn_bool_tf rfl) rfl (entl_bor (use_lo rfl) rfl rfl (entl_bor (use_lo rfl) rfl rfl entl_nil)))
theorem a29 (al nl ml : Nat) (tl : Nat → Int) (vl : Nat → Int) (gl : Nat → Bool) (ak nk mk : Nat) (tk : Nat → Int) (vk : Nat → Int) (gk : Nat → Bool) {r : Rt29} (h : Goes ((q29 al nl ml tl vl gl ak nk mk tk vk gk)) ((p29 al nl ml tl vl gl ak nk mk tk vk gk)) r) : CallR Try.prog 29 [.loose ⟨0, 3, al, 0⟩ nl, .loose ⟨1, 3, ak, 0⟩ nk] [[(0, (false, .cols ml [.int .i64 tl, .int .i64 vl, .bool gl])), (1, (false, .cols mk [.int .i64 tk, .int .i64 vk, .bool gk]))]] 2 ((V29 al nl ml tl vl gl ak nk mk tk vk gk) r) ((fun r => [newL (2 + 1) ((N29 al nl ml tl vl gl ak nk mk tk vk gk) r) ++ [(0, (false, .cols ml [.int .i64 tl, .int .i64 vl, .bool gl])), (1, (false, .cols mk [.int .i64 tk, .int .i64 vk, .bool gk]))]]) r) 400 ∧ ∃ F, Try.prog.funcs[29]? = some F ∧ F.body.isSome = true ∧ (F.name == "runtime.NumGoroutine") = false := by
  refine dec_calls (f := 29) (lo := 2) (hi := 400) (H := [[(0, (false, .cols ml [.int .i64 tl, .int .i64 vl, .bool gl])), (1, (false, .cols mk [.int .i64 tk, .int .i64 vk, .bool gk]))]]) (args := [.loose ⟨0, 3, al, 0⟩ nl, .loose ⟨1, 3, ak, 0⟩ nk]) Try.envOk Try.mixed xG_ok ((I29 al nl ml tl vl gl ak nk mk tk vk gk)) ((V29 al nl ml tl vl gl ak nk mk tk vk gk)) (fun r => [newL (2 + 1) ((N29 al nl ml tl vl gl ak nk mk tk vk gk) r) ++ [(0, (false, .cols ml [.int .i64 tl, .int .i64 vl, .bool gl])), (1, (false, .cols mk [.int .i64 tk, .int .i64 vk, .bool gk]))]]) (fn := mkFn Try.f29) (ts := [0, 1, 12, 13]) (n := 400) rfl (by decide) (by simp) (names_of rfl) ?_ ?_ ?_ h
  · intro s; cases s <;> exact ⟨hd_ok _ _, by simp [I29], names_of rfl, Nat.le_of_ble_eq_true rfl⟩
  · intro Kst Kret x hS hR h
    exact Holds.eq (te29 cond Kst Kret al nl ml tl vl gl ak nk mk tk vk gk) (be29 al nl ml tl vl gl ak nk mk tk vk gk Kst Kret x hS hR h)
  · intro Kst Kret x hS hR s h
    cases s with
    | h0 x0 => exact Holds.eq (t29_0 cond Kst Kret al nl ml tl vl gl ak nk mk tk vk gk x0) (b29_0 al nl ml tl vl gl ak nk mk tk vk gk Kst Kret x hS hR x0 h)
noncomputable def k29 : Con := ⟨29, [.one (.list [.int .i64, .int .i64, .bool]), .one (.list [.int .i64, .int .i64, .bool])], fun (x : (Nat × Nat × Nat × (Nat → Int) × (Nat → Int) × (Nat → Bool) × Unit) × (Nat × Nat × Nat × (Nat → Int) × (Nat → Int) × (Nat → Bool) × Unit) × Unit) => (fun (al nl ml : Nat) (tl : Nat → Int) (vl : Nat → Int) (gl : Nat → Bool) (ak nk mk : Nat) (tk : Nat → Int) (vk : Nat → Int) (gk : Nat → Bool) => decide (al + nl ≤ ml ∧ nl ≤ 1000000 ∧ ak + nk ≤ mk ∧ nk ≤ 1000000)) x.1.1 x.1.2.1 x.1.2.2.1 x.1.2.2.2.1 x.1.2.2.2.2.1 x.1.2.2.2.2.2.1 x.2.1.1 x.2.1.2.1 x.2.1.2.2.1 x.2.1.2.2.2.1 x.2.1.2.2.2.2.1 x.2.1.2.2.2.2.2.1, fun (x : (Nat × Nat × Nat × (Nat → Int) × (Nat → Int) × (Nat → Bool) × Unit) × (Nat × Nat × Nat × (Nat → Int) × (Nat → Int) × (Nat → Bool) × Unit) × Unit) => (fun (al nl ml : Nat) (tl : Nat → Int) (vl : Nat → Int) (gl : Nat → Bool) (ak nk mk : Nat) (tk : Nat → Int) (vk : Nat → Int) (gk : Nat → Bool) => (V29 al nl ml tl vl gl ak nk mk tk vk gk) (decide ((S.mkl nl fun j => (tl (j + al), vl (j + al), gl (j + al))) = (S.mkl nk fun j => (tk (j + ak), vk (j + ak), gk (j + ak)))))) x.1.1 x.1.2.1 x.1.2.2.1 x.1.2.2.2.1 x.1.2.2.2.2.1 x.1.2.2.2.2.2.1 x.2.1.1 x.2.1.2.1 x.2.1.2.2.1 x.2.1.2.2.2.1 x.2.1.2.2.2.2.1 x.2.1.2.2.2.2.2.1, fun (x : (Nat × Nat × Nat × (Nat → Int) × (Nat → Int) × (Nat → Bool) × Unit) × (Nat × Nat × Nat × (Nat → Int) × (Nat → Int) × (Nat → Bool) × Unit) × Unit) => (fun (al nl ml : Nat) (tl : Nat → Int) (vl : Nat → Int) (gl : Nat → Bool) (ak nk mk : Nat) (tk : Nat → Int) (vk : Nat → Int) (gk : Nat → Bool) => (N29 al nl ml tl vl gl ak nk mk tk vk gk) (decide ((S.mkl nl fun j => (tl (j + al), vl (j + al), gl (j + al))) = (S.mkl nk fun j => (tk (j + ak), vk (j + ak), gk (j + ak)))))) x.1.1 x.1.2.1 x.1.2.2.1 x.1.2.2.2.1 x.1.2.2.2.2.1 x.1.2.2.2.2.2.1 x.2.1.1 x.2.1.2.1 x.2.1.2.2.1 x.2.1.2.2.2.1 x.2.1.2.2.2.2.1 x.2.1.2.2.2.2.2.1, fun _ _ => .dead⟩
theorem s29' (al nl ml : Nat) (tl : Nat → Int) (vl : Nat → Int) (gl : Nat → Bool) (ak nk mk : Nat) (tk : Nat → Int) (vk : Nat → Int) (gk : Nat → Bool) (hp : al + nl ≤ ml ∧ nl ≤ 1000000 ∧ ak + nk ≤ mk ∧ nk ≤ 1000000) (hn : nl = nk) : ∀ d i : Nat, i + d = nl → (∀ j, j < i → (tl (j + al), vl (j + al), gl (j + al)) = (tk (j + ak), vk (j + ak), gk (j + ak))) → Comes (q29 al nl ml tl vl gl ak nk mk tk vk gk) (.h0 (i : Int)) (decide ((S.mkl nl fun j => (tl (j + al), vl (j + al), gl (j + al))) = (S.mkl nk fun j => (tk (j + ak), vk (j + ak), gk (j + ak))))) := by
  obtain ⟨hp1, hp2, hp3, hp4⟩ := hp
  intro d
  induction d with
  | zero =>
    intro i hi hj
    apply Comes.of
    show Goes _ _ _
    (first | rw [q29] | unfold q29)
    repeat' first
      | with_reducible refine goes_if (fun h => ?_) (fun h => ?_) <;> (try simp only [lim64, imp_false, decide_eq_true_eq, decide_eq_false_iff_not, Int.toNat_natCast, toNat_pred, toNat_succ, Option.getD_some, Option.getD_none, Bool.not_eq_true', Bool.not_eq_false', Bool.and_eq_true, Bool.or_eq_true, Bool.and_eq_false_iff, Bool.or_eq_false_iff, bne_iff_ne, beq_iff_eq, bne_eq_false_iff_eq, beq_eq_false_iff_ne, ne_eq, not_and, Int.not_le, Int.not_lt, ge_iff_le, gt_iff_lt, Nat.not_lt, Nat.not_le, Bool.not_eq_true, Bool.not_eq_false, Bool.true_eq_false, Bool.false_eq_true, not_false_eq_true, not_true_eq_false] at h)
      | exact goes_none.mpr (by omega)
    all_goals first | (exfalso; omega) | (refine goes_inr.mpr ?_; exact (decide_eq_true (mkl_inj.2 ⟨hn, fun j h => hj j (by omega)⟩)).symm)
  | succ d ih =>
    intro i hi hj
    have ih := ih (i + 1) (by omega)
    apply Comes.of
    show Goes _ _ _
    (first | rw [q29] | unfold q29)
    repeat' first
      | with_reducible refine goes_if (fun h => ?_) (fun h => ?_) <;> (try simp only [lim64, imp_false, decide_eq_true_eq, decide_eq_false_iff_not, Int.toNat_natCast, toNat_pred, toNat_succ, Option.getD_some, Option.getD_none, Bool.not_eq_true', Bool.not_eq_false', Bool.and_eq_true, Bool.or_eq_true, Bool.and_eq_false_iff, Bool.or_eq_false_iff, bne_iff_ne, beq_iff_eq, bne_eq_false_iff_eq, beq_eq_false_iff_ne, ne_eq, not_and, Int.not_le, Int.not_lt, ge_iff_le, gt_iff_lt, Nat.not_lt, Nat.not_le, Bool.not_eq_true, Bool.not_eq_false, Bool.true_eq_false, Bool.false_eq_true, not_false_eq_true, not_true_eq_false] at h)
      | exact goes_none.mpr (by omega)
    all_goals first
      | (exfalso; omega)
      | (refine goes_inr.mpr ?_
         refine (decide_eq_false fun h' => ?_).symm
         have := (mkl_inj.1 h').2 i (by omega)
         simp only [Prod.mk.injEq] at this
         simp_all)
      | (refine ih fun j h' => ?_
         rcases Nat.lt_or_ge j i with h'' | h''
         · exact hj j h''
         · obtain rfl : j = i := by omega
           simp_all)
theorem s29 (al nl ml : Nat) (tl : Nat → Int) (vl : Nat → Int) (gl : Nat → Bool) (ak nk mk : Nat) (tk : Nat → Int) (vk : Nat → Int) (gk : Nat → Bool) (hp : al + nl ≤ ml ∧ nl ≤ 1000000 ∧ ak + nk ≤ mk ∧ nk ≤ 1000000) : Goes ((q29 al nl ml tl vl gl ak nk mk tk vk gk)) ((p29 al nl ml tl vl gl ak nk mk tk vk gk)) (decide ((S.mkl nl fun j => (tl (j + al), vl (j + al), gl (j + al))) = (S.mkl nk fun j => (tk (j + ak), vk (j + ak), gk (j + ak))))) := by
  by_cases hn : nl = nk
  · show Goes _ _ _
    unfold p29
    repeat' first
      | with_reducible refine goes_if (fun h => ?_) (fun h => ?_) <;> (try simp only [lim64, imp_false, decide_eq_true_eq, decide_eq_false_iff_not, Int.toNat_natCast, toNat_pred, toNat_succ, Option.getD_some, Option.getD_none, Bool.not_eq_true', Bool.not_eq_false', Bool.and_eq_true, Bool.or_eq_true, Bool.and_eq_false_iff, Bool.or_eq_false_iff, bne_iff_ne, beq_iff_eq, bne_eq_false_iff_eq, beq_eq_false_iff_ne, ne_eq, not_and, Int.not_le, Int.not_lt, ge_iff_le, gt_iff_lt, Nat.not_lt, Nat.not_le, Bool.not_eq_true, Bool.not_eq_false, Bool.true_eq_false, Bool.false_eq_true, not_false_eq_true, not_true_eq_false] at h)
      | exact goes_none.mpr (by omega)
    all_goals first | (exfalso; omega) | exact s29' al nl ml tl vl gl ak nk mk tk vk gk hp hn nl 0 (by omega) (fun j h => absurd h (by omega))
  · show Goes _ _ _
    unfold p29
    repeat' first
      | with_reducible refine goes_if (fun h => ?_) (fun h => ?_) <;> (try simp only [lim64, imp_false, decide_eq_true_eq, decide_eq_false_iff_not, Int.toNat_natCast, toNat_pred, toNat_succ, Option.getD_some, Option.getD_none, Bool.not_eq_true', Bool.not_eq_false', Bool.and_eq_true, Bool.or_eq_true, Bool.and_eq_false_iff, Bool.or_eq_false_iff, bne_iff_ne, beq_iff_eq, bne_eq_false_iff_eq, beq_eq_false_iff_ne, ne_eq, not_and, Int.not_le, Int.not_lt, ge_iff_le, gt_iff_lt, Nat.not_lt, Nat.not_le, Bool.not_eq_true, Bool.not_eq_false, Bool.true_eq_false, Bool.false_eq_true, not_false_eq_true, not_true_eq_false] at h)
      | exact goes_none.mpr (by omega)
    all_goals first | (exfalso; omega) | (refine goes_inr.mpr ?_; exact (decide_eq_false fun h' => hn (mkl_inj.1 h').1).symm)
theorem k29_ok : k29.ok Try.prog := by
  intro x hx
  obtain ⟨⟨al, nl, ml, tl, vl, gl, _⟩, ⟨ak, nk, mk, tk, vk, gk, _⟩, _⟩ := x
  obtain ⟨h1, h2⟩ := a29 al nl ml tl vl gl ak nk mk tk vk gk (s29 al nl ml tl vl gl ak nk mk tk vk gk (of_dec hx rfl))
  exact ⟨⟨400, (by decide : 2 + 1 + 0 ≤ 400), h1⟩, h2⟩
noncomputable def xH (test : Bool → Prop → Prop → Prop) : Ext := consX test [k11, k29, k32, k22]
theorem xH_ok : ExtOk Try.prog (xH cond) := consX_ok ⟨k11_ok, k29_ok, k32_ok, k22_ok, trivial⟩
theorem errS_ok {t v : Nat → Int} : ∀ (k i : Nat), S.errS t v i k = 0 ↔ ∀ j, i ≤ j → j < i + k → S.okS (t j) (v j) = true ∧ (0 < j → t (j - 1) ≤ t j) := by
  intro k
  induction k with
  | zero => intro i; simp only [S.errS, true_iff]; intro j h1 h2; omega
  | succ k ih =>
    intro i
    simp only [S.errS]
    constructor
    · intro h j h1 h2
      split at h
      · rename_i ho
        split at h
        · cases h
        · rename_i hd
          rcases Nat.lt_or_ge i j with h3 | h3
          · exact (ih (i + 1)).1 h j h3 (by omega)
          · obtain rfl : j = i := by omega
            exact ⟨ho, fun h0 => by omega⟩
      · cases h
    · intro h
      obtain ⟨h1, h2⟩ := h i (Nat.le_refl _) (by omega)
      rw [if_pos h1, if_neg (by intro h3; have := h2 h3.1; omega)]
      exact (ih (i + 1)).2 fun j h3 h4 => h j (by omega) (by omega)
section
variable {ca af ov re a b : Int} {fz : Bool} {n : Nat}
end
section
variable {ca af ov re st sv a kd : Int} {fz sg : Bool} {n : Nat} {t v : Nat → Int} {g : Nat → Bool}
end
namespace S
def sumT (t : Nat → Int) : Nat → Int
  | 0 => 0
  | i + 1 => sumT t i + (t i).tdiv 16
def bytes (n : Nat) (t : Nat → Int) : Bool := decide (∀ j, j < n → 0 ≤ t j ∧ t j ≤ 255)
def kdT (x : Int) : Int := if x.tmod 16 = 15 then 3 else if x.tmod 16 = 14 then 2 else 1
def stepsT (n : Nat) (t v : Nat → Int) : List (Int × Int × Int × Bool) := mkl n fun j => (kdT (t j), sumT t (j + 1), (v j).tmod 32 - 16, decide (32 ≤ v j))
end S
theorem lim8 (n : Int) : lim .u8 n = decide (0 ≤ n ∧ n ≤ 255) := rfl
theorem byte_facts {x : Int} (h : 0 ≤ x ∧ x ≤ 255) : 0 ≤ x.tdiv 16 ∧ x.tdiv 16 ≤ 15 ∧ 0 ≤ x.tmod 16 ∧ x.tmod 16 < 16 ∧ 0 ≤ x.tmod 32 ∧ x.tmod 32 < 32 ∧ 0 ≤ x.tmod 10 ∧ x.tmod 10 < 10 ∧ 0 ≤ x.tmod 11 ∧ x.tmod 11 < 11 ∧ 0 ≤ x.tmod 20 ∧ x.tmod 20 < 20 := by
  rw [Int.tdiv_eq_ediv_of_nonneg h.1, Int.tmod_eq_emod_of_nonneg h.1, Int.tmod_eq_emod_of_nonneg h.1, Int.tmod_eq_emod_of_nonneg h.1, Int.tmod_eq_emod_of_nonneg h.1, Int.tmod_eq_emod_of_nonneg h.1]
  omega
theorem sumT_ok {t : Nat → Int} : ∀ {n : Nat}, (∀ j, j < n → 0 ≤ t j ∧ t j ≤ 255) → 0 ≤ S.sumT t n ∧ S.sumT t n ≤ 15 * n
  | 0, _ => by simp [S.sumT]
  | n + 1, h => by
    have h1 := sumT_ok (n := n) fun j hj => h j (by omega)
    have h2 := byte_facts (h n (by omega))
    simp only [S.sumT]
    omega
inductive St37 where
  | h0 (x0 : Int) (x1 : Int) (x2 : List (Int × Int × Int × Bool))
abbrev Rt37 := List (Int × Int × Int × Bool)
noncomputable def V37 (al nl ml : Nat) (tl : Nat → Int) (vl : Nat → Int) (r : Rt37) : PV := PV.own (2) (4) (List.length r)
noncomputable def N37 (al nl ml : Nat) (tl : Nat → Int) (vl : Nat → Int) (r : Rt37) : List Blk := [Blk.cols (List.length r)
 [Col.int IntKind.i64 fun j => (S.at' r j).1,
 Col.int IntKind.i64 fun j => (S.at' r j).2.1,
 Col.int IntKind.i64 fun j => (S.at' r j).2.2.1,
 Col.bool fun j => (S.at' r j).2.2.2]]
noncomputable def I37 (al nl ml : Nat) (tl : Nat → Int) (vl : Nat → Int) : St37 → Hd
  | .h0 x0 x1 x2 => ⟨hd Try.f37 0, [PV.loose (PA.mk (0) (2) al (0)) nl,
 PV.own (1) (4) (List.length x2), PV.int IntKind.i64 x0, PV.int IntKind.i64 x1], [[(1, (true, Blk.cols (List.length x2)
 [Col.int IntKind.i64 fun j => (S.at' x2 j).1,
 Col.int IntKind.i64 fun j => (S.at' x2 j).2.1,
 Col.int IntKind.i64 fun j => (S.at' x2 j).2.2.1,
 Col.bool fun j => (S.at' x2 j).2.2.2]))], [(0, (false, .cols ml [.int .u8 tl, .int .u8 vl]))]], 2⟩
noncomputable def q37 (al nl ml : Nat) (tl : Nat → Int) (vl : Nat → Int) : St37 → Option (St37 ⊕ Rt37)
  | .h0 x0 x1 x2 => bif (decide (x1 < (↑nl : Int)))
 then (bif (decide ((0 : Int) ≤ x1 ∧ x1 < (↑nl : Int)))
 then (bif (decide (Int.toNat x1 + al < ml))
 then (bif (Int.tmod (tl (Int.toNat x1 + al)) (16 : Int) == (14 : Int))
 then (bif (Int.tmod (tl (Int.toNat x1 + al)) (16 : Int) == (15 : Int))
 then (bif (lim IntKind.u8 (Int.tdiv (tl (Int.toNat x1 + al)) (16 : Int)))
 then (bif (lim IntKind.i64 (Int.tdiv (tl (Int.toNat x1 + al)) (16 : Int)))
 then (bif (lim IntKind.i64 (x0 + Int.tdiv (tl (Int.toNat x1 + al)) (16 : Int)))
 then (bif (lim IntKind.i64 (Int.tmod (vl (Int.toNat x1 + al)) (32 : Int)))
 then (bif (lim IntKind.i64 (Int.tmod (vl (Int.toNat x1 + al)) (32 : Int) - (16 : Int)))
 then (bif (decide (vl (Int.toNat x1 + al) ≥ (32 : Int)))
 then (bif (decide (List.length x2 + 1 ≤ 1000000))
 then (bif (decide (List.length x2 ≤ List.length x2))
 then (bif (lim IntKind.i64 (x1 + (1 : Int)))
 then (some (.inl (.h0 (x0 + Int.tdiv (tl (Int.toNat x1 + al)) (16 : Int)) (x1 + (1 : Int)) (S.snoc x2
 ((3 : Int), x0 + Int.tdiv (tl (Int.toNat x1 + al)) (16 : Int),
 Int.tmod (vl (Int.toNat x1 + al)) (32 : Int) - (16 : Int), true)))))
 else (none))
 else (none))
 else (none))
 else (bif (decide (List.length x2 + 1 ≤ 1000000))
 then (bif (decide (List.length x2 ≤ List.length x2))
 then (bif (lim IntKind.i64 (x1 + (1 : Int)))
 then (some (.inl (.h0 (x0 + Int.tdiv (tl (Int.toNat x1 + al)) (16 : Int)) (x1 + (1 : Int)) (S.snoc x2
 ((3 : Int), x0 + Int.tdiv (tl (Int.toNat x1 + al)) (16 : Int),
 Int.tmod (vl (Int.toNat x1 + al)) (32 : Int) - (16 : Int), false)))))
 else (none))
 else (none))
 else (none)))
 else (none))
 else (none))
 else (none))
 else (none))
 else (none))
 else (bif (lim IntKind.u8 (Int.tdiv (tl (Int.toNat x1 + al)) (16 : Int)))
 then (bif (lim IntKind.i64 (Int.tdiv (tl (Int.toNat x1 + al)) (16 : Int)))
 then (bif (lim IntKind.i64 (x0 + Int.tdiv (tl (Int.toNat x1 + al)) (16 : Int)))
 then (bif (lim IntKind.i64 (Int.tmod (vl (Int.toNat x1 + al)) (32 : Int)))
 then (bif (lim IntKind.i64 (Int.tmod (vl (Int.toNat x1 + al)) (32 : Int) - (16 : Int)))
 then (bif (decide (vl (Int.toNat x1 + al) ≥ (32 : Int)))
 then (bif (decide (List.length x2 + 1 ≤ 1000000))
 then (bif (decide (List.length x2 ≤ List.length x2))
 then (bif (lim IntKind.i64 (x1 + (1 : Int)))
 then (some (.inl (.h0 (x0 + Int.tdiv (tl (Int.toNat x1 + al)) (16 : Int)) (x1 + (1 : Int)) (S.snoc x2
 ((2 : Int), x0 + Int.tdiv (tl (Int.toNat x1 + al)) (16 : Int),
 Int.tmod (vl (Int.toNat x1 + al)) (32 : Int) - (16 : Int), true)))))
 else (none))
 else (none))
 else (none))
 else (bif (decide (List.length x2 + 1 ≤ 1000000))
 then (bif (decide (List.length x2 ≤ List.length x2))
 then (bif (lim IntKind.i64 (x1 + (1 : Int)))
 then (some (.inl (.h0 (x0 + Int.tdiv (tl (Int.toNat x1 + al)) (16 : Int)) (x1 + (1 : Int)) (S.snoc x2
 ((2 : Int), x0 + Int.tdiv (tl (Int.toNat x1 + al)) (16 : Int),
 Int.tmod (vl (Int.toNat x1 + al)) (32 : Int) - (16 : Int), false)))))
 else (none))
 else (none))
 else (none)))
 else (none))
 else (none))
 else (none))
 else (none))
 else (none)))
 else (bif (Int.tmod (tl (Int.toNat x1 + al)) (16 : Int) == (15 : Int))
 then (bif (lim IntKind.u8 (Int.tdiv (tl (Int.toNat x1 + al)) (16 : Int)))
 then (bif (lim IntKind.i64 (Int.tdiv (tl (Int.toNat x1 + al)) (16 : Int)))
 then (bif (lim IntKind.i64 (x0 + Int.tdiv (tl (Int.toNat x1 + al)) (16 : Int)))
 then (bif (lim IntKind.i64 (Int.tmod (vl (Int.toNat x1 + al)) (32 : Int)))
 then (bif (lim IntKind.i64 (Int.tmod (vl (Int.toNat x1 + al)) (32 : Int) - (16 : Int)))
 then (bif (decide (vl (Int.toNat x1 + al) ≥ (32 : Int)))
 then (bif (decide (List.length x2 + 1 ≤ 1000000))
 then (bif (decide (List.length x2 ≤ List.length x2))
 then (bif (lim IntKind.i64 (x1 + (1 : Int)))
 then (some (.inl (.h0 (x0 + Int.tdiv (tl (Int.toNat x1 + al)) (16 : Int)) (x1 + (1 : Int)) (S.snoc x2
 ((3 : Int), x0 + Int.tdiv (tl (Int.toNat x1 + al)) (16 : Int),
 Int.tmod (vl (Int.toNat x1 + al)) (32 : Int) - (16 : Int), true)))))
 else (none))
 else (none))
 else (none))
 else (bif (decide (List.length x2 + 1 ≤ 1000000))
 then (bif (decide (List.length x2 ≤ List.length x2))
 then (bif (lim IntKind.i64 (x1 + (1 : Int)))
 then (some (.inl (.h0 (x0 + Int.tdiv (tl (Int.toNat x1 + al)) (16 : Int)) (x1 + (1 : Int)) (S.snoc x2
 ((3 : Int), x0 + Int.tdiv (tl (Int.toNat x1 + al)) (16 : Int),
 Int.tmod (vl (Int.toNat x1 + al)) (32 : Int) - (16 : Int), false)))))
 else (none))
 else (none))
 else (none)))
 else (none))
 else (none))
 else (none))
 else (none))
 else (none))
 else (bif (lim IntKind.u8 (Int.tdiv (tl (Int.toNat x1 + al)) (16 : Int)))
 then (bif (lim IntKind.i64 (Int.tdiv (tl (Int.toNat x1 + al)) (16 : Int)))
 then (bif (lim IntKind.i64 (x0 + Int.tdiv (tl (Int.toNat x1 + al)) (16 : Int)))
 then (bif (lim IntKind.i64 (Int.tmod (vl (Int.toNat x1 + al)) (32 : Int)))
 then (bif (lim IntKind.i64 (Int.tmod (vl (Int.toNat x1 + al)) (32 : Int) - (16 : Int)))
 then (bif (decide (vl (Int.toNat x1 + al) ≥ (32 : Int)))
 then (bif (decide (List.length x2 + 1 ≤ 1000000))
 then (bif (decide (List.length x2 ≤ List.length x2))
 then (bif (lim IntKind.i64 (x1 + (1 : Int)))
 then (some (.inl (.h0 (x0 + Int.tdiv (tl (Int.toNat x1 + al)) (16 : Int)) (x1 + (1 : Int)) (S.snoc x2
 ((1 : Int), x0 + Int.tdiv (tl (Int.toNat x1 + al)) (16 : Int),
 Int.tmod (vl (Int.toNat x1 + al)) (32 : Int) - (16 : Int), true)))))
 else (none))
 else (none))
 else (none))
 else (bif (decide (List.length x2 + 1 ≤ 1000000))
 then (bif (decide (List.length x2 ≤ List.length x2))
 then (bif (lim IntKind.i64 (x1 + (1 : Int)))
 then (some (.inl (.h0 (x0 + Int.tdiv (tl (Int.toNat x1 + al)) (16 : Int)) (x1 + (1 : Int)) (S.snoc x2
 ((1 : Int), x0 + Int.tdiv (tl (Int.toNat x1 + al)) (16 : Int),
 Int.tmod (vl (Int.toNat x1 + al)) (32 : Int) - (16 : Int), false)))))
 else (none))
 else (none))
 else (none)))
 else (none))
 else (none))
 else (none))
 else (none))
 else (none))))
 else (none))
 else (none))
 else (some (.inr (x2)))
noncomputable def p37 (al nl ml : Nat) (tl : Nat → Int) (vl : Nat → Int) : Option (St37 ⊕ Rt37) := some (.inl (.h0 ((0 : Int)) ((0 : Int)) ([])))
noncomputable def Te37 (test : Bool → Prop → Prop → Prop) (Kst : KS) (Kret : KR) (al nl ml : Nat) (tl : Nat → Int) (vl : Nat → Int) : Prop :=
  Kst (hd Try.f37 0) ([PV.loose (PA.mk (0) (2) al (0)) nl, PV.nils,
 PV.int IntKind.i64 (0 : Int), PV.int IntKind.i64 (0 : Int)]) ([[(0, false, Blk.cols ml [Col.int IntKind.u8 tl, Col.int IntKind.u8 vl])]]) (1)
theorem te37 (test : Bool → Prop → Prop → Prop) (Kst : KS) (Kret : KR) (al nl ml : Nat) (tl : Nat → Int) (vl : Nat → Int) : run test Try.env true (xH test) true 400 ⟨37, [.cd (mkFn Try.f37).body], argT 0 [.loose ⟨0, 2, al, 0⟩ nl], [[], [(0, (false, .cols ml [.int .u8 tl, .int .u8 vl]))]], 1⟩ (proj 1 [0, 3, 4, 5] Kst Kret) =
  Te37 test Kst Kret al nl ml tl vl := by kernel_rfl
noncomputable def T37_0 (test : Bool → Prop → Prop → Prop) (Kst : KS) (Kret : KR) (al nl ml : Nat) (tl : Nat → Int) (vl : Nat → Int) (x0 : Int) (x1 : Int) (x2 : List (Int × Int × Int × Bool)) : Prop :=
  test (decide (x1 < (↑nl : Int)))
 (test (decide ((0 : Int) ≤ x1 ∧ x1 < (↑nl : Int)))
 (test (true)
 (test (decide (Int.toNat x1 + al < ml))
 (test (false)
 (False)
 (test (Int.tmod (tl (Int.toNat x1 + al)) (16 : Int) == (14 : Int))
 (test (decide ((0 : Int) ≤ x1 ∧ x1 < (↑nl : Int)))
 (test (true)
 (test (decide (Int.toNat x1 + al < ml))
 (test (false)
 (False)
 (test (Int.tmod (tl (Int.toNat x1 + al)) (16 : Int) == (15 : Int))
 (test (decide ((0 : Int) ≤ x1 ∧ x1 < (↑nl : Int)))
 (test (true)
 (test (decide (Int.toNat x1 + al < ml))
 (test (false)
 (False)
 (test (lim IntKind.u8 (Int.tdiv (tl (Int.toNat x1 + al)) (16 : Int)))
 (test (lim IntKind.i64 (Int.tdiv (tl (Int.toNat x1 + al)) (16 : Int)))
 (test (lim IntKind.i64 (x0 + Int.tdiv (tl (Int.toNat x1 + al)) (16 : Int)))
 (test (decide ((0 : Int) ≤ x1 ∧ x1 < (↑nl : Int)))
 (test (true)
 (test (decide (Int.toNat x1 + al < ml))
 (test (false)
 (False)
 (test (lim IntKind.i64 (Int.tmod (vl (Int.toNat x1 + al)) (32 : Int)))
 (test (lim IntKind.i64 (Int.tmod (vl (Int.toNat x1 + al)) (32 : Int) - (16 : Int)))
 (test (decide ((0 : Int) ≤ x1 ∧ x1 < (↑nl : Int)))
 (test (true)
 (test (decide (Int.toNat x1 + al < ml))
 (test (decide (vl (Int.toNat x1 + al) ≥ (32 : Int)))
 (test (decide (List.length x2 + 1 ≤ 1000000))
 (test (decide (List.length x2 ≤ List.length x2))
 (test (true)
 (test (lim IntKind.i64 (x1 + (1 : Int)))
 (Kst (hd Try.f37 0) ([PV.loose (PA.mk (0) (2) al (0)) nl,
 PV.own (4) (4) (List.length x2 + 1),
 PV.int IntKind.i64 (x0 + Int.tdiv (tl (Int.toNat x1 + al)) (16 : Int)),
 PV.int IntKind.i64 (x1 + (1 : Int))]) ([[(0, false, Blk.cols ml [Col.int IntKind.u8 tl, Col.int IntKind.u8 vl]),
 (4, true,
 Blk.cols (List.length x2 + 1)
 [Col.int IntKind.i64 fun j =>
 bif Nat.blt j (List.length x2) then (S.at' x2 j).1 else (3 : Int),
 Col.int IntKind.i64 fun j =>
 bif Nat.blt j (List.length x2) then (S.at' x2 j).2.1
 else x0 + Int.tdiv (tl (Int.toNat x1 + al)) (16 : Int),
 Col.int IntKind.i64 fun j =>
 bif Nat.blt j (List.length x2) then (S.at' x2 j).2.2.1
 else Int.tmod (vl (Int.toNat x1 + al)) (32 : Int) - (16 : Int),
 Col.bool fun j =>
 bif Nat.blt j (List.length x2) then (S.at' x2 j).2.2.2 else true])]]) (5))
 (False))
 (False))
 (False))
 (False))
 (test (decide (List.length x2 + 1 ≤ 1000000))
 (test (decide (List.length x2 ≤ List.length x2))
 (test (true)
 (test (lim IntKind.i64 (x1 + (1 : Int)))
 (Kst (hd Try.f37 0) ([PV.loose (PA.mk (0) (2) al (0)) nl,
 PV.own (4) (4) (List.length x2 + 1),
 PV.int IntKind.i64 (x0 + Int.tdiv (tl (Int.toNat x1 + al)) (16 : Int)),
 PV.int IntKind.i64 (x1 + (1 : Int))]) ([[(0, false, Blk.cols ml [Col.int IntKind.u8 tl, Col.int IntKind.u8 vl]),
 (4, true,
 Blk.cols (List.length x2 + 1)
 [Col.int IntKind.i64 fun j =>
 bif Nat.blt j (List.length x2) then (S.at' x2 j).1 else (3 : Int),
 Col.int IntKind.i64 fun j =>
 bif Nat.blt j (List.length x2) then (S.at' x2 j).2.1
 else x0 + Int.tdiv (tl (Int.toNat x1 + al)) (16 : Int),
 Col.int IntKind.i64 fun j =>
 bif Nat.blt j (List.length x2) then (S.at' x2 j).2.2.1
 else Int.tmod (vl (Int.toNat x1 + al)) (32 : Int) - (16 : Int),
 Col.bool fun j =>
 bif Nat.blt j (List.length x2) then (S.at' x2 j).2.2.2 else false])]]) (5))
 (False))
 (False))
 (False))
 (False)))
 (False))
 (False))
 (False))
 (False))
 (False)))
 (False))
 (False))
 (False))
 (False))
 (False))
 (False)))
 (False))
 (False))
 (False))
 (test (decide ((0 : Int) ≤ x1 ∧ x1 < (↑nl : Int)))
 (test (true)
 (test (decide (Int.toNat x1 + al < ml))
 (test (false)
 (False)
 (test (lim IntKind.u8 (Int.tdiv (tl (Int.toNat x1 + al)) (16 : Int)))
 (test (lim IntKind.i64 (Int.tdiv (tl (Int.toNat x1 + al)) (16 : Int)))
 (test (lim IntKind.i64 (x0 + Int.tdiv (tl (Int.toNat x1 + al)) (16 : Int)))
 (test (decide ((0 : Int) ≤ x1 ∧ x1 < (↑nl : Int)))
 (test (true)
 (test (decide (Int.toNat x1 + al < ml))
 (test (false)
 (False)
 (test (lim IntKind.i64 (Int.tmod (vl (Int.toNat x1 + al)) (32 : Int)))
 (test (lim IntKind.i64 (Int.tmod (vl (Int.toNat x1 + al)) (32 : Int) - (16 : Int)))
 (test (decide ((0 : Int) ≤ x1 ∧ x1 < (↑nl : Int)))
 (test (true)
 (test (decide (Int.toNat x1 + al < ml))
 (test (decide (vl (Int.toNat x1 + al) ≥ (32 : Int)))
 (test (decide (List.length x2 + 1 ≤ 1000000))
 (test (decide (List.length x2 ≤ List.length x2))
 (test (true)
 (test (lim IntKind.i64 (x1 + (1 : Int)))
 (Kst (hd Try.f37 0) ([PV.loose (PA.mk (0) (2) al (0)) nl,
 PV.own (4) (4) (List.length x2 + 1),
 PV.int IntKind.i64 (x0 + Int.tdiv (tl (Int.toNat x1 + al)) (16 : Int)),
 PV.int IntKind.i64 (x1 + (1 : Int))]) ([[(0, false, Blk.cols ml [Col.int IntKind.u8 tl, Col.int IntKind.u8 vl]),
 (4, true,
 Blk.cols (List.length x2 + 1)
 [Col.int IntKind.i64 fun j =>
 bif Nat.blt j (List.length x2) then (S.at' x2 j).1 else (2 : Int),
 Col.int IntKind.i64 fun j =>
 bif Nat.blt j (List.length x2) then (S.at' x2 j).2.1
 else x0 + Int.tdiv (tl (Int.toNat x1 + al)) (16 : Int),
 Col.int IntKind.i64 fun j =>
 bif Nat.blt j (List.length x2) then (S.at' x2 j).2.2.1
 else Int.tmod (vl (Int.toNat x1 + al)) (32 : Int) - (16 : Int),
 Col.bool fun j =>
 bif Nat.blt j (List.length x2) then (S.at' x2 j).2.2.2 else true])]]) (5))
 (False))
 (False))
 (False))
 (False))
 (test (decide (List.length x2 + 1 ≤ 1000000))
 (test (decide (List.length x2 ≤ List.length x2))
 (test (true)
 (test (lim IntKind.i64 (x1 + (1 : Int)))
 (Kst (hd Try.f37 0) ([PV.loose (PA.mk (0) (2) al (0)) nl,
 PV.own (4) (4) (List.length x2 + 1),
 PV.int IntKind.i64 (x0 + Int.tdiv (tl (Int.toNat x1 + al)) (16 : Int)),
 PV.int IntKind.i64 (x1 + (1 : Int))]) ([[(0, false, Blk.cols ml [Col.int IntKind.u8 tl, Col.int IntKind.u8 vl]),
 (4, true,
 Blk.cols (List.length x2 + 1)
 [Col.int IntKind.i64 fun j =>
 bif Nat.blt j (List.length x2) then (S.at' x2 j).1 else (2 : Int),
 Col.int IntKind.i64 fun j =>
 bif Nat.blt j (List.length x2) then (S.at' x2 j).2.1
 else x0 + Int.tdiv (tl (Int.toNat x1 + al)) (16 : Int),
 Col.int IntKind.i64 fun j =>
 bif Nat.blt j (List.length x2) then (S.at' x2 j).2.2.1
 else Int.tmod (vl (Int.toNat x1 + al)) (32 : Int) - (16 : Int),
 Col.bool fun j =>
 bif Nat.blt j (List.length x2) then (S.at' x2 j).2.2.2 else false])]]) (5))
 (False))
 (False))
 (False))
 (False)))
 (False))
 (False))
 (False))
 (False))
 (False)))
 (False))
 (False))
 (False))
 (False))
 (False))
 (False)))
 (False))
 (False))
 (False))))
 (False))
 (False))
 (False))
 (test (decide ((0 : Int) ≤ x1 ∧ x1 < (↑nl : Int)))
 (test (true)
 (test (decide (Int.toNat x1 + al < ml))
 (test (false)
 (False)
 (test (Int.tmod (tl (Int.toNat x1 + al)) (16 : Int) == (15 : Int))
 (test (decide ((0 : Int) ≤ x1 ∧ x1 < (↑nl : Int)))
 (test (true)
 (test (decide (Int.toNat x1 + al < ml))
 (test (false)
 (False)
 (test (lim IntKind.u8 (Int.tdiv (tl (Int.toNat x1 + al)) (16 : Int)))
 (test (lim IntKind.i64 (Int.tdiv (tl (Int.toNat x1 + al)) (16 : Int)))
 (test (lim IntKind.i64 (x0 + Int.tdiv (tl (Int.toNat x1 + al)) (16 : Int)))
 (test (decide ((0 : Int) ≤ x1 ∧ x1 < (↑nl : Int)))
 (test (true)
 (test (decide (Int.toNat x1 + al < ml))
 (test (false)
 (False)
 (test (lim IntKind.i64 (Int.tmod (vl (Int.toNat x1 + al)) (32 : Int)))
 (test (lim IntKind.i64 (Int.tmod (vl (Int.toNat x1 + al)) (32 : Int) - (16 : Int)))
 (test (decide ((0 : Int) ≤ x1 ∧ x1 < (↑nl : Int)))
 (test (true)
 (test (decide (Int.toNat x1 + al < ml))
 (test (decide (vl (Int.toNat x1 + al) ≥ (32 : Int)))
 (test (decide (List.length x2 + 1 ≤ 1000000))
 (test (decide (List.length x2 ≤ List.length x2))
 (test (true)
 (test (lim IntKind.i64 (x1 + (1 : Int)))
 (Kst (hd Try.f37 0) ([PV.loose (PA.mk (0) (2) al (0)) nl,
 PV.own (4) (4) (List.length x2 + 1),
 PV.int IntKind.i64 (x0 + Int.tdiv (tl (Int.toNat x1 + al)) (16 : Int)),
 PV.int IntKind.i64 (x1 + (1 : Int))]) ([[(0, false, Blk.cols ml [Col.int IntKind.u8 tl, Col.int IntKind.u8 vl]),
 (4, true,
 Blk.cols (List.length x2 + 1)
 [Col.int IntKind.i64 fun j =>
 bif Nat.blt j (List.length x2) then (S.at' x2 j).1 else (3 : Int),
 Col.int IntKind.i64 fun j =>
 bif Nat.blt j (List.length x2) then (S.at' x2 j).2.1
 else x0 + Int.tdiv (tl (Int.toNat x1 + al)) (16 : Int),
 Col.int IntKind.i64 fun j =>
 bif Nat.blt j (List.length x2) then (S.at' x2 j).2.2.1
 else Int.tmod (vl (Int.toNat x1 + al)) (32 : Int) - (16 : Int),
 Col.bool fun j =>
 bif Nat.blt j (List.length x2) then (S.at' x2 j).2.2.2 else true])]]) (5))
 (False))
 (False))
 (False))
 (False))
 (test (decide (List.length x2 + 1 ≤ 1000000))
 (test (decide (List.length x2 ≤ List.length x2))
 (test (true)
 (test (lim IntKind.i64 (x1 + (1 : Int)))
 (Kst (hd Try.f37 0) ([PV.loose (PA.mk (0) (2) al (0)) nl,
 PV.own (4) (4) (List.length x2 + 1),
 PV.int IntKind.i64 (x0 + Int.tdiv (tl (Int.toNat x1 + al)) (16 : Int)),
 PV.int IntKind.i64 (x1 + (1 : Int))]) ([[(0, false, Blk.cols ml [Col.int IntKind.u8 tl, Col.int IntKind.u8 vl]),
 (4, true,
 Blk.cols (List.length x2 + 1)
 [Col.int IntKind.i64 fun j =>
 bif Nat.blt j (List.length x2) then (S.at' x2 j).1 else (3 : Int),
 Col.int IntKind.i64 fun j =>
 bif Nat.blt j (List.length x2) then (S.at' x2 j).2.1
 else x0 + Int.tdiv (tl (Int.toNat x1 + al)) (16 : Int),
 Col.int IntKind.i64 fun j =>
 bif Nat.blt j (List.length x2) then (S.at' x2 j).2.2.1
 else Int.tmod (vl (Int.toNat x1 + al)) (32 : Int) - (16 : Int),
 Col.bool fun j =>
 bif Nat.blt j (List.length x2) then (S.at' x2 j).2.2.2 else false])]]) (5))
 (False))
 (False))
 (False))
 (False)))
 (False))
 (False))
 (False))
 (False))
 (False)))
 (False))
 (False))
 (False))
 (False))
 (False))
 (False)))
 (False))
 (False))
 (False))
 (test (decide ((0 : Int) ≤ x1 ∧ x1 < (↑nl : Int)))
 (test (true)
 (test (decide (Int.toNat x1 + al < ml))
 (test (false)
 (False)
 (test (lim IntKind.u8 (Int.tdiv (tl (Int.toNat x1 + al)) (16 : Int)))
 (test (lim IntKind.i64 (Int.tdiv (tl (Int.toNat x1 + al)) (16 : Int)))
 (test (lim IntKind.i64 (x0 + Int.tdiv (tl (Int.toNat x1 + al)) (16 : Int)))
 (test (decide ((0 : Int) ≤ x1 ∧ x1 < (↑nl : Int)))
 (test (true)
 (test (decide (Int.toNat x1 + al < ml))
 (test (false)
 (False)
 (test (lim IntKind.i64 (Int.tmod (vl (Int.toNat x1 + al)) (32 : Int)))
 (test (lim IntKind.i64 (Int.tmod (vl (Int.toNat x1 + al)) (32 : Int) - (16 : Int)))
 (test (decide ((0 : Int) ≤ x1 ∧ x1 < (↑nl : Int)))
 (test (true)
 (test (decide (Int.toNat x1 + al < ml))
 (test (decide (vl (Int.toNat x1 + al) ≥ (32 : Int)))
 (test (decide (List.length x2 + 1 ≤ 1000000))
 (test (decide (List.length x2 ≤ List.length x2))
 (test (true)
 (test (lim IntKind.i64 (x1 + (1 : Int)))
 (Kst (hd Try.f37 0) ([PV.loose (PA.mk (0) (2) al (0)) nl,
 PV.own (4) (4) (List.length x2 + 1),
 PV.int IntKind.i64 (x0 + Int.tdiv (tl (Int.toNat x1 + al)) (16 : Int)),
 PV.int IntKind.i64 (x1 + (1 : Int))]) ([[(0, false, Blk.cols ml [Col.int IntKind.u8 tl, Col.int IntKind.u8 vl]),
 (4, true,
 Blk.cols (List.length x2 + 1)
 [Col.int IntKind.i64 fun j =>
 bif Nat.blt j (List.length x2) then (S.at' x2 j).1 else (1 : Int),
 Col.int IntKind.i64 fun j =>
 bif Nat.blt j (List.length x2) then (S.at' x2 j).2.1
 else x0 + Int.tdiv (tl (Int.toNat x1 + al)) (16 : Int),
 Col.int IntKind.i64 fun j =>
 bif Nat.blt j (List.length x2) then (S.at' x2 j).2.2.1
 else Int.tmod (vl (Int.toNat x1 + al)) (32 : Int) - (16 : Int),
 Col.bool fun j =>
 bif Nat.blt j (List.length x2) then (S.at' x2 j).2.2.2 else true])]]) (5))
 (False))
 (False))
 (False))
 (False))
 (test (decide (List.length x2 + 1 ≤ 1000000))
 (test (decide (List.length x2 ≤ List.length x2))
 (test (true)
 (test (lim IntKind.i64 (x1 + (1 : Int)))
 (Kst (hd Try.f37 0) ([PV.loose (PA.mk (0) (2) al (0)) nl,
 PV.own (4) (4) (List.length x2 + 1),
 PV.int IntKind.i64 (x0 + Int.tdiv (tl (Int.toNat x1 + al)) (16 : Int)),
 PV.int IntKind.i64 (x1 + (1 : Int))]) ([[(0, false, Blk.cols ml [Col.int IntKind.u8 tl, Col.int IntKind.u8 vl]),
 (4, true,
 Blk.cols (List.length x2 + 1)
 [Col.int IntKind.i64 fun j =>
 bif Nat.blt j (List.length x2) then (S.at' x2 j).1 else (1 : Int),
 Col.int IntKind.i64 fun j =>
 bif Nat.blt j (List.length x2) then (S.at' x2 j).2.1
 else x0 + Int.tdiv (tl (Int.toNat x1 + al)) (16 : Int),
 Col.int IntKind.i64 fun j =>
 bif Nat.blt j (List.length x2) then (S.at' x2 j).2.2.1
 else Int.tmod (vl (Int.toNat x1 + al)) (32 : Int) - (16 : Int),
 Col.bool fun j =>
 bif Nat.blt j (List.length x2) then (S.at' x2 j).2.2.2 else false])]]) (5))
 (False))
 (False))
 (False))
 (False)))
 (False))
 (False))
 (False))
 (False))
 (False)))
 (False))
 (False))
 (False))
 (False))
 (False))
 (False)))
 (False))
 (False))
 (False))))
 (False))
 (False))
 (False))))
 (False))
 (False))
 (False))
 (Kret (PV.own (1) (4) (List.length x2)) ([[(0, false, Blk.cols ml [Col.int IntKind.u8 tl, Col.int IntKind.u8 vl]),
 (1, true,
 Blk.cols (List.length x2)
 [Col.int IntKind.i64 fun j => (S.at' x2 j).1,
 Col.int IntKind.i64 fun j => (S.at' x2 j).2.1,
 Col.int IntKind.i64 fun j => (S.at' x2 j).2.2.1,
 Col.bool fun j => (S.at' x2 j).2.2.2])]]) (2))
end Go.Ev
