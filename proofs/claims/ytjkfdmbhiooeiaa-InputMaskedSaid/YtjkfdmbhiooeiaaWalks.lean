/-
  What the small functions of layer 43 do, function by function.
-/
import Derived.Test.YtjkfdmbhiooeiaaRows
import Derived.WalkKit
import Derived.WalkSpells
import Derived.WalkLawsBesides
import Derived.Deep.QuietTactic
import Derived.BigQuiet
import Derived.Lib.Hide
import Derived.Deep.Light
namespace Go.Proofs.Ytjkfdmbhiooeiaa
open Go.RowKit

/-- What every function of this layer leaves of the world: nothing that was there has changed. -/
def New (w w' : World) : Prop := Below w.heap.size w w'
theorem new0 (w : World) : New w w := Below.refl _ _
theorem New.alloc {w w' : World} (h : New w w') (o : Obj) : New w (w'.alloc o) := Below.alloc h h.size o
theorem New.trans {w w' w'' : World} (h : New w w') (h' : New w' w'') : New w w'' := Below.trans h (Below.mono h' h.size)
theorem New.drew {W w' : World} (h : New W w') : New W w'.drew := Below.drew h
theorem New.setCell {W w' : World} (h : New W w') {p : Addr} (hp : W.heap.size ≤ p.block) (u : Value) : New W (w'.setCell p u) := Below.setCell h hp u
theorem New.size {W w1 : World} (hb : New W w1) : W.heap.size ≤ w1.heap.size := Below.size hb
theorem New.drewN {W w' : World} (h : New W w') (n : Nat) : New W (w'.drewN n) := by
  unfold New at *
  exact ⟨h.os, h.tape, h.output, h.size, h.block⟩
theorem ncell {W w1 : World} (hb : New W w1) : (∀ b o, b < W.heap.size → w1.cell? ⟨b, o, none⟩ = W.cell? ⟨b, o, none⟩) ∧ (∀ b o, b < W.heap.size → w1.frozen? ⟨b, o, none⟩ = W.frozen? ⟨b, o, none⟩) :=
  ⟨fun b o h => Below.cell (p := ⟨b, o, none⟩) hb h, fun b o h => Below.frozen (p := ⟨b, o, none⟩) hb h⟩
theorem ret_bool {a b : Bool} (h : a = b) : Ending.returned (.bool a) = .returned (.bool b) := by rw [h]
theorem ret_int {a b : Int} (h : a = b) : Ending.returned (.int .i64 a) = .returned (.int .i64 b) := by rw [h]

def insB (n lo hi : Int) : Bool := decide (lo ≤ n ∧ n ≤ hi)
def rawI (ma : Int) (a b : Bool) (ag : Int) (va : Bool) : Int := if va = false ∨ ma < ag ∨ a ≠ b then 3 else if a = true then 1 else 2
def nedI (ri fa k : Int) : Int := if k = 1 then ri else fa
def letB (c : Int) : Bool := decide (97 ≤ c ∧ c ≤ 122)
def namB (c : Int) : Bool := decide ((97 ≤ c ∧ c ≤ 122) ∨ (48 ≤ c ∧ c ≤ 57) ∨ c = 95)

set_option maxHeartbeats 400000 in
theorem inside_any (n lo hi : Int) (w : World) : Calls Try.prog 36 #[.int .i64 n, .int .i64 lo, .int .i64 hi] w fun e w' => e = .returned (.bool (insB n lo hi)) ∧ w = w' := by
  go_enter Try.func36, Try.ntmps36
  go_wp2
  all_goals (go_ret; exact ⟨ret_bool (by go_light; unfold insB; rw [Bool.eq_iff_iff]; simp_all; try omega), rfl⟩)
set_option maxHeartbeats 400000 in
theorem isState_any (n : Int) (w : World) : Calls Try.prog 39 #[.int .i64 n] w fun e w' => e = .returned (.bool (insB n 1 3)) ∧ w = w' := by
  go_enter Try.func39, Try.ntmps39
  go_wp2_with (go_at_call 36; refine (inside_any _ _ _ _).mono ?_; rintro e w' ⟨rfl, rfl⟩)
  go_ret
  exact ⟨rfl, rfl⟩
set_option maxHeartbeats 400000 in
theorem known_any (n : Int) (w : World) : Calls Try.prog 42 #[.int .i64 n] w fun e w' => e = .returned (.bool (insB n 1 3)) ∧ w = w' := by
  go_enter Try.func42, Try.ntmps42
  go_wp2
  all_goals (go_ret; exact ⟨ret_bool (by go_light; unfold insB; rw [Bool.eq_iff_iff]; simp_all; try omega), rfl⟩)
set_option maxHeartbeats 400000 in
theorem samErr_any (a b : Bool) (ag : Int) (va : Bool) (w : World) : Calls Try.prog 32 #[.agg #[.bool a, .bool b, .int .i64 ag, .bool va]] w fun e w' => e = .returned (.int .i64 (if insB ag 0 1099511627776 = true then 0 else 6)) ∧ ∃ cs, w' = w.alloc (.cells cs 25) := by
  by_cases h : insB ag 0 1099511627776 = true
  · rw [if_pos h]
    go_enter Try.func32, Try.ntmps32
    go_wp2_with (go_at_call 36; refine (inside_any _ _ _ _).mono ?_; rintro e w' ⟨rfl, rfl⟩)
    go_ret
    exact ⟨rfl, _, rfl⟩
  · rw [if_neg h]
    have h' : insB ag 0 1099511627776 = false := by simpa using h
    clear h
    go_enter Try.func32, Try.ntmps32
    go_wp2_with (go_at_call 36; refine (inside_any _ _ _ _).mono ?_; rintro e w' ⟨rfl, rfl⟩)
    go_ret
    exact ⟨rfl, _, rfl⟩
set_option maxHeartbeats 800000 in
theorem raw_any (nm : ByteArray) (ma ri fa : Int) (a b : Bool) (ag : Int) (va : Bool) (w : World) : Calls Try.prog 33 #[.agg #[.string nm, .int .i64 ma, .int .i64 ri, .int .i64 fa], .agg #[.bool a, .bool b, .int .i64 ag, .bool va]] w fun e w' => e = .returned (.int .i64 (rawI ma a b ag va)) ∧ New w w' := by
  cases va <;> cases a <;> cases b
  all_goals
    go_enter Try.func33, Try.ntmps33
    go_wp2
  all_goals (go_ret; exact ⟨ret_int (by go_light; simp_all [rawI]; try omega), by repeat (first | with_reducible exact new0 _ | with_reducible apply New.alloc)⟩)
set_option maxHeartbeats 800000 in
theorem rraw_any (nm : ByteArray) (ma ri fa : Int) (a b : Bool) (ag : Int) (va : Bool) (w : World) : Calls Try.prog 34 #[.agg #[.string nm, .int .i64 ma, .int .i64 ri, .int .i64 fa], .agg #[.bool a, .bool b, .int .i64 ag, .bool va]] w fun e w' => e = .returned (.int .i64 (rawI ma a b ag va)) ∧ New w w' := by
  cases va <;> cases a <;> cases b
  all_goals
    go_enter Try.func34, Try.ntmps34
    go_wp2
  all_goals (go_ret; exact ⟨ret_int (by go_light; simp_all [rawI]; try omega), by repeat (first | with_reducible exact new0 _ | with_reducible apply New.alloc)⟩)
set_option maxHeartbeats 400000 in
theorem needed_any (nm : ByteArray) (ma ri fa k : Int) (w : World) : Calls Try.prog 49 #[.agg #[.string nm, .int .i64 ma, .int .i64 ri, .int .i64 fa], .int .i64 k] w fun e w' => e = .returned (.int .i64 (nedI ri fa k)) ∧ ∃ cs, w' = w.alloc (.cells cs 23) := by
  go_enter Try.func49, Try.ntmps49
  go_wp2
  all_goals (go_ret; exact ⟨ret_int (by go_light; simp_all [nedI]), _, rfl⟩)
set_option maxHeartbeats 400000 in
theorem rneeded_any (nm : ByteArray) (ma ri fa k : Int) (w : World) : Calls Try.prog 50 #[.agg #[.string nm, .int .i64 ma, .int .i64 ri, .int .i64 fa], .int .i64 k] w fun e w' => e = .returned (.int .i64 (nedI ri fa k)) ∧ ∃ cs, w' = w.alloc (.cells cs 23) := by
  go_enter Try.func50, Try.ntmps50
  go_wp2
  all_goals (go_ret; exact ⟨ret_int (by go_light; simp_all [nedI]), _, rfl⟩)
set_option maxHeartbeats 400000 in
theorem letter_any (c : Int) (w : World) : Calls Try.prog 46 #[.int .u8 c] w fun e w' => e = .returned (.bool (letB c)) ∧ w = w' := by
  go_enter Try.func46, Try.ntmps46
  go_wp2
  all_goals (go_ret; exact ⟨ret_bool (by go_light; unfold letB; rw [Bool.eq_iff_iff]; simp_all; try omega), rfl⟩)
end Go.Proofs.Ytjkfdmbhiooeiaa
