/-
  What the small functions of layer 25 do, function by function.
-/
import Derived.Test.YtacfjngnfgnmeaaDoorRows
import Derived.WalkKit
import Derived.WalkSpells
import Derived.WalkLawsBesides
import Derived.Deep.QuietTactic
import Derived.BigQuiet
import Derived.Lib.Hide
import Derived.Deep.Light
namespace Go.Proofs.YtacfjngnfgnmeaaDoor
open Go.RowKit

def limB (mn mx st : Int) : Bool := decide (-1099511627776 ≤ mn ∧ mn ≤ 0 ∧ 0 ≤ mx ∧ mx ≤ 1099511627776 ∧ 1 ≤ st ∧ st ≤ 1099511627776)
def alwB (mn mx v : Int) : Bool := decide (mn ≤ v ∧ v ≤ mx)
def fitB (s cu tg : Int) : Bool := if s = 3 then decide (tg = cu) else if s = 4 then decide (tg ≠ cu) else decide (tg = 0)
def isaB (s cu k : Int) : Bool := if k = 1 then decide (s = 1 ∧ cu = 0) else if k = 2 then decide (s = 2 ∧ cu = 0) else if k = 3 then decide (s = 3 ∨ s = 4) else if k = 6 then decide (s = 5 ∧ cu = 0) else decide (s = 3 ∨ s = 4 ∨ s = 2)
def refB (s cu k : Int) : Bool := if k = 1 then decide (s = 1 ∧ cu = 0) else if k = 2 then decide (s = 2 ∧ cu = 0) else if k = 3 then decide (s = 3 ∨ s = 4) else if k = 4 ∨ k = 5 then decide (s = 3 ∨ s = 4 ∨ s = 2) else decide (s = 5 ∧ cu = 0)
theorem ret_bool {a b : Bool} (h : a = b) : Ending.returned (.bool a) = .returned (.bool b) := by rw [h]
theorem ret_int {a b : Int} (h : a = b) : Ending.returned (.int .i64 a) = .returned (.int .i64 b) := by rw [h]

set_option maxHeartbeats 400000 in
theorem limits_any (mn mx st : Int) (w : World) :
    Calls Tryd.prog 32 #[.int .i64 mn, .int .i64 mx, .int .i64 st] w fun e w' => e = .returned (.bool (limB mn mx st)) ∧ w = w' := by
  go_enter Tryd.func32, Tryd.ntmps32
  go_wp2
  all_goals (go_ret; exact ⟨ret_bool (by unfold limB; rw [Bool.eq_iff_iff]; simp; omega), rfl⟩)

set_option maxHeartbeats 400000 in
theorem rlimits_any (mn mx st : Int) (w : World) :
    Calls Tryd.prog 33 #[.int .i64 mn, .int .i64 mx, .int .i64 st] w fun e w' => e = .returned (.bool (limB mn mx st)) ∧ w = w' := by
  go_enter Tryd.func33, Tryd.ntmps33
  go_wp2
  all_goals (go_ret; exact ⟨ret_bool (by unfold limB; rw [Bool.eq_iff_iff]; simp; omega), rfl⟩)

set_option maxHeartbeats 400000 in
theorem allows_any (s cu tg mn mx st v : Int) (w : World) :
    Calls Tryd.prog 34 #[.agg #[.int .i64 s, .int .i64 cu, .int .i64 tg, .int .i64 mn, .int .i64 mx, .int .i64 st], .int .i64 v] w fun e w' => e = .returned (.bool (alwB mn mx v)) ∧ w' = w.alloc (.cells #[.int .i64 s, .int .i64 cu, .int .i64 tg, .int .i64 mn, .int .i64 mx, .int .i64 st] 23) := by
  go_enter Tryd.func34, Tryd.ntmps34
  go_wp2
  all_goals (go_ret; exact ⟨ret_bool (by unfold alwB; rw [Bool.eq_iff_iff]; simp; try omega), rfl⟩)

set_option maxHeartbeats 400000 in
theorem fits_any (s cu tg mn mx st : Int) (w : World) :
    Calls Tryd.prog 35 #[.agg #[.int .i64 s, .int .i64 cu, .int .i64 tg, .int .i64 mn, .int .i64 mx, .int .i64 st]] w fun e w' => e = .returned (.bool (fitB s cu tg)) ∧ ∃ cs, w' = w.alloc (.cells cs 23) := by
  go_enter Tryd.func35, Tryd.ntmps35
  go_wp2
  all_goals (go_ret; exact ⟨ret_bool (by go_light; rw [Bool.eq_iff_iff]; simp_all [fitB]; try omega), _, rfl⟩)

set_option maxHeartbeats 400000 in
theorem isa_any (s cu tg mn mx st k : Int) (w : World) :
    Calls Tryd.prog 36 #[.agg #[.int .i64 s, .int .i64 cu, .int .i64 tg, .int .i64 mn, .int .i64 mx, .int .i64 st], .int .i64 k] w fun e w' => e = .returned (.bool (isaB s cu k)) ∧ ∃ cs, w' = w.alloc (.cells cs 23) := by
  go_enter Tryd.func36, Tryd.ntmps36
  go_wp2
  all_goals (go_ret; exact ⟨ret_bool (by go_light; rw [Bool.eq_iff_iff]; simp_all [isaB]; try omega), _, rfl⟩)

set_option maxHeartbeats 400000 in
theorem ref_any (s cu tg mn mx st k : Int) (w : World) :
    Calls Tryd.prog 37 #[.agg #[.int .i64 s, .int .i64 cu, .int .i64 tg, .int .i64 mn, .int .i64 mx, .int .i64 st], .int .i64 k] w fun e w' => e = .returned (.bool (refB s cu k)) ∧ ∃ cs, w' = w.alloc (.cells cs 23) := by
  go_enter Tryd.func37, Tryd.ntmps37
  go_wp2
  all_goals (go_ret; exact ⟨ret_bool (by go_light; rw [Bool.eq_iff_iff]; simp_all [refB]; try omega), _, rfl⟩)

end Go.Proofs.YtacfjngnfgnmeaaDoor
