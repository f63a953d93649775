/-
  What the reference's checks of a converter answer.
-/
import Derived.Test.YtacfjngnfgnmeaaDoorValid
namespace Go.Proofs.YtacfjngnfgnmeaaDoor
open Go.RowKit

set_option maxHeartbeats 800000 in
theorem rvalid_any (s cu tg mn mx st : Int) (w : World) :
    Calls Tryd.prog 15 #[.agg #[.int .i64 s, .int .i64 cu, .int .i64 tg, .int .i64 mn, .int .i64 mx, .int .i64 st]] w fun e w' => e = .returned (.int .i64 (valE s cu tg mn mx st)) ∧ New w w' := by
  go_enter Tryd.func15, Tryd.ntmps15
  go_wp2_with (first | (go_at_call 33; refine (rlimits_any _ _ _ _).mono ?_; rintro e w' ⟨rfl, rfl⟩))
  all_goals (go_ret; exact ⟨ret_int (by go_light; simp_all [valE, alwB, fitB]; try ((repeat' split) <;> omega)), by repeat (first | exact new0 _ | apply New.alloc)⟩)
end Go.Proofs.YtacfjngnfgnmeaaDoor
