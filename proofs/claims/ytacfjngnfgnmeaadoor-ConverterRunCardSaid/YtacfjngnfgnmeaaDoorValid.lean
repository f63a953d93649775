/-
  What the names of states and the checks of a converter answer.
-/
import Derived.Test.YtacfjngnfgnmeaaDoorWalks
namespace Go.Proofs.YtacfjngnfgnmeaaDoor
open Go.RowKit

/-- The table of the names lies as the program lays it. -/
def Nm (w : World) : Prop := w.cell? ⟨0, 0, none⟩ = some (.string ⟨#[111, 102, 102]⟩) ∧ w.cell? ⟨0, 1, none⟩ = some (.string ⟨#[115, 116, 97, 110, 100, 98, 121]⟩) ∧ w.cell? ⟨0, 2, none⟩ = some (.string ⟨#[111, 110]⟩) ∧ w.cell? ⟨0, 3, none⟩ = some (.string ⟨#[114, 97, 109, 112, 105, 110, 103]⟩) ∧ w.cell? ⟨0, 4, none⟩ = some (.string ⟨#[102, 97, 117, 108, 116]⟩) ∧ 0 < w.heap.size
theorem Nm.below {w w' : World} (h : Nm w) (hb : Below w.heap.size w w') : Nm w' := by
  obtain ⟨h0, h1, h2, h3, h4, hz⟩ := h
  exact ⟨(hb.cell (p := ⟨0, 0, none⟩) hz).trans h0, (hb.cell (p := ⟨0, 1, none⟩) hz).trans h1, (hb.cell (p := ⟨0, 2, none⟩) hz).trans h2, (hb.cell (p := ⟨0, 3, none⟩) hz).trans h3, (hb.cell (p := ⟨0, 4, none⟩) hz).trans h4, by have := hb.size; omega⟩
theorem Nm.alloc {w : World} (h : Nm w) (o : Obj) : Nm (w.alloc o) := h.below ((Below.refl _ _).alloc (Nat.le_refl _) o)

def snm (s : Int) : ByteArray := if s = 1 then ⟨#[111, 102, 102]⟩ else if s = 2 then ⟨#[115, 116, 97, 110, 100, 98, 121]⟩ else if s = 3 then ⟨#[111, 110]⟩ else if s = 4 then ⟨#[114, 97, 109, 112, 105, 110, 103]⟩ else if s = 5 then ⟨#[102, 97, 117, 108, 116]⟩ else ⟨#[]⟩

set_option maxHeartbeats 400000 in
theorem name1 (w : World) (hN : Nm w) : Calls Tryd.prog 16 #[.int .i64 1] w fun e w' => e = .returned (.string ⟨#[111, 102, 102]⟩) ∧ w = w' := by
  obtain ⟨h0, h1, h2, h3, h4, hz⟩ := hN
  go_enter Tryd.func16, Tryd.ntmps16
  go_wp2
  go_ret
  exact ⟨rfl, rfl⟩
set_option maxHeartbeats 400000 in
theorem name2 (w : World) (hN : Nm w) : Calls Tryd.prog 16 #[.int .i64 2] w fun e w' => e = .returned (.string ⟨#[115, 116, 97, 110, 100, 98, 121]⟩) ∧ w = w' := by
  obtain ⟨h0, h1, h2, h3, h4, hz⟩ := hN
  go_enter Tryd.func16, Tryd.ntmps16
  go_wp2
  go_ret
  exact ⟨rfl, rfl⟩
set_option maxHeartbeats 400000 in
theorem name3 (w : World) (hN : Nm w) : Calls Tryd.prog 16 #[.int .i64 3] w fun e w' => e = .returned (.string ⟨#[111, 110]⟩) ∧ w = w' := by
  obtain ⟨h0, h1, h2, h3, h4, hz⟩ := hN
  go_enter Tryd.func16, Tryd.ntmps16
  go_wp2
  go_ret
  exact ⟨rfl, rfl⟩
set_option maxHeartbeats 400000 in
theorem name4 (w : World) (hN : Nm w) : Calls Tryd.prog 16 #[.int .i64 4] w fun e w' => e = .returned (.string ⟨#[114, 97, 109, 112, 105, 110, 103]⟩) ∧ w = w' := by
  obtain ⟨h0, h1, h2, h3, h4, hz⟩ := hN
  go_enter Tryd.func16, Tryd.ntmps16
  go_wp2
  go_ret
  exact ⟨rfl, rfl⟩
set_option maxHeartbeats 400000 in
theorem name5 (w : World) (hN : Nm w) : Calls Tryd.prog 16 #[.int .i64 5] w fun e w' => e = .returned (.string ⟨#[102, 97, 117, 108, 116]⟩) ∧ w = w' := by
  obtain ⟨h0, h1, h2, h3, h4, hz⟩ := hN
  go_enter Tryd.func16, Tryd.ntmps16
  go_wp2
  go_ret
  exact ⟨rfl, rfl⟩
set_option maxHeartbeats 400000 in
theorem name0 (s : Int) (w : World) (h : s < 1 ∨ 5 < s) : Calls Tryd.prog 16 #[.int .i64 s] w fun e w' => e = .returned (.string ⟨#[]⟩) ∧ w = w' := by
  rcases h with h | h
  · go_enter Tryd.func16, Tryd.ntmps16
    go_wp2
    go_ret
    exact ⟨rfl, rfl⟩
  · have h' : ¬ s < 1 := by omega
    go_enter Tryd.func16, Tryd.ntmps16
    go_wp2
    go_ret
    exact ⟨rfl, rfl⟩
set_option maxHeartbeats 400000 in
theorem rname_any (s : Int) (w : World) : Calls Tryd.prog 17 #[.int .i64 s] w fun e w' => e = .returned (.string (snm s)) ∧ w = w' := by
  go_enter Tryd.func17, Tryd.ntmps17
  go_wp2
  all_goals (go_ret; exact ⟨by go_light; simp_all [snm], rfl⟩)

def valE (s cu tg mn mx st : Int) : Int := if limB mn mx st = false then 6 else if s < 1 ∨ 5 < s then 1 else if alwB mn mx cu = false ∨ alwB mn mx tg = false then 6 else if fitB s cu tg = false then 8 else 0

/-- What every function of this layer leaves of the world: new blocks alone. -/
def New (w w' : World) : Prop := Below w.heap.size w w'
theorem new0 (w : World) : New w w := Below.refl _ _
theorem New.alloc {w w' : World} (h : New w w') (o : Obj) : New w (w'.alloc o) := Below.alloc h h.size o
theorem New.trans {w w' w'' : World} (h : New w w') (h' : New w' w'') : New w w'' := Below.trans h (Below.mono h' h.size)

set_option maxHeartbeats 400000 in
theorem valid_lim (s cu tg mn mx st : Int) (w : World) (h : limB mn mx st = false) :
    Calls Tryd.prog 14 #[.agg #[.int .i64 s, .int .i64 cu, .int .i64 tg, .int .i64 mn, .int .i64 mx, .int .i64 st]] w fun e w' => e = .returned (.int .i64 (valE s cu tg mn mx st)) ∧ New w w' := by
  go_enter Tryd.func14, Tryd.ntmps14
  go_wp2_with (go_at_call 32; refine (limits_any _ _ _ _).mono ?_; rintro e w' ⟨rfl, rfl⟩)
  go_ret
  exact ⟨ret_int (by simp [valE, h]), (new0 _).alloc _⟩
set_option maxHeartbeats 400000 in
theorem valid_state (s cu tg mn mx st : Int) (w : World) (h : limB mn mx st = true) (hs : s < 1 ∨ 5 < s) :
    Calls Tryd.prog 14 #[.agg #[.int .i64 s, .int .i64 cu, .int .i64 tg, .int .i64 mn, .int .i64 mx, .int .i64 st]] w fun e w' => e = .returned (.int .i64 (valE s cu tg mn mx st)) ∧ New w w' := by
  have HS := Lib.hid hs; clear hs
  go_enter Tryd.func14, Tryd.ntmps14
  go_wp2_with (first | (go_at_call 32; refine (limits_any _ _ _ _).mono ?_; rintro e w' ⟨rfl, rfl⟩) | (go_at_call 16; refine (name0 _ _ HS.out).mono ?_; rintro e w' ⟨rfl, rfl⟩))
  go_ret
  exact ⟨ret_int (by simp [valE, h, HS.out]), (new0 _).alloc _⟩
set_option maxHeartbeats 400000 in
theorem valid_1 (cu tg mn mx st : Int) (w : World) (hN : Nm w) (h : limB mn mx st = true) :
    Calls Tryd.prog 14 #[.agg #[.int .i64 1, .int .i64 cu, .int .i64 tg, .int .i64 mn, .int .i64 mx, .int .i64 st]] w fun e w' => e = .returned (.int .i64 (valE 1 cu tg mn mx st)) ∧ New w w' := by
  go_enter Tryd.func14, Tryd.ntmps14
  go_wp2_with (first | (go_at_call 32; refine (limits_any _ _ _ _).mono ?_; rintro e w' ⟨rfl, rfl⟩) | (go_at_call 16; refine (name1 _ (hN.alloc _)).mono ?_; rintro e w' ⟨rfl, rfl⟩) | (go_at_call 34; refine (allows_any _ _ _ _ _ _ _ _).mono ?_; rintro e w' ⟨rfl, rfl⟩) | (go_at_call 35; refine (fits_any _ _ _ _ _ _ _).mono ?_; rintro e w' ⟨rfl, cs, rfl⟩))
  all_goals (go_ret; exact ⟨ret_int (by go_light; simp_all [valE]), by repeat (first | exact new0 _ | apply New.alloc)⟩)
set_option maxHeartbeats 400000 in
theorem valid_2 (cu tg mn mx st : Int) (w : World) (hN : Nm w) (h : limB mn mx st = true) :
    Calls Tryd.prog 14 #[.agg #[.int .i64 2, .int .i64 cu, .int .i64 tg, .int .i64 mn, .int .i64 mx, .int .i64 st]] w fun e w' => e = .returned (.int .i64 (valE 2 cu tg mn mx st)) ∧ New w w' := by
  go_enter Tryd.func14, Tryd.ntmps14
  go_wp2_with (first | (go_at_call 32; refine (limits_any _ _ _ _).mono ?_; rintro e w' ⟨rfl, rfl⟩) | (go_at_call 16; refine (name2 _ (hN.alloc _)).mono ?_; rintro e w' ⟨rfl, rfl⟩) | (go_at_call 34; refine (allows_any _ _ _ _ _ _ _ _).mono ?_; rintro e w' ⟨rfl, rfl⟩) | (go_at_call 35; refine (fits_any _ _ _ _ _ _ _).mono ?_; rintro e w' ⟨rfl, cs, rfl⟩))
  all_goals (go_ret; exact ⟨ret_int (by go_light; simp_all [valE]), by repeat (first | exact new0 _ | apply New.alloc)⟩)
set_option maxHeartbeats 400000 in
theorem valid_3 (cu tg mn mx st : Int) (w : World) (hN : Nm w) (h : limB mn mx st = true) :
    Calls Tryd.prog 14 #[.agg #[.int .i64 3, .int .i64 cu, .int .i64 tg, .int .i64 mn, .int .i64 mx, .int .i64 st]] w fun e w' => e = .returned (.int .i64 (valE 3 cu tg mn mx st)) ∧ New w w' := by
  go_enter Tryd.func14, Tryd.ntmps14
  go_wp2_with (first | (go_at_call 32; refine (limits_any _ _ _ _).mono ?_; rintro e w' ⟨rfl, rfl⟩) | (go_at_call 16; refine (name3 _ (hN.alloc _)).mono ?_; rintro e w' ⟨rfl, rfl⟩) | (go_at_call 34; refine (allows_any _ _ _ _ _ _ _ _).mono ?_; rintro e w' ⟨rfl, rfl⟩) | (go_at_call 35; refine (fits_any _ _ _ _ _ _ _).mono ?_; rintro e w' ⟨rfl, cs, rfl⟩))
  all_goals (go_ret; exact ⟨ret_int (by go_light; simp_all [valE]), by repeat (first | exact new0 _ | apply New.alloc)⟩)
set_option maxHeartbeats 400000 in
theorem valid_4 (cu tg mn mx st : Int) (w : World) (hN : Nm w) (h : limB mn mx st = true) :
    Calls Tryd.prog 14 #[.agg #[.int .i64 4, .int .i64 cu, .int .i64 tg, .int .i64 mn, .int .i64 mx, .int .i64 st]] w fun e w' => e = .returned (.int .i64 (valE 4 cu tg mn mx st)) ∧ New w w' := by
  go_enter Tryd.func14, Tryd.ntmps14
  go_wp2_with (first | (go_at_call 32; refine (limits_any _ _ _ _).mono ?_; rintro e w' ⟨rfl, rfl⟩) | (go_at_call 16; refine (name4 _ (hN.alloc _)).mono ?_; rintro e w' ⟨rfl, rfl⟩) | (go_at_call 34; refine (allows_any _ _ _ _ _ _ _ _).mono ?_; rintro e w' ⟨rfl, rfl⟩) | (go_at_call 35; refine (fits_any _ _ _ _ _ _ _).mono ?_; rintro e w' ⟨rfl, cs, rfl⟩))
  all_goals (go_ret; exact ⟨ret_int (by go_light; simp_all [valE]), by repeat (first | exact new0 _ | apply New.alloc)⟩)
set_option maxHeartbeats 400000 in
theorem valid_5 (cu tg mn mx st : Int) (w : World) (hN : Nm w) (h : limB mn mx st = true) :
    Calls Tryd.prog 14 #[.agg #[.int .i64 5, .int .i64 cu, .int .i64 tg, .int .i64 mn, .int .i64 mx, .int .i64 st]] w fun e w' => e = .returned (.int .i64 (valE 5 cu tg mn mx st)) ∧ New w w' := by
  go_enter Tryd.func14, Tryd.ntmps14
  go_wp2_with (first | (go_at_call 32; refine (limits_any _ _ _ _).mono ?_; rintro e w' ⟨rfl, rfl⟩) | (go_at_call 16; refine (name5 _ (hN.alloc _)).mono ?_; rintro e w' ⟨rfl, rfl⟩) | (go_at_call 34; refine (allows_any _ _ _ _ _ _ _ _).mono ?_; rintro e w' ⟨rfl, rfl⟩) | (go_at_call 35; refine (fits_any _ _ _ _ _ _ _).mono ?_; rintro e w' ⟨rfl, cs, rfl⟩))
  all_goals (go_ret; exact ⟨ret_int (by go_light; simp_all [valE]), by repeat (first | exact new0 _ | apply New.alloc)⟩)
theorem valid_any (s cu tg mn mx st : Int) (w : World) (hN : Nm w) :
    Calls Tryd.prog 14 #[.agg #[.int .i64 s, .int .i64 cu, .int .i64 tg, .int .i64 mn, .int .i64 mx, .int .i64 st]] w fun e w' => e = .returned (.int .i64 (valE s cu tg mn mx st)) ∧ New w w' := by
  by_cases h : limB mn mx st = true
  · by_cases hs : s < 1 ∨ 5 < s
    · exact valid_state _ _ _ _ _ _ w h hs
    · have : s = 1 ∨ s = 2 ∨ s = 3 ∨ s = 4 ∨ s = 5 := by omega
      rcases this with rfl | rfl | rfl | rfl | rfl
      · exact valid_1 _ _ _ _ _ w hN h
      · exact valid_2 _ _ _ _ _ w hN h
      · exact valid_3 _ _ _ _ _ w hN h
      · exact valid_4 _ _ _ _ _ w hN h
      · exact valid_5 _ _ _ _ _ w hN h
  · exact valid_lim _ _ _ _ _ _ w (by simpa using h)
theorem name_any (s : Int) (w : World) (hN : Nm w) : Calls Tryd.prog 16 #[.int .i64 s] w fun e w' => e = .returned (.string (snm s)) ∧ w = w' := by
  by_cases hs : s < 1 ∨ 5 < s
  · have : snm s = ⟨#[]⟩ := by unfold snm; rw [if_neg (by omega), if_neg (by omega), if_neg (by omega), if_neg (by omega), if_neg (by omega)]
    rw [this]; exact name0 s w hs
  · have : s = 1 ∨ s = 2 ∨ s = 3 ∨ s = 4 ∨ s = 5 := by omega
    rcases this with rfl | rfl | rfl | rfl | rfl
    · exact name1 w hN
    · exact name2 w hN
    · exact name3 w hN
    · exact name4 w hN
    · exact name5 w hN
end Go.Proofs.YtacfjngnfgnmeaaDoor
