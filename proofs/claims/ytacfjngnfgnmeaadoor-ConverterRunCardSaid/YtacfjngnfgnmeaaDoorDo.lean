/-
  One step of a script: a tick or a command.
-/
import Derived.Test.YtacfjngnfgnmeaaDoorCon
namespace Go.Proofs.YtacfjngnfgnmeaaDoor
open Go.RowKit

def stE (s cu tg mn mx st k v : Int) : Int := if k = 0 then tickE s cu tg mn mx st v else cmdE s cu tg mn mx st k v
def stS (s cu tg st k v : Int) : Int := if k = 0 then tickS s cu tg st v else cmdS s cu k v
def stC (cu tg st k v : Int) : Int := if k = 0 then tickC cu tg st v else cu
def stT (tg k v : Int) : Int := if k = 0 then tg else cmdT tg k v
theorem st_valid {s cu tg mn mx st k v : Int} (h : stE s cu tg mn mx st k v = 0) : valE (stS s cu tg st k v) (stC cu tg st k v) (stT tg k v) mn mx st = 0 := by
  unfold stE stS stC stT at *
  by_cases e : k = 0
  · rw [if_pos e] at h ⊢; rw [if_pos e, if_pos e]; exact tick_valid h
  · rw [if_neg e] at h ⊢; rw [if_neg e, if_neg e]; exact cmd_valid h
theorem cells3 {w w' : World} {a0 a1 a2 a3 a4 a5 : Value} {o o' : Obj} (hb : New (((w.alloc o).alloc o').alloc (.cells #[a0, a1, a2, a3, a4, a5] 23)) w') :
    w'.cell? ⟨w.heap.size + 1 + 1, 0, none⟩ = some a0 ∧ w'.cell? ⟨w.heap.size + 1 + 1, 1, none⟩ = some a1 ∧ w'.cell? ⟨w.heap.size + 1 + 1, 2, none⟩ = some a2 ∧ w'.cell? ⟨w.heap.size + 1 + 1, 3, none⟩ = some a3 ∧ w'.cell? ⟨w.heap.size + 1 + 1, 4, none⟩ = some a4 ∧ w'.cell? ⟨w.heap.size + 1 + 1, 5, none⟩ = some a5 ∧ ∀ o, w'.frozen? ⟨w.heap.size + 1 + 1, o, none⟩ = false := by
  obtain ⟨hc, hf⟩ := ncell hb
  refine ⟨?_, ?_, ?_, ?_, ?_, ?_, fun o => ?_⟩ <;> (first | rw [hc _ _ (by simp)] | rw [hf _ _ (by simp)]) <;> simp [go_sem]
set_option maxHeartbeats 400000 in
theorem do_ok (s cu tg mn mx st k v : Int) (w : World) (hN : Nm w) (h : stE s cu tg mn mx st k v = 0) :
    Calls Tryd.prog 40 #[.agg #[.int .i64 s, .int .i64 cu, .int .i64 tg, .int .i64 mn, .int .i64 mx, .int .i64 st], .agg #[.int .i64 k, .int .i64 v]] w fun e w' => e = .returned (.tuple #[.agg #[.int .i64 (stS s cu tg st k v), .int .i64 (stC cu tg st k v), .int .i64 (stT tg k v), .int .i64 mn, .int .i64 mx, .int .i64 st], .int .i64 0]) ∧ New w w' := by
  by_cases e : k = 0
  · subst e
    have h0 : tickE s cu tg mn mx st v = 0 := by simpa [stE] using h
    rw [show stS s cu tg st 0 v = tickS s cu tg st v by simp [stS], show stC cu tg st 0 v = tickC cu tg st v by simp [stC], show stT tg 0 v = tg by simp [stT]]
    have HT := Lib.hid h0
    clear h h0
    go_enter Tryd.func40, Tryd.ntmps40
    go_wp2_with (first | (go_at_call 20; refine (tick_ok _ _ _ _ _ _ _ _ (((hN.alloc _).alloc _).alloc _) HT.out).mono ?_; rintro e w' ⟨rfl, hw1⟩; obtain ⟨l0, l1, l2, l3, l4, l5, hf2⟩ := cells3 hw1))
    exact bodyPost_ret (v := .tuple #[.agg #[.int .i64 (tickS s cu tg st v), .int .i64 (tickC cu tg st v), .int .i64 tg, .int .i64 mn, .int .i64 mx, .int .i64 st], .int .i64 0]) (by go_light; simp [results, Tryd.results40, go_sem, *]) rfl ⟨rfl, (by repeat (first | with_reducible exact new0 _ | with_reducible apply New.alloc | (with_reducible refine New.setCell ?_ (by simp <;> omega) _) | (with_reducible refine New.trans ?_ hw1)))⟩
  · have h0 : cmdE s cu tg mn mx st k v = 0 := by simpa [stE, e] using h
    rw [show stS s cu tg st k v = cmdS s cu k v by simp [stS, e], show stC cu tg st k v = cu by simp [stC, e], show stT tg k v = cmdT tg k v by simp [stT, e]]
    have HT := Lib.hid h0
    have e' : (k == 0) = false := by simpa using e
    clear h h0 e
    go_enter Tryd.func40, Tryd.ntmps40
    go_wp2_with (first | (go_at_call 18; refine (cmd_ok _ _ _ _ _ _ _ _ _ (((hN.alloc _).alloc _).alloc _) HT.out).mono ?_; rintro e w' ⟨rfl, hw1⟩; obtain ⟨l0, l1, l2, l3, l4, l5, hf2⟩ := cells3 hw1))
    exact bodyPost_ret (v := .tuple #[.agg #[.int .i64 (cmdS s cu k v), .int .i64 cu, .int .i64 (cmdT tg k v), .int .i64 mn, .int .i64 mx, .int .i64 st], .int .i64 0]) (by go_light; simp [results, Tryd.results40, go_sem, *]) rfl ⟨rfl, (by repeat (first | with_reducible exact new0 _ | with_reducible apply New.alloc | (with_reducible refine New.setCell ?_ (by simp <;> omega) _) | (with_reducible refine New.trans ?_ hw1)))⟩
set_option maxHeartbeats 400000 in
theorem do_err (s cu tg mn mx st k v : Int) (w : World) (hN : Nm w) (h : stE s cu tg mn mx st k v ≠ 0) :
    Calls Tryd.prog 40 #[.agg #[.int .i64 s, .int .i64 cu, .int .i64 tg, .int .i64 mn, .int .i64 mx, .int .i64 st], .agg #[.int .i64 k, .int .i64 v]] w fun e w' => e = .returned (.tuple #[.agg #[.int .i64 0, .int .i64 0, .int .i64 0, .int .i64 0, .int .i64 0, .int .i64 0], .int .i64 (stE s cu tg mn mx st k v)]) ∧ New w w' := by
  by_cases e : k = 0
  · subst e
    have h0 : tickE s cu tg mn mx st v ≠ 0 := by simpa [stE] using h
    rw [show stE s cu tg mn mx st 0 v = tickE s cu tg mn mx st v by simp [stE]]
    have HT := Lib.hid h0
    clear h h0
    go_enter Tryd.func40, Tryd.ntmps40
    go_wp2_with (first | (go_at_call 20; refine (tick_err _ _ _ _ _ _ _ _ (((hN.alloc _).alloc _).alloc _) HT.out).mono ?_; rintro e w' ⟨rfl, hw1⟩; obtain ⟨l0, l1, l2, l3, l4, l5, hf2⟩ := cells3 hw1))
    exact bodyPost_ret (v := .tuple #[.agg #[.int .i64 0, .int .i64 0, .int .i64 0, .int .i64 0, .int .i64 0, .int .i64 0], .int .i64 (tickE s cu tg mn mx st v)]) (by go_light; simp [results, Tryd.results40, go_sem, *]) rfl ⟨rfl, (by repeat (first | with_reducible exact new0 _ | with_reducible apply New.alloc | (with_reducible refine New.setCell ?_ (by simp <;> omega) _) | (with_reducible refine New.trans ?_ hw1)))⟩
  · have h0 : cmdE s cu tg mn mx st k v ≠ 0 := by simpa [stE, e] using h
    rw [show stE s cu tg mn mx st k v = cmdE s cu tg mn mx st k v by simp [stE, e]]
    have HT := Lib.hid h0
    have e' : (k == 0) = false := by simpa using e
    clear h h0 e
    go_enter Tryd.func40, Tryd.ntmps40
    go_wp2_with (first | (go_at_call 18; refine (cmd_err _ _ _ _ _ _ _ _ _ (((hN.alloc _).alloc _).alloc _) HT.out).mono ?_; rintro e w' ⟨rfl, hw1⟩; obtain ⟨l0, l1, l2, l3, l4, l5, hf2⟩ := cells3 hw1))
    exact bodyPost_ret (v := .tuple #[.agg #[.int .i64 0, .int .i64 0, .int .i64 0, .int .i64 0, .int .i64 0, .int .i64 0], .int .i64 (cmdE s cu tg mn mx st k v)]) (by go_light; simp [results, Tryd.results40, go_sem, *]) rfl ⟨rfl, (by repeat (first | with_reducible exact new0 _ | with_reducible apply New.alloc | (with_reducible refine New.setCell ?_ (by simp <;> omega) _) | (with_reducible refine New.trans ?_ hw1)))⟩
set_option maxHeartbeats 400000 in
theorem rdo_ok (s cu tg mn mx st k v : Int) (w : World) (h : stE s cu tg mn mx st k v = 0) :
    Calls Tryd.prog 41 #[.agg #[.int .i64 s, .int .i64 cu, .int .i64 tg, .int .i64 mn, .int .i64 mx, .int .i64 st], .agg #[.int .i64 k, .int .i64 v]] w fun e w' => e = .returned (.tuple #[.agg #[.int .i64 (stS s cu tg st k v), .int .i64 (stC cu tg st k v), .int .i64 (stT tg k v), .int .i64 mn, .int .i64 mx, .int .i64 st], .int .i64 0]) ∧ New w w' := by
  by_cases e : k = 0
  · subst e
    have h0 : tickE s cu tg mn mx st v = 0 := by simpa [stE] using h
    rw [show stS s cu tg st 0 v = tickS s cu tg st v by simp [stS], show stC cu tg st 0 v = tickC cu tg st v by simp [stC], show stT tg 0 v = tg by simp [stT]]
    have HT := Lib.hid h0
    clear h h0
    go_enter Tryd.func41, Tryd.ntmps41
    go_wp2_with (first | (go_at_call 21; refine (rtick_ok _ _ _ _ _ _ _ _ HT.out).mono ?_; rintro e w' ⟨rfl, hw1⟩; obtain ⟨l0, l1, l2, l3, l4, l5, hf2⟩ := cells3 hw1))
    exact bodyPost_ret (v := .tuple #[.agg #[.int .i64 (tickS s cu tg st v), .int .i64 (tickC cu tg st v), .int .i64 tg, .int .i64 mn, .int .i64 mx, .int .i64 st], .int .i64 0]) (by go_light; simp [results, Tryd.results41, go_sem, *]) rfl ⟨rfl, (by repeat (first | with_reducible exact new0 _ | with_reducible apply New.alloc | (with_reducible refine New.setCell ?_ (by simp <;> omega) _) | (with_reducible refine New.trans ?_ hw1)))⟩
  · have h0 : cmdE s cu tg mn mx st k v = 0 := by simpa [stE, e] using h
    rw [show stS s cu tg st k v = cmdS s cu k v by simp [stS, e], show stC cu tg st k v = cu by simp [stC, e], show stT tg k v = cmdT tg k v by simp [stT, e]]
    have HT := Lib.hid h0
    have e' : (k == 0) = false := by simpa using e
    clear h h0 e
    go_enter Tryd.func41, Tryd.ntmps41
    go_wp2_with (first | (go_at_call 19; refine (rcmd_ok _ _ _ _ _ _ _ _ _ HT.out).mono ?_; rintro e w' ⟨rfl, hw1⟩; obtain ⟨l0, l1, l2, l3, l4, l5, hf2⟩ := cells3 hw1))
    exact bodyPost_ret (v := .tuple #[.agg #[.int .i64 (cmdS s cu k v), .int .i64 cu, .int .i64 (cmdT tg k v), .int .i64 mn, .int .i64 mx, .int .i64 st], .int .i64 0]) (by go_light; simp [results, Tryd.results41, go_sem, *]) rfl ⟨rfl, (by repeat (first | with_reducible exact new0 _ | with_reducible apply New.alloc | (with_reducible refine New.setCell ?_ (by simp <;> omega) _) | (with_reducible refine New.trans ?_ hw1)))⟩
set_option maxHeartbeats 400000 in
theorem rdo_err (s cu tg mn mx st k v : Int) (w : World) (h : stE s cu tg mn mx st k v ≠ 0) :
    Calls Tryd.prog 41 #[.agg #[.int .i64 s, .int .i64 cu, .int .i64 tg, .int .i64 mn, .int .i64 mx, .int .i64 st], .agg #[.int .i64 k, .int .i64 v]] w fun e w' => e = .returned (.tuple #[.agg #[.int .i64 0, .int .i64 0, .int .i64 0, .int .i64 0, .int .i64 0, .int .i64 0], .int .i64 (stE s cu tg mn mx st k v)]) ∧ New w w' := by
  by_cases e : k = 0
  · subst e
    have h0 : tickE s cu tg mn mx st v ≠ 0 := by simpa [stE] using h
    rw [show stE s cu tg mn mx st 0 v = tickE s cu tg mn mx st v by simp [stE]]
    have HT := Lib.hid h0
    clear h h0
    go_enter Tryd.func41, Tryd.ntmps41
    go_wp2_with (first | (go_at_call 21; refine (rtick_err _ _ _ _ _ _ _ _ HT.out).mono ?_; rintro e w' ⟨rfl, hw1⟩; obtain ⟨l0, l1, l2, l3, l4, l5, hf2⟩ := cells3 hw1))
    exact bodyPost_ret (v := .tuple #[.agg #[.int .i64 0, .int .i64 0, .int .i64 0, .int .i64 0, .int .i64 0, .int .i64 0], .int .i64 (tickE s cu tg mn mx st v)]) (by go_light; simp [results, Tryd.results41, go_sem, *]) rfl ⟨rfl, (by repeat (first | with_reducible exact new0 _ | with_reducible apply New.alloc | (with_reducible refine New.setCell ?_ (by simp <;> omega) _) | (with_reducible refine New.trans ?_ hw1)))⟩
  · have h0 : cmdE s cu tg mn mx st k v ≠ 0 := by simpa [stE, e] using h
    rw [show stE s cu tg mn mx st k v = cmdE s cu tg mn mx st k v by simp [stE, e]]
    have HT := Lib.hid h0
    have e' : (k == 0) = false := by simpa using e
    clear h h0 e
    go_enter Tryd.func41, Tryd.ntmps41
    go_wp2_with (first | (go_at_call 19; refine (rcmd_err _ _ _ _ _ _ _ _ _ HT.out).mono ?_; rintro e w' ⟨rfl, hw1⟩; obtain ⟨l0, l1, l2, l3, l4, l5, hf2⟩ := cells3 hw1))
    exact bodyPost_ret (v := .tuple #[.agg #[.int .i64 0, .int .i64 0, .int .i64 0, .int .i64 0, .int .i64 0, .int .i64 0], .int .i64 (cmdE s cu tg mn mx st k v)]) (by go_light; simp [results, Tryd.results41, go_sem, *]) rfl ⟨rfl, (by repeat (first | with_reducible exact new0 _ | with_reducible apply New.alloc | (with_reducible refine New.setCell ?_ (by simp <;> omega) _) | (with_reducible refine New.trans ?_ hw1)))⟩
end Go.Proofs.YtacfjngnfgnmeaaDoor
