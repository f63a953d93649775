/-
  The lists of the commands that are allowed.
-/
import Derived.Test.YtacfjngnfgnmeaaDoorLaws
namespace Go.Proofs.YtacfjngnfgnmeaaDoor
open Go.RowKit

theorem info3 : (Tryd.prog.info? 3).map (fun i => (i.zero, i.size, i.bytes)) = some (some (.int .i64 0), 1, 8) := by kernel_rfl
/-- The allowed commands among the first j. -/
def alL (s cu : Int) : Nat → List Int
  | 0 => []
  | j + 1 => if isaB s cu ((j : Int) + 1) = true then alL s cu j ++ [(j : Int) + 1] else alL s cu j
theorem alL_le (s cu : Int) (j : Nat) : (alL s cu j).length ≤ j := by
  induction j with
  | zero => exact Nat.le_refl _
  | succ j ih => unfold alL; split <;> (try simp) <;> omega
def ints (l : List Int) : List Value := l.map (Value.int .i64)
def AllPost (w : World) (l : List Int) (e : Ending) (w' : World) : Prop := ∃ v, e = .returned v ∧ w'.ownsRow (w.heap.size + 1) 3 1 v l.length (ints l) ∧ New w w'
def AllRel (w : World) (s cu tg mn mx st : Int) (j : Nat) (v : Value) (wr : World) : Prop :=
  wr.ownsRow (w.heap.size + 1) 3 1 v (alL s cu j).length (ints (alL s cu j)) ∧ New w wr ∧ w.heap.size < wr.heap.size ∧ Blk wr w.heap.size s cu tg mn mx st

theorem Blk.grown {W W' : World} {p : Nat} {s cu tg mn mx st : Int} {row : Option Nat} (h : Blk W p s cu tg mn mx st) (hg : W.grownBy W' row) (hp : p < W.heap.size) (hne : some p ≠ row) : Blk W' p s cu tg mn mx st := by
  obtain ⟨h0, h1, h2, h3, h4, h5, hf⟩ := h
  have e := hg.block p hp hne
  exact ⟨(World.cell?_of_block (a := ⟨p, 0, none⟩) e).trans h0, (World.cell?_of_block (a := ⟨p, 1, none⟩) e).trans h1, (World.cell?_of_block (a := ⟨p, 2, none⟩) e).trans h2, (World.cell?_of_block (a := ⟨p, 3, none⟩) e).trans h3, (World.cell?_of_block (a := ⟨p, 4, none⟩) e).trans h4, (World.cell?_of_block (a := ⟨p, 5, none⟩) e).trans h5, fun o => (World.frozen?_of_block (a := ⟨p, o, none⟩) e).trans (hf o)⟩
theorem alL_yes {s cu : Int} {j : Nat} (h : isaB s cu ((j : Int) + 1) = true) : alL s cu (j + 1) = alL s cu j ++ [(j : Int) + 1] := by rw [alL, if_pos h]
theorem alL_no {s cu : Int} {j : Nat} (h : ¬ isaB s cu ((j : Int) + 1) = true) : alL s cu (j + 1) = alL s cu j := by rw [alL, if_neg h]
theorem all_grow {w wr w3 : World} {s cu tg mn mx st : Int} {j : Nat} {v v' : Value} {cs ds : Array Value} {t1 t2 : TypeId} (hI : isaB s cu ((j : Int) + 1) = true) (h : AllRel w s cu tg mn mx st j v wr)
    (hown : w3.ownsRow (w.heap.size + 1) 3 1 v' ((alL s cu j).length + 1) (ints (alL s cu j) ++ [.int .i64 ((j : Int) + 1)])) (hg : ((wr.alloc (.cells cs t1)).alloc (.cells ds t2)).grownBy w3 v.ownBlock) : AllRel w s cu tg mn mx st (j + 1) v' w3 := by
  obtain ⟨ho, hn, hz, hB⟩ := h
  have hne : some w.heap.size ≠ v.ownBlock := fun e => by have := ho.lt _ e.symm; omega
  refine ⟨?_, ?_, ?_, ?_⟩
  · rw [alL_yes hI]
    simpa [ints] using hown
  · exact Below.grown ((hn.alloc _).alloc _) hg (by simp; omega) (fun k hk => by have := ho.lt k hk; omega)
  · have := hg.size
    simp at this
    omega
  · exact ((hB.new ((new0 _).alloc _) hz).new ((new0 _).alloc _) (by simp; omega)).grown hg (by simp; omega) hne

set_option maxHeartbeats 1600000 in
theorem all_ok (s cu tg mn mx st : Int) (w : World) (hN : Nm w) (hv : valE s cu tg mn mx st = 0) :
    Calls Tryd.prog 27 #[.agg #[.int .i64 s, .int .i64 cu, .int .i64 tg, .int .i64 mn, .int .i64 mx, .int .i64 st]] w (AllPost w (alL s cu 6)) := by
  obtain ⟨i0, hi, hz0, hz1, hz2⟩ := info_parts info3
  have HN := Lib.hid hN
  clear hN
  go_enter Tryd.func27, Tryd.ntmps27
  go_wp2_with (first | (go_at_call 14; refine (valid_any _ _ _ _ _ _ _ (HN.out.alloc _)).mono ?_; rintro e w' ⟨rfl, hw1⟩))
  have HB := Lib.hid ((Blk.alloc w s cu tg mn mx st).new hw1 (by simp))
  have HW1 := Lib.hid (New.trans ((new0 w).alloc _) hw1)
  have z1 : w.heap.size < w'.heap.size := by have := New.size hw1; simp at this; omega
  clear hw1
  go_loopw [3, 4] (fun v i wr => ∃ j : Nat, j ≤ 6 ∧ i = .int .i64 ((j : Int) + 1) ∧ AllRel w s cu tg mn mx st j v wr) (fun _ i _ => 7 - (intOf i).toNat)
  case atStart => exact ⟨0, by omega, rfl, World.ownsRow_nil _ _ _ _, HW1.out, z1, HB.out⟩
  case round =>
    obtain ⟨j, hj, rfl, hown, hNw, hz, hB⟩ := hrel
    by_cases hlt : j < 6
    · have HO := Lib.hid hown
      have HNw := Lib.hid hNw
      have HB := Lib.hid hB
      obtain ⟨k0, k1, k2, k3, k4, k5, kf⟩ := hB
      have hle := alL_le s cu j
      clear hown hNw hv
      by_cases hI : isaB s cu ((j : Int) + 1) = true
      · go_wp2_with (first
          | (go_at_call 36; refine (isa_any _ _ _ _ _ _ _ _).mono ?_; rintro e w2 ⟨rfl, cs, rfl⟩)
          | (at_builtin; refine wpList_append_own _ rfl (.tmp 15) (.tmp 17) 43 rfl (w.heap.size + 1) 3 i0 (.int .i64 0) 1 8 Tryd.underlying43 hi hz0 hz1 hz2 rfl (by decide) _ _ _ rfl ((HO.out.alloc _).alloc _) ⟨wr.heap.size + 1, 0, none⟩ 1 1 [.int .i64 ((j : Int) + 1)] rfl rfl (by intro t u ht; match t, ht with | 0, ht => simp at ht; subst ht; simp [Addr.add, go_sem]) (by intro u hu; simp at hu; subst hu; rfl) (by unfold maxLen; omega) (by omega) (by simp; omega) ?_; intro v' w3 hown3 hgrow3 _))
        have R := all_grow hI ⟨HO.out, HNw.out, hz, HB.out⟩ hown3 hgrow3
        clear hown3 hgrow3
        go_roundw
        case rel => exact ⟨j + 1, by omega, by go_num, R⟩
        case measure => simp [intOf]; omega
      · have hI' : isaB s cu ((j : Int) + 1) = false := by simpa using hI
        have HI := Lib.hid hI
        clear hI
        go_wp2_with (go_at_call 36; refine (isa_any _ _ _ _ _ _ _ _).mono ?_; rintro e w2 ⟨rfl, cs, rfl⟩)
        go_roundw
        case rel =>
          refine ⟨j + 1, by omega, by go_num, ?_, HNw.out.alloc _, by simp; omega, HB.out.new ((new0 _).alloc _) hz⟩
          rw [alL_no HI.out]
          exact HO.out.alloc _
        case measure => simp [intOf]; omega
    · have e : j = 6 := by omega
      subst e
      clear hlt hj
      have HO := Lib.hid hown
      have HNw := Lib.hid hNw
      clear hown hNw hB hv
      go_wp2
      go_ret
      exact ⟨_, rfl, HO.out, HNw.out⟩
end Go.Proofs.YtacfjngnfgnmeaaDoor
