/-
  The walk of the statement ConverterAllowed, whole.
-/
import Derived.Test.YtacfjngnfgnmeaaDoorLawAll
namespace Go.Proofs.YtacfjngnfgnmeaaDoor
open Go.RowKit

theorem cmdE_state {s cu tg mn mx st v : Int} {k : Nat} (hv : valE s cu tg mn mx st = 0) (hk : k < 6) : (cmdE s cu tg mn mx st ((k : Int) + 1) v != 8) = decide ((k : Int) + 1 ∈ alL s cu 6) := by
  have hm := mem_alL s cu 6 k
  have h1 : ¬ valE s cu tg mn mx st ≠ 0 := by omega
  unfold cmdE
  rw [if_neg h1, if_neg (by omega)]
  by_cases h : isaB s cu ((k : Int) + 1) = true
  · rw [if_neg (by simp [h])]
    have : ((k : Int) + 1 ∈ alL s cu 6) := hm.2 ⟨hk, h⟩
    simp only [this, decide_true]
    split <;> rfl
  · rw [if_pos (by simpa using h)]
    have : ¬ ((k : Int) + 1 ∈ alL s cu 6) := fun x => h (hm.1 x).2
    simp [this]
theorem cmd_both (s cu tg mn mx st k v : Int) (w : World) (hN : Nm w) :
    Calls Tryd.prog 18 #[.agg #[.int .i64 s, .int .i64 cu, .int .i64 tg, .int .i64 mn, .int .i64 mx, .int .i64 st], .int .i64 k, .int .i64 v] w fun e w' => (∃ x0 x1 x2 x3 x4 x5 : Int, e = .returned (.tuple #[.agg #[.int .i64 x0, .int .i64 x1, .int .i64 x2, .int .i64 x3, .int .i64 x4, .int .i64 x5], .int .i64 (cmdE s cu tg mn mx st k v)])) ∧ New w w' := by
  by_cases h : cmdE s cu tg mn mx st k v = 0
  · rw [h]; exact (cmd_ok _ _ _ _ _ _ _ _ w hN h).mono fun e w' ⟨he, hn⟩ => ⟨⟨_, _, _, _, _, _, he⟩, hn⟩
  · exact (cmd_err _ _ _ _ _ _ _ _ w hN h).mono fun e w' ⟨he, hn⟩ => ⟨⟨_, _, _, _, _, _, he⟩, hn⟩
theorem all_both (s cu tg mn mx st : Int) (w : World) (hN : Nm w) : ∃ l : List Int, l.length ≤ 6 ∧ (valE s cu tg mn mx st = 0 → l = alL s cu 6) ∧ Calls Tryd.prog 27 #[.agg #[.int .i64 s, .int .i64 cu, .int .i64 tg, .int .i64 mn, .int .i64 mx, .int .i64 st]] w (AllPost w l) ∧ ∀ w', Calls Tryd.prog 29 #[.agg #[.int .i64 s, .int .i64 cu, .int .i64 tg, .int .i64 mn, .int .i64 mx, .int .i64 st]] w' (AllPost w' l) := by
  by_cases h : valE s cu tg mn mx st = 0
  · exact ⟨alL s cu 6, alL_le s cu 6, fun _ => rfl, all_ok _ _ _ _ _ _ w hN h, fun w' => rall_ok _ _ _ _ _ _ w' h⟩
  · exact ⟨[], by simp, fun e => absurd e h, all_err _ _ _ _ _ _ w hN (by simpa using h), fun w' => rall_err _ _ _ _ _ _ w' (by simpa using h)⟩
def LaRel (w : World) (s cu tg mn mx st : Int) (l : List Int) (v : Value) (wr : World) : Prop := New w wr ∧ w.heap.size < wr.heap.size ∧ Blk wr w.heap.size s cu tg mn mx st ∧ IntV wr v l

set_option maxHeartbeats 3200000 in
theorem law_allowed (s cu tg mn mx st x : Int) (w : World) (hN : Nm w) :
    Calls Tryd.prog 7 #[.agg #[.int .i64 s, .int .i64 cu, .int .i64 tg, .int .i64 mn, .int .i64 mx, .int .i64 st], .int .i64 x] w fun e w' => e = .returned (.bool true) ∧ New w w' := by
  have HN := Lib.hid hN
  clear hN
  have HB0 := Lib.hid (Blk.alloc w s cu tg mn mx st)
  go_enter Tryd.func7, Tryd.ntmps7
  go_wp2_with fail
  refine (awake_any _ (HN.out.new ((new0 _).alloc _))).mono ?_
  rintro e w1 ⟨rfl, h1⟩
  have B0 : Blk w1 w.heap.size s cu tg mn mx st := HB0.out.new h1 (by simp)
  have z1 : w.heap.size < w1.heap.size := by have := New.size h1; (try simp at this); omega
  have H1 := Lib.hid (New.trans ((new0 w).alloc _) h1)
  clear h1
  obtain ⟨k0, k1, k2, k3, k4, k5, kf⟩ := B0
  obtain ⟨l, hl, hle, hA, hRA⟩ := all_both s cu tg mn mx st w1 (HN.out.new H1.out)
  have HLE := Lib.hid hle
  have HA := Lib.hid hA
  have HRA := Lib.hid hRA
  have HB1 := Lib.hid (show Blk w1 w.heap.size s cu tg mn mx st from ⟨k0, k1, k2, k3, k4, k5, kf⟩)
  clear hle hA hRA
  go_wp2_with fail
  refine HA.out.mono ?_
  rintro e w2 ⟨v, rfl, ho, h2⟩
  have HV2 := Lib.hid (intV_own ho)
  have B0 := HB1.out.new h2 z1
  have z2 : w.heap.size < w2.heap.size := by have := New.size h2; omega
  have H2 := Lib.hid (New.trans H1.out h2 : New w w2)
  have HB2 := Lib.hid B0
  clear h2 ho k0 k1 k2 k3 k4 k5 kf
  obtain ⟨k0, k1, k2, k3, k4, k5, kf⟩ := B0
  go_wp2_with fail
  refine (HRA.out _).mono ?_
  rintro e w3 ⟨v', rfl, ho, h3⟩
  have HV3 := Lib.hid (intV_own ho)
  have HV23 := Lib.hid (HV2.out.new h3)
  have B0 := HB2.out.new h3 z2
  have z3 : w.heap.size < w3.heap.size := by have := New.size h3; omega
  have H3 := Lib.hid (New.trans H2.out h3 : New w w3)
  have HB3 := Lib.hid B0
  clear h3 ho k0 k1 k2 k3 k4 k5 kf
  go_wp2_with fail
  refine (equal_v v v' l _ (by omega) HV23.out HV3.out).mono ?_
  rintro e w4 ⟨rfl, h4⟩
  have HV4 := Lib.hid (HV23.out.new h4)
  have B0 := HB3.out.new h4 z3
  have z4 : w.heap.size < w4.heap.size := by have := New.size h4; omega
  have H4 := Lib.hid (New.trans H3.out h4 : New w w4)
  have HB4 := Lib.hid B0
  clear h4 B0
  go_wp2_with fail
  go_loopw [6] (fun i wr => ∃ j : Nat, j ≤ 6 ∧ i = .int .i64 ((j : Int) + 1) ∧ LaRel w s cu tg mn mx st l v wr) (fun i _ => 7 - (intOf i).toNat)
  case atStart => exact ⟨0, by omega, rfl, H4.out, z4, HB4.out, HV4.out⟩
  case round =>
    obtain ⟨j, hj, rfl, hNw, hz, hB, hV⟩ := hrel
    have HNw := Lib.hid hNw
    have HB := Lib.hid hB
    have HV := Lib.hid hV
    obtain ⟨k0, k1, k2, k3, k4, k5, kf⟩ := hB
    clear hNw hV
    by_cases hlt : j < 6
    · by_cases hv : valE s cu tg mn mx st = 0
      · have hst := cmdE_state (v := x) hv hlt
        rw [← HLE.out hv] at hst
        have HST := Lib.hid hst
        clear hst
        go_wp2_with fail
        refine (rvalid_any _ _ _ _ _ _ _).mono ?_
        rintro e w5 ⟨rfl, h5⟩
        have B0 := HB.out.new h5 hz
        have HV5 := Lib.hid (HV.out.new h5)
        have z5 : w.heap.size < w5.heap.size := by have := New.size h5; omega
        have HB5 := Lib.hid B0
        have H5 := Lib.hid (New.trans HNw.out h5 : New w w5)
        clear h5 k0 k1 k2 k3 k4 k5 kf
        obtain ⟨k0, k1, k2, k3, k4, k5, kf⟩ := B0
        go_wp2_with fail
        refine (cmd_both _ _ _ _ _ _ _ _ _ (HN.out.new H5.out)).mono ?_
        rintro e w6 ⟨⟨x0, x1, x2, x3, x4, x5, rfl⟩, h6⟩
        have B0 := HB5.out.new h6 z5
        have HV6 := Lib.hid (HV5.out.new h6)
        have z6 : w.heap.size < w6.heap.size := by have := New.size h6; omega
        have HB6 := Lib.hid B0
        have H6 := Lib.hid (New.trans H5.out h6 : New w w6)
        clear h6 B0 k0 k1 k2 k3 k4 k5 kf
        go_wp2_with fail
        refine (contains_v v l _ _ (by omega) (HV6.out.new ((new0 _).alloc _))).mono ?_
        rintro e w7 ⟨rfl, rfl⟩
        rw [← HST.out]
        go_wp2
        all_goals
          go_roundw
          case rel => exact ⟨j + 1, by omega, by go_num, H6.out.alloc _, by simp; omega, HB6.out.new ((new0 _).alloc _) z6, HV6.out.new ((new0 _).alloc _)⟩
          case measure => simp [intOf]; omega
      · have hv' : (valE s cu tg mn mx st == 0) = false := by simpa using hv
        clear hv
        go_wp2_with fail
        refine (rvalid_any _ _ _ _ _ _ _).mono ?_
        rintro e w5 ⟨rfl, h5⟩
        have H5 := Lib.hid (New.trans HNw.out h5 : New w w5)
        clear h5
        go_wp2
        go_ret
        exact ⟨rfl, H5.out⟩
    · go_wp2
      go_ret
      exact ⟨rfl, HNw.out⟩
end Go.Proofs.YtacfjngnfgnmeaaDoor
