/-
  Read, Freeze and Rearm, by the program and by the reference.
-/
import Derived.Test.YtedbjnojogjnkaaPut3
import Derived.Deep.RegionHeld3
namespace Go.Proofs.Ytedbjnojogjnkaa
open Go.RowKit
def ReadPost (w : World) (n : Nat) (M : Nat → Ms) (ov er : Int) (e : Ending) (w' : World) : Prop := ∃ v, e = .returned (.tuple #[v, .int .i64 ov, .int .i64 er]) ∧ MsV w' v n M ∧ New w w'
def ReadN (w : World) (n : Nat) (M : Nat → Ms) (ov er : Int) (e : Ending) (w' : World) : Prop := ∃ v, e = .returned (.tuple #[v, .int .i64 ov, .int .i64 er]) ∧ MsN w.heap.size w' v n M ∧ New w w'
def frzE (y : Bf) (k : Int) : Int := if vB y ≠ 0 then vB y else if insB k 0 1099511627776 = false then 6 else 0
def frzB (y : Bf) : Bf := ⟨y.ca, y.af, y.n, y.M, y.ov, if y.re = -1 then y.af else y.re, if y.re = -1 then decide (y.af = 0) else y.fz⟩
def rearE (y : Bf) : Int := if vB y ≠ 0 then vB y else if y.fz = false then 8 else 0
def rearB (y : Bf) : Bf := ⟨y.ca, y.af, 0, fun _ => ⟨0, 0, false⟩, 0, -1, false⟩
set_option maxHeartbeats 3200000 in
theorem read_bad (ca af : Int) (A : Option Addr) (n cap : Nat) (M : Nat → Ms) (ov re : Int) (fz : Bool) (w : World) (hM : MsV w (.slice A n cap) n M) (hn : n ≤ 1000) (e : Int) (hv : vB ⟨ca, af, n, M, ov, re, fz⟩ = e) (h0 : ¬ e = 0) :
    Calls Try.prog 15 #[.agg #[.int .i64 ca, .int .i64 af, .slice A n cap, .int .i64 ov, .int .i64 re, .bool fz]] w (ReadN w 0 M 0 e) := by
  have HM := Lib.hid hM
  have hvv : valE ca af n M ov re fz = e := hv
  have HV := Lib.hid hvv
  clear hM hv hvv
  have A1 := Lib.hid (blk_alloc w #[.int .i64 ca, .int .i64 af, .slice A n cap, .int .i64 ov, .int .i64 re, .bool fz] 24 _ rfl)
  go_enter Try.func15, Try.ntmps15
  go_wp2_with fail
  refine (valid_any ca af A n cap M ov re fz _ (HM.out.new ((new0 w).alloc _)) hn).mono ?_
  rw [HV.out]
  rintro e w1 ⟨rfl, g1⟩
  have A1 := Lib.hid (A1.out.new g1)
  obtain ⟨k0, k1, k2, k3, k4, k5, kf, kz⟩ := A1.out.c6
  have H1 := Lib.hid (show New w w1 from New.trans ((new0 w).alloc _) g1)
  clear g1
  go_wp2_with fail
  go_ret3
  exact ⟨_, rfl, ⟨.inl ⟨rfl, none, 0, rfl⟩, fun _ _ _ _ h => absurd h (by decide)⟩, by repeat (first | with_reducible exact new0 _ | with_reducible apply New.alloc | with_reducible apply New.drewN | with_reducible apply New.drew | (with_reducible refine New.setCell ?_ (by simp <;> omega) _) | (with_reducible refine New.trans ?_ H1.out))⟩
set_option maxHeartbeats 3200000 in
theorem read_ok (ca af : Int) (A : Option Addr) (n cap : Nat) (M : Nat → Ms) (ov re : Int) (fz : Bool) (w : World) (hM : MsV w (.slice A n cap) n M) (hn : n ≤ 1000) (hv : vB ⟨ca, af, n, M, ov, re, fz⟩ = 0) :
    Calls Try.prog 15 #[.agg #[.int .i64 ca, .int .i64 af, .slice A n cap, .int .i64 ov, .int .i64 re, .bool fz]] w (ReadN w n M ov 0) := by
  have HM := Lib.hid hM
  have hvv : valE ca af n M ov re fz = 0 := hv
  have HV := Lib.hid hvv
  clear hM hv hvv
  have A1 := Lib.hid (blk_alloc w #[.int .i64 ca, .int .i64 af, .slice A n cap, .int .i64 ov, .int .i64 re, .bool fz] 24 _ rfl)
  go_enter Try.func15, Try.ntmps15
  go_wp2_with fail
  refine (valid_any ca af A n cap M ov re fz _ (HM.out.new ((new0 w).alloc _)) hn).mono ?_
  rw [HV.out]
  rintro e w1 ⟨rfl, g1⟩
  have A1 := Lib.hid (A1.out.new g1)
  obtain ⟨k0, k1, k2, k3, k4, k5, kf, kz⟩ := A1.out.c6
  have H1 := Lib.hid (show New w w1 from New.trans ((new0 w).alloc _) g1)
  clear g1
  go_wp2_with fail
  go_region_held3 (fun w' => w'.cell? ⟨w.heap.size, 2, none⟩ = some (.slice A n cap) ∧ w'.cell? ⟨w.heap.size, 3, none⟩ = some (.int .i64 ov))
    (first
      | exact ⟨k2, k3⟩
      | (obtain ⟨_, _, q2, q3, _⟩ := (A1.out.new n4.out).c6; exact ⟨q2, q3⟩))
    (first
      | (go_at_call 32; (with_reducible refine (clone_v _ n M _ hn (HM.out.new (New.drew H1.out))).mono ?_); rintro e w4 ⟨v4, rfl, ho4, g4⟩; have n4 := Lib.hid (show New w1 w4 from New.trans ((new0 w1).drew) g4); have HV4 := Lib.hid (msN_own (lo := w.heap.size) (Nat.le_trans (New.size H1.out) (New.size ((new0 w1).drew))) ho4); clear g4 ho4))
  all_goals go_wp2
  all_goals go_ret3
  all_goals exact ⟨_, rfl, HV4.out, by repeat (first | with_reducible exact new0 _ | with_reducible apply New.alloc | with_reducible apply New.drewN | with_reducible apply New.drew | (with_reducible refine New.setCell ?_ (by simp <;> omega) _) | (with_reducible refine New.trans ?_ n4.out) | (with_reducible refine New.trans ?_ H1.out))⟩
theorem read_v (u : Value) (y : Bf) (w : World) (h : BufB w u y) (hn : y.n ≤ 1000) : Calls Try.prog 15 #[u] w (ReadN w (if vB y = 0 then y.n else 0) y.M (if vB y = 0 then y.ov else 0) (vB y)) := by
  obtain ⟨ca, af, n, M, ov, re, fz⟩ := y
  obtain ⟨v, rfl, hM⟩ := h
  obtain ⟨A, cap, rfl⟩ := hM.len
  by_cases hv : vB ⟨ca, af, n, M, ov, re, fz⟩ = 0
  · rw [if_pos hv, if_pos hv, hv]
    exact read_ok ca af A n cap M ov re fz w hM hn hv
  · rw [if_neg hv, if_neg hv]
    exact read_bad ca af A n cap M ov re fz w hM hn _ rfl hv
set_option maxHeartbeats 3200000 in
theorem rread_bad (ca af : Int) (A : Option Addr) (n cap : Nat) (M : Nat → Ms) (ov re : Int) (fz : Bool) (w : World) (hM : MsV w (.slice A n cap) n M) (hn : n ≤ 1000) (e : Int) (hv : vB ⟨ca, af, n, M, ov, re, fz⟩ = e) (h0 : ¬ e = 0) :
    Calls Try.prog 16 #[.agg #[.int .i64 ca, .int .i64 af, .slice A n cap, .int .i64 ov, .int .i64 re, .bool fz]] w (ReadPost w 0 M 0 e) := by
  have HM := Lib.hid hM
  have hvv : valE ca af n M ov re fz = e := hv
  have HV := Lib.hid hvv
  clear hM hv hvv
  have A1 := Lib.hid (blk_alloc w #[.int .i64 ca, .int .i64 af, .slice A n cap, .int .i64 ov, .int .i64 re, .bool fz] 24 _ rfl)
  go_enter Try.func16, Try.ntmps16
  go_wp2_with fail
  refine (rvalid_any ca af A n cap M ov re fz _ (HM.out.new ((new0 w).alloc _)) hn).mono ?_
  rw [HV.out]
  rintro e w1 ⟨rfl, g1⟩
  have A1 := Lib.hid (A1.out.new g1)
  obtain ⟨k0, k1, k2, k3, k4, k5, kf, kz⟩ := A1.out.c6
  have H1 := Lib.hid (show New w w1 from New.trans ((new0 w).alloc _) g1)
  clear g1
  go_wp2_with fail
  go_ret3
  exact ⟨_, rfl, .inl ⟨rfl, none, 0, rfl⟩, by repeat (first | with_reducible exact new0 _ | with_reducible apply New.alloc | with_reducible apply New.drewN | with_reducible apply New.drew | (with_reducible refine New.setCell ?_ (by simp <;> omega) _) | (with_reducible refine New.trans ?_ H1.out))⟩
set_option maxHeartbeats 3200000 in
theorem rread_ok (ca af : Int) (A : Option Addr) (n cap : Nat) (M : Nat → Ms) (ov re : Int) (fz : Bool) (w : World) (hM : MsV w (.slice A n cap) n M) (hn : n ≤ 1000) (hv : vB ⟨ca, af, n, M, ov, re, fz⟩ = 0) :
    Calls Try.prog 16 #[.agg #[.int .i64 ca, .int .i64 af, .slice A n cap, .int .i64 ov, .int .i64 re, .bool fz]] w (ReadPost w n M ov 0) := by
  have HM := Lib.hid hM
  have hvv : valE ca af n M ov re fz = 0 := hv
  have HV := Lib.hid hvv
  clear hM hv hvv
  have A1 := Lib.hid (blk_alloc w #[.int .i64 ca, .int .i64 af, .slice A n cap, .int .i64 ov, .int .i64 re, .bool fz] 24 _ rfl)
  go_enter Try.func16, Try.ntmps16
  go_wp2_with fail
  refine (rvalid_any ca af A n cap M ov re fz _ (HM.out.new ((new0 w).alloc _)) hn).mono ?_
  rw [HV.out]
  rintro e w1 ⟨rfl, g1⟩
  have A1 := Lib.hid (A1.out.new g1)
  obtain ⟨k0, k1, k2, k3, k4, k5, kf, kz⟩ := A1.out.c6
  have H1 := Lib.hid (show New w w1 from New.trans ((new0 w).alloc _) g1)
  clear g1
  go_wp2_with fail
  go_quiet (fail)
  go_wp2
  go_ret3
  exact ⟨_, rfl, HM.out.new (by repeat (first | with_reducible exact new0 _ | with_reducible apply New.alloc | with_reducible apply New.drewN | with_reducible apply New.drew | (with_reducible refine New.setCell ?_ (by simp <;> omega) _) | (with_reducible refine New.trans ?_ H1.out))), by repeat (first | with_reducible exact new0 _ | with_reducible apply New.alloc | with_reducible apply New.drewN | with_reducible apply New.drew | (with_reducible refine New.setCell ?_ (by simp <;> omega) _) | (with_reducible refine New.trans ?_ H1.out))⟩
theorem rread_v (u : Value) (y : Bf) (w : World) (h : BufB w u y) (hn : y.n ≤ 1000) : Calls Try.prog 16 #[u] w (ReadPost w (if vB y = 0 then y.n else 0) y.M (if vB y = 0 then y.ov else 0) (vB y)) := by
  obtain ⟨ca, af, n, M, ov, re, fz⟩ := y
  obtain ⟨v, rfl, hM⟩ := h
  obtain ⟨A, cap, rfl⟩ := hM.len
  by_cases hv : vB ⟨ca, af, n, M, ov, re, fz⟩ = 0
  · rw [if_pos hv, if_pos hv, hv]
    exact rread_ok ca af A n cap M ov re fz w hM hn hv
  · rw [if_neg hv, if_neg hv]
    exact rread_bad ca af A n cap M ov re fz w hM hn _ rfl hv
end Go.Proofs.Ytedbjnojogjnkaa
