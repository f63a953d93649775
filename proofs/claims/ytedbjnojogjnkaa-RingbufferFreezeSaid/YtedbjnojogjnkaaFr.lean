/-
  Freeze and Rearm, by the program and by the reference.
-/
import Derived.Test.YtedbjnojogjnkaaRd
import Derived.Test.YtedbjnojogjnkaaCl2
namespace Go.Proofs.Ytedbjnojogjnkaa
open Go.RowKit
set_option maxHeartbeats 3200000 in
theorem freeze_bad (ca af : Int) (A : Option Addr) (n cap : Nat) (M : Nat → Ms) (ov re : Int) (fz : Bool) (k : Int) (w : World) (hM : MsV w (.slice A n cap) n M) (hn : n ≤ 1000) (e : Int) (hv : vB ⟨ca, af, n, M, ov, re, fz⟩ = e) (h0 : ¬ e = 0) :
    Calls Try.prog 23 #[.agg #[.int .i64 ca, .int .i64 af, .slice A n cap, .int .i64 ov, .int .i64 re, .bool fz], .int .i64 k] w (ResPost w bz e) := by
  have HM := Lib.hid hM
  have hvv : valE ca af n M ov re fz = e := hv
  have HV := Lib.hid hvv
  clear hM hv hvv
  have A1 := Lib.hid ((blk_alloc w #[.int .i64 ca, .int .i64 af, .slice A n cap, .int .i64 ov, .int .i64 re, .bool fz] 24 _ rfl).new ((new0 _).alloc (.cells #[.int .i64 0, .int .i64 0, .slice none 0 0, .int .i64 0, .int .i64 0, .bool false] 24)))
  have C1 := Lib.hid (blk_alloc (w.alloc (.cells #[.int .i64 ca, .int .i64 af, .slice A n cap, .int .i64 ov, .int .i64 re, .bool fz] 24)) #[.int .i64 0, .int .i64 0, .slice none 0 0, .int .i64 0, .int .i64 0, .bool false] 24 (w.heap.size + 1) (by simp))
  go_enter Try.func23, Try.ntmps23
  go_wp2_with fail
  refine (valid_any ca af A n cap M ov re fz _ (HM.out.new ((((new0 w).alloc _).alloc _))) hn).mono ?_
  rw [HV.out]
  rintro e w1 ⟨rfl, g1⟩
  have A1 := Lib.hid (A1.out.new g1)
  have C1 := Lib.hid (C1.out.new g1)
  obtain ⟨k0, k1, k2, k3, k4, k5, kf, kz⟩ := A1.out.c6
  obtain ⟨m0, m1, m2, m3, m4, m5, mf, mz⟩ := C1.out.c6
  have H1 := Lib.hid (show New w w1 from New.trans ((((new0 w).alloc _).alloc _)) g1)
  clear g1
  go_wp2_with fail
  refine bodyPost_ret (v := .tuple #[.agg #[.int .i64 0, .int .i64 0, .slice none 0 0, .int .i64 0, .int .i64 0, .bool false], .int .i64 e]) (by go_light; simp [results, Try.results23, go_sem, *]) rfl ?_
  exact ⟨_, rfl, bz_of _, by repeat (first | with_reducible exact new0 _ | with_reducible apply New.alloc | with_reducible apply New.drewN | with_reducible apply New.drew | (with_reducible refine New.setCell ?_ (by simp <;> omega) _) | (with_reducible refine New.trans ?_ H1.out))⟩
set_option maxHeartbeats 3200000 in
theorem freeze_rng (ca af : Int) (A : Option Addr) (n cap : Nat) (M : Nat → Ms) (ov re : Int) (fz : Bool) (k : Int) (w : World) (hM : MsV w (.slice A n cap) n M) (hn : n ≤ 1000) (hv : vB ⟨ca, af, n, M, ov, re, fz⟩ = 0) (hk : insB k 0 1099511627776 = false) :
    Calls Try.prog 23 #[.agg #[.int .i64 ca, .int .i64 af, .slice A n cap, .int .i64 ov, .int .i64 re, .bool fz], .int .i64 k] w (ResPost w bz 6) := by
  have HK := Lib.hid hk
  clear hk
  have HM := Lib.hid hM
  have hvv : valE ca af n M ov re fz = 0 := hv
  have HV := Lib.hid hvv
  clear hM hv hvv
  have A1 := Lib.hid ((blk_alloc w #[.int .i64 ca, .int .i64 af, .slice A n cap, .int .i64 ov, .int .i64 re, .bool fz] 24 _ rfl).new ((new0 _).alloc (.cells #[.int .i64 0, .int .i64 0, .slice none 0 0, .int .i64 0, .int .i64 0, .bool false] 24)))
  have C1 := Lib.hid (blk_alloc (w.alloc (.cells #[.int .i64 ca, .int .i64 af, .slice A n cap, .int .i64 ov, .int .i64 re, .bool fz] 24)) #[.int .i64 0, .int .i64 0, .slice none 0 0, .int .i64 0, .int .i64 0, .bool false] 24 (w.heap.size + 1) (by simp))
  go_enter Try.func23, Try.ntmps23
  go_wp2_with fail
  refine (valid_any ca af A n cap M ov re fz _ (HM.out.new ((((new0 w).alloc _).alloc _))) hn).mono ?_
  rw [HV.out]
  rintro e w1 ⟨rfl, g1⟩
  have A1 := Lib.hid (A1.out.new g1)
  have C1 := Lib.hid (C1.out.new g1)
  obtain ⟨k0, k1, k2, k3, k4, k5, kf, kz⟩ := A1.out.c6
  obtain ⟨m0, m1, m2, m3, m4, m5, mf, mz⟩ := C1.out.c6
  have H1 := Lib.hid (show New w w1 from New.trans ((((new0 w).alloc _).alloc _)) g1)
  clear g1
  go_wp2_with fail
  refine (inside_any _ _ _ _).mono ?_
  rw [HK.out]
  rintro e w2 ⟨rfl, rfl⟩
  go_wp2_with fail
  refine bodyPost_ret (v := .tuple #[.agg #[.int .i64 0, .int .i64 0, .slice none 0 0, .int .i64 0, .int .i64 0, .bool false], .int .i64 6]) (by go_light; simp [results, Try.results23, go_sem, *]) rfl ?_
  exact ⟨_, rfl, bz_of _, by repeat (first | with_reducible exact new0 _ | with_reducible apply New.alloc | with_reducible apply New.drewN | with_reducible apply New.drew | (with_reducible refine New.setCell ?_ (by simp <;> omega) _) | (with_reducible refine New.trans ?_ H1.out))⟩
set_option maxHeartbeats 3200000 in
theorem rfreeze_bad (ca af : Int) (A : Option Addr) (n cap : Nat) (M : Nat → Ms) (ov re : Int) (fz : Bool) (k : Int) (w : World) (hM : MsV w (.slice A n cap) n M) (hn : n ≤ 1000) (e : Int) (hv : vB ⟨ca, af, n, M, ov, re, fz⟩ = e) (h0 : ¬ e = 0) :
    Calls Try.prog 24 #[.agg #[.int .i64 ca, .int .i64 af, .slice A n cap, .int .i64 ov, .int .i64 re, .bool fz], .int .i64 k] w (ResPost w bz e) := by
  have HM := Lib.hid hM
  have hvv : valE ca af n M ov re fz = e := hv
  have HV := Lib.hid hvv
  clear hM hv hvv
  have A1 := Lib.hid ((blk_alloc w #[.int .i64 ca, .int .i64 af, .slice A n cap, .int .i64 ov, .int .i64 re, .bool fz] 24 _ rfl).new ((new0 _).alloc (.cells #[.int .i64 0, .int .i64 0, .slice none 0 0, .int .i64 0, .int .i64 0, .bool false] 24)))
  have C1 := Lib.hid (blk_alloc (w.alloc (.cells #[.int .i64 ca, .int .i64 af, .slice A n cap, .int .i64 ov, .int .i64 re, .bool fz] 24)) #[.int .i64 0, .int .i64 0, .slice none 0 0, .int .i64 0, .int .i64 0, .bool false] 24 (w.heap.size + 1) (by simp))
  go_enter Try.func24, Try.ntmps24
  go_wp2_with fail
  refine (rvalid_any ca af A n cap M ov re fz _ (HM.out.new ((((new0 w).alloc _).alloc _))) hn).mono ?_
  rw [HV.out]
  rintro e w1 ⟨rfl, g1⟩
  have A1 := Lib.hid (A1.out.new g1)
  have C1 := Lib.hid (C1.out.new g1)
  obtain ⟨k0, k1, k2, k3, k4, k5, kf, kz⟩ := A1.out.c6
  obtain ⟨m0, m1, m2, m3, m4, m5, mf, mz⟩ := C1.out.c6
  have H1 := Lib.hid (show New w w1 from New.trans ((((new0 w).alloc _).alloc _)) g1)
  clear g1
  go_wp2_with fail
  refine bodyPost_ret (v := .tuple #[.agg #[.int .i64 0, .int .i64 0, .slice none 0 0, .int .i64 0, .int .i64 0, .bool false], .int .i64 e]) (by go_light; simp [results, Try.results24, go_sem, *]) rfl ?_
  exact ⟨_, rfl, bz_of _, by repeat (first | with_reducible exact new0 _ | with_reducible apply New.alloc | with_reducible apply New.drewN | with_reducible apply New.drew | (with_reducible refine New.setCell ?_ (by simp <;> omega) _) | (with_reducible refine New.trans ?_ H1.out))⟩
set_option maxHeartbeats 3200000 in
theorem rfreeze_rng (ca af : Int) (A : Option Addr) (n cap : Nat) (M : Nat → Ms) (ov re : Int) (fz : Bool) (k : Int) (w : World) (hM : MsV w (.slice A n cap) n M) (hn : n ≤ 1000) (hv : vB ⟨ca, af, n, M, ov, re, fz⟩ = 0) (hk : insB k 0 1099511627776 = false) :
    Calls Try.prog 24 #[.agg #[.int .i64 ca, .int .i64 af, .slice A n cap, .int .i64 ov, .int .i64 re, .bool fz], .int .i64 k] w (ResPost w bz 6) := by
  have hk2 : k < 0 ∨ 1099511627776 < k := by unfold insB at hk; simp at hk; omega
  clear hk
  by_cases hk3 : k < 0
  · clear hk2
    have HM := Lib.hid hM
    have hvv : valE ca af n M ov re fz = 0 := hv
    have HV := Lib.hid hvv
    clear hM hv hvv
    have A1 := Lib.hid ((blk_alloc w #[.int .i64 ca, .int .i64 af, .slice A n cap, .int .i64 ov, .int .i64 re, .bool fz] 24 _ rfl).new ((new0 _).alloc (.cells #[.int .i64 0, .int .i64 0, .slice none 0 0, .int .i64 0, .int .i64 0, .bool false] 24)))
    have C1 := Lib.hid (blk_alloc (w.alloc (.cells #[.int .i64 ca, .int .i64 af, .slice A n cap, .int .i64 ov, .int .i64 re, .bool fz] 24)) #[.int .i64 0, .int .i64 0, .slice none 0 0, .int .i64 0, .int .i64 0, .bool false] 24 (w.heap.size + 1) (by simp))
    go_enter Try.func24, Try.ntmps24
    go_wp2_with fail
    refine (rvalid_any ca af A n cap M ov re fz _ (HM.out.new ((((new0 w).alloc _).alloc _))) hn).mono ?_
    rw [HV.out]
    rintro e w1 ⟨rfl, g1⟩
    have A1 := Lib.hid (A1.out.new g1)
    have C1 := Lib.hid (C1.out.new g1)
    obtain ⟨k0, k1, k2, k3, k4, k5, kf, kz⟩ := A1.out.c6
    obtain ⟨m0, m1, m2, m3, m4, m5, mf, mz⟩ := C1.out.c6
    have H1 := Lib.hid (show New w w1 from New.trans ((((new0 w).alloc _).alloc _)) g1)
    clear g1
    go_wp2_with fail
    refine bodyPost_ret (v := .tuple #[.agg #[.int .i64 0, .int .i64 0, .slice none 0 0, .int .i64 0, .int .i64 0, .bool false], .int .i64 6]) (by go_light; simp [results, Try.results24, go_sem, *]) rfl ?_
    exact ⟨_, rfl, bz_of _, by repeat (first | with_reducible exact new0 _ | with_reducible apply New.alloc | with_reducible apply New.drewN | with_reducible apply New.drew | (with_reducible refine New.setCell ?_ (by simp <;> omega) _) | (with_reducible refine New.trans ?_ H1.out))⟩
  · have hk4 : 1099511627776 < k := by omega
    clear hk2
    have HM := Lib.hid hM
    have hvv : valE ca af n M ov re fz = 0 := hv
    have HV := Lib.hid hvv
    clear hM hv hvv
    have A1 := Lib.hid ((blk_alloc w #[.int .i64 ca, .int .i64 af, .slice A n cap, .int .i64 ov, .int .i64 re, .bool fz] 24 _ rfl).new ((new0 _).alloc (.cells #[.int .i64 0, .int .i64 0, .slice none 0 0, .int .i64 0, .int .i64 0, .bool false] 24)))
    have C1 := Lib.hid (blk_alloc (w.alloc (.cells #[.int .i64 ca, .int .i64 af, .slice A n cap, .int .i64 ov, .int .i64 re, .bool fz] 24)) #[.int .i64 0, .int .i64 0, .slice none 0 0, .int .i64 0, .int .i64 0, .bool false] 24 (w.heap.size + 1) (by simp))
    go_enter Try.func24, Try.ntmps24
    go_wp2_with fail
    refine (rvalid_any ca af A n cap M ov re fz _ (HM.out.new ((((new0 w).alloc _).alloc _))) hn).mono ?_
    rw [HV.out]
    rintro e w1 ⟨rfl, g1⟩
    have A1 := Lib.hid (A1.out.new g1)
    have C1 := Lib.hid (C1.out.new g1)
    obtain ⟨k0, k1, k2, k3, k4, k5, kf, kz⟩ := A1.out.c6
    obtain ⟨m0, m1, m2, m3, m4, m5, mf, mz⟩ := C1.out.c6
    have H1 := Lib.hid (show New w w1 from New.trans ((((new0 w).alloc _).alloc _)) g1)
    clear g1
    go_wp2_with fail
    refine bodyPost_ret (v := .tuple #[.agg #[.int .i64 0, .int .i64 0, .slice none 0 0, .int .i64 0, .int .i64 0, .bool false], .int .i64 6]) (by go_light; simp [results, Try.results24, go_sem, *]) rfl ?_
    exact ⟨_, rfl, bz_of _, by repeat (first | with_reducible exact new0 _ | with_reducible apply New.alloc | with_reducible apply New.drewN | with_reducible apply New.drew | (with_reducible refine New.setCell ?_ (by simp <;> omega) _) | (with_reducible refine New.trans ?_ H1.out))⟩
end Go.Proofs.Ytedbjnojogjnkaa
