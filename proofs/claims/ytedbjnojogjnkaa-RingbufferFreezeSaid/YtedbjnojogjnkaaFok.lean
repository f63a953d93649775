/-
  Freeze and Rearm: where they succeed; all cases.
-/
import Derived.Test.YtedbjnojogjnkaaFz
namespace Go.Proofs.Ytedbjnojogjnkaa
open Go.RowKit
set_option maxHeartbeats 3200000 in
theorem freeze_ok (ca af : Int) (A : Option Addr) (n cap : Nat) (M : Nat → Ms) (ov re : Int) (fz : Bool) (k : Int) (w : World) (hM : MsV w (.slice A n cap) n M) (hn : n ≤ 1000) (hv : vB ⟨ca, af, n, M, ov, re, fz⟩ = 0) (hk : insB k 0 1099511627776 = true) :
    Calls Try.prog 23 #[.agg #[.int .i64 ca, .int .i64 af, .slice A n cap, .int .i64 ov, .int .i64 re, .bool fz], .int .i64 k] w (ResPost w (frzB ⟨ca, af, n, M, ov, re, fz⟩) 0) := by
  have HK := Lib.hid hk
  clear hk
  have HM := Lib.hid hM
  have hvv : valE ca af n M ov re fz = 0 := hv
  have HV := Lib.hid hvv
  clear hM hv hvv
  have A1 := Lib.hid ((blk_alloc w #[.int .i64 ca, .int .i64 af, .slice A n cap, .int .i64 ov, .int .i64 re, .bool fz] 24 _ rfl).new ((new0 _).alloc (.cells #[.int .i64 0, .int .i64 0, .slice none 0 0, .int .i64 0, .int .i64 0, .bool false] 24)))
  have C1 := Lib.hid (blk_alloc (w.alloc (.cells #[.int .i64 ca, .int .i64 af, .slice A n cap, .int .i64 ov, .int .i64 re, .bool fz] 24)) #[.int .i64 0, .int .i64 0, .slice none 0 0, .int .i64 0, .int .i64 0, .bool false] 24 (w.heap.size + 1) (by simp))
  go_enter Try.func23, Try.ntmps23
  go_wp2_with fail
  refine (valid_any ca af A n cap M ov re fz _ (HM.out.new ((((new0 w).alloc _).alloc _))) hn).mono ?_
  rw [HV.out]
  rintro e w1 ⟨rfl, g1⟩
  have A1 := Lib.hid (A1.out.new g1)
  have C1 := Lib.hid (C1.out.new g1)
  obtain ⟨k0, k1, k2, k3, k4, k5, kf, kz⟩ := A1.out.c6
  obtain ⟨m0, m1, m2, m3, m4, m5, mf, mz⟩ := C1.out.c6
  have H1 := Lib.hid (show New w w1 from New.trans ((((new0 w).alloc _).alloc _)) g1)
  clear g1
  go_wp2_with fail
  refine (inside_any _ _ _ _).mono ?_
  rw [HK.out]
  rintro e w2 ⟨rfl, rfl⟩
  go_wp2_with fail
  refine (cloneB_own ca af A n cap M ov re fz _ (HM.out.new H1.out) hn).mono ?_
  rintro e w3 ⟨v3, rfl, ho3, g3⟩
  obtain ⟨A3, c3, rfl⟩ := (msV_row (row_own ho3)).len
  clear k0 k1 k2 k3 k4 k5 kf kz m0 m1 m2 m3 m4 m5 mf mz
  have A1 := Lib.hid (A1.out.new g3)
  have C1 := Lib.hid (C1.out.new g3)
  obtain ⟨k0, k1, k2, k3, k4, k5, kf, kz⟩ := A1.out.c6
  obtain ⟨m0, m1, m2, m3, m4, m5, mf, mz⟩ := C1.out.c6
  have hz1 : w.heap.size ≤ w1.heap.size := New.size H1.out
  have HO3 := Lib.hid (msO_own (own_mono ho3 (show w.heap.size + 1 + 1 ≤ w1.heap.size + 1 + 1 by omega)))
  have H3 := Lib.hid (H1.out.trans g3)
  have hq : w.heap.size + 1 < w3.heap.size := mz
  clear g3 ho3
  by_cases hre : re = -1
  · have HP := Lib.hid (show frzB ⟨ca, af, n, M, ov, re, fz⟩ = ⟨ca, af, n, M, ov, af, (af == 0)⟩ by simp [frzB, hre]; rw [Bool.eq_iff_iff]; simp)
    have hre' : (re == -1) = true := by simpa using hre
    have HRE := Lib.hid hre
    clear hre
    go_wp2_with fail
    refine bodyPost_ret (v := .tuple #[.agg #[.int .i64 ca, .int .i64 af, .slice A3 n c3, .int .i64 ov, .int .i64 af, .bool (af == 0)], .int .i64 0]) (by go_light; simp [results, Try.results23, go_sem, *]) rfl ?_
    refine ⟨_, rfl, ?_, by repeat (first | with_reducible exact new0 _ | with_reducible apply New.alloc | with_reducible apply New.drewN | with_reducible apply New.drew | (with_reducible refine New.setCell ?_ (by simp <;> omega) _) | (with_reducible refine New.trans ?_ H3.out))⟩
    rw [HP.out]
    refine ⟨_, rfl, MsO.nms (lo := w.heap.size + 1 + 1) (hi := w3.heap.size) (by omega) ?_⟩
    repeat (first | (with_reducible refine MsO.alloc ?_ _) | (with_reducible refine MsO.set ?_ (by first | (left; simp; done) | (left; simp; omega) | (right; simp; done) | (right; simp; omega)) _))
    exact HO3.out
  · have HP := Lib.hid (show frzB ⟨ca, af, n, M, ov, re, fz⟩ = ⟨ca, af, n, M, ov, re, fz⟩ by simp [frzB, hre])
    have hre' : (re == -1) = false := by simpa using hre
    go_wp2_with fail
    refine bodyPost_ret (v := .tuple #[.agg #[.int .i64 ca, .int .i64 af, .slice A3 n c3, .int .i64 ov, .int .i64 re, .bool fz], .int .i64 0]) (by go_light; simp [results, Try.results23, go_sem, *]) rfl ?_
    refine ⟨_, rfl, ?_, by repeat (first | with_reducible exact new0 _ | with_reducible apply New.alloc | with_reducible apply New.drewN | with_reducible apply New.drew | (with_reducible refine New.setCell ?_ (by simp <;> omega) _) | (with_reducible refine New.trans ?_ H3.out))⟩
    rw [HP.out]
    refine ⟨_, rfl, MsO.nms (lo := w.heap.size + 1 + 1) (hi := w3.heap.size) (by omega) ?_⟩
    repeat (first | (with_reducible refine MsO.alloc ?_ _) | (with_reducible refine MsO.set ?_ (by first | (left; simp; done) | (left; simp; omega) | (right; simp; done) | (right; simp; omega)) _))
    exact HO3.out
end Go.Proofs.Ytedbjnojogjnkaa
