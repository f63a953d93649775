/-
  The reference's Freeze.
-/
import Derived.Test.YtedbjnojogjnkaaFz2
namespace Go.Proofs.Ytedbjnojogjnkaa
open Go.RowKit
set_option maxHeartbeats 3200000 in
theorem rfreeze_nil (ca af : Int) (cap : Nat) (M : Nat → Ms) (ov re : Int) (fz : Bool) (k : Int) (w : World) (hM : MsV w (.slice none 0 cap) 0 M) (hn : 0 ≤ 1000) (hv : vB ⟨ca, af, 0, M, ov, re, fz⟩ = 0) (hk : insB k 0 1099511627776 = true) :
    Calls Try.prog 24 #[.agg #[.int .i64 ca, .int .i64 af, .slice none 0 cap, .int .i64 ov, .int .i64 re, .bool fz], .int .i64 k] w (ResPost w (frzB ⟨ca, af, 0, M, ov, re, fz⟩) 0) := by
  have hk2 : 0 ≤ k ∧ k ≤ 1099511627776 := by unfold insB at hk; simpa using hk
  obtain ⟨hk3, hk4⟩ := hk2
  clear hk
  have HM := Lib.hid hM
  have hvv : valE ca af 0 M ov re fz = 0 := hv
  have HV := Lib.hid hvv
  clear hM hv hvv
  have A1 := Lib.hid ((blk_alloc w #[.int .i64 ca, .int .i64 af, .slice none 0 cap, .int .i64 ov, .int .i64 re, .bool fz] 24 _ rfl).new ((new0 _).alloc (.cells #[.int .i64 0, .int .i64 0, .slice none 0 0, .int .i64 0, .int .i64 0, .bool false] 24)))
  have C1 := Lib.hid (blk_alloc (w.alloc (.cells #[.int .i64 ca, .int .i64 af, .slice none 0 cap, .int .i64 ov, .int .i64 re, .bool fz] 24)) #[.int .i64 0, .int .i64 0, .slice none 0 0, .int .i64 0, .int .i64 0, .bool false] 24 (w.heap.size + 1) (by simp))
  go_enter Try.func24, Try.ntmps24
  go_wp2_with fail
  refine (rvalid_any ca af none 0 cap M ov re fz _ (HM.out.new ((((new0 w).alloc _).alloc _))) hn).mono ?_
  rw [HV.out]
  rintro e w1 ⟨rfl, g1⟩
  have A1 := Lib.hid (A1.out.new g1)
  have C1 := Lib.hid (C1.out.new g1)
  obtain ⟨k0, k1, k2, k3, k4, k5, kf, kz⟩ := A1.out.c6
  obtain ⟨m0, m1, m2, m3, m4, m5, mf, mz⟩ := C1.out.c6
  have H1 := Lib.hid (show New w w1 from New.trans ((((new0 w).alloc _).alloc _)) g1)
  clear g1
  have hz1 : w.heap.size ≤ w1.heap.size := New.size H1.out
  by_cases hre : re = -1
  · have HP := Lib.hid (show frzB ⟨ca, af, 0, M, ov, re, fz⟩ = ⟨ca, af, 0, M, ov, af, (af == 0)⟩ by simp [frzB, hre]; rw [Bool.eq_iff_iff]; simp)
    have hre' : (re == -1) = true := by simpa using hre
    have HRE := Lib.hid hre
    clear hre
    go_wp2_with fail
    refine bodyPost_ret (v := .tuple #[.agg #[.int .i64 ca, .int .i64 af, .slice (some ⟨w1.heap.size + 1, 0, none⟩) 0 0, .int .i64 ov, .int .i64 af, .bool (af == 0)], .int .i64 0]) (by go_light; simp [results, Try.results24, go_sem, *]) rfl ?_
    refine ⟨_, rfl, ?_, by repeat (first | with_reducible exact new0 _ | with_reducible apply New.alloc | with_reducible apply New.drewN | with_reducible apply New.drew | (with_reducible refine New.setCell ?_ (by simp <;> omega) _) | (with_reducible refine New.trans ?_ H1.out))⟩
    rw [HP.out]
    exact ⟨_, rfl, .inl ⟨rfl, _, _, rfl⟩, fun _ _ _ _ h => absurd h (Nat.lt_irrefl 0)⟩
  · have HP := Lib.hid (show frzB ⟨ca, af, 0, M, ov, re, fz⟩ = ⟨ca, af, 0, M, ov, re, fz⟩ by simp [frzB, hre])
    have hre' : (re == -1) = false := by simpa using hre
    go_wp2_with fail
    refine bodyPost_ret (v := .tuple #[.agg #[.int .i64 ca, .int .i64 af, .slice (some ⟨w1.heap.size + 1, 0, none⟩) 0 0, .int .i64 ov, .int .i64 re, .bool fz], .int .i64 0]) (by go_light; simp [results, Try.results24, go_sem, *]) rfl ?_
    refine ⟨_, rfl, ?_, by repeat (first | with_reducible exact new0 _ | with_reducible apply New.alloc | with_reducible apply New.drewN | with_reducible apply New.drew | (with_reducible refine New.setCell ?_ (by simp <;> omega) _) | (with_reducible refine New.trans ?_ H1.out))⟩
    rw [HP.out]
    exact ⟨_, rfl, .inl ⟨rfl, _, _, rfl⟩, fun _ _ _ _ h => absurd h (Nat.lt_irrefl 0)⟩
end Go.Proofs.Ytedbjnojogjnkaa
