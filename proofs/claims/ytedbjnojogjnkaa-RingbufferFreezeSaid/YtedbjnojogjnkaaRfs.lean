/-
  The reference's Freeze.
-/
import Derived.Test.YtedbjnojogjnkaaRfn
namespace Go.Proofs.Ytedbjnojogjnkaa
open Go.RowKit
set_option maxHeartbeats 800000 in
theorem rfreeze_some (ca af : Int) (ad : Addr) (n cap : Nat) (M : Nat → Ms) (ov re : Int) (fz : Bool) (k : Int) (w : World) (hM : MsV w (.slice (some ad) n cap) n M) (hn : n ≤ 1000) (hc : ∀ j u, (flat n 3 (mF M))[j]? = some u → w.cell? (ad.add j) = some u) (hv : vB ⟨ca, af, n, M, ov, re, fz⟩ = 0) (hk : insB k 0 1099511627776 = true) :
    Calls Try.prog 24 #[.agg #[.int .i64 ca, .int .i64 af, .slice (some ad) n cap, .int .i64 ov, .int .i64 re, .bool fz], .int .i64 k] w (ResPost w (frzB ⟨ca, af, n, M, ov, re, fz⟩) 0) := by
  have hk2 : 0 ≤ k ∧ k ≤ 1099511627776 := by unfold insB at hk; simpa using hk
  obtain ⟨hk3, hk4⟩ := hk2
  clear hk
  obtain ⟨i0, hi, hz0, hz1, hz2⟩ := info_parts info26
  have HC := Lib.hid hc
  clear hc
  have HM := Lib.hid hM
  have hvv : valE ca af n M ov re fz = 0 := hv
  have HV := Lib.hid hvv
  clear hM hv hvv
  have A1 := Lib.hid ((blk_alloc w #[.int .i64 ca, .int .i64 af, .slice (some ad) n cap, .int .i64 ov, .int .i64 re, .bool fz] 24 _ rfl).new ((new0 _).alloc (.cells #[.int .i64 0, .int .i64 0, .slice none 0 0, .int .i64 0, .int .i64 0, .bool false] 24)))
  have C1 := Lib.hid (blk_alloc (w.alloc (.cells #[.int .i64 ca, .int .i64 af, .slice (some ad) n cap, .int .i64 ov, .int .i64 re, .bool fz] 24)) #[.int .i64 0, .int .i64 0, .slice none 0 0, .int .i64 0, .int .i64 0, .bool false] 24 (w.heap.size + 1) (by simp))
  go_enter Try.func24, Try.ntmps24
  go_wp2_with fail
  refine (rvalid_any ca af (some ad) n cap M ov re fz _ (HM.out.new ((((new0 w).alloc _).alloc _))) hn).mono ?_
  rw [HV.out]
  rintro e w1 ⟨rfl, g1⟩
  have A1 := Lib.hid (A1.out.new g1)
  have C1 := Lib.hid (C1.out.new g1)
  obtain ⟨k0, k1, k2, k3, k4, k5, kf, kz⟩ := A1.out.c6
  obtain ⟨m0, m1, m2, m3, m4, m5, mf, mz⟩ := C1.out.c6
  have H1 := Lib.hid (show New w w1 from New.trans ((((new0 w).alloc _).alloc _)) g1)
  clear g1
  have hs1 : w.heap.size ≤ w1.heap.size := New.size H1.out
  have hq : w.heap.size + 1 < w1.heap.size := C1.out.1
  have hc1 : ∀ j u, (flat n 3 (mF M))[j]? = some u → ((w1.alloc (.cells #[.int .i64 ca, .int .i64 af, .slice (some ad) n cap, .int .i64 ov, .int .i64 re, .bool fz] 24)).alloc (.cells #[] 26)).cell? (ad.add j) = some u := fun j u hu => by
    have h0 := HC.out j u hu
    have hb := World.block_lt_of_cell? w _ h0
    have hN : New w ((w1.alloc (.cells #[.int .i64 ca, .int .i64 af, .slice (some ad) n cap, .int .i64 ov, .int .i64 re, .bool fz] 24)).alloc (.cells #[] 26)) := by repeat (first | with_reducible exact new0 _ | with_reducible apply New.alloc | with_reducible apply New.drewN | with_reducible apply New.drew | (with_reducible refine New.setCell ?_ (by simp <;> omega) _) | (with_reducible refine New.trans ?_ H1.out))
    exact (Below.cell (p := ad.add j) hN hb).trans h0
  have HC1 := Lib.hid hc1
  have OM : ((w1.alloc (.cells #[.int .i64 ca, .int .i64 af, .slice (some ad) n cap, .int .i64 ov, .int .i64 re, .bool fz] 24)).alloc (.cells #[] 26)).ownsRow (w1.heap.size + 1) 26 3 (.slice (some ⟨w1.heap.size + 1, 0, none⟩) 0 0) 0 [] := by
    have h := World.ownsRow_made (w1.alloc (.cells #[.int .i64 ca, .int .i64 af, .slice (some ad) n cap, .int .i64 ov, .int .i64 re, .bool fz] 24)) (e := 26) (size := 3) #[] 0 (Nat.le_refl _) (by decide) rfl
    rwa [show (w1.alloc (.cells #[.int .i64 ca, .int .i64 af, .slice (some ad) n cap, .int .i64 ov, .int .i64 re, .bool fz] 24)).heap.size = w1.heap.size + 1 from by simp] at h
  have OM := Lib.hid OM
  have O1 := Lib.hid (blk_alloc w1 #[.int .i64 ca, .int .i64 af, .slice (some ad) n cap, .int .i64 ov, .int .i64 re, .bool fz] 24 _ rfl)
  clear hc1
  by_cases hre : re = -1
  · have HP := Lib.hid (show frzB ⟨ca, af, n, M, ov, re, fz⟩ = ⟨ca, af, n, M, ov, af, (af == 0)⟩ by simp [frzB, hre]; rw [Bool.eq_iff_iff]; simp)
    have hre' : (re == -1) = true := by simpa using hre
    have HRE := Lib.hid hre
    clear hre
    go_wp2_with (at_builtin; refine wpList_append_own _ rfl (.tmp 22) (.tmp 24) 22 rfl (w1.heap.size + 1) 26 i0 (.agg #[.int .i64 0, .int .i64 0, .bool false]) 3 24 Try.underlying22 hi hz0 hz1 hz2 rfl (by decide) _ 0 [] rfl OM.out ad n cap (flat n 3 (mF M)) rfl (flat_len _ _ _) HC1.out (flat_one (mF_one M)) (by unfold maxLen; omega) (by omega) (by simp) ?_; intro v' w2 hown hgrow _; have nW : New (w1.alloc (.cells #[.int .i64 ca, .int .i64 af, .slice (some ad) n cap, .int .i64 ov, .int .i64 re, .bool fz] 24)) w2 := New.grown ((new0 _).alloc _) hgrow OM.out (by simp); have hown2 : w2.ownsRow (w1.heap.size + 1) 26 3 v' n (flat n 3 (mF M)) := (by simpa using hown); obtain ⟨A3, c3, rfl⟩ := (msV_row (row_own hown2)).len; have HO3 := Lib.hid (msO_own hown2); have N2 := Lib.hid (show New w w2 from New.trans (by repeat (first | with_reducible exact new0 _ | with_reducible apply New.alloc | with_reducible apply New.drewN | with_reducible apply New.drew | (with_reducible refine New.setCell ?_ (by simp <;> omega) _) | (with_reducible refine New.trans ?_ H1.out))) nW); clear k0 k1 k2 k3 k4 k5 kf kz m0 m1 m2 m3 m4 m5 mf mz; obtain ⟨k0, k1, k2, k3, k4, k5, kf, kz⟩ := (A1.out.new (New.trans ((new0 _).alloc _) nW)).c6; obtain ⟨m0, m1, m2, m3, m4, m5, mf, mz⟩ := (C1.out.new (New.trans ((new0 _).alloc _) nW)).c6; obtain ⟨o0, o1, o2, o3, o4, o5, of, oz⟩ := (O1.out.new nW).c6; clear hown hown2 hgrow nW)
    refine bodyPost_ret (v := .tuple #[.agg #[.int .i64 ca, .int .i64 af, .slice A3 n c3, .int .i64 ov, .int .i64 af, .bool (af == 0)], .int .i64 0]) (by go_light; simp [results, Try.results24, go_sem, *]) rfl ?_
    refine ⟨_, rfl, ?_, by repeat (first | with_reducible exact new0 _ | with_reducible apply New.alloc | with_reducible apply New.drewN | with_reducible apply New.drew | (with_reducible refine New.setCell ?_ (by simp <;> omega) _) | (with_reducible refine New.trans ?_ N2.out))⟩
    rw [HP.out]
    refine ⟨_, rfl, MsO.nms (lo := w1.heap.size + 1) (hi := w2.heap.size) (by omega) ?_⟩
    repeat (first | (with_reducible refine MsO.alloc ?_ _) | (with_reducible refine MsO.set ?_ (by first | (left; simp; done) | (left; simp; omega) | (right; simp; done) | (right; simp; omega)) _))
    exact HO3.out
  · have HP := Lib.hid (show frzB ⟨ca, af, n, M, ov, re, fz⟩ = ⟨ca, af, n, M, ov, re, fz⟩ by simp [frzB, hre])
    have hre' : (re == -1) = false := by simpa using hre
    go_wp2_with (at_builtin; refine wpList_append_own _ rfl (.tmp 22) (.tmp 24) 22 rfl (w1.heap.size + 1) 26 i0 (.agg #[.int .i64 0, .int .i64 0, .bool false]) 3 24 Try.underlying22 hi hz0 hz1 hz2 rfl (by decide) _ 0 [] rfl OM.out ad n cap (flat n 3 (mF M)) rfl (flat_len _ _ _) HC1.out (flat_one (mF_one M)) (by unfold maxLen; omega) (by omega) (by simp) ?_; intro v' w2 hown hgrow _; have nW : New (w1.alloc (.cells #[.int .i64 ca, .int .i64 af, .slice (some ad) n cap, .int .i64 ov, .int .i64 re, .bool fz] 24)) w2 := New.grown ((new0 _).alloc _) hgrow OM.out (by simp); have hown2 : w2.ownsRow (w1.heap.size + 1) 26 3 v' n (flat n 3 (mF M)) := (by simpa using hown); obtain ⟨A3, c3, rfl⟩ := (msV_row (row_own hown2)).len; have HO3 := Lib.hid (msO_own hown2); have N2 := Lib.hid (show New w w2 from New.trans (by repeat (first | with_reducible exact new0 _ | with_reducible apply New.alloc | with_reducible apply New.drewN | with_reducible apply New.drew | (with_reducible refine New.setCell ?_ (by simp <;> omega) _) | (with_reducible refine New.trans ?_ H1.out))) nW); clear k0 k1 k2 k3 k4 k5 kf kz m0 m1 m2 m3 m4 m5 mf mz; obtain ⟨k0, k1, k2, k3, k4, k5, kf, kz⟩ := (A1.out.new (New.trans ((new0 _).alloc _) nW)).c6; obtain ⟨m0, m1, m2, m3, m4, m5, mf, mz⟩ := (C1.out.new (New.trans ((new0 _).alloc _) nW)).c6; obtain ⟨o0, o1, o2, o3, o4, o5, of, oz⟩ := (O1.out.new nW).c6; clear hown hown2 hgrow nW)
    refine bodyPost_ret (v := .tuple #[.agg #[.int .i64 ca, .int .i64 af, .slice A3 n c3, .int .i64 ov, .int .i64 re, .bool fz], .int .i64 0]) (by go_light; simp [results, Try.results24, go_sem, *]) rfl ?_
    refine ⟨_, rfl, ?_, by repeat (first | with_reducible exact new0 _ | with_reducible apply New.alloc | with_reducible apply New.drewN | with_reducible apply New.drew | (with_reducible refine New.setCell ?_ (by simp <;> omega) _) | (with_reducible refine New.trans ?_ N2.out))⟩
    rw [HP.out]
    refine ⟨_, rfl, MsO.nms (lo := w1.heap.size + 1) (hi := w2.heap.size) (by omega) ?_⟩
    repeat (first | (with_reducible refine MsO.alloc ?_ _) | (with_reducible refine MsO.set ?_ (by first | (left; simp; done) | (left; simp; omega) | (right; simp; done) | (right; simp; omega)) _))
    exact HO3.out
end Go.Proofs.Ytedbjnojogjnkaa
