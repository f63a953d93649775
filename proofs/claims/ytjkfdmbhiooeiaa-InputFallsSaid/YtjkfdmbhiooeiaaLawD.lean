/-
  The walks of statements of layer 43.
-/
import Derived.Test.YtjkfdmbhiooeiaaLawC
namespace Go.Proofs.Ytjkfdmbhiooeiaa
open Go.RowKit
theorem runL_len (v ma ri fa : Int) (s : Nat → Sm) (n : Nat) : (runL v ma ri fa s n).length ≤ 1000 := by
  unfold runL
  by_cases h : runE v s n = 0
  · rw [if_pos h, lst_len]
    unfold runE at h
    by_cases h1 : v = 0
    · by_cases h2 : 1000 < n
      · rw [if_neg (by simpa using h1), if_pos h2] at h; simp at h
      · omega
    · rw [if_pos (by simpa using h1)] at h; exact absurd h h1
  · rw [if_neg h]; simp
theorem run_is (nm : ByteArray) (ma ri fa : Int) (n : Nat) (s : Nat → Sm) (v : Value) (w : World) (hS : SmV w v n s) (l : List Int) (E : Int) (hl : runL (valE nm ma ri fa) ma ri fa s n = l) (hE : runE (valE nm ma ri fa) s n = E) : Calls Try.prog 20 #[.agg #[.string nm, .int .i64 ma, .int .i64 ri, .int .i64 fa], v] w (RunPost w l E) := by
  have h := run_any nm ma ri fa n s v w hS
  rw [hl, hE] at h
  exact h
theorem rrun_is (nm : ByteArray) (ma ri fa : Int) (n : Nat) (s : Nat → Sm) (v : Value) (w : World) (hS : SmV w v n s) (l : List Int) (E : Int) (hl : runL (valE nm ma ri fa) ma ri fa s n = l) (hE : runE (valE nm ma ri fa) s n = E) : Calls Try.prog 22 #[.agg #[.string nm, .int .i64 ma, .int .i64 ri, .int .i64 fa], v] w (RunPost w l E) := by
  have h := rrun_any nm ma ri fa n s v w hS
  rw [hl, hE] at h
  exact h
set_option maxHeartbeats 3200000 in
theorem law_run_nm (nm : ByteArray) (ma ri fa : Int) (Ad : Option Addr) (n cap : Nat) (w : World) (hl : 60 < nm.size) : Calls Try.prog 5 #[.agg #[.string nm, .int .i64 ma, .int .i64 ri, .int .i64 fa], .slice Ad n cap] w fun e w' => e = .returned (.bool true) ∧ New w w' := by
  have A := Lib.hid ((blk_alloc' w #[.string nm, .int .i64 ma, .int .i64 ri, .int .i64 fa] 23 (w.heap.size) (by simp)).new (new0 _))
  have hl' : (60 : Int) < nm.size := by omega
  go_enter Try.func5, Try.ntmps5
  go_wp2_with fail
  refine (awake_any _).mono ?_
  rintro e w1 ⟨rfl, g1⟩
  have A := Lib.hid (A.out.new g1)
  have H1 := Lib.hid (show New w w1 from New.trans (by repeat (first | with_reducible exact new0 _ | with_reducible apply New.alloc | with_reducible apply New.drewN | with_reducible apply New.drew | (with_reducible refine New.setCell ?_ (by simp <;> omega) _))) g1)
  clear g1
  obtain ⟨k0, k1, k2, k3, kf, kz⟩ := A.out.c4
  go_wp2_with fail
  refine (awake_any _).mono ?_
  rintro e w2 ⟨rfl, g2⟩
  have H2 := Lib.hid g2
  clear g2
  go_wp2_with fail
  go_ret
  exact ⟨rfl, by repeat (first | with_reducible exact new0 _ | with_reducible apply New.alloc | with_reducible apply New.drewN | with_reducible apply New.drew | (with_reducible refine New.setCell ?_ (by simp <;> omega) _) | (with_reducible refine New.trans ?_ H2.out) | (with_reducible refine New.trans ?_ H1.out))⟩
set_option maxHeartbeats 3200000 in
theorem law_run_mid (nm : ByteArray) (ma ri fa : Int) (Ad : Option Addr) (n cap : Nat) (w : World) (hl : ¬ 60 < nm.size) (h1 : 100 < n) (h2 : n ≤ 1000) : Calls Try.prog 5 #[.agg #[.string nm, .int .i64 ma, .int .i64 ri, .int .i64 fa], .slice Ad n cap] w fun e w' => e = .returned (.bool true) ∧ New w w' := by
  have A := Lib.hid ((blk_alloc' w #[.string nm, .int .i64 ma, .int .i64 ri, .int .i64 fa] 23 (w.heap.size) (by simp)).new (new0 _))
  have hl' : ¬ (60 : Int) < nm.size := by omega
  have h1' : (100 : Int) < n := by omega
  have h2' : (n : Int) ≤ 1000 := by omega
  go_enter Try.func5, Try.ntmps5
  go_wp2_with fail
  refine (awake_any _).mono ?_
  rintro e w1 ⟨rfl, g1⟩
  have A := Lib.hid (A.out.new g1)
  have H1 := Lib.hid (show New w w1 from New.trans (by repeat (first | with_reducible exact new0 _ | with_reducible apply New.alloc | with_reducible apply New.drewN | with_reducible apply New.drew | (with_reducible refine New.setCell ?_ (by simp <;> omega) _))) g1)
  clear g1
  obtain ⟨k0, k1, k2, k3, kf, kz⟩ := A.out.c4
  go_wp2_with fail
  refine (awake_any _).mono ?_
  rintro e w2 ⟨rfl, g2⟩
  have H2 := Lib.hid g2
  clear g2
  go_wp2_with fail
  go_ret
  exact ⟨rfl, by repeat (first | with_reducible exact new0 _ | with_reducible apply New.alloc | with_reducible apply New.drewN | with_reducible apply New.drew | (with_reducible refine New.setCell ?_ (by simp <;> omega) _) | (with_reducible refine New.trans ?_ H2.out) | (with_reducible refine New.trans ?_ H1.out))⟩
set_option maxHeartbeats 3200000 in
theorem law_run_big (nm : ByteArray) (ma ri fa : Int) (Ad : Option Addr) (n cap : Nat) (w : World) (hl : ¬ 60 < nm.size) (h1 : 1010 < n) : Calls Try.prog 5 #[.agg #[.string nm, .int .i64 ma, .int .i64 ri, .int .i64 fa], .slice Ad n cap] w fun e w' => e = .returned (.bool true) ∧ New w w' := by
  have A := Lib.hid ((blk_alloc' w #[.string nm, .int .i64 ma, .int .i64 ri, .int .i64 fa] 23 (w.heap.size) (by simp)).new (new0 _))
  have hl' : ¬ (60 : Int) < nm.size := by omega
  have h1' : (100 : Int) < n := by omega
  have h2' : ¬ (n : Int) ≤ 1000 := by omega
  have h3' : (1010 : Int) < n := by omega
  go_enter Try.func5, Try.ntmps5
  go_wp2_with fail
  refine (awake_any _).mono ?_
  rintro e w1 ⟨rfl, g1⟩
  have A := Lib.hid (A.out.new g1)
  have H1 := Lib.hid (show New w w1 from New.trans (by repeat (first | with_reducible exact new0 _ | with_reducible apply New.alloc | with_reducible apply New.drewN | with_reducible apply New.drew | (with_reducible refine New.setCell ?_ (by simp <;> omega) _))) g1)
  clear g1
  obtain ⟨k0, k1, k2, k3, kf, kz⟩ := A.out.c4
  go_wp2_with fail
  refine (awake_any _).mono ?_
  rintro e w2 ⟨rfl, g2⟩
  have H2 := Lib.hid g2
  clear g2
  go_wp2_with fail
  go_ret
  exact ⟨rfl, by repeat (first | with_reducible exact new0 _ | with_reducible apply New.alloc | with_reducible apply New.drewN | with_reducible apply New.drew | (with_reducible refine New.setCell ?_ (by simp <;> omega) _) | (with_reducible refine New.trans ?_ H2.out) | (with_reducible refine New.trans ?_ H1.out))⟩
set_option maxHeartbeats 3200000 in
theorem law_run_few (nm : ByteArray) (ma ri fa : Int) (Ad : Option Addr) (n cap : Nat) (s : Nat → Sm) (w : World) (hl : ¬ 60 < nm.size) (h1 : n ≤ 100) (hS : SmV w (.slice Ad n cap) n s) (l : List Int) (E : Int) (hL : runL (valE nm ma ri fa) ma ri fa s n = l) (hE : runE (valE nm ma ri fa) s n = E) : Calls Try.prog 5 #[.agg #[.string nm, .int .i64 ma, .int .i64 ri, .int .i64 fa], .slice Ad n cap] w fun e w' => e = .returned (.bool true) ∧ New w w' := by
  have A := Lib.hid ((blk_alloc' w #[.string nm, .int .i64 ma, .int .i64 ri, .int .i64 fa] 23 (w.heap.size) (by simp)).new (new0 _))
  have hl' : ¬ (60 : Int) < nm.size := by omega
  have h1' : ¬ (100 : Int) < n := by omega
  have h3' : ¬ (1010 : Int) < n := by omega
  have hN := Lib.hid (show n ≤ 1010 by omega)
  have hlen := Lib.hid (show l.length ≤ 1000 by rw [← hL]; exact runL_len _ _ _ _ _ _)
  have HS := Lib.hid hS
  have HL := Lib.hid hL
  have HE := Lib.hid hE
  clear hS hL hE
  go_enter Try.func5, Try.ntmps5
  go_wp2_with fail
  refine (awake_any _).mono ?_
  rintro e w1 ⟨rfl, g1⟩
  have A := Lib.hid (A.out.new g1)
  have H1 := Lib.hid (show New w w1 from New.trans (by repeat (first | with_reducible exact new0 _ | with_reducible apply New.alloc | with_reducible apply New.drewN | with_reducible apply New.drew | (with_reducible refine New.setCell ?_ (by simp <;> omega) _))) g1)
  clear g1
  obtain ⟨k0, k1, k2, k3, kf, kz⟩ := A.out.c4
  go_wp2_with fail
  go_region_held3 (fun w' => w'.cell? ⟨w.heap.size, 0, none⟩ = some (.string nm) ∧ w'.cell? ⟨w.heap.size, 1, none⟩ = some (.int .i64 ma) ∧ w'.cell? ⟨w.heap.size, 2, none⟩ = some (.int .i64 ri) ∧ w'.cell? ⟨w.heap.size, 3, none⟩ = some (.int .i64 fa))
    (((with_reducible refine keep4 A.out ?_); repeat (first | with_reducible exact new0 _ | with_reducible apply New.alloc | with_reducible apply New.drewN | with_reducible apply New.drew | (with_reducible refine New.setCell ?_ (by simp <;> omega) _) | (with_reducible refine New.trans ?_ H3.out) | (with_reducible refine New.trans ?_ H2.out))))
    (first
      | (go_at_call 21; (with_reducible refine (clones_v _ n s _ hN.out (HS.out.new (by repeat (first | with_reducible exact new0 _ | with_reducible apply New.alloc | with_reducible apply New.drewN | with_reducible apply New.drew | (with_reducible refine New.setCell ?_ (by simp <;> omega) _) | (with_reducible refine New.trans ?_ H1.out))))).mono ?_); rintro e w2 ⟨v2, rfl, hs2, g2⟩; have H2 := Lib.hid g2; have HS2 := Lib.hid hs2; clear g2 hs2)
      | (go_at_call 20; (with_reducible refine (run_is nm ma ri fa n s _ _ HS2.out _ _ HL.out HE.out).mono ?_); rintro e w3 ⟨v3, rfl, hv3, g3⟩; have H3 := Lib.hid g3; have HV3 := Lib.hid hv3; clear g3 hv3))
  have A := Lib.hid (A.out.new (show New w1 w3 by repeat (first | with_reducible exact new0 _ | with_reducible apply New.alloc | with_reducible apply New.drewN | with_reducible apply New.drew | (with_reducible refine New.setCell ?_ (by simp <;> omega) _) | (with_reducible refine New.trans ?_ H3.out) | (with_reducible refine New.trans ?_ H2.out))))
  clear k0 k1 k2 k3 kf kz
  obtain ⟨k0, k1, k2, k3, kf, kz⟩ := A.out.c4
  have H4 := Lib.hid (show New w w3 by repeat (first | with_reducible exact new0 _ | with_reducible apply New.alloc | with_reducible apply New.drewN | with_reducible apply New.drew | (with_reducible refine New.setCell ?_ (by simp <;> omega) _) | (with_reducible refine New.trans ?_ H3.out) | (with_reducible refine New.trans ?_ H2.out) | (with_reducible refine New.trans ?_ H1.out)))
  go_wp2_with fail
  refine (rrun_is nm ma ri fa n s _ _ (HS.out.new H4.out) _ _ HL.out HE.out).mono ?_
  rintro e w5 ⟨v5, rfl, hv5, g5⟩
  have HV5 := Lib.hid hv5
  have H5 := Lib.hid g5
  clear g5 hv5
  go_wp2_with fail
  refine (equal_v v3 v5 l _ hlen.out (HV3.out.new H5.out) HV5.out).mono ?_
  rintro e w6 ⟨rfl, g6⟩
  have H6 := Lib.hid g6
  clear g6
  go_wp2_with fail
  go_ret
  exact ⟨by simp, by repeat (first | with_reducible exact new0 _ | with_reducible apply New.alloc | with_reducible apply New.drewN | with_reducible apply New.drew | (with_reducible refine New.setCell ?_ (by simp <;> omega) _) | (with_reducible refine New.trans ?_ H6.out) | (with_reducible refine New.trans ?_ H5.out) | (with_reducible refine New.trans ?_ H4.out))⟩
set_option maxHeartbeats 3200000 in
theorem law_run_lot (nm : ByteArray) (ma ri fa : Int) (Ad : Option Addr) (n cap : Nat) (s : Nat → Sm) (w : World) (hl : ¬ 60 < nm.size) (h1 : 1000 < n) (h2 : n ≤ 1010) (hS : SmV w (.slice Ad n cap) n s) (l : List Int) (E : Int) (hL : runL (valE nm ma ri fa) ma ri fa s n = l) (hE : runE (valE nm ma ri fa) s n = E) : Calls Try.prog 5 #[.agg #[.string nm, .int .i64 ma, .int .i64 ri, .int .i64 fa], .slice Ad n cap] w fun e w' => e = .returned (.bool true) ∧ New w w' := by
  have A := Lib.hid ((blk_alloc' w #[.string nm, .int .i64 ma, .int .i64 ri, .int .i64 fa] 23 (w.heap.size) (by simp)).new (new0 _))
  have hl' : ¬ (60 : Int) < nm.size := by omega
  have h1' : (100 : Int) < n := by omega
  have h2' : ¬ (n : Int) ≤ 1000 := by omega
  have h3' : ¬ (1010 : Int) < n := by omega
  have hN := Lib.hid (show n ≤ 1010 by omega)
  have hlen := Lib.hid (show l.length ≤ 1000 by rw [← hL]; exact runL_len _ _ _ _ _ _)
  have HS := Lib.hid hS
  have HL := Lib.hid hL
  have HE := Lib.hid hE
  clear hS hL hE
  go_enter Try.func5, Try.ntmps5
  go_wp2_with fail
  refine (awake_any _).mono ?_
  rintro e w1 ⟨rfl, g1⟩
  have A := Lib.hid (A.out.new g1)
  have H1 := Lib.hid (show New w w1 from New.trans (by repeat (first | with_reducible exact new0 _ | with_reducible apply New.alloc | with_reducible apply New.drewN | with_reducible apply New.drew | (with_reducible refine New.setCell ?_ (by simp <;> omega) _))) g1)
  clear g1
  obtain ⟨k0, k1, k2, k3, kf, kz⟩ := A.out.c4
  go_wp2_with fail
  go_region_held3 (fun w' => w'.cell? ⟨w.heap.size, 0, none⟩ = some (.string nm) ∧ w'.cell? ⟨w.heap.size, 1, none⟩ = some (.int .i64 ma) ∧ w'.cell? ⟨w.heap.size, 2, none⟩ = some (.int .i64 ri) ∧ w'.cell? ⟨w.heap.size, 3, none⟩ = some (.int .i64 fa))
    (((with_reducible refine keep4 A.out ?_); repeat (first | with_reducible exact new0 _ | with_reducible apply New.alloc | with_reducible apply New.drewN | with_reducible apply New.drew | (with_reducible refine New.setCell ?_ (by simp <;> omega) _) | (with_reducible refine New.trans ?_ H3.out) | (with_reducible refine New.trans ?_ H2.out))))
    (first
      | (go_at_call 21; (with_reducible refine (clones_v _ n s _ hN.out (HS.out.new (by repeat (first | with_reducible exact new0 _ | with_reducible apply New.alloc | with_reducible apply New.drewN | with_reducible apply New.drew | (with_reducible refine New.setCell ?_ (by simp <;> omega) _) | (with_reducible refine New.trans ?_ H1.out))))).mono ?_); rintro e w2 ⟨v2, rfl, hs2, g2⟩; have H2 := Lib.hid g2; have HS2 := Lib.hid hs2; clear g2 hs2)
      | (go_at_call 20; (with_reducible refine (run_is nm ma ri fa n s _ _ HS2.out _ _ HL.out HE.out).mono ?_); rintro e w3 ⟨v3, rfl, hv3, g3⟩; have H3 := Lib.hid g3; have HV3 := Lib.hid hv3; clear g3 hv3))
  have A := Lib.hid (A.out.new (show New w1 w3 by repeat (first | with_reducible exact new0 _ | with_reducible apply New.alloc | with_reducible apply New.drewN | with_reducible apply New.drew | (with_reducible refine New.setCell ?_ (by simp <;> omega) _) | (with_reducible refine New.trans ?_ H3.out) | (with_reducible refine New.trans ?_ H2.out))))
  clear k0 k1 k2 k3 kf kz
  obtain ⟨k0, k1, k2, k3, kf, kz⟩ := A.out.c4
  have H4 := Lib.hid (show New w w3 by repeat (first | with_reducible exact new0 _ | with_reducible apply New.alloc | with_reducible apply New.drewN | with_reducible apply New.drew | (with_reducible refine New.setCell ?_ (by simp <;> omega) _) | (with_reducible refine New.trans ?_ H3.out) | (with_reducible refine New.trans ?_ H2.out) | (with_reducible refine New.trans ?_ H1.out)))
  go_wp2_with fail
  refine (rrun_is nm ma ri fa n s _ _ (HS.out.new H4.out) _ _ HL.out HE.out).mono ?_
  rintro e w5 ⟨v5, rfl, hv5, g5⟩
  have HV5 := Lib.hid hv5
  have H5 := Lib.hid g5
  clear g5 hv5
  go_wp2_with fail
  refine (equal_v v3 v5 l _ hlen.out (HV3.out.new H5.out) HV5.out).mono ?_
  rintro e w6 ⟨rfl, g6⟩
  have H6 := Lib.hid g6
  clear g6
  go_wp2_with fail
  go_ret
  exact ⟨by simp, by repeat (first | with_reducible exact new0 _ | with_reducible apply New.alloc | with_reducible apply New.drewN | with_reducible apply New.drew | (with_reducible refine New.setCell ?_ (by simp <;> omega) _) | (with_reducible refine New.trans ?_ H6.out) | (with_reducible refine New.trans ?_ H5.out) | (with_reducible refine New.trans ?_ H4.out))⟩
theorem law_run (nm : ByteArray) (ma ri fa : Int) (Ad : Option Addr) (n cap : Nat) (s : Nat → Sm) (w : World) (hS : SmV w (.slice Ad n cap) n s) : Calls Try.prog 5 #[.agg #[.string nm, .int .i64 ma, .int .i64 ri, .int .i64 fa], .slice Ad n cap] w fun e w' => e = .returned (.bool true) ∧ New w w' := by
  by_cases hl : 60 < nm.size
  · exact law_run_nm nm ma ri fa Ad n cap w hl
  · by_cases h1 : n ≤ 100
    · exact law_run_few nm ma ri fa Ad n cap s w hl h1 hS _ _ rfl rfl
    · by_cases h2 : n ≤ 1000
      · exact law_run_mid nm ma ri fa Ad n cap w hl (by omega) h2
      · by_cases h3 : n ≤ 1010
        · exact law_run_lot nm ma ri fa Ad n cap s w hl (by omega) h3 hS _ _ rfl rfl
        · exact law_run_big nm ma ri fa Ad n cap w hl (by omega)
end Go.Proofs.Ytjkfdmbhiooeiaa
