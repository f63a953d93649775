/-
  Run, by the reference.
-/
import Derived.Test.YtjkfdmbhiooeiaaRun
namespace Go.Proofs.Ytjkfdmbhiooeiaa
open Go.RowKit
set_option maxHeartbeats 400000 in
theorem start_any (w : World) : Calls Try.prog 44 #[] w fun e w' => e = .returned (.agg #[.int .i64 3, .int .i64 0, .int .i64 0]) ∧ New w w' := by
  go_enter Try.func44, Try.ntmps44
  go_wp2
  refine bodyPost_ret (v := .agg #[.int .i64 3, .int .i64 0, .int .i64 0]) (by go_light; simp [results, Try.results44, go_sem]) rfl ?_
  exact ⟨rfl, by repeat (first | with_reducible exact new0 _ | with_reducible apply New.alloc | with_reducible apply New.drewN | with_reducible apply New.drew | (with_reducible refine New.setCell ?_ (by simp <;> omega) _))⟩
set_option maxHeartbeats 6400000 in
theorem rrun_gen (nm : ByteArray) (ma ri fa : Int) (b off n m cap : Nat) (s : Nat → Sm) (l : List Int) (er : Int) (w : World) (hv : valE nm ma ri fa = 0) (hn : n ≤ 1000) (hS : Smps w b off n s) (hg : ∀ j, j < m → goodK s j = true) (hm : (m = n ∧ l = lst ma ri fa s n ∧ er = 0) ∨ (m < n ∧ goodK s m = false ∧ l = [] ∧ er = 6)) :
    Calls Try.prog 22 #[.agg #[.string nm, .int .i64 ma, .int .i64 ri, .int .i64 fa], .slice (some ⟨b, off, none⟩) n cap] w (RunPost w l er) := by
  obtain ⟨i0, hi, hz0, hz1, hz2⟩ := info_parts info3
  obtain ⟨r1, r2, r3, r4⟩ := valE_zero hv
  have R := Lib.hid (And.intro r2 r4)
  have HV := Lib.hid hv
  have HS := Lib.hid hS
  have HG := Lib.hid hg
  have HM := Lib.hid hm
  have hmn : m ≤ n := by omega
  clear hv hS hg hm r1 r2 r3 r4
  have A := Lib.hid (blk_alloc w #[.string nm, .int .i64 ma, .int .i64 ri, .int .i64 fa] 23)
  go_enter Try.func22, Try.ntmps22
  go_wp2_with fail
  refine (rvalid_any nm ma ri fa _).mono ?_
  rw [HV.out]
  rintro e w1 ⟨rfl, g1⟩
  have A := Lib.hid (A.out.new g1)
  have H1 := Lib.hid (New.trans ((new0 w).alloc _) g1)
  have z1 : w.heap.size < w1.heap.size := A.out.1
  clear g1
  go_wp2_with fail
  refine (start_any _).mono ?_
  rintro e w0 ⟨rfl, g0⟩
  have A := Lib.hid (A.out.new g0)
  have H0 := Lib.hid (H1.out.trans g0)
  have z1 : w.heap.size < w0.heap.size := A.out.1
  clear g0
  go_wp2_with fail
  go_loopw [7, 9] (fun v i wr => ∃ (k : Nat) (v0 : Value), k ≤ m ∧ i = .int .i64 k ∧ v0 = v ∧ RunRel w w0.heap.size nm ma ri fa s k v0 wr) (fun _ i _ => n - (intOf i).toNat)
  case atStart => exact ⟨0, _, by omega, rfl, rfl, World.ownsRow_nil _ _ _ _, by repeat (first | with_reducible exact new0 _ | with_reducible apply New.alloc | with_reducible apply New.drewN | with_reducible apply New.drew | (with_reducible refine New.setCell ?_ (by simp <;> omega) _) | (with_reducible refine New.trans ?_ H0.out)), A.out.new ((new0 _).alloc _), blk_alloc _ _ _, z1⟩
  case round =>
    obtain ⟨k, v, hk, rfl, rfl, ho, hNw, hA, hB, _⟩ := hrel
    have HO := Lib.hid ho
    have HNw := Lib.hid hNw
    have HA := Lib.hid hA
    have HB := Lib.hid hB
    by_cases hlt : k < m
    · obtain ⟨c0, c1, c2, c3⟩ := (HS.out.new hNw).2 k (by omega)
      have hbz : b < wr.heap.size := (HS.out.new hNw).1
      obtain ⟨k0, k1, k2, k3, kf, kz⟩ := hA.c4
      obtain ⟨l0, l1, l2, lf, lz⟩ := hB.c3
      clear ho hNw hA hB
      have hg := HG.out k hlt
      unfold goodK insB at hg
      simp only [decide_eq_true_eq] at hg
      obtain ⟨u1, u2⟩ := hg
      have u1 : ¬ (s k).g < 0 := by omega
      have u2 : ¬ 1099511627776 < (s k).g := by omega
      have hkn : k < n := by omega
      have C2 := Lib.hid (HS.out.new HNw.out)
      have A2 := HA
      have B2 := HB
      have O2 := HO
      obtain ⟨f1, f2⟩ := flt_n ma R.out.1 R.out.2 s k
      have F1 := Lib.hid (show (flt ma ri fa s k).n < 1000 by omega)
      have F2 := Lib.hid f1
      clear f1 f2
      have e1 : w.heap.size ≠ w0.heap.size := by omega
      go_wp2_with fail
      · refine left_region (fun w' => w'.cell? ⟨w.heap.size, 0, none⟩ = some (.string nm) ∧ w'.cell? ⟨w.heap.size, 1, none⟩ = some (.int .i64 ma) ∧ w'.cell? ⟨w.heap.size, 2, none⟩ = some (.int .i64 ri) ∧ w'.cell? ⟨w.heap.size, 3, none⟩ = some (.int .i64 fa) ∧ w'.cell? ⟨b, off + k * 4, none⟩ = some (.bool (s k).a) ∧ w'.cell? ⟨b, off + k * 4 + 1, none⟩ = some (.bool (s k).b) ∧ w'.cell? ⟨b, off + k * 4 + 2, none⟩ = some (.int .i64 (s k).g) ∧ w'.cell? ⟨b, off + k * 4 + 3, none⟩ = some (.bool (s k).v) ∧ w'.cell? ⟨w0.heap.size, 0, none⟩ = some (.int .i64 (flt ma ri fa s k).s) ∧ w'.cell? ⟨w0.heap.size, 1, none⟩ = some (.int .i64 (flt ma ri fa s k).c) ∧ w'.cell? ⟨w0.heap.size, 2, none⟩ = some (.int .i64 (flt ma ri fa s k).n)) 9 (by kernel_rfl) ⟨k0, k1, k2, k3, c0, c1, c2, c3, l0, l1, l2⟩ (fun hHeld => ?_)
        refine left_take (i := 0) (o := { dst := some 39, op := .load 23 (.tmp 2), type := 23, pos := "ref.go:128", after := #[], guard := none }) (v := .agg #[.string nm, .int .i64 ma, .int .i64 ri, .int .i64 fa]) rfl rfl (by kernel_rfl) (by kernel_rfl) (by kernel_rfl) (by kernel_rfl) (fun _ _ _ h => h) (Or.inl ⟨by rfl, by rintro x ⟨t0, t1, t2, t3, t4, t5, t6, t7, t8, t9, t10⟩; go_simp⟩) hHeld ?_
        try simp only [Act.put, List.setIfInBounds_toArray, List.set_cons_zero, List.set_cons_succ]
        refine left_take (i := 1) (o := { dst := some 40, op := .load 34 (.tmp 8), type := 34, pos := "ref.go:128", after := #[], guard := none }) (v := .agg #[.int .i64 (flt ma ri fa s k).s, .int .i64 (flt ma ri fa s k).c, .int .i64 (flt ma ri fa s k).n]) rfl rfl (by kernel_rfl) (by kernel_rfl) (by kernel_rfl) (by kernel_rfl) (fun _ _ _ h => h) (Or.inl ⟨by rfl, by rintro x ⟨t0, t1, t2, t3, t4, t5, t6, t7, t8, t9, t10⟩; go_simp⟩) hHeld ?_
        try simp only [Act.put, List.setIfInBounds_toArray, List.set_cons_zero, List.set_cons_succ]
        refine left_take (i := 2) (o := { dst := some 41, op := .load 23 (.tmp 2), type := 23, pos := "ref.go:128", after := #[], guard := none }) (v := .agg #[.string nm, .int .i64 ma, .int .i64 ri, .int .i64 fa]) rfl rfl (by kernel_rfl) (by kernel_rfl) (by kernel_rfl) (by kernel_rfl) (fun _ _ _ h => h) (Or.inl ⟨by rfl, by rintro x ⟨t0, t1, t2, t3, t4, t5, t6, t7, t8, t9, t10⟩; go_simp⟩) hHeld ?_
        try simp only [Act.put, List.setIfInBounds_toArray, List.set_cons_zero, List.set_cons_succ]
        refine left_take (i := 3) (o := { dst := some 42, op := .move (.tmp 1), type := 38, pos := "ref.go:128", after := #[], guard := none }) (v := .slice (some ⟨b, off, none⟩) n cap) rfl rfl (by kernel_rfl) (by kernel_rfl) (by kernel_rfl) (by kernel_rfl) (fun _ _ _ h => h) (Or.inl ⟨by rfl, by rintro x ⟨t0, t1, t2, t3, t4, t5, t6, t7, t8, t9, t10⟩; go_simp⟩) hHeld ?_
        try simp only [Act.put, List.setIfInBounds_toArray, List.set_cons_zero, List.set_cons_succ]
        refine left_take (i := 4) (o := { dst := some 43, op := .move (.tmp 9), type := 3, pos := "ref.go:128", after := #[], guard := none }) (v := .int .i64 k) rfl rfl (by kernel_rfl) (by kernel_rfl) (by kernel_rfl) (by kernel_rfl) (fun _ _ _ h => h) (Or.inl ⟨by rfl, by rintro x ⟨t0, t1, t2, t3, t4, t5, t6, t7, t8, t9, t10⟩; go_simp⟩) hHeld ?_
        try simp only [Act.put, List.setIfInBounds_toArray, List.set_cons_zero, List.set_cons_succ]
        refine left_take (i := 5) (o := { dst := some 44, op := .indexAddr 38 (.tmp 42) (.tmp 43), type := 0, pos := "ref.go:128", after := #[{ on := 3, ground := Ground.data }, { on := 4, ground := Ground.data }], guard := none }) (v := .pointer (some ⟨b, off + k * 4, none⟩)) rfl rfl (by kernel_rfl) (by kernel_rfl) (by kernel_rfl) (by kernel_rfl) (fun _ _ _ h => h) (Or.inl ⟨by rfl, by rintro x ⟨t0, t1, t2, t3, t4, t5, t6, t7, t8, t9, t10⟩; go_simp⟩) hHeld ?_
        try simp only [Act.put, List.setIfInBounds_toArray, List.set_cons_zero, List.set_cons_succ]
        refine left_take (i := 6) (o := { dst := some 45, op := .load 25 (.tmp 44), type := 25, pos := "ref.go:128", after := #[{ on := 5, ground := Ground.data }], guard := none }) (v := .agg #[.bool (s k).a, .bool (s k).b, .int .i64 (s k).g, .bool (s k).v]) rfl rfl (by kernel_rfl) (by kernel_rfl) (by kernel_rfl) (by kernel_rfl) (fun _ _ _ h => h) (Or.inl ⟨by rfl, by rintro x ⟨t0, t1, t2, t3, t4, t5, t6, t7, t8, t9, t10⟩; go_simp⟩) hHeld ?_
        try simp only [Act.put, List.setIfInBounds_toArray, List.set_cons_zero, List.set_cons_succ]
        refine left_one (i := 7) rfl (by kernel_rfl) (fun K hK => ?_)
        go_simp
        refine (rraw_any nm ma ri fa _ _ _ _ _).mono ?_
        rintro e w4 ⟨rfl, g4⟩
        have n4 : New wr w4 := New.trans (New.drew (new0 _)) g4
        obtain ⟨k0, k1, k2, k3, _⟩ := (A2.out.new n4).c4
        obtain ⟨l0, l1, l2, _⟩ := (B2.out.new n4).c3
        obtain ⟨m0, m1, m2, m3⟩ := (C2.out.new n4).2 k hkn
        refine hK.out _ _ (fun _ => ⟨k0, k1, k2, k3, m0, m1, m2, m3, l0, l1, l2⟩) ?_
        clear hK K
        try simp only [Act.put, List.setIfInBounds_toArray, List.set_cons_zero, List.set_cons_succ]
        refine left_one (i := 8) rfl (by kernel_rfl) (fun K hK => ?_)
        go_simp
        refine (rstep_any nm ma ri fa _ _ _ _ _ F1.out F2.out).mono ?_
        rintro e w5 ⟨rfl, g5⟩
        have n5 : New wr w5 := New.trans n4 g5
        obtain ⟨k0, k1, k2, k3, _⟩ := (A2.out.new n5).c4
        obtain ⟨l0, l1, l2, lf, _⟩ := (B2.out.new n5).c3
        obtain ⟨m0, m1, m2, m3⟩ := (C2.out.new n5).2 k hkn
        refine hK.out _ _ (fun _ => ⟨k0, k1, k2, k3, m0, m1, m2, m3, l0, l1, l2⟩) ?_
        clear hK K
        try simp only [Act.put, List.setIfInBounds_toArray, List.set_cons_zero, List.set_cons_succ]
        refine left_one (i := 9) rfl (by kernel_rfl) (fun K hK => ?_)
        go_simp
        refine hK.out _ _ (fun h => absurd rfl h) ?_
        clear hK K
        try simp only [Act.put, List.setIfInBounds_toArray, List.set_cons_zero, List.set_cons_succ]
        refine left_done (by kernel_rfl) ?_
        have G := Lib.hid n5
        have O5 := Lib.hid (own_new O2.out n5)
        have A5 := Lib.hid (A2.out.new n5)
        have B5 := Lib.hid (B2.out.new n5)
        clear n4 n5 g4 g5
        refine then_abs (fun X => X.ownsRow (w0.heap.size + 1) 3 1 v k (ints (lst ma ri fa s k)) ∧ New w X ∧ Blk X w.heap.size #[.string nm, .int .i64 ma, .int .i64 ri, .int .i64 fa] ∧ Blk X w0.heap.size #[.int .i64 (flt ma ri fa s (k + 1)).s, .int .i64 (flt ma ri fa s (k + 1)).c, .int .i64 (flt ma ri fa s (k + 1)).n]) ?_ ?_
        · exact ⟨ownsRow_setCell_below (ownsRow_setCell_below (ownsRow_setCell_below O5.out (by simp) _) (by simp) _) (by simp) _, (((HNw.out.trans G.out).setCell (by simp; omega) _).setCell (by simp; omega) _).setCell (by simp; omega) _, A5.out.set3 e1 _ _ _, B5.out.put3 _ _ _⟩
        · rintro X ⟨o6, n6, a6, b6⟩
          obtain ⟨l0, l1, l2, lf, lz⟩ := b6.c3
          have O6 := Lib.hid o6
          have N6 := Lib.hid n6
          have A6 := Lib.hid a6
          have B6 := Lib.hid b6
          clear o6 n6 a6 b6
          go_wp2_with (at_builtin; refine wpList_append_own _ rfl (.tmp 48) (.tmp 51) 39 rfl (w0.heap.size + 1) 3 i0 (.int .i64 0) 1 8 Try.underlying39 hi hz0 hz1 hz2 rfl (by decide) _ _ _ rfl (O6.out.alloc _) ⟨X.heap.size, 0, none⟩ 1 1 [.int .i64 (flt ma ri fa s (k + 1)).s] rfl rfl (by intro t u ht; match t, ht with | 0, ht => simp at ht; subst ht; simp [Addr.add, go_sem]) (by intro u hu; simp at hu; subst hu; rfl) (by unfold maxLen; omega) (by omega) (by simp; omega) ?_; intro v' w3 hown3 hgrow3 _)
          have R3 : RunRel w w0.heap.size nm ma ri fa s (k + 1) v' w3 := run_grow z1 ⟨O6.out, N6.out, A6.out, B6.out, z1⟩ hown3 hgrow3
          clear hown3 hgrow3
          go_roundw
          case rel => exact ⟨k + 1, _, by omega, by go_num, rfl, R3⟩
          case measure => simp [intOf]; omega
    · have e : k = m := by omega
      subst e
      rcases HM.out with ⟨e1, e2, e3⟩ | ⟨e1, e2, e3, e4⟩
      · subst e1 e2 e3
        clear hlt hk ho hNw hA hB
        go_wp2
        go_ret2
        exact ⟨_, rfl, intV_own (base := w0.heap.size + 1) (by rw [lst_len]; exact HO.out), HNw.out⟩
      · subst e3 e4
        obtain ⟨c0, c1, c2, c3⟩ := (HS.out.new hNw).2 k e1
        unfold goodK insB at e2
        simp only [decide_eq_false_iff_not] at e2
        clear hk ho hNw hA hB
        by_cases hgl : (s k).g < 0
        · go_wp2_with fail
          go_ret2
          exact ⟨_, rfl, .inl ⟨rfl, none, 0, rfl⟩, by repeat (first | with_reducible exact new0 _ | with_reducible apply New.alloc | with_reducible apply New.drewN | with_reducible apply New.drew | (with_reducible refine New.setCell ?_ (by simp <;> omega) _) | (with_reducible refine New.trans ?_ HNw.out))⟩
        · have hgr : 1099511627776 < (s k).g := by omega
          clear e2
          go_wp2_with fail
          go_ret2
          exact ⟨_, rfl, .inl ⟨rfl, none, 0, rfl⟩, by repeat (first | with_reducible exact new0 _ | with_reducible apply New.alloc | with_reducible apply New.drewN | with_reducible apply New.drew | (with_reducible refine New.setCell ?_ (by simp <;> omega) _) | (with_reducible refine New.trans ?_ HNw.out))⟩
end Go.Proofs.Ytjkfdmbhiooeiaa
