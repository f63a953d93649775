/-
  Put, by the program: where it succeeds.
-/
import Derived.Test.YtedbjnojogjnkaaPut
namespace Go.Proofs.Ytedbjnojogjnkaa
open Go.RowKit
set_option maxHeartbeats 6400000 in
theorem put_s1 (ca af : Int) (A : Option Addr) (n cap : Nat) (M : Nat → Ms) (ov re : Int) (fz : Bool) (t x : Int) (g : Bool) (w : World) (hM : MsV w (.slice A n cap) n M) (hn : n ≤ 1000) (hv : vB ⟨ca, af, n, M, ov, re, fz⟩ = 0) (hf : fz = false) (ho : okM ⟨t, x, g⟩ = true) (hov : ¬ ov = 1099511627776) (h0 : 0 < n) (hl : ¬ t < (M (n - 1)).t) (hc : ¬ (n : Int) = ca) :
    Calls Try.prog 12 #[.agg #[.int .i64 ca, .int .i64 af, .slice A n cap, .int .i64 ov, .int .i64 re, .bool fz], .agg #[.int .i64 t, .int .i64 x, .bool g]] w (ResPost w (resB (putE (⟨ca, af, n, M, ov, re, fz⟩ : Bf) (⟨t, x, g⟩ : Ms)) (putB (⟨ca, af, n, M, ov, re, fz⟩ : Bf) (⟨t, x, g⟩ : Ms))) (putE (⟨ca, af, n, M, ov, re, fz⟩ : Bf) (⟨t, x, g⟩ : Ms))) := by
  subst hf
  have HO := Lib.hid ho
  obtain ⟨b, off, rfl, hcap, hs⟩ : ∃ b off, A = some ⟨b, off, none⟩ ∧ n ≤ cap ∧ Mss w b off n M := by
    rcases hM with ⟨h0, _⟩ | ⟨b, off, c, e, hcp, hs⟩
    · omega
    · cases e; exact ⟨b, off, rfl, hcp, hs⟩
  have HSM := Lib.hid hs
  clear hs
  obtain ⟨k, rfl⟩ : ∃ k, n = k + 1 := ⟨n - 1, by omega⟩
  have hl : ¬ t < (M k).t := hl
  obtain ⟨i0, hi, hz0, hz1, hz2⟩ := info_parts info26
  obtain ⟨v1, v2, v3, v4, v5, v6, v7, v8, v9, v10, v11, v12⟩ := vB_zero hv
  have hd : drp (⟨ca, af, k + 1, M, ov, re, false⟩ : Bf) = 0 := by simp only [drp]; rw [if_neg hc]
  have HPY := Lib.hid (show 0 < re → putB (⟨ca, af, k + 1, M, ov, re, false⟩ : Bf) ⟨t, x, g⟩ = ⟨ca, af, k + 1 + 1, snoc (k + 1) M ⟨t, x, g⟩, ov, re - 1, (re - 1 == 0)⟩ from fun hre => by
      unfold putB
      rw [hd]
      simp [hre]
      rw [Bool.eq_iff_iff]
      simp
      omega)
  have HPN := Lib.hid (show ¬ 0 < re → putB (⟨ca, af, k + 1, M, ov, re, false⟩ : Bf) ⟨t, x, g⟩ = ⟨ca, af, k + 1 + 1, snoc (k + 1) M ⟨t, x, g⟩, ov, re, false⟩ from fun hre => by
      unfold putB
      rw [hd]
      simp [hre])
  clear hd
  have RB := Lib.hid (show re ≤ 200 from Int.le_trans v8 v4)
  have OB := Lib.hid (show 0 ≤ ov ∧ ov ≤ 1099511627776 from ⟨v5, v6⟩)
  clear v1 v2 v3 v4 v5 v6 v7 v8 v9 v10 v11 v12
  have HM := Lib.hid hM
  have hvv : valE ca af (k + 1) M ov re false = 0 := hv
  have HV := Lib.hid hvv
  have HE := Lib.hid (show putE (⟨ca, af, k + 1, M, ov, re, false⟩ : Bf) (⟨t, x, g⟩ : Ms) = 0 by unfold putE; rw [hv]; simp [ho, hov]; omega)
  clear hM hv hvv
  have A1 := Lib.hid ((blk_alloc w #[.int .i64 ca, .int .i64 af, .slice (some ⟨b, off, none⟩) (k + 1) cap, .int .i64 ov, .int .i64 re, .bool false] 24 _ rfl).new (((new0 _).alloc (.cells #[.int .i64 t, .int .i64 x, .bool g] 26)).alloc (.cells #[.int .i64 0, .int .i64 0, .slice none 0 0, .int .i64 0, .int .i64 0, .bool false] 24)))
  have B1 := Lib.hid ((blk_alloc (w.alloc (.cells #[.int .i64 ca, .int .i64 af, .slice (some ⟨b, off, none⟩) (k + 1) cap, .int .i64 ov, .int .i64 re, .bool false] 24)) #[.int .i64 t, .int .i64 x, .bool g] 26 (w.heap.size + 1) (by simp)).new ((new0 _).alloc (.cells #[.int .i64 0, .int .i64 0, .slice none 0 0, .int .i64 0, .int .i64 0, .bool false] 24)))
  have C1 := Lib.hid (blk_alloc ((w.alloc (.cells #[.int .i64 ca, .int .i64 af, .slice (some ⟨b, off, none⟩) (k + 1) cap, .int .i64 ov, .int .i64 re, .bool false] 24)).alloc (.cells #[.int .i64 t, .int .i64 x, .bool g] 26)) #[.int .i64 0, .int .i64 0, .slice none 0 0, .int .i64 0, .int .i64 0, .bool false] 24 (w.heap.size + 1 + 1) (by simp))
  go_enter Try.func12, Try.ntmps12
  go_wp2_with fail
  refine (valid_any ca af (some ⟨b, off, none⟩) (k + 1) cap M ov re false _ (HM.out.new ((((new0 w).alloc _).alloc _).alloc _)) hn).mono ?_
  rw [HV.out]
  rintro e w1 ⟨rfl, g1⟩
  have A1 := Lib.hid (A1.out.new g1)
  have B1 := Lib.hid (B1.out.new g1)
  have C1 := Lib.hid (C1.out.new g1)
  obtain ⟨k0, k1, k2, k3, k4, k5, kf, kz⟩ := A1.out.c6
  obtain ⟨l0, l1, l2, lf, lz⟩ := B1.out.c3
  obtain ⟨m0, m1, m2, m3, m4, m5, mf, mz⟩ := C1.out.c6
  have H1 := Lib.hid (show New w w1 from New.trans ((((new0 w).alloc _).alloc _).alloc _) g1)
  clear g1
  go_wp2_with fail
  clear ho
  obtain ⟨d0, d1, d2⟩ := (HSM.out.new H1.out).2 k (by omega)
  have hbz : b < w1.heap.size := (HSM.out.new H1.out).1
  have hk0 : (0 : Int) < (k : Int) + 1 := by omega
  have hk1 : (k : Int) < (k : Int) + 1 := by omega
  have esub : IntKind.i64.wrap ((k : Int) + 1 - 1) = k := by rw [IntWalk.i64_in _ (by omega)]; omega
  have hc1 : ((k : Int) + 1 == ca) = false := by simpa using hc
  have hov1 : (ov == 1099511627776) = false := by simpa using hov
  clear hc
  refine (samErr_any t x g _).mono ?_
  rw [HO.out]
  rintro e w2 ⟨rfl, cs, rfl⟩
  go_wp2_with fail
  go_quiet (fail)
  go_wp2_with fail
  refine wp_abs (fun W => New w W ∧ Blk W w.heap.size #[.int .i64 ca, .int .i64 af, .slice (some ⟨b, off, none⟩) (k + 1) cap, .int .i64 ov, .int .i64 re, .bool false] ∧ Blk W (w.heap.size + 1) #[.int .i64 t, .int .i64 x, .bool g] ∧ Blk W (w.heap.size + 1 + 1) #[.int .i64 0, .int .i64 0, .slice none 0 0, .int .i64 0, .int .i64 0, .bool false] ∧ MsV W (.slice (some ⟨b, off, none⟩) (k + 1) cap) (k + 1) M) ?_ ?_
  · exact ⟨by repeat (first | with_reducible exact new0 _ | with_reducible apply New.alloc | with_reducible apply New.drewN | with_reducible apply New.drew | (with_reducible refine New.setCell ?_ (by simp <;> omega) _) | (with_reducible refine New.trans ?_ H1.out)), Blk.mk6 (by simp; omega) (by go_light; simp [go_sem, *]) (by go_light; simp [go_sem, *]) (by go_light; simp [go_sem, *]) (by go_light; simp [go_sem, *]) (by go_light; simp [go_sem, *]) (by go_light; simp [go_sem, *]) (fun o => by go_light; simp [go_sem, *]), Blk.mk3 (by simp; omega) (by go_light; simp [go_sem, *]) (by go_light; simp [go_sem, *]) (by go_light; simp [go_sem, *]) (fun o => by go_light; simp [go_sem, *]), Blk.mk6 (by simp; omega) (by go_light; simp [go_sem, *]) (by go_light; simp [go_sem, *]) (by go_light; simp [go_sem, *]) (by go_light; simp [go_sem, *]) (by go_light; simp [go_sem, *]) (by go_light; simp [go_sem, *]) (fun o => by go_light; simp [go_sem, *]), HM.out.new (by repeat (first | with_reducible exact new0 _ | with_reducible apply New.alloc | with_reducible apply New.drewN | with_reducible apply New.drew | (with_reducible refine New.setCell ?_ (by simp <;> omega) _) | (with_reducible refine New.trans ?_ H1.out)))⟩
  rintro W ⟨nW, a2, b2, c2, kW⟩
  clear k0 k1 k2 k3 k4 k5 kf kz l0 l1 l2 lf lz m0 m1 m2 m3 m4 m5 mf mz
  obtain ⟨l0, l1, l2, lf, lz⟩ := b2.c3
  have hsz := c2.1
  have HW := Lib.hid nW
  have A2 := Lib.hid a2
  have B2 := Lib.hid b2
  have C2 := Lib.hid c2
  have KW := Lib.hid kW
  clear nW a2 b2 c2 kW
  refine left_region (fun w' => w'.cell? ⟨w.heap.size + 1, 0, none⟩ = some (.int .i64 t) ∧ w'.cell? ⟨w.heap.size + 1, 1, none⟩ = some (.int .i64 x) ∧ w'.cell? ⟨w.heap.size + 1, 2, none⟩ = some (.bool g)) 6 (by kernel_rfl) ⟨l0, l1, l2⟩ (fun hHeld => ?_)
  refine left_take (i := 0) (o := { dst := some 59, op := Op.move (Operand.tmp 9), type := 22, pos := "ringbuffer.go:105", after := #[], guard := none }) (v := ?va1) rfl rfl (by kernel_rfl) (by kernel_rfl) (by kernel_rfl) (by kernel_rfl) (fun _ _ _ h => h) (Or.inl ⟨by rfl, ?hy1⟩) hHeld ?rest1
  case hy1 => (rintro x0 ⟨t0, t1, t2⟩; go_simp; (try with_reducible rfl))
  try simp only [Act.put, List.setIfInBounds_toArray, List.set_cons_zero, List.set_cons_succ]
  refine left_take (i := 2) (o := { dst := some 61, op := Op.load 26 (Operand.tmp 3), type := 26, pos := "ringbuffer.go:105", after := #[], guard := none }) (v := ?va2) rfl rfl (by kernel_rfl) (by kernel_rfl) (by kernel_rfl) (by kernel_rfl) (fun _ _ _ h => h) (Or.inl ⟨by rfl, ?hy2⟩) hHeld ?rest2
  case hy2 => (rintro x0 ⟨t0, t1, t2⟩; go_simp; (try with_reducible rfl))
  try simp only [Act.put, List.setIfInBounds_toArray, List.set_cons_zero, List.set_cons_succ]
  refine left_two (i := 1) (j := 3) (o := { dst := some 60, op := Op.call { callee := Callee.value (Operand.func 32), args := #[Operand.tmp 59], argTypes := #[22] }, type := 22, pos := "ringbuffer.go:105", after := #[{ on := 0, ground := Ground.data }], guard := none }) (o' := { dst := some 62, op := Op.buildSlice 22 1 #[(0, Operand.tmp 61)], type := 22, pos := "ringbuffer.go:105", after := #[{ on := 2, ground := Ground.data }], guard := none }) rfl rfl (by kernel_rfl) (fun KK hK => ?_) (fun KK hK => ?_)
  · skip
    go_simp
    refine (clone_v _ (k + 1) M _ hn (KW.out.new ((new0 W).drew))).mono ?_
    rintro e w4 ⟨v4, rfl, ho4, g4⟩
    obtain ⟨A4, c4, rfl⟩ := (msV_row (row_own ho4)).len
    have n4 : New W w4 := New.trans ((new0 W).drew) g4
    obtain ⟨l0, l1, l2, lf, lz⟩ := (B2.out.new n4).c3
    have hHeld := And.intro l0 (And.intro l1 l2)
    refine hK.out _ _ (fun _ => hHeld) ?_
    clear hK KK
    try simp only [Act.put, List.setIfInBounds_toArray, List.set_cons_zero, List.set_cons_succ]
    refine left_one (i := 3) (o := { dst := some 62, op := Op.buildSlice 22 1 #[(0, Operand.tmp 61)], type := 22, pos := "ringbuffer.go:105", after := #[{ on := 2, ground := Ground.data }], guard := none }) rfl (by kernel_rfl) (fun KK hK => ?_)
    go_simp
    have n5 : New W (w4.alloc (.cells #[.int .i64 t, .int .i64 x, .bool g] 26)) := n4.alloc _
    obtain ⟨l0, l1, l2, lf, lz⟩ := (B2.out.new n5).c3
    have hHeld := And.intro l0 (And.intro l1 l2)
    refine hK.out _ _ (fun _ => hHeld) ?_
    clear hK KK
    try simp only [Act.put, List.setIfInBounds_toArray, List.set_cons_zero, List.set_cons_succ]
    refine left_one (i := 4) (o := { dst := some 63, op := Op.call { callee := Callee.builtin Builtin.append, args := #[Operand.tmp 60, Operand.tmp 62], argTypes := #[22, 22] }, type := 22, pos := "ringbuffer.go:105", after := #[{ on := 1, ground := Ground.data }, { on := 3, ground := Ground.data }, { on := 1, ground := Ground.chain }], guard := none }) rfl (by kernel_rfl) (fun KK hK => ?_)
    refine step_append_lies _ rfl (.tmp 60) (.tmp 62) 22 rfl (w.heap.size + 1 + 1 + 1) 26 i0 (.agg #[.int .i64 0, .int .i64 0, .bool false]) 3 24 Try.underlying22 hi hz0 hz1 hz2 rfl (by decide) (.slice A4 (k + 1) c4) (k + 1) (flat (k + 1) 3 (mF M)) rfl ((own_mono ho4 (show w.heap.size + 1 + 1 + 1 ≤ W.drew.heap.size from hsz)).alloc _) ⟨w4.heap.size, 0, none⟩ 1 1 [.int .i64 t, .int .i64 x, .bool g] rfl rfl (by intro j u hj; match j, hj with | 0, hj | 1, hj | 2, hj => simp at hj; subst hj; simp [Addr.add, go_sem]) (by intro u hu; simp at hu; rcases hu with rfl | rfl | rfl <;> rfl) (by decide) (by unfold maxLen; omega) (by omega) (by first | (simp; done) | (simp; omega) | omega) _ rfl ?_
    intro gg cp w5 hown hgrow _ _
    have n6 : New W w5 := n5.grown hgrow (ho4.alloc _) (by first | exact Nat.le_refl _ | (simp; done) | (simp; omega))
    obtain ⟨l0, l1, l2, lf, lz⟩ := (B2.out.new n6).c3
    have hHeld := And.intro l0 (And.intro l1 l2)
    refine hK.out _ _ (fun _ => hHeld) ?_
    clear hK KK
    try simp only [Act.put, List.setIfInBounds_toArray, List.set_cons_zero, List.set_cons_succ]
    obtain ⟨k0, k1, k2, k3, k4, k5, kf, kz⟩ := (A2.out.new n6).c6
    obtain ⟨m0, m1, m2, m3, m4, m5, mf, mz⟩ := (C2.out.new n6).c6
    have HOW := Lib.hid hown
    have HN6 := Lib.hid (HW.out.trans n6)
    clear hown hgrow n6 n5 g4 ho4 n4
    refine left_one (i := 5) rfl (by kernel_rfl) (fun KK hK => ?_)
    go_simp
    refine hK.out _ _ (fun _ => hHeld) ?_
    clear hK KK
    try simp only [Act.put, List.setIfInBounds_toArray, List.set_cons_zero, List.set_cons_succ]
    refine left_one (i := 6) rfl (by kernel_rfl) (fun KK hK => ?_)
    go_simp
    refine hK.out _ _ (fun h => absurd rfl h) ?_
    clear hK KK
    try simp only [Act.put, List.setIfInBounds_toArray, List.set_cons_zero, List.set_cons_succ]
    refine left_done (by kernel_rfl) ?_
    refine then_abs (fun X => New w X ∧ Blk X w.heap.size #[.int .i64 ca, .int .i64 af, .slice (some ⟨gg, 0, none⟩) (k + 1 + 1) cp, .int .i64 ov, .int .i64 re, .bool false] ∧ Blk X (w.heap.size + 1 + 1) #[.int .i64 0, .int .i64 0, .slice none 0 0, .int .i64 0, .int .i64 0, .bool false] ∧ X.ownsRow (w.heap.size + 1 + 1 + 1) 26 3 (.slice (some ⟨gg, 0, none⟩) (k + 1 + 1) cp) (k + 1 + 1) (flat (k + 1 + 1) 3 (mF (snoc (k + 1) M ⟨t, x, g⟩)))) ?_ ?_
    · exact ⟨HN6.out.setCell (by simp) _, Blk.mk6 (by simp; omega) (by go_light; simp [go_sem, *]) (by go_light; simp [go_sem, *]) (by go_light; simp [go_sem, *]) (by go_light; simp [go_sem, *]) (by go_light; simp [go_sem, *]) (by go_light; simp [go_sem, *]) (fun o => by go_light; simp [go_sem, *]), Blk.mk6 (by simp; omega) (by go_light; simp [go_sem, *]) (by go_light; simp [go_sem, *]) (by go_light; simp [go_sem, *]) (by go_light; simp [go_sem, *]) (by go_light; simp [go_sem, *]) (by go_light; simp [go_sem, *]) (fun o => by go_light; simp [go_sem, *]), ownsRow_setCell_below (by rw [flat_put]; exact HOW.out) (by simp; omega) _⟩
    rintro X ⟨nX, aX, cX, oX⟩
    clear k0 k1 k2 k3 k4 k5 kf kz m0 m1 m2 m3 m4 m5 mf mz l0 l1 l2 lf lz hHeld
    obtain ⟨k0, k1, k2, k3, k4, k5, kf, kz⟩ := aX.c6
    obtain ⟨m0, m1, m2, m3, m4, m5, mf, mz⟩ := cX.c6
    have NX := Lib.hid nX
    have OX := Lib.hid oX
    clear nX aX cX oX
    by_cases hre : 0 < re
    · have HP := Lib.hid (HPY.out (by omega))
      have esr : IntKind.i64.wrap (re - 1) = re - 1 := IntWalk.i64_in _ (by have := RB.out; omega)
      go_wp2_with fail
      refine bodyPost_ret (v := .tuple #[.agg #[.int .i64 ca, .int .i64 af, .slice (some ⟨gg, 0, none⟩) (k + 1 + 1) cp, .int .i64 ov, .int .i64 (re - 1), .bool (re - 1 == 0)], .int .i64 0]) (by go_light; simp [results, Try.results12, go_sem, *]) rfl ?_
      refine ⟨_, by rw [HE.out], ?_, by repeat (first | with_reducible exact new0 _ | with_reducible apply New.alloc | with_reducible apply New.drewN | with_reducible apply New.drew | (with_reducible refine New.setCell ?_ (by simp <;> omega) _) | (with_reducible refine New.trans ?_ NX.out))⟩
      rw [HE.out]
      show BufN _ _ _ (putB (⟨ca, af, k + 1, M, ov, re, false⟩ : Bf) ⟨t, x, g⟩)
      rw [HP.out]
      refine ⟨_, rfl, msN_own (base := w.heap.size + 1 + 1 + 1) (by omega) ?_⟩
      repeat (with_reducible refine ownsRow_setCell_below ?_ (by first | (simp; done) | (simp; omega)) _)
      exact OX.out
    · have HP := Lib.hid (HPN.out (by omega))
      go_wp2_with fail
      refine bodyPost_ret (v := .tuple #[.agg #[.int .i64 ca, .int .i64 af, .slice (some ⟨gg, 0, none⟩) (k + 1 + 1) cp, .int .i64 ov, .int .i64 re, .bool false], .int .i64 0]) (by go_light; simp [results, Try.results12, go_sem, *]) rfl ?_
      refine ⟨_, by rw [HE.out], ?_, by repeat (first | with_reducible exact new0 _ | with_reducible apply New.alloc | with_reducible apply New.drewN | with_reducible apply New.drew | (with_reducible refine New.setCell ?_ (by simp <;> omega) _) | (with_reducible refine New.trans ?_ NX.out))⟩
      rw [HE.out]
      show BufN _ _ _ (putB (⟨ca, af, k + 1, M, ov, re, false⟩ : Bf) ⟨t, x, g⟩)
      rw [HP.out]
      refine ⟨_, rfl, msN_own (base := w.heap.size + 1 + 1 + 1) (by omega) ?_⟩
      repeat (with_reducible refine ownsRow_setCell_below ?_ (by first | (simp; done) | (simp; omega)) _)
      exact OX.out
  · skip
    go_simp
    have n3 : New W (W.alloc (.cells #[.int .i64 t, .int .i64 x, .bool g] 26)) := (new0 _).alloc _
    obtain ⟨l0, l1, l2, lf, lz⟩ := (B2.out.new n3).c3
    have hHeld := And.intro l0 (And.intro l1 l2)
    refine hK.out _ _ (fun _ => hHeld) ?_
    clear hK KK
    try simp only [Act.put, List.setIfInBounds_toArray, List.set_cons_zero, List.set_cons_succ]
    refine left_one (i := 1) (o := { dst := some 60, op := Op.call { callee := Callee.value (Operand.func 32), args := #[Operand.tmp 59], argTypes := #[22] }, type := 22, pos := "ringbuffer.go:105", after := #[{ on := 0, ground := Ground.data }], guard := none }) rfl (by kernel_rfl) (fun KK hK => ?_)
    go_simp
    refine (clone_v _ (k + 1) M _ hn (KW.out.new (by repeat (first | with_reducible exact new0 _ | with_reducible apply New.alloc | with_reducible apply New.drewN | with_reducible apply New.drew | (with_reducible refine New.setCell ?_ (by simp <;> omega) _))))).mono ?_
    rintro e w4 ⟨v4, rfl, ho4, g4⟩
    obtain ⟨A4, c4, rfl⟩ := (msV_row (row_own ho4)).len
    have n5 : New W w4 := New.trans (by repeat (first | with_reducible exact new0 _ | with_reducible apply New.alloc | with_reducible apply New.drewN | with_reducible apply New.drew | (with_reducible refine New.setCell ?_ (by simp <;> omega) _))) g4
    obtain ⟨l0, l1, l2, lf, lz⟩ := (B2.out.new n5).c3
    obtain ⟨e0, e1, e2, ef, ez⟩ := ((blk_alloc W #[.int .i64 t, .int .i64 x, .bool g] 26 _ rfl).new (show New (W.alloc (.cells #[.int .i64 t, .int .i64 x, .bool g] 26)) w4 from New.trans (by repeat (first | with_reducible exact new0 _ | with_reducible apply New.alloc | with_reducible apply New.drewN | with_reducible apply New.drew | (with_reducible refine New.setCell ?_ (by simp <;> omega) _))) g4)).c3
    have hHeld := And.intro l0 (And.intro l1 l2)
    refine hK.out _ _ (fun _ => hHeld) ?_
    clear hK KK
    try simp only [Act.put, List.setIfInBounds_toArray, List.set_cons_zero, List.set_cons_succ]
    refine left_one (i := 4) (o := { dst := some 63, op := Op.call { callee := Callee.builtin Builtin.append, args := #[Operand.tmp 60, Operand.tmp 62], argTypes := #[22, 22] }, type := 22, pos := "ringbuffer.go:105", after := #[{ on := 1, ground := Ground.data }, { on := 3, ground := Ground.data }, { on := 1, ground := Ground.chain }], guard := none }) rfl (by kernel_rfl) (fun KK hK => ?_)
    refine step_append_lies _ rfl (.tmp 60) (.tmp 62) 22 rfl (w.heap.size + 1 + 1 + 1) 26 i0 (.agg #[.int .i64 0, .int .i64 0, .bool false]) 3 24 Try.underlying22 hi hz0 hz1 hz2 rfl (by decide) (.slice A4 (k + 1) c4) (k + 1) (flat (k + 1) 3 (mF M)) rfl (own_mono ho4 (show w.heap.size + 1 + 1 + 1 ≤ (W.alloc (.cells #[.int .i64 t, .int .i64 x, .bool g] 26)).heap.size by simp; omega)) ⟨W.heap.size, 0, none⟩ 1 1 [.int .i64 t, .int .i64 x, .bool g] rfl rfl (by intro j u hj; match j, hj with | 0, hj | 1, hj | 2, hj => simp at hj; subst hj; simp [Addr.add, *]) (by intro u hu; simp at hu; rcases hu with rfl | rfl | rfl <;> rfl) (by decide) (by unfold maxLen; omega) (by omega) (by first | (simp; done) | (simp; omega) | omega) _ rfl ?_
    intro gg cp w5 hown hgrow _ _
    have n6 : New W w5 := n5.grown hgrow ho4 (by first | exact Nat.le_refl _ | (simp; done) | (simp; omega))
    obtain ⟨l0, l1, l2, lf, lz⟩ := (B2.out.new n6).c3
    have hHeld := And.intro l0 (And.intro l1 l2)
    refine hK.out _ _ (fun _ => hHeld) ?_
    clear hK KK
    try simp only [Act.put, List.setIfInBounds_toArray, List.set_cons_zero, List.set_cons_succ]
    obtain ⟨k0, k1, k2, k3, k4, k5, kf, kz⟩ := (A2.out.new n6).c6
    obtain ⟨m0, m1, m2, m3, m4, m5, mf, mz⟩ := (C2.out.new n6).c6
    have HOW := Lib.hid hown
    have HN6 := Lib.hid (HW.out.trans n6)
    clear hown hgrow n6 n5 g4 ho4 n3 e0 e1 e2 ef ez
    refine left_one (i := 5) rfl (by kernel_rfl) (fun KK hK => ?_)
    go_simp
    refine hK.out _ _ (fun _ => hHeld) ?_
    clear hK KK
    try simp only [Act.put, List.setIfInBounds_toArray, List.set_cons_zero, List.set_cons_succ]
    refine left_one (i := 6) rfl (by kernel_rfl) (fun KK hK => ?_)
    go_simp
    refine hK.out _ _ (fun h => absurd rfl h) ?_
    clear hK KK
    try simp only [Act.put, List.setIfInBounds_toArray, List.set_cons_zero, List.set_cons_succ]
    refine left_done (by kernel_rfl) ?_
    refine then_abs (fun X => New w X ∧ Blk X w.heap.size #[.int .i64 ca, .int .i64 af, .slice (some ⟨gg, 0, none⟩) (k + 1 + 1) cp, .int .i64 ov, .int .i64 re, .bool false] ∧ Blk X (w.heap.size + 1 + 1) #[.int .i64 0, .int .i64 0, .slice none 0 0, .int .i64 0, .int .i64 0, .bool false] ∧ X.ownsRow (w.heap.size + 1 + 1 + 1) 26 3 (.slice (some ⟨gg, 0, none⟩) (k + 1 + 1) cp) (k + 1 + 1) (flat (k + 1 + 1) 3 (mF (snoc (k + 1) M ⟨t, x, g⟩)))) ?_ ?_
    · exact ⟨HN6.out.setCell (by simp) _, Blk.mk6 (by simp; omega) (by go_light; simp [go_sem, *]) (by go_light; simp [go_sem, *]) (by go_light; simp [go_sem, *]) (by go_light; simp [go_sem, *]) (by go_light; simp [go_sem, *]) (by go_light; simp [go_sem, *]) (fun o => by go_light; simp [go_sem, *]), Blk.mk6 (by simp; omega) (by go_light; simp [go_sem, *]) (by go_light; simp [go_sem, *]) (by go_light; simp [go_sem, *]) (by go_light; simp [go_sem, *]) (by go_light; simp [go_sem, *]) (by go_light; simp [go_sem, *]) (fun o => by go_light; simp [go_sem, *]), ownsRow_setCell_below (by rw [flat_put]; exact HOW.out) (by simp; omega) _⟩
    rintro X ⟨nX, aX, cX, oX⟩
    clear k0 k1 k2 k3 k4 k5 kf kz m0 m1 m2 m3 m4 m5 mf mz l0 l1 l2 lf lz hHeld
    obtain ⟨k0, k1, k2, k3, k4, k5, kf, kz⟩ := aX.c6
    obtain ⟨m0, m1, m2, m3, m4, m5, mf, mz⟩ := cX.c6
    have NX := Lib.hid nX
    have OX := Lib.hid oX
    clear nX aX cX oX
    by_cases hre : 0 < re
    · have HP := Lib.hid (HPY.out (by omega))
      have esr : IntKind.i64.wrap (re - 1) = re - 1 := IntWalk.i64_in _ (by have := RB.out; omega)
      go_wp2_with fail
      refine bodyPost_ret (v := .tuple #[.agg #[.int .i64 ca, .int .i64 af, .slice (some ⟨gg, 0, none⟩) (k + 1 + 1) cp, .int .i64 ov, .int .i64 (re - 1), .bool (re - 1 == 0)], .int .i64 0]) (by go_light; simp [results, Try.results12, go_sem, *]) rfl ?_
      refine ⟨_, by rw [HE.out], ?_, by repeat (first | with_reducible exact new0 _ | with_reducible apply New.alloc | with_reducible apply New.drewN | with_reducible apply New.drew | (with_reducible refine New.setCell ?_ (by simp <;> omega) _) | (with_reducible refine New.trans ?_ NX.out))⟩
      rw [HE.out]
      show BufN _ _ _ (putB (⟨ca, af, k + 1, M, ov, re, false⟩ : Bf) ⟨t, x, g⟩)
      rw [HP.out]
      refine ⟨_, rfl, msN_own (base := w.heap.size + 1 + 1 + 1) (by omega) ?_⟩
      repeat (with_reducible refine ownsRow_setCell_below ?_ (by first | (simp; done) | (simp; omega)) _)
      exact OX.out
    · have HP := Lib.hid (HPN.out (by omega))
      go_wp2_with fail
      refine bodyPost_ret (v := .tuple #[.agg #[.int .i64 ca, .int .i64 af, .slice (some ⟨gg, 0, none⟩) (k + 1 + 1) cp, .int .i64 ov, .int .i64 re, .bool false], .int .i64 0]) (by go_light; simp [results, Try.results12, go_sem, *]) rfl ?_
      refine ⟨_, by rw [HE.out], ?_, by repeat (first | with_reducible exact new0 _ | with_reducible apply New.alloc | with_reducible apply New.drewN | with_reducible apply New.drew | (with_reducible refine New.setCell ?_ (by simp <;> omega) _) | (with_reducible refine New.trans ?_ NX.out))⟩
      rw [HE.out]
      show BufN _ _ _ (putB (⟨ca, af, k + 1, M, ov, re, false⟩ : Bf) ⟨t, x, g⟩)
      rw [HP.out]
      refine ⟨_, rfl, msN_own (base := w.heap.size + 1 + 1 + 1) (by omega) ?_⟩
      repeat (with_reducible refine ownsRow_setCell_below ?_ (by first | (simp; done) | (simp; omega)) _)
      exact OX.out
set_option maxHeartbeats 6400000 in
theorem put_s2 (ca af : Int) (A : Option Addr) (n cap : Nat) (M : Nat → Ms) (ov re : Int) (fz : Bool) (t x : Int) (g : Bool) (w : World) (hM : MsV w (.slice A n cap) n M) (hn : n ≤ 1000) (hv : vB ⟨ca, af, n, M, ov, re, fz⟩ = 0) (hf : fz = false) (ho : okM ⟨t, x, g⟩ = true) (hov : ¬ ov = 1099511627776) (h0 : 0 < n) (hl : ¬ t < (M (n - 1)).t) (hc : (n : Int) = ca) (hcp : ¬ cap = 1) :
    Calls Try.prog 12 #[.agg #[.int .i64 ca, .int .i64 af, .slice A n cap, .int .i64 ov, .int .i64 re, .bool fz], .agg #[.int .i64 t, .int .i64 x, .bool g]] w (ResPost w (resB (putE (⟨ca, af, n, M, ov, re, fz⟩ : Bf) (⟨t, x, g⟩ : Ms)) (putB (⟨ca, af, n, M, ov, re, fz⟩ : Bf) (⟨t, x, g⟩ : Ms))) (putE (⟨ca, af, n, M, ov, re, fz⟩ : Bf) (⟨t, x, g⟩ : Ms))) := by
  subst hf
  have HO := Lib.hid ho
  obtain ⟨b, off, rfl, hcap, hs⟩ : ∃ b off, A = some ⟨b, off, none⟩ ∧ n ≤ cap ∧ Mss w b off n M := by
    rcases hM with ⟨h0, _⟩ | ⟨b, off, c, e, hcp, hs⟩
    · omega
    · cases e; exact ⟨b, off, rfl, hcp, hs⟩
  have HSM := Lib.hid hs
  clear hs
  obtain ⟨k, rfl⟩ : ∃ k, n = k + 1 := ⟨n - 1, by omega⟩
  have hl : ¬ t < (M k).t := hl
  obtain rfl : ca = (k : Int) + 1 := by push_cast at hc; omega
  obtain ⟨i0, hi, hz0, hz1, hz2⟩ := info_parts info26
  obtain ⟨v1, v2, v3, v4, v5, v6, v7, v8, v9, v10, v11, v12⟩ := vB_zero hv
  have hd : drp (⟨((k : Int) + 1), af, k + 1, M, ov, re, false⟩ : Bf) = 1 := by simp [drp]
  have HPY := Lib.hid (show 0 < re → putB (⟨((k : Int) + 1), af, k + 1, M, ov, re, false⟩ : Bf) ⟨t, x, g⟩ = ⟨((k : Int) + 1), af, k + 1, snoc (k) (fun j => M (j + 1)) ⟨t, x, g⟩, ov + 1, re - 1, (re - 1 == 0)⟩ from fun hre => by
      unfold putB
      rw [hd]
      simp [hre]
      rw [Bool.eq_iff_iff]
      simp
      omega)
  have HPN := Lib.hid (show ¬ 0 < re → putB (⟨((k : Int) + 1), af, k + 1, M, ov, re, false⟩ : Bf) ⟨t, x, g⟩ = ⟨((k : Int) + 1), af, k + 1, snoc (k) (fun j => M (j + 1)) ⟨t, x, g⟩, ov + 1, re, false⟩ from fun hre => by
      unfold putB
      rw [hd]
      simp [hre])
  clear hd
  have RB := Lib.hid (show re ≤ 200 from Int.le_trans v8 v4)
  have OB := Lib.hid (show 0 ≤ ov ∧ ov ≤ 1099511627776 from ⟨v5, v6⟩)
  clear v1 v2 v3 v4 v5 v6 v7 v8 v9 v10 v11 v12
  have HM := Lib.hid hM
  have hvv : valE ((k : Int) + 1) af (k + 1) M ov re false = 0 := hv
  have HV := Lib.hid hvv
  have HE := Lib.hid (show putE (⟨((k : Int) + 1), af, k + 1, M, ov, re, false⟩ : Bf) (⟨t, x, g⟩ : Ms) = 0 by unfold putE; rw [hv]; simp [ho, hov]; omega)
  clear hM hv hvv
  have A1 := Lib.hid ((blk_alloc w #[.int .i64 ((k : Int) + 1), .int .i64 af, .slice (some ⟨b, off, none⟩) (k + 1) cap, .int .i64 ov, .int .i64 re, .bool false] 24 _ rfl).new (((new0 _).alloc (.cells #[.int .i64 t, .int .i64 x, .bool g] 26)).alloc (.cells #[.int .i64 0, .int .i64 0, .slice none 0 0, .int .i64 0, .int .i64 0, .bool false] 24)))
  have B1 := Lib.hid ((blk_alloc (w.alloc (.cells #[.int .i64 ((k : Int) + 1), .int .i64 af, .slice (some ⟨b, off, none⟩) (k + 1) cap, .int .i64 ov, .int .i64 re, .bool false] 24)) #[.int .i64 t, .int .i64 x, .bool g] 26 (w.heap.size + 1) (by simp)).new ((new0 _).alloc (.cells #[.int .i64 0, .int .i64 0, .slice none 0 0, .int .i64 0, .int .i64 0, .bool false] 24)))
  have C1 := Lib.hid (blk_alloc ((w.alloc (.cells #[.int .i64 ((k : Int) + 1), .int .i64 af, .slice (some ⟨b, off, none⟩) (k + 1) cap, .int .i64 ov, .int .i64 re, .bool false] 24)).alloc (.cells #[.int .i64 t, .int .i64 x, .bool g] 26)) #[.int .i64 0, .int .i64 0, .slice none 0 0, .int .i64 0, .int .i64 0, .bool false] 24 (w.heap.size + 1 + 1) (by simp))
  go_enter Try.func12, Try.ntmps12
  go_wp2_with fail
  refine (valid_any ((k : Int) + 1) af (some ⟨b, off, none⟩) (k + 1) cap M ov re false _ (HM.out.new ((((new0 w).alloc _).alloc _).alloc _)) hn).mono ?_
  rw [HV.out]
  rintro e w1 ⟨rfl, g1⟩
  have A1 := Lib.hid (A1.out.new g1)
  have B1 := Lib.hid (B1.out.new g1)
  have C1 := Lib.hid (C1.out.new g1)
  obtain ⟨k0, k1, k2, k3, k4, k5, kf, kz⟩ := A1.out.c6
  obtain ⟨l0, l1, l2, lf, lz⟩ := B1.out.c3
  obtain ⟨m0, m1, m2, m3, m4, m5, mf, mz⟩ := C1.out.c6
  have H1 := Lib.hid (show New w w1 from New.trans ((((new0 w).alloc _).alloc _).alloc _) g1)
  clear g1
  go_wp2_with fail
  clear ho
  obtain ⟨d0, d1, d2⟩ := (HSM.out.new H1.out).2 k (by omega)
  have hbz : b < w1.heap.size := (HSM.out.new H1.out).1
  have hk0 : (0 : Int) < (k : Int) + 1 := by omega
  have hk1 : (k : Int) < (k : Int) + 1 := by omega
  have esub : IntKind.i64.wrap ((k : Int) + 1 - 1) = k := by rw [IntWalk.i64_in _ (by omega)]; omega
  have hov1 : (ov == 1099511627776) = false := by simpa using hov
  have hcp1 : ¬ cap - 1 = 0 := by omega
  have hcp2 : ¬ cap = 1 := hcp
  have eov : IntKind.i64.wrap (ov + 1) = ov + 1 := IntWalk.i64_in _ (by have := OB.out; omega)
  refine (samErr_any t x g _).mono ?_
  rw [HO.out]
  rintro e w2 ⟨rfl, cs, rfl⟩
  go_wp2_with fail
  go_quiet (fail)
  go_wp2_with fail
  refine wp_abs (fun W => New w W ∧ Blk W w.heap.size #[.int .i64 ((k : Int) + 1), .int .i64 af, .slice (some ⟨b, off, none⟩) (k + 1) cap, .int .i64 (ov + 1), .int .i64 re, .bool false] ∧ Blk W (w.heap.size + 1) #[.int .i64 t, .int .i64 x, .bool g] ∧ Blk W (w.heap.size + 1 + 1) #[.int .i64 0, .int .i64 0, .slice none 0 0, .int .i64 0, .int .i64 0, .bool false] ∧ MsV W (.slice (some ⟨b, off + 3, none⟩) k (cap - 1)) (k) (fun j => M (j + 1))) ?_ ?_
  · exact ⟨by repeat (first | with_reducible exact new0 _ | with_reducible apply New.alloc | with_reducible apply New.drewN | with_reducible apply New.drew | (with_reducible refine New.setCell ?_ (by simp <;> omega) _) | (with_reducible refine New.trans ?_ H1.out)), Blk.mk6 (by simp; omega) (by go_light; simp [go_sem, *]) (by go_light; simp [go_sem, *]) (by go_light; simp [go_sem, *]) (by go_light; simp [go_sem, *]) (by go_light; simp [go_sem, *]) (by go_light; simp [go_sem, *]) (fun o => by go_light; simp [go_sem, *]), Blk.mk3 (by simp; omega) (by go_light; simp [go_sem, *]) (by go_light; simp [go_sem, *]) (by go_light; simp [go_sem, *]) (fun o => by go_light; simp [go_sem, *]), Blk.mk6 (by simp; omega) (by go_light; simp [go_sem, *]) (by go_light; simp [go_sem, *]) (by go_light; simp [go_sem, *]) (by go_light; simp [go_sem, *]) (by go_light; simp [go_sem, *]) (by go_light; simp [go_sem, *]) (fun o => by go_light; simp [go_sem, *]), MsV.drop1 (by omega) (HSM.out.new (by repeat (first | with_reducible exact new0 _ | with_reducible apply New.alloc | with_reducible apply New.drewN | with_reducible apply New.drew | (with_reducible refine New.setCell ?_ (by simp <;> omega) _) | (with_reducible refine New.trans ?_ H1.out))))⟩
  rintro W ⟨nW, a2, b2, c2, kW⟩
  clear k0 k1 k2 k3 k4 k5 kf kz l0 l1 l2 lf lz m0 m1 m2 m3 m4 m5 mf mz
  obtain ⟨l0, l1, l2, lf, lz⟩ := b2.c3
  have hsz := c2.1
  have HW := Lib.hid nW
  have A2 := Lib.hid a2
  have B2 := Lib.hid b2
  have C2 := Lib.hid c2
  have KW := Lib.hid kW
  clear nW a2 b2 c2 kW
  refine left_region (fun w' => w'.cell? ⟨w.heap.size + 1, 0, none⟩ = some (.int .i64 t) ∧ w'.cell? ⟨w.heap.size + 1, 1, none⟩ = some (.int .i64 x) ∧ w'.cell? ⟨w.heap.size + 1, 2, none⟩ = some (.bool g)) 6 (by kernel_rfl) ⟨l0, l1, l2⟩ (fun hHeld => ?_)
  refine left_take (i := 0) (o := { dst := some 59, op := Op.move (Operand.tmp 9), type := 22, pos := "ringbuffer.go:105", after := #[], guard := none }) (v := ?va3) rfl rfl (by kernel_rfl) (by kernel_rfl) (by kernel_rfl) (by kernel_rfl) (fun _ _ _ h => h) (Or.inl ⟨by rfl, ?hy3⟩) hHeld ?rest3
  case hy3 => (rintro x0 ⟨t0, t1, t2⟩; go_simp; (try with_reducible rfl))
  try simp only [Act.put, List.setIfInBounds_toArray, List.set_cons_zero, List.set_cons_succ]
  refine left_take (i := 2) (o := { dst := some 61, op := Op.load 26 (Operand.tmp 3), type := 26, pos := "ringbuffer.go:105", after := #[], guard := none }) (v := ?va4) rfl rfl (by kernel_rfl) (by kernel_rfl) (by kernel_rfl) (by kernel_rfl) (fun _ _ _ h => h) (Or.inl ⟨by rfl, ?hy4⟩) hHeld ?rest4
  case hy4 => (rintro x0 ⟨t0, t1, t2⟩; go_simp; (try with_reducible rfl))
  try simp only [Act.put, List.setIfInBounds_toArray, List.set_cons_zero, List.set_cons_succ]
  refine left_two (i := 1) (j := 3) (o := { dst := some 60, op := Op.call { callee := Callee.value (Operand.func 32), args := #[Operand.tmp 59], argTypes := #[22] }, type := 22, pos := "ringbuffer.go:105", after := #[{ on := 0, ground := Ground.data }], guard := none }) (o' := { dst := some 62, op := Op.buildSlice 22 1 #[(0, Operand.tmp 61)], type := 22, pos := "ringbuffer.go:105", after := #[{ on := 2, ground := Ground.data }], guard := none }) rfl rfl (by kernel_rfl) (fun KK hK => ?_) (fun KK hK => ?_)
  · skip
    go_simp
    refine (clone_v _ (k) (fun j => M (j + 1)) _ (by omega) (KW.out.new ((new0 W).drew))).mono ?_
    rintro e w4 ⟨v4, rfl, ho4, g4⟩
    obtain ⟨A4, c4, rfl⟩ := (msV_row (row_own ho4)).len
    have n4 : New W w4 := New.trans ((new0 W).drew) g4
    obtain ⟨l0, l1, l2, lf, lz⟩ := (B2.out.new n4).c3
    have hHeld := And.intro l0 (And.intro l1 l2)
    refine hK.out _ _ (fun _ => hHeld) ?_
    clear hK KK
    try simp only [Act.put, List.setIfInBounds_toArray, List.set_cons_zero, List.set_cons_succ]
    refine left_one (i := 3) (o := { dst := some 62, op := Op.buildSlice 22 1 #[(0, Operand.tmp 61)], type := 22, pos := "ringbuffer.go:105", after := #[{ on := 2, ground := Ground.data }], guard := none }) rfl (by kernel_rfl) (fun KK hK => ?_)
    go_simp
    have n5 : New W (w4.alloc (.cells #[.int .i64 t, .int .i64 x, .bool g] 26)) := n4.alloc _
    obtain ⟨l0, l1, l2, lf, lz⟩ := (B2.out.new n5).c3
    have hHeld := And.intro l0 (And.intro l1 l2)
    refine hK.out _ _ (fun _ => hHeld) ?_
    clear hK KK
    try simp only [Act.put, List.setIfInBounds_toArray, List.set_cons_zero, List.set_cons_succ]
    refine left_one (i := 4) (o := { dst := some 63, op := Op.call { callee := Callee.builtin Builtin.append, args := #[Operand.tmp 60, Operand.tmp 62], argTypes := #[22, 22] }, type := 22, pos := "ringbuffer.go:105", after := #[{ on := 1, ground := Ground.data }, { on := 3, ground := Ground.data }, { on := 1, ground := Ground.chain }], guard := none }) rfl (by kernel_rfl) (fun KK hK => ?_)
    refine step_append_lies _ rfl (.tmp 60) (.tmp 62) 22 rfl (w.heap.size + 1 + 1 + 1) 26 i0 (.agg #[.int .i64 0, .int .i64 0, .bool false]) 3 24 Try.underlying22 hi hz0 hz1 hz2 rfl (by decide) (.slice A4 (k) c4) (k) (flat (k) 3 (mF (fun j => M (j + 1)))) rfl ((own_mono ho4 (show w.heap.size + 1 + 1 + 1 ≤ W.drew.heap.size from hsz)).alloc _) ⟨w4.heap.size, 0, none⟩ 1 1 [.int .i64 t, .int .i64 x, .bool g] rfl rfl (by intro j u hj; match j, hj with | 0, hj | 1, hj | 2, hj => simp at hj; subst hj; simp [Addr.add, go_sem]) (by intro u hu; simp at hu; rcases hu with rfl | rfl | rfl <;> rfl) (by decide) (by unfold maxLen; omega) (by omega) (by first | (simp; done) | (simp; omega) | omega) _ rfl ?_
    intro gg cp w5 hown hgrow _ _
    have n6 : New W w5 := n5.grown hgrow (ho4.alloc _) (by first | exact Nat.le_refl _ | (simp; done) | (simp; omega))
    obtain ⟨l0, l1, l2, lf, lz⟩ := (B2.out.new n6).c3
    have hHeld := And.intro l0 (And.intro l1 l2)
    refine hK.out _ _ (fun _ => hHeld) ?_
    clear hK KK
    try simp only [Act.put, List.setIfInBounds_toArray, List.set_cons_zero, List.set_cons_succ]
    obtain ⟨k0, k1, k2, k3, k4, k5, kf, kz⟩ := (A2.out.new n6).c6
    obtain ⟨m0, m1, m2, m3, m4, m5, mf, mz⟩ := (C2.out.new n6).c6
    have HOW := Lib.hid hown
    have HN6 := Lib.hid (HW.out.trans n6)
    clear hown hgrow n6 n5 g4 ho4 n4
    refine left_one (i := 5) rfl (by kernel_rfl) (fun KK hK => ?_)
    go_simp
    refine hK.out _ _ (fun _ => hHeld) ?_
    clear hK KK
    try simp only [Act.put, List.setIfInBounds_toArray, List.set_cons_zero, List.set_cons_succ]
    refine left_one (i := 6) rfl (by kernel_rfl) (fun KK hK => ?_)
    go_simp
    refine hK.out _ _ (fun h => absurd rfl h) ?_
    clear hK KK
    try simp only [Act.put, List.setIfInBounds_toArray, List.set_cons_zero, List.set_cons_succ]
    refine left_done (by kernel_rfl) ?_
    refine then_abs (fun X => New w X ∧ Blk X w.heap.size #[.int .i64 ((k : Int) + 1), .int .i64 af, .slice (some ⟨gg, 0, none⟩) (k + 1) cp, .int .i64 (ov + 1), .int .i64 re, .bool false] ∧ Blk X (w.heap.size + 1 + 1) #[.int .i64 0, .int .i64 0, .slice none 0 0, .int .i64 0, .int .i64 0, .bool false] ∧ X.ownsRow (w.heap.size + 1 + 1 + 1) 26 3 (.slice (some ⟨gg, 0, none⟩) (k + 1) cp) (k + 1) (flat (k + 1) 3 (mF (snoc (k) (fun j => M (j + 1)) ⟨t, x, g⟩)))) ?_ ?_
    · exact ⟨HN6.out.setCell (by simp) _, Blk.mk6 (by simp; omega) (by go_light; simp [go_sem, *]) (by go_light; simp [go_sem, *]) (by go_light; simp [go_sem, *]) (by go_light; simp [go_sem, *]) (by go_light; simp [go_sem, *]) (by go_light; simp [go_sem, *]) (fun o => by go_light; simp [go_sem, *]), Blk.mk6 (by simp; omega) (by go_light; simp [go_sem, *]) (by go_light; simp [go_sem, *]) (by go_light; simp [go_sem, *]) (by go_light; simp [go_sem, *]) (by go_light; simp [go_sem, *]) (by go_light; simp [go_sem, *]) (fun o => by go_light; simp [go_sem, *]), ownsRow_setCell_below (by rw [flat_put]; exact HOW.out) (by simp; omega) _⟩
    rintro X ⟨nX, aX, cX, oX⟩
    clear k0 k1 k2 k3 k4 k5 kf kz m0 m1 m2 m3 m4 m5 mf mz l0 l1 l2 lf lz hHeld
    obtain ⟨k0, k1, k2, k3, k4, k5, kf, kz⟩ := aX.c6
    obtain ⟨m0, m1, m2, m3, m4, m5, mf, mz⟩ := cX.c6
    have NX := Lib.hid nX
    have OX := Lib.hid oX
    clear nX aX cX oX
    by_cases hre : 0 < re
    · have HP := Lib.hid (HPY.out (by omega))
      have esr : IntKind.i64.wrap (re - 1) = re - 1 := IntWalk.i64_in _ (by have := RB.out; omega)
      go_wp2_with fail
      refine bodyPost_ret (v := .tuple #[.agg #[.int .i64 ((k : Int) + 1), .int .i64 af, .slice (some ⟨gg, 0, none⟩) (k + 1) cp, .int .i64 (ov + 1), .int .i64 (re - 1), .bool (re - 1 == 0)], .int .i64 0]) (by go_light; simp [results, Try.results12, go_sem, *]) rfl ?_
      refine ⟨_, by rw [HE.out], ?_, by repeat (first | with_reducible exact new0 _ | with_reducible apply New.alloc | with_reducible apply New.drewN | with_reducible apply New.drew | (with_reducible refine New.setCell ?_ (by simp <;> omega) _) | (with_reducible refine New.trans ?_ NX.out))⟩
      rw [HE.out]
      show BufN _ _ _ (putB (⟨((k : Int) + 1), af, k + 1, M, ov, re, false⟩ : Bf) ⟨t, x, g⟩)
      rw [HP.out]
      refine ⟨_, rfl, msN_own (base := w.heap.size + 1 + 1 + 1) (by omega) ?_⟩
      repeat (with_reducible refine ownsRow_setCell_below ?_ (by first | (simp; done) | (simp; omega)) _)
      exact OX.out
    · have HP := Lib.hid (HPN.out (by omega))
      go_wp2_with fail
      refine bodyPost_ret (v := .tuple #[.agg #[.int .i64 ((k : Int) + 1), .int .i64 af, .slice (some ⟨gg, 0, none⟩) (k + 1) cp, .int .i64 (ov + 1), .int .i64 re, .bool false], .int .i64 0]) (by go_light; simp [results, Try.results12, go_sem, *]) rfl ?_
      refine ⟨_, by rw [HE.out], ?_, by repeat (first | with_reducible exact new0 _ | with_reducible apply New.alloc | with_reducible apply New.drewN | with_reducible apply New.drew | (with_reducible refine New.setCell ?_ (by simp <;> omega) _) | (with_reducible refine New.trans ?_ NX.out))⟩
      rw [HE.out]
      show BufN _ _ _ (putB (⟨((k : Int) + 1), af, k + 1, M, ov, re, false⟩ : Bf) ⟨t, x, g⟩)
      rw [HP.out]
      refine ⟨_, rfl, msN_own (base := w.heap.size + 1 + 1 + 1) (by omega) ?_⟩
      repeat (with_reducible refine ownsRow_setCell_below ?_ (by first | (simp; done) | (simp; omega)) _)
      exact OX.out
  · skip
    go_simp
    have n3 : New W (W.alloc (.cells #[.int .i64 t, .int .i64 x, .bool g] 26)) := (new0 _).alloc _
    obtain ⟨l0, l1, l2, lf, lz⟩ := (B2.out.new n3).c3
    have hHeld := And.intro l0 (And.intro l1 l2)
    refine hK.out _ _ (fun _ => hHeld) ?_
    clear hK KK
    try simp only [Act.put, List.setIfInBounds_toArray, List.set_cons_zero, List.set_cons_succ]
    refine left_one (i := 1) (o := { dst := some 60, op := Op.call { callee := Callee.value (Operand.func 32), args := #[Operand.tmp 59], argTypes := #[22] }, type := 22, pos := "ringbuffer.go:105", after := #[{ on := 0, ground := Ground.data }], guard := none }) rfl (by kernel_rfl) (fun KK hK => ?_)
    go_simp
    refine (clone_v _ (k) (fun j => M (j + 1)) _ (by omega) (KW.out.new (by repeat (first | with_reducible exact new0 _ | with_reducible apply New.alloc | with_reducible apply New.drewN | with_reducible apply New.drew | (with_reducible refine New.setCell ?_ (by simp <;> omega) _))))).mono ?_
    rintro e w4 ⟨v4, rfl, ho4, g4⟩
    obtain ⟨A4, c4, rfl⟩ := (msV_row (row_own ho4)).len
    have n5 : New W w4 := New.trans (by repeat (first | with_reducible exact new0 _ | with_reducible apply New.alloc | with_reducible apply New.drewN | with_reducible apply New.drew | (with_reducible refine New.setCell ?_ (by simp <;> omega) _))) g4
    obtain ⟨l0, l1, l2, lf, lz⟩ := (B2.out.new n5).c3
    obtain ⟨e0, e1, e2, ef, ez⟩ := ((blk_alloc W #[.int .i64 t, .int .i64 x, .bool g] 26 _ rfl).new (show New (W.alloc (.cells #[.int .i64 t, .int .i64 x, .bool g] 26)) w4 from New.trans (by repeat (first | with_reducible exact new0 _ | with_reducible apply New.alloc | with_reducible apply New.drewN | with_reducible apply New.drew | (with_reducible refine New.setCell ?_ (by simp <;> omega) _))) g4)).c3
    have hHeld := And.intro l0 (And.intro l1 l2)
    refine hK.out _ _ (fun _ => hHeld) ?_
    clear hK KK
    try simp only [Act.put, List.setIfInBounds_toArray, List.set_cons_zero, List.set_cons_succ]
    refine left_one (i := 4) (o := { dst := some 63, op := Op.call { callee := Callee.builtin Builtin.append, args := #[Operand.tmp 60, Operand.tmp 62], argTypes := #[22, 22] }, type := 22, pos := "ringbuffer.go:105", after := #[{ on := 1, ground := Ground.data }, { on := 3, ground := Ground.data }, { on := 1, ground := Ground.chain }], guard := none }) rfl (by kernel_rfl) (fun KK hK => ?_)
    refine step_append_lies _ rfl (.tmp 60) (.tmp 62) 22 rfl (w.heap.size + 1 + 1 + 1) 26 i0 (.agg #[.int .i64 0, .int .i64 0, .bool false]) 3 24 Try.underlying22 hi hz0 hz1 hz2 rfl (by decide) (.slice A4 (k) c4) (k) (flat (k) 3 (mF (fun j => M (j + 1)))) rfl (own_mono ho4 (show w.heap.size + 1 + 1 + 1 ≤ (W.alloc (.cells #[.int .i64 t, .int .i64 x, .bool g] 26)).heap.size by simp; omega)) ⟨W.heap.size, 0, none⟩ 1 1 [.int .i64 t, .int .i64 x, .bool g] rfl rfl (by intro j u hj; match j, hj with | 0, hj | 1, hj | 2, hj => simp at hj; subst hj; simp [Addr.add, *]) (by intro u hu; simp at hu; rcases hu with rfl | rfl | rfl <;> rfl) (by decide) (by unfold maxLen; omega) (by omega) (by first | (simp; done) | (simp; omega) | omega) _ rfl ?_
    intro gg cp w5 hown hgrow _ _
    have n6 : New W w5 := n5.grown hgrow ho4 (by first | exact Nat.le_refl _ | (simp; done) | (simp; omega))
    obtain ⟨l0, l1, l2, lf, lz⟩ := (B2.out.new n6).c3
    have hHeld := And.intro l0 (And.intro l1 l2)
    refine hK.out _ _ (fun _ => hHeld) ?_
    clear hK KK
    try simp only [Act.put, List.setIfInBounds_toArray, List.set_cons_zero, List.set_cons_succ]
    obtain ⟨k0, k1, k2, k3, k4, k5, kf, kz⟩ := (A2.out.new n6).c6
    obtain ⟨m0, m1, m2, m3, m4, m5, mf, mz⟩ := (C2.out.new n6).c6
    have HOW := Lib.hid hown
    have HN6 := Lib.hid (HW.out.trans n6)
    clear hown hgrow n6 n5 g4 ho4 n3 e0 e1 e2 ef ez
    refine left_one (i := 5) rfl (by kernel_rfl) (fun KK hK => ?_)
    go_simp
    refine hK.out _ _ (fun _ => hHeld) ?_
    clear hK KK
    try simp only [Act.put, List.setIfInBounds_toArray, List.set_cons_zero, List.set_cons_succ]
    refine left_one (i := 6) rfl (by kernel_rfl) (fun KK hK => ?_)
    go_simp
    refine hK.out _ _ (fun h => absurd rfl h) ?_
    clear hK KK
    try simp only [Act.put, List.setIfInBounds_toArray, List.set_cons_zero, List.set_cons_succ]
    refine left_done (by kernel_rfl) ?_
    refine then_abs (fun X => New w X ∧ Blk X w.heap.size #[.int .i64 ((k : Int) + 1), .int .i64 af, .slice (some ⟨gg, 0, none⟩) (k + 1) cp, .int .i64 (ov + 1), .int .i64 re, .bool false] ∧ Blk X (w.heap.size + 1 + 1) #[.int .i64 0, .int .i64 0, .slice none 0 0, .int .i64 0, .int .i64 0, .bool false] ∧ X.ownsRow (w.heap.size + 1 + 1 + 1) 26 3 (.slice (some ⟨gg, 0, none⟩) (k + 1) cp) (k + 1) (flat (k + 1) 3 (mF (snoc (k) (fun j => M (j + 1)) ⟨t, x, g⟩)))) ?_ ?_
    · exact ⟨HN6.out.setCell (by simp) _, Blk.mk6 (by simp; omega) (by go_light; simp [go_sem, *]) (by go_light; simp [go_sem, *]) (by go_light; simp [go_sem, *]) (by go_light; simp [go_sem, *]) (by go_light; simp [go_sem, *]) (by go_light; simp [go_sem, *]) (fun o => by go_light; simp [go_sem, *]), Blk.mk6 (by simp; omega) (by go_light; simp [go_sem, *]) (by go_light; simp [go_sem, *]) (by go_light; simp [go_sem, *]) (by go_light; simp [go_sem, *]) (by go_light; simp [go_sem, *]) (by go_light; simp [go_sem, *]) (fun o => by go_light; simp [go_sem, *]), ownsRow_setCell_below (by rw [flat_put]; exact HOW.out) (by simp; omega) _⟩
    rintro X ⟨nX, aX, cX, oX⟩
    clear k0 k1 k2 k3 k4 k5 kf kz m0 m1 m2 m3 m4 m5 mf mz l0 l1 l2 lf lz hHeld
    obtain ⟨k0, k1, k2, k3, k4, k5, kf, kz⟩ := aX.c6
    obtain ⟨m0, m1, m2, m3, m4, m5, mf, mz⟩ := cX.c6
    have NX := Lib.hid nX
    have OX := Lib.hid oX
    clear nX aX cX oX
    by_cases hre : 0 < re
    · have HP := Lib.hid (HPY.out (by omega))
      have esr : IntKind.i64.wrap (re - 1) = re - 1 := IntWalk.i64_in _ (by have := RB.out; omega)
      go_wp2_with fail
      refine bodyPost_ret (v := .tuple #[.agg #[.int .i64 ((k : Int) + 1), .int .i64 af, .slice (some ⟨gg, 0, none⟩) (k + 1) cp, .int .i64 (ov + 1), .int .i64 (re - 1), .bool (re - 1 == 0)], .int .i64 0]) (by go_light; simp [results, Try.results12, go_sem, *]) rfl ?_
      refine ⟨_, by rw [HE.out], ?_, by repeat (first | with_reducible exact new0 _ | with_reducible apply New.alloc | with_reducible apply New.drewN | with_reducible apply New.drew | (with_reducible refine New.setCell ?_ (by simp <;> omega) _) | (with_reducible refine New.trans ?_ NX.out))⟩
      rw [HE.out]
      show BufN _ _ _ (putB (⟨((k : Int) + 1), af, k + 1, M, ov, re, false⟩ : Bf) ⟨t, x, g⟩)
      rw [HP.out]
      refine ⟨_, rfl, msN_own (base := w.heap.size + 1 + 1 + 1) (by omega) ?_⟩
      repeat (with_reducible refine ownsRow_setCell_below ?_ (by first | (simp; done) | (simp; omega)) _)
      exact OX.out
    · have HP := Lib.hid (HPN.out (by omega))
      go_wp2_with fail
      refine bodyPost_ret (v := .tuple #[.agg #[.int .i64 ((k : Int) + 1), .int .i64 af, .slice (some ⟨gg, 0, none⟩) (k + 1) cp, .int .i64 (ov + 1), .int .i64 re, .bool false], .int .i64 0]) (by go_light; simp [results, Try.results12, go_sem, *]) rfl ?_
      refine ⟨_, by rw [HE.out], ?_, by repeat (first | with_reducible exact new0 _ | with_reducible apply New.alloc | with_reducible apply New.drewN | with_reducible apply New.drew | (with_reducible refine New.setCell ?_ (by simp <;> omega) _) | (with_reducible refine New.trans ?_ NX.out))⟩
      rw [HE.out]
      show BufN _ _ _ (putB (⟨((k : Int) + 1), af, k + 1, M, ov, re, false⟩ : Bf) ⟨t, x, g⟩)
      rw [HP.out]
      refine ⟨_, rfl, msN_own (base := w.heap.size + 1 + 1 + 1) (by omega) ?_⟩
      repeat (with_reducible refine ownsRow_setCell_below ?_ (by first | (simp; done) | (simp; omega)) _)
      exact OX.out
set_option maxHeartbeats 6400000 in
theorem put_s3 (ca af : Int) (A : Option Addr) (n cap : Nat) (M : Nat → Ms) (ov re : Int) (fz : Bool) (t x : Int) (g : Bool) (w : World) (hM : MsV w (.slice A n cap) n M) (hn : n ≤ 1000) (hv : vB ⟨ca, af, n, M, ov, re, fz⟩ = 0) (hf : fz = false) (ho : okM ⟨t, x, g⟩ = true) (hov : ¬ ov = 1099511627776) (h0 : n = 1) (hl : ¬ t < (M (n - 1)).t) (hc : (n : Int) = ca) (hcp : cap = 1) :
    Calls Try.prog 12 #[.agg #[.int .i64 ca, .int .i64 af, .slice A n cap, .int .i64 ov, .int .i64 re, .bool fz], .agg #[.int .i64 t, .int .i64 x, .bool g]] w (ResPost w (resB (putE (⟨ca, af, n, M, ov, re, fz⟩ : Bf) (⟨t, x, g⟩ : Ms)) (putB (⟨ca, af, n, M, ov, re, fz⟩ : Bf) (⟨t, x, g⟩ : Ms))) (putE (⟨ca, af, n, M, ov, re, fz⟩ : Bf) (⟨t, x, g⟩ : Ms))) := by
  subst hf
  have HO := Lib.hid ho
  obtain ⟨b, off, rfl, hcap, hs⟩ : ∃ b off, A = some ⟨b, off, none⟩ ∧ n ≤ cap ∧ Mss w b off n M := by
    rcases hM with ⟨h0, _⟩ | ⟨b, off, c, e, hcp, hs⟩
    · omega
    · cases e; exact ⟨b, off, rfl, hcp, hs⟩
  have HSM := Lib.hid hs
  clear hs
  obtain rfl : n = 1 := h0
  have hl : ¬ t < (M 0).t := hl
  obtain rfl : ca = 1 := by simpa using hc.symm
  subst hcp
  obtain ⟨i0, hi, hz0, hz1, hz2⟩ := info_parts info26
  obtain ⟨v1, v2, v3, v4, v5, v6, v7, v8, v9, v10, v11, v12⟩ := vB_zero hv
  have hd : drp (⟨1, af, 1, M, ov, re, false⟩ : Bf) = 1 := by simp [drp]
  have HPY := Lib.hid (show 0 < re → putB (⟨1, af, 1, M, ov, re, false⟩ : Bf) ⟨t, x, g⟩ = ⟨1, af, 0 + 1, snoc (0) (fun j => M (j + 1)) ⟨t, x, g⟩, ov + 1, re - 1, (re - 1 == 0)⟩ from fun hre => by
      unfold putB
      rw [hd]
      simp [hre]
      rw [Bool.eq_iff_iff]
      simp
      omega)
  have HPN := Lib.hid (show ¬ 0 < re → putB (⟨1, af, 1, M, ov, re, false⟩ : Bf) ⟨t, x, g⟩ = ⟨1, af, 0 + 1, snoc (0) (fun j => M (j + 1)) ⟨t, x, g⟩, ov + 1, re, false⟩ from fun hre => by
      unfold putB
      rw [hd]
      simp [hre])
  clear hd
  have RB := Lib.hid (show re ≤ 200 from Int.le_trans v8 v4)
  have OB := Lib.hid (show 0 ≤ ov ∧ ov ≤ 1099511627776 from ⟨v5, v6⟩)
  clear v1 v2 v3 v4 v5 v6 v7 v8 v9 v10 v11 v12
  have HM := Lib.hid hM
  have hvv : valE 1 af 1 M ov re false = 0 := hv
  have HV := Lib.hid hvv
  have HE := Lib.hid (show putE (⟨1, af, 1, M, ov, re, false⟩ : Bf) (⟨t, x, g⟩ : Ms) = 0 by unfold putE; rw [hv]; simp [ho, hov]; omega)
  clear hM hv hvv
  have A1 := Lib.hid ((blk_alloc w #[.int .i64 1, .int .i64 af, .slice (some ⟨b, off, none⟩) 1 1, .int .i64 ov, .int .i64 re, .bool false] 24 _ rfl).new (((new0 _).alloc (.cells #[.int .i64 t, .int .i64 x, .bool g] 26)).alloc (.cells #[.int .i64 0, .int .i64 0, .slice none 0 0, .int .i64 0, .int .i64 0, .bool false] 24)))
  have B1 := Lib.hid ((blk_alloc (w.alloc (.cells #[.int .i64 1, .int .i64 af, .slice (some ⟨b, off, none⟩) 1 1, .int .i64 ov, .int .i64 re, .bool false] 24)) #[.int .i64 t, .int .i64 x, .bool g] 26 (w.heap.size + 1) (by simp)).new ((new0 _).alloc (.cells #[.int .i64 0, .int .i64 0, .slice none 0 0, .int .i64 0, .int .i64 0, .bool false] 24)))
  have C1 := Lib.hid (blk_alloc ((w.alloc (.cells #[.int .i64 1, .int .i64 af, .slice (some ⟨b, off, none⟩) 1 1, .int .i64 ov, .int .i64 re, .bool false] 24)).alloc (.cells #[.int .i64 t, .int .i64 x, .bool g] 26)) #[.int .i64 0, .int .i64 0, .slice none 0 0, .int .i64 0, .int .i64 0, .bool false] 24 (w.heap.size + 1 + 1) (by simp))
  go_enter Try.func12, Try.ntmps12
  go_wp2_with fail
  refine (valid_any 1 af (some ⟨b, off, none⟩) 1 1 M ov re false _ (HM.out.new ((((new0 w).alloc _).alloc _).alloc _)) hn).mono ?_
  rw [HV.out]
  rintro e w1 ⟨rfl, g1⟩
  have A1 := Lib.hid (A1.out.new g1)
  have B1 := Lib.hid (B1.out.new g1)
  have C1 := Lib.hid (C1.out.new g1)
  obtain ⟨k0, k1, k2, k3, k4, k5, kf, kz⟩ := A1.out.c6
  obtain ⟨l0, l1, l2, lf, lz⟩ := B1.out.c3
  obtain ⟨m0, m1, m2, m3, m4, m5, mf, mz⟩ := C1.out.c6
  have H1 := Lib.hid (show New w w1 from New.trans ((((new0 w).alloc _).alloc _).alloc _) g1)
  clear g1
  go_wp2_with fail
  clear ho
  obtain ⟨d0, d1, d2⟩ := (HSM.out.new H1.out).2 0 (by omega)
  have hbz : b < w1.heap.size := (HSM.out.new H1.out).1
  simp only [Nat.zero_mul, Nat.add_zero] at d0 d1 d2
  have hov1 : (ov == 1099511627776) = false := by simpa using hov
  have eov : IntKind.i64.wrap (ov + 1) = ov + 1 := IntWalk.i64_in _ (by have := OB.out; omega)
  refine (samErr_any t x g _).mono ?_
  rw [HO.out]
  rintro e w2 ⟨rfl, cs, rfl⟩
  go_wp2_with fail
  go_quiet (fail)
  go_wp2_with fail
  refine wp_abs (fun W => New w W ∧ Blk W w.heap.size #[.int .i64 1, .int .i64 af, .slice (some ⟨b, off, none⟩) 1 1, .int .i64 (ov + 1), .int .i64 re, .bool false] ∧ Blk W (w.heap.size + 1) #[.int .i64 t, .int .i64 x, .bool g] ∧ Blk W (w.heap.size + 1 + 1) #[.int .i64 0, .int .i64 0, .slice none 0 0, .int .i64 0, .int .i64 0, .bool false] ∧ MsV W (.slice (some ⟨b, off, none⟩) 0 0) (0) (fun j => M (j + 1))) ?_ ?_
  · exact ⟨by repeat (first | with_reducible exact new0 _ | with_reducible apply New.alloc | with_reducible apply New.drewN | with_reducible apply New.drew | (with_reducible refine New.setCell ?_ (by simp <;> omega) _) | (with_reducible refine New.trans ?_ H1.out)), Blk.mk6 (by simp; omega) (by go_light; simp [go_sem, *]) (by go_light; simp [go_sem, *]) (by go_light; simp [go_sem, *]) (by go_light; simp [go_sem, *]) (by go_light; simp [go_sem, *]) (by go_light; simp [go_sem, *]) (fun o => by go_light; simp [go_sem, *]), Blk.mk3 (by simp; omega) (by go_light; simp [go_sem, *]) (by go_light; simp [go_sem, *]) (by go_light; simp [go_sem, *]) (fun o => by go_light; simp [go_sem, *]), Blk.mk6 (by simp; omega) (by go_light; simp [go_sem, *]) (by go_light; simp [go_sem, *]) (by go_light; simp [go_sem, *]) (by go_light; simp [go_sem, *]) (by go_light; simp [go_sem, *]) (by go_light; simp [go_sem, *]) (fun o => by go_light; simp [go_sem, *]), .inl ⟨rfl, _, _, rfl⟩⟩
  rintro W ⟨nW, a2, b2, c2, kW⟩
  clear k0 k1 k2 k3 k4 k5 kf kz l0 l1 l2 lf lz m0 m1 m2 m3 m4 m5 mf mz
  obtain ⟨l0, l1, l2, lf, lz⟩ := b2.c3
  have hsz := c2.1
  have HW := Lib.hid nW
  have A2 := Lib.hid a2
  have B2 := Lib.hid b2
  have C2 := Lib.hid c2
  have KW := Lib.hid kW
  clear nW a2 b2 c2 kW
  refine left_region (fun w' => w'.cell? ⟨w.heap.size + 1, 0, none⟩ = some (.int .i64 t) ∧ w'.cell? ⟨w.heap.size + 1, 1, none⟩ = some (.int .i64 x) ∧ w'.cell? ⟨w.heap.size + 1, 2, none⟩ = some (.bool g)) 6 (by kernel_rfl) ⟨l0, l1, l2⟩ (fun hHeld => ?_)
  refine left_take (i := 0) (o := { dst := some 59, op := Op.move (Operand.tmp 9), type := 22, pos := "ringbuffer.go:105", after := #[], guard := none }) (v := ?va5) rfl rfl (by kernel_rfl) (by kernel_rfl) (by kernel_rfl) (by kernel_rfl) (fun _ _ _ h => h) (Or.inl ⟨by rfl, ?hy5⟩) hHeld ?rest5
  case hy5 => (rintro x0 ⟨t0, t1, t2⟩; go_simp; (try with_reducible rfl))
  try simp only [Act.put, List.setIfInBounds_toArray, List.set_cons_zero, List.set_cons_succ]
  refine left_take (i := 2) (o := { dst := some 61, op := Op.load 26 (Operand.tmp 3), type := 26, pos := "ringbuffer.go:105", after := #[], guard := none }) (v := ?va6) rfl rfl (by kernel_rfl) (by kernel_rfl) (by kernel_rfl) (by kernel_rfl) (fun _ _ _ h => h) (Or.inl ⟨by rfl, ?hy6⟩) hHeld ?rest6
  case hy6 => (rintro x0 ⟨t0, t1, t2⟩; go_simp; (try with_reducible rfl))
  try simp only [Act.put, List.setIfInBounds_toArray, List.set_cons_zero, List.set_cons_succ]
  refine left_two (i := 1) (j := 3) (o := { dst := some 60, op := Op.call { callee := Callee.value (Operand.func 32), args := #[Operand.tmp 59], argTypes := #[22] }, type := 22, pos := "ringbuffer.go:105", after := #[{ on := 0, ground := Ground.data }], guard := none }) (o' := { dst := some 62, op := Op.buildSlice 22 1 #[(0, Operand.tmp 61)], type := 22, pos := "ringbuffer.go:105", after := #[{ on := 2, ground := Ground.data }], guard := none }) rfl rfl (by kernel_rfl) (fun KK hK => ?_) (fun KK hK => ?_)
  · skip
    go_simp
    refine (clone_v _ (0) (fun j => M (j + 1)) _ (by omega) (KW.out.new ((new0 W).drew))).mono ?_
    rintro e w4 ⟨v4, rfl, ho4, g4⟩
    obtain ⟨A4, c4, rfl⟩ := (msV_row (row_own ho4)).len
    have n4 : New W w4 := New.trans ((new0 W).drew) g4
    obtain ⟨l0, l1, l2, lf, lz⟩ := (B2.out.new n4).c3
    have hHeld := And.intro l0 (And.intro l1 l2)
    refine hK.out _ _ (fun _ => hHeld) ?_
    clear hK KK
    try simp only [Act.put, List.setIfInBounds_toArray, List.set_cons_zero, List.set_cons_succ]
    refine left_one (i := 3) (o := { dst := some 62, op := Op.buildSlice 22 1 #[(0, Operand.tmp 61)], type := 22, pos := "ringbuffer.go:105", after := #[{ on := 2, ground := Ground.data }], guard := none }) rfl (by kernel_rfl) (fun KK hK => ?_)
    go_simp
    have n5 : New W (w4.alloc (.cells #[.int .i64 t, .int .i64 x, .bool g] 26)) := n4.alloc _
    obtain ⟨l0, l1, l2, lf, lz⟩ := (B2.out.new n5).c3
    have hHeld := And.intro l0 (And.intro l1 l2)
    refine hK.out _ _ (fun _ => hHeld) ?_
    clear hK KK
    try simp only [Act.put, List.setIfInBounds_toArray, List.set_cons_zero, List.set_cons_succ]
    refine left_one (i := 4) (o := { dst := some 63, op := Op.call { callee := Callee.builtin Builtin.append, args := #[Operand.tmp 60, Operand.tmp 62], argTypes := #[22, 22] }, type := 22, pos := "ringbuffer.go:105", after := #[{ on := 1, ground := Ground.data }, { on := 3, ground := Ground.data }, { on := 1, ground := Ground.chain }], guard := none }) rfl (by kernel_rfl) (fun KK hK => ?_)
    refine step_append_lies _ rfl (.tmp 60) (.tmp 62) 22 rfl (w.heap.size + 1 + 1 + 1) 26 i0 (.agg #[.int .i64 0, .int .i64 0, .bool false]) 3 24 Try.underlying22 hi hz0 hz1 hz2 rfl (by decide) (.slice A4 (0) c4) (0) (flat (0) 3 (mF (fun j => M (j + 1)))) rfl ((own_mono ho4 (show w.heap.size + 1 + 1 + 1 ≤ W.drew.heap.size from hsz)).alloc _) ⟨w4.heap.size, 0, none⟩ 1 1 [.int .i64 t, .int .i64 x, .bool g] rfl rfl (by intro j u hj; match j, hj with | 0, hj | 1, hj | 2, hj => simp at hj; subst hj; simp [Addr.add, go_sem]) (by intro u hu; simp at hu; rcases hu with rfl | rfl | rfl <;> rfl) (by decide) (by unfold maxLen; omega) (by omega) (by first | (simp; done) | (simp; omega) | omega) _ rfl ?_
    intro gg cp w5 hown hgrow _ _
    have n6 : New W w5 := n5.grown hgrow (ho4.alloc _) (by first | exact Nat.le_refl _ | (simp; done) | (simp; omega))
    obtain ⟨l0, l1, l2, lf, lz⟩ := (B2.out.new n6).c3
    have hHeld := And.intro l0 (And.intro l1 l2)
    refine hK.out _ _ (fun _ => hHeld) ?_
    clear hK KK
    try simp only [Act.put, List.setIfInBounds_toArray, List.set_cons_zero, List.set_cons_succ]
    obtain ⟨k0, k1, k2, k3, k4, k5, kf, kz⟩ := (A2.out.new n6).c6
    obtain ⟨m0, m1, m2, m3, m4, m5, mf, mz⟩ := (C2.out.new n6).c6
    have HOW := Lib.hid hown
    have HN6 := Lib.hid (HW.out.trans n6)
    clear hown hgrow n6 n5 g4 ho4 n4
    refine left_one (i := 5) rfl (by kernel_rfl) (fun KK hK => ?_)
    go_simp
    refine hK.out _ _ (fun _ => hHeld) ?_
    clear hK KK
    try simp only [Act.put, List.setIfInBounds_toArray, List.set_cons_zero, List.set_cons_succ]
    refine left_one (i := 6) rfl (by kernel_rfl) (fun KK hK => ?_)
    go_simp
    refine hK.out _ _ (fun h => absurd rfl h) ?_
    clear hK KK
    try simp only [Act.put, List.setIfInBounds_toArray, List.set_cons_zero, List.set_cons_succ]
    refine left_done (by kernel_rfl) ?_
    refine then_abs (fun X => New w X ∧ Blk X w.heap.size #[.int .i64 1, .int .i64 af, .slice (some ⟨gg, 0, none⟩) (0 + 1) cp, .int .i64 (ov + 1), .int .i64 re, .bool false] ∧ Blk X (w.heap.size + 1 + 1) #[.int .i64 0, .int .i64 0, .slice none 0 0, .int .i64 0, .int .i64 0, .bool false] ∧ X.ownsRow (w.heap.size + 1 + 1 + 1) 26 3 (.slice (some ⟨gg, 0, none⟩) (0 + 1) cp) (0 + 1) (flat (0 + 1) 3 (mF (snoc (0) (fun j => M (j + 1)) ⟨t, x, g⟩)))) ?_ ?_
    · exact ⟨HN6.out.setCell (by simp) _, Blk.mk6 (by simp; omega) (by go_light; simp [go_sem, *]) (by go_light; simp [go_sem, *]) (by go_light; simp [go_sem, *]) (by go_light; simp [go_sem, *]) (by go_light; simp [go_sem, *]) (by go_light; simp [go_sem, *]) (fun o => by go_light; simp [go_sem, *]), Blk.mk6 (by simp; omega) (by go_light; simp [go_sem, *]) (by go_light; simp [go_sem, *]) (by go_light; simp [go_sem, *]) (by go_light; simp [go_sem, *]) (by go_light; simp [go_sem, *]) (by go_light; simp [go_sem, *]) (fun o => by go_light; simp [go_sem, *]), ownsRow_setCell_below (by rw [flat_put]; exact HOW.out) (by simp; omega) _⟩
    rintro X ⟨nX, aX, cX, oX⟩
    clear k0 k1 k2 k3 k4 k5 kf kz m0 m1 m2 m3 m4 m5 mf mz l0 l1 l2 lf lz hHeld
    obtain ⟨k0, k1, k2, k3, k4, k5, kf, kz⟩ := aX.c6
    obtain ⟨m0, m1, m2, m3, m4, m5, mf, mz⟩ := cX.c6
    have NX := Lib.hid nX
    have OX := Lib.hid oX
    clear nX aX cX oX
    by_cases hre : 0 < re
    · have HP := Lib.hid (HPY.out (by omega))
      have esr : IntKind.i64.wrap (re - 1) = re - 1 := IntWalk.i64_in _ (by have := RB.out; omega)
      go_wp2_with fail
      refine bodyPost_ret (v := .tuple #[.agg #[.int .i64 1, .int .i64 af, .slice (some ⟨gg, 0, none⟩) (0 + 1) cp, .int .i64 (ov + 1), .int .i64 (re - 1), .bool (re - 1 == 0)], .int .i64 0]) (by go_light; simp [results, Try.results12, go_sem, *]) rfl ?_
      refine ⟨_, by rw [HE.out], ?_, by repeat (first | with_reducible exact new0 _ | with_reducible apply New.alloc | with_reducible apply New.drewN | with_reducible apply New.drew | (with_reducible refine New.setCell ?_ (by simp <;> omega) _) | (with_reducible refine New.trans ?_ NX.out))⟩
      rw [HE.out]
      show BufN _ _ _ (putB (⟨1, af, 1, M, ov, re, false⟩ : Bf) ⟨t, x, g⟩)
      rw [HP.out]
      refine ⟨_, rfl, msN_own (base := w.heap.size + 1 + 1 + 1) (by omega) ?_⟩
      repeat (with_reducible refine ownsRow_setCell_below ?_ (by first | (simp; done) | (simp; omega)) _)
      exact OX.out
    · have HP := Lib.hid (HPN.out (by omega))
      go_wp2_with fail
      refine bodyPost_ret (v := .tuple #[.agg #[.int .i64 1, .int .i64 af, .slice (some ⟨gg, 0, none⟩) (0 + 1) cp, .int .i64 (ov + 1), .int .i64 re, .bool false], .int .i64 0]) (by go_light; simp [results, Try.results12, go_sem, *]) rfl ?_
      refine ⟨_, by rw [HE.out], ?_, by repeat (first | with_reducible exact new0 _ | with_reducible apply New.alloc | with_reducible apply New.drewN | with_reducible apply New.drew | (with_reducible refine New.setCell ?_ (by simp <;> omega) _) | (with_reducible refine New.trans ?_ NX.out))⟩
      rw [HE.out]
      show BufN _ _ _ (putB (⟨1, af, 1, M, ov, re, false⟩ : Bf) ⟨t, x, g⟩)
      rw [HP.out]
      refine ⟨_, rfl, msN_own (base := w.heap.size + 1 + 1 + 1) (by omega) ?_⟩
      repeat (with_reducible refine ownsRow_setCell_below ?_ (by first | (simp; done) | (simp; omega)) _)
      exact OX.out
  · skip
    go_simp
    have n3 : New W (W.alloc (.cells #[.int .i64 t, .int .i64 x, .bool g] 26)) := (new0 _).alloc _
    obtain ⟨l0, l1, l2, lf, lz⟩ := (B2.out.new n3).c3
    have hHeld := And.intro l0 (And.intro l1 l2)
    refine hK.out _ _ (fun _ => hHeld) ?_
    clear hK KK
    try simp only [Act.put, List.setIfInBounds_toArray, List.set_cons_zero, List.set_cons_succ]
    refine left_one (i := 1) (o := { dst := some 60, op := Op.call { callee := Callee.value (Operand.func 32), args := #[Operand.tmp 59], argTypes := #[22] }, type := 22, pos := "ringbuffer.go:105", after := #[{ on := 0, ground := Ground.data }], guard := none }) rfl (by kernel_rfl) (fun KK hK => ?_)
    go_simp
    refine (clone_v _ (0) (fun j => M (j + 1)) _ (by omega) (KW.out.new (by repeat (first | with_reducible exact new0 _ | with_reducible apply New.alloc | with_reducible apply New.drewN | with_reducible apply New.drew | (with_reducible refine New.setCell ?_ (by simp <;> omega) _))))).mono ?_
    rintro e w4 ⟨v4, rfl, ho4, g4⟩
    obtain ⟨A4, c4, rfl⟩ := (msV_row (row_own ho4)).len
    have n5 : New W w4 := New.trans (by repeat (first | with_reducible exact new0 _ | with_reducible apply New.alloc | with_reducible apply New.drewN | with_reducible apply New.drew | (with_reducible refine New.setCell ?_ (by simp <;> omega) _))) g4
    obtain ⟨l0, l1, l2, lf, lz⟩ := (B2.out.new n5).c3
    obtain ⟨e0, e1, e2, ef, ez⟩ := ((blk_alloc W #[.int .i64 t, .int .i64 x, .bool g] 26 _ rfl).new (show New (W.alloc (.cells #[.int .i64 t, .int .i64 x, .bool g] 26)) w4 from New.trans (by repeat (first | with_reducible exact new0 _ | with_reducible apply New.alloc | with_reducible apply New.drewN | with_reducible apply New.drew | (with_reducible refine New.setCell ?_ (by simp <;> omega) _))) g4)).c3
    have hHeld := And.intro l0 (And.intro l1 l2)
    refine hK.out _ _ (fun _ => hHeld) ?_
    clear hK KK
    try simp only [Act.put, List.setIfInBounds_toArray, List.set_cons_zero, List.set_cons_succ]
    refine left_one (i := 4) (o := { dst := some 63, op := Op.call { callee := Callee.builtin Builtin.append, args := #[Operand.tmp 60, Operand.tmp 62], argTypes := #[22, 22] }, type := 22, pos := "ringbuffer.go:105", after := #[{ on := 1, ground := Ground.data }, { on := 3, ground := Ground.data }, { on := 1, ground := Ground.chain }], guard := none }) rfl (by kernel_rfl) (fun KK hK => ?_)
    refine step_append_lies _ rfl (.tmp 60) (.tmp 62) 22 rfl (w.heap.size + 1 + 1 + 1) 26 i0 (.agg #[.int .i64 0, .int .i64 0, .bool false]) 3 24 Try.underlying22 hi hz0 hz1 hz2 rfl (by decide) (.slice A4 (0) c4) (0) (flat (0) 3 (mF (fun j => M (j + 1)))) rfl (own_mono ho4 (show w.heap.size + 1 + 1 + 1 ≤ (W.alloc (.cells #[.int .i64 t, .int .i64 x, .bool g] 26)).heap.size by simp; omega)) ⟨W.heap.size, 0, none⟩ 1 1 [.int .i64 t, .int .i64 x, .bool g] rfl rfl (by intro j u hj; match j, hj with | 0, hj | 1, hj | 2, hj => simp at hj; subst hj; simp [Addr.add, *]) (by intro u hu; simp at hu; rcases hu with rfl | rfl | rfl <;> rfl) (by decide) (by unfold maxLen; omega) (by omega) (by first | (simp; done) | (simp; omega) | omega) _ rfl ?_
    intro gg cp w5 hown hgrow _ _
    have n6 : New W w5 := n5.grown hgrow ho4 (by first | exact Nat.le_refl _ | (simp; done) | (simp; omega))
    obtain ⟨l0, l1, l2, lf, lz⟩ := (B2.out.new n6).c3
    have hHeld := And.intro l0 (And.intro l1 l2)
    refine hK.out _ _ (fun _ => hHeld) ?_
    clear hK KK
    try simp only [Act.put, List.setIfInBounds_toArray, List.set_cons_zero, List.set_cons_succ]
    obtain ⟨k0, k1, k2, k3, k4, k5, kf, kz⟩ := (A2.out.new n6).c6
    obtain ⟨m0, m1, m2, m3, m4, m5, mf, mz⟩ := (C2.out.new n6).c6
    have HOW := Lib.hid hown
    have HN6 := Lib.hid (HW.out.trans n6)
    clear hown hgrow n6 n5 g4 ho4 n3 e0 e1 e2 ef ez
    refine left_one (i := 5) rfl (by kernel_rfl) (fun KK hK => ?_)
    go_simp
    refine hK.out _ _ (fun _ => hHeld) ?_
    clear hK KK
    try simp only [Act.put, List.setIfInBounds_toArray, List.set_cons_zero, List.set_cons_succ]
    refine left_one (i := 6) rfl (by kernel_rfl) (fun KK hK => ?_)
    go_simp
    refine hK.out _ _ (fun h => absurd rfl h) ?_
    clear hK KK
    try simp only [Act.put, List.setIfInBounds_toArray, List.set_cons_zero, List.set_cons_succ]
    refine left_done (by kernel_rfl) ?_
    refine then_abs (fun X => New w X ∧ Blk X w.heap.size #[.int .i64 1, .int .i64 af, .slice (some ⟨gg, 0, none⟩) (0 + 1) cp, .int .i64 (ov + 1), .int .i64 re, .bool false] ∧ Blk X (w.heap.size + 1 + 1) #[.int .i64 0, .int .i64 0, .slice none 0 0, .int .i64 0, .int .i64 0, .bool false] ∧ X.ownsRow (w.heap.size + 1 + 1 + 1) 26 3 (.slice (some ⟨gg, 0, none⟩) (0 + 1) cp) (0 + 1) (flat (0 + 1) 3 (mF (snoc (0) (fun j => M (j + 1)) ⟨t, x, g⟩)))) ?_ ?_
    · exact ⟨HN6.out.setCell (by simp) _, Blk.mk6 (by simp; omega) (by go_light; simp [go_sem, *]) (by go_light; simp [go_sem, *]) (by go_light; simp [go_sem, *]) (by go_light; simp [go_sem, *]) (by go_light; simp [go_sem, *]) (by go_light; simp [go_sem, *]) (fun o => by go_light; simp [go_sem, *]), Blk.mk6 (by simp; omega) (by go_light; simp [go_sem, *]) (by go_light; simp [go_sem, *]) (by go_light; simp [go_sem, *]) (by go_light; simp [go_sem, *]) (by go_light; simp [go_sem, *]) (by go_light; simp [go_sem, *]) (fun o => by go_light; simp [go_sem, *]), ownsRow_setCell_below (by rw [flat_put]; exact HOW.out) (by simp; omega) _⟩
    rintro X ⟨nX, aX, cX, oX⟩
    clear k0 k1 k2 k3 k4 k5 kf kz m0 m1 m2 m3 m4 m5 mf mz l0 l1 l2 lf lz hHeld
    obtain ⟨k0, k1, k2, k3, k4, k5, kf, kz⟩ := aX.c6
    obtain ⟨m0, m1, m2, m3, m4, m5, mf, mz⟩ := cX.c6
    have NX := Lib.hid nX
    have OX := Lib.hid oX
    clear nX aX cX oX
    by_cases hre : 0 < re
    · have HP := Lib.hid (HPY.out (by omega))
      have esr : IntKind.i64.wrap (re - 1) = re - 1 := IntWalk.i64_in _ (by have := RB.out; omega)
      go_wp2_with fail
      refine bodyPost_ret (v := .tuple #[.agg #[.int .i64 1, .int .i64 af, .slice (some ⟨gg, 0, none⟩) (0 + 1) cp, .int .i64 (ov + 1), .int .i64 (re - 1), .bool (re - 1 == 0)], .int .i64 0]) (by go_light; simp [results, Try.results12, go_sem, *]) rfl ?_
      refine ⟨_, by rw [HE.out], ?_, by repeat (first | with_reducible exact new0 _ | with_reducible apply New.alloc | with_reducible apply New.drewN | with_reducible apply New.drew | (with_reducible refine New.setCell ?_ (by simp <;> omega) _) | (with_reducible refine New.trans ?_ NX.out))⟩
      rw [HE.out]
      show BufN _ _ _ (putB (⟨1, af, 1, M, ov, re, false⟩ : Bf) ⟨t, x, g⟩)
      rw [HP.out]
      refine ⟨_, rfl, msN_own (base := w.heap.size + 1 + 1 + 1) (by omega) ?_⟩
      repeat (with_reducible refine ownsRow_setCell_below ?_ (by first | (simp; done) | (simp; omega)) _)
      exact OX.out
    · have HP := Lib.hid (HPN.out (by omega))
      go_wp2_with fail
      refine bodyPost_ret (v := .tuple #[.agg #[.int .i64 1, .int .i64 af, .slice (some ⟨gg, 0, none⟩) (0 + 1) cp, .int .i64 (ov + 1), .int .i64 re, .bool false], .int .i64 0]) (by go_light; simp [results, Try.results12, go_sem, *]) rfl ?_
      refine ⟨_, by rw [HE.out], ?_, by repeat (first | with_reducible exact new0 _ | with_reducible apply New.alloc | with_reducible apply New.drewN | with_reducible apply New.drew | (with_reducible refine New.setCell ?_ (by simp <;> omega) _) | (with_reducible refine New.trans ?_ NX.out))⟩
      rw [HE.out]
      show BufN _ _ _ (putB (⟨1, af, 1, M, ov, re, false⟩ : Bf) ⟨t, x, g⟩)
      rw [HP.out]
      refine ⟨_, rfl, msN_own (base := w.heap.size + 1 + 1 + 1) (by omega) ?_⟩
      repeat (with_reducible refine ownsRow_setCell_below ?_ (by first | (simp; done) | (simp; omega)) _)
      exact OX.out
set_option maxHeartbeats 6400000 in
theorem put_s0 (ca af : Int) (A : Option Addr) (n cap : Nat) (M : Nat → Ms) (ov re : Int) (fz : Bool) (t x : Int) (g : Bool) (w : World) (hM : MsV w (.slice A n cap) n M) (hn : n ≤ 1000) (hv : vB ⟨ca, af, n, M, ov, re, fz⟩ = 0) (hf : fz = false) (ho : okM ⟨t, x, g⟩ = true) (hov : ¬ ov = 1099511627776) (h0 : n = 0) :
    Calls Try.prog 12 #[.agg #[.int .i64 ca, .int .i64 af, .slice A n cap, .int .i64 ov, .int .i64 re, .bool fz], .agg #[.int .i64 t, .int .i64 x, .bool g]] w (ResPost w (resB (putE (⟨ca, af, n, M, ov, re, fz⟩ : Bf) (⟨t, x, g⟩ : Ms)) (putB (⟨ca, af, n, M, ov, re, fz⟩ : Bf) (⟨t, x, g⟩ : Ms))) (putE (⟨ca, af, n, M, ov, re, fz⟩ : Bf) (⟨t, x, g⟩ : Ms))) := by
  subst hf
  have HO := Lib.hid ho
  subst h0
  obtain ⟨i0, hi, hz0, hz1, hz2⟩ := info_parts info26
  obtain ⟨v1, v2, v3, v4, v5, v6, v7, v8, v9, v10, v11, v12⟩ := vB_zero hv
  have hd : drp (⟨ca, af, 0, M, ov, re, false⟩ : Bf) = 0 := by simp only [drp]; rw [if_neg (by have : (1 : Int) ≤ ca := v1; simp; omega)]
  have HPY := Lib.hid (show 0 < re → putB (⟨ca, af, 0, M, ov, re, false⟩ : Bf) ⟨t, x, g⟩ = ⟨ca, af, 0 + 1, snoc (0) M ⟨t, x, g⟩, ov, re - 1, (re - 1 == 0)⟩ from fun hre => by
      unfold putB
      rw [hd]
      simp [hre]
      rw [Bool.eq_iff_iff]
      simp
      omega)
  have HPN := Lib.hid (show ¬ 0 < re → putB (⟨ca, af, 0, M, ov, re, false⟩ : Bf) ⟨t, x, g⟩ = ⟨ca, af, 0 + 1, snoc (0) M ⟨t, x, g⟩, ov, re, false⟩ from fun hre => by
      unfold putB
      rw [hd]
      simp [hre])
  clear hd
  have hc0 : ((0 : Int) == ca) = false := by have : (1 : Int) ≤ ca := v1; simp; omega
  have RB := Lib.hid (show re ≤ 200 from Int.le_trans v8 v4)
  have OB := Lib.hid (show 0 ≤ ov ∧ ov ≤ 1099511627776 from ⟨v5, v6⟩)
  clear v1 v2 v3 v4 v5 v6 v7 v8 v9 v10 v11 v12
  have HM := Lib.hid hM
  have hvv : valE ca af 0 M ov re false = 0 := hv
  have HV := Lib.hid hvv
  have HE := Lib.hid (show putE (⟨ca, af, 0, M, ov, re, false⟩ : Bf) (⟨t, x, g⟩ : Ms) = 0 by unfold putE; rw [hv]; simp [ho, hov])
  clear hM hv hvv
  have A1 := Lib.hid ((blk_alloc w #[.int .i64 ca, .int .i64 af, .slice A 0 cap, .int .i64 ov, .int .i64 re, .bool false] 24 _ rfl).new (((new0 _).alloc (.cells #[.int .i64 t, .int .i64 x, .bool g] 26)).alloc (.cells #[.int .i64 0, .int .i64 0, .slice none 0 0, .int .i64 0, .int .i64 0, .bool false] 24)))
  have B1 := Lib.hid ((blk_alloc (w.alloc (.cells #[.int .i64 ca, .int .i64 af, .slice A 0 cap, .int .i64 ov, .int .i64 re, .bool false] 24)) #[.int .i64 t, .int .i64 x, .bool g] 26 (w.heap.size + 1) (by simp)).new ((new0 _).alloc (.cells #[.int .i64 0, .int .i64 0, .slice none 0 0, .int .i64 0, .int .i64 0, .bool false] 24)))
  have C1 := Lib.hid (blk_alloc ((w.alloc (.cells #[.int .i64 ca, .int .i64 af, .slice A 0 cap, .int .i64 ov, .int .i64 re, .bool false] 24)).alloc (.cells #[.int .i64 t, .int .i64 x, .bool g] 26)) #[.int .i64 0, .int .i64 0, .slice none 0 0, .int .i64 0, .int .i64 0, .bool false] 24 (w.heap.size + 1 + 1) (by simp))
  go_enter Try.func12, Try.ntmps12
  go_wp2_with fail
  refine (valid_any ca af A 0 cap M ov re false _ (HM.out.new ((((new0 w).alloc _).alloc _).alloc _)) hn).mono ?_
  rw [HV.out]
  rintro e w1 ⟨rfl, g1⟩
  have A1 := Lib.hid (A1.out.new g1)
  have B1 := Lib.hid (B1.out.new g1)
  have C1 := Lib.hid (C1.out.new g1)
  obtain ⟨k0, k1, k2, k3, k4, k5, kf, kz⟩ := A1.out.c6
  obtain ⟨l0, l1, l2, lf, lz⟩ := B1.out.c3
  obtain ⟨m0, m1, m2, m3, m4, m5, mf, mz⟩ := C1.out.c6
  have H1 := Lib.hid (show New w w1 from New.trans ((((new0 w).alloc _).alloc _).alloc _) g1)
  clear g1
  go_wp2_with fail
  clear ho
  have hov1 : (ov == 1099511627776) = false := by simpa using hov
  refine (samErr_any t x g _).mono ?_
  rw [HO.out]
  rintro e w2 ⟨rfl, cs, rfl⟩
  go_wp2_with fail
  go_quiet (fail)
  go_wp2_with fail
  refine wp_abs (fun W => New w W ∧ Blk W w.heap.size #[.int .i64 ca, .int .i64 af, .slice A 0 cap, .int .i64 ov, .int .i64 re, .bool false] ∧ Blk W (w.heap.size + 1) #[.int .i64 t, .int .i64 x, .bool g] ∧ Blk W (w.heap.size + 1 + 1) #[.int .i64 0, .int .i64 0, .slice none 0 0, .int .i64 0, .int .i64 0, .bool false] ∧ MsV W (.slice A 0 cap) (0) M) ?_ ?_
  · exact ⟨by repeat (first | with_reducible exact new0 _ | with_reducible apply New.alloc | with_reducible apply New.drewN | with_reducible apply New.drew | (with_reducible refine New.setCell ?_ (by simp <;> omega) _) | (with_reducible refine New.trans ?_ H1.out)), Blk.mk6 (by simp; omega) (by go_light; simp [go_sem, *]) (by go_light; simp [go_sem, *]) (by go_light; simp [go_sem, *]) (by go_light; simp [go_sem, *]) (by go_light; simp [go_sem, *]) (by go_light; simp [go_sem, *]) (fun o => by go_light; simp [go_sem, *]), Blk.mk3 (by simp; omega) (by go_light; simp [go_sem, *]) (by go_light; simp [go_sem, *]) (by go_light; simp [go_sem, *]) (fun o => by go_light; simp [go_sem, *]), Blk.mk6 (by simp; omega) (by go_light; simp [go_sem, *]) (by go_light; simp [go_sem, *]) (by go_light; simp [go_sem, *]) (by go_light; simp [go_sem, *]) (by go_light; simp [go_sem, *]) (by go_light; simp [go_sem, *]) (fun o => by go_light; simp [go_sem, *]), HM.out.new (by repeat (first | with_reducible exact new0 _ | with_reducible apply New.alloc | with_reducible apply New.drewN | with_reducible apply New.drew | (with_reducible refine New.setCell ?_ (by simp <;> omega) _) | (with_reducible refine New.trans ?_ H1.out)))⟩
  rintro W ⟨nW, a2, b2, c2, kW⟩
  clear k0 k1 k2 k3 k4 k5 kf kz l0 l1 l2 lf lz m0 m1 m2 m3 m4 m5 mf mz
  obtain ⟨l0, l1, l2, lf, lz⟩ := b2.c3
  have hsz := c2.1
  have HW := Lib.hid nW
  have A2 := Lib.hid a2
  have B2 := Lib.hid b2
  have C2 := Lib.hid c2
  have KW := Lib.hid kW
  clear nW a2 b2 c2 kW
  refine left_region (fun w' => w'.cell? ⟨w.heap.size + 1, 0, none⟩ = some (.int .i64 t) ∧ w'.cell? ⟨w.heap.size + 1, 1, none⟩ = some (.int .i64 x) ∧ w'.cell? ⟨w.heap.size + 1, 2, none⟩ = some (.bool g)) 6 (by kernel_rfl) ⟨l0, l1, l2⟩ (fun hHeld => ?_)
  refine left_take (i := 0) (o := { dst := some 59, op := Op.move (Operand.tmp 9), type := 22, pos := "ringbuffer.go:105", after := #[], guard := none }) (v := ?va7) rfl rfl (by kernel_rfl) (by kernel_rfl) (by kernel_rfl) (by kernel_rfl) (fun _ _ _ h => h) (Or.inl ⟨by rfl, ?hy7⟩) hHeld ?rest7
  case hy7 => (rintro x0 ⟨t0, t1, t2⟩; go_simp; (try with_reducible rfl))
  try simp only [Act.put, List.setIfInBounds_toArray, List.set_cons_zero, List.set_cons_succ]
  refine left_take (i := 2) (o := { dst := some 61, op := Op.load 26 (Operand.tmp 3), type := 26, pos := "ringbuffer.go:105", after := #[], guard := none }) (v := ?va8) rfl rfl (by kernel_rfl) (by kernel_rfl) (by kernel_rfl) (by kernel_rfl) (fun _ _ _ h => h) (Or.inl ⟨by rfl, ?hy8⟩) hHeld ?rest8
  case hy8 => (rintro x0 ⟨t0, t1, t2⟩; go_simp; (try with_reducible rfl))
  try simp only [Act.put, List.setIfInBounds_toArray, List.set_cons_zero, List.set_cons_succ]
  refine left_two (i := 1) (j := 3) (o := { dst := some 60, op := Op.call { callee := Callee.value (Operand.func 32), args := #[Operand.tmp 59], argTypes := #[22] }, type := 22, pos := "ringbuffer.go:105", after := #[{ on := 0, ground := Ground.data }], guard := none }) (o' := { dst := some 62, op := Op.buildSlice 22 1 #[(0, Operand.tmp 61)], type := 22, pos := "ringbuffer.go:105", after := #[{ on := 2, ground := Ground.data }], guard := none }) rfl rfl (by kernel_rfl) (fun KK hK => ?_) (fun KK hK => ?_)
  · skip
    go_simp
    refine (clone_v _ (0) M _ (by omega) (KW.out.new ((new0 W).drew))).mono ?_
    rintro e w4 ⟨v4, rfl, ho4, g4⟩
    obtain ⟨A4, c4, rfl⟩ := (msV_row (row_own ho4)).len
    have n4 : New W w4 := New.trans ((new0 W).drew) g4
    obtain ⟨l0, l1, l2, lf, lz⟩ := (B2.out.new n4).c3
    have hHeld := And.intro l0 (And.intro l1 l2)
    refine hK.out _ _ (fun _ => hHeld) ?_
    clear hK KK
    try simp only [Act.put, List.setIfInBounds_toArray, List.set_cons_zero, List.set_cons_succ]
    refine left_one (i := 3) (o := { dst := some 62, op := Op.buildSlice 22 1 #[(0, Operand.tmp 61)], type := 22, pos := "ringbuffer.go:105", after := #[{ on := 2, ground := Ground.data }], guard := none }) rfl (by kernel_rfl) (fun KK hK => ?_)
    go_simp
    have n5 : New W (w4.alloc (.cells #[.int .i64 t, .int .i64 x, .bool g] 26)) := n4.alloc _
    obtain ⟨l0, l1, l2, lf, lz⟩ := (B2.out.new n5).c3
    have hHeld := And.intro l0 (And.intro l1 l2)
    refine hK.out _ _ (fun _ => hHeld) ?_
    clear hK KK
    try simp only [Act.put, List.setIfInBounds_toArray, List.set_cons_zero, List.set_cons_succ]
    refine left_one (i := 4) (o := { dst := some 63, op := Op.call { callee := Callee.builtin Builtin.append, args := #[Operand.tmp 60, Operand.tmp 62], argTypes := #[22, 22] }, type := 22, pos := "ringbuffer.go:105", after := #[{ on := 1, ground := Ground.data }, { on := 3, ground := Ground.data }, { on := 1, ground := Ground.chain }], guard := none }) rfl (by kernel_rfl) (fun KK hK => ?_)
    refine step_append_lies _ rfl (.tmp 60) (.tmp 62) 22 rfl (w.heap.size + 1 + 1 + 1) 26 i0 (.agg #[.int .i64 0, .int .i64 0, .bool false]) 3 24 Try.underlying22 hi hz0 hz1 hz2 rfl (by decide) (.slice A4 (0) c4) (0) (flat (0) 3 (mF M)) rfl ((own_mono ho4 (show w.heap.size + 1 + 1 + 1 ≤ W.drew.heap.size from hsz)).alloc _) ⟨w4.heap.size, 0, none⟩ 1 1 [.int .i64 t, .int .i64 x, .bool g] rfl rfl (by intro j u hj; match j, hj with | 0, hj | 1, hj | 2, hj => simp at hj; subst hj; simp [Addr.add, go_sem]) (by intro u hu; simp at hu; rcases hu with rfl | rfl | rfl <;> rfl) (by decide) (by unfold maxLen; omega) (by omega) (by first | (simp; done) | (simp; omega) | omega) _ rfl ?_
    intro gg cp w5 hown hgrow _ _
    have n6 : New W w5 := n5.grown hgrow (ho4.alloc _) (by first | exact Nat.le_refl _ | (simp; done) | (simp; omega))
    obtain ⟨l0, l1, l2, lf, lz⟩ := (B2.out.new n6).c3
    have hHeld := And.intro l0 (And.intro l1 l2)
    refine hK.out _ _ (fun _ => hHeld) ?_
    clear hK KK
    try simp only [Act.put, List.setIfInBounds_toArray, List.set_cons_zero, List.set_cons_succ]
    obtain ⟨k0, k1, k2, k3, k4, k5, kf, kz⟩ := (A2.out.new n6).c6
    obtain ⟨m0, m1, m2, m3, m4, m5, mf, mz⟩ := (C2.out.new n6).c6
    have HOW := Lib.hid hown
    have HN6 := Lib.hid (HW.out.trans n6)
    clear hown hgrow n6 n5 g4 ho4 n4
    refine left_one (i := 5) rfl (by kernel_rfl) (fun KK hK => ?_)
    go_simp
    refine hK.out _ _ (fun _ => hHeld) ?_
    clear hK KK
    try simp only [Act.put, List.setIfInBounds_toArray, List.set_cons_zero, List.set_cons_succ]
    refine left_one (i := 6) rfl (by kernel_rfl) (fun KK hK => ?_)
    go_simp
    refine hK.out _ _ (fun h => absurd rfl h) ?_
    clear hK KK
    try simp only [Act.put, List.setIfInBounds_toArray, List.set_cons_zero, List.set_cons_succ]
    refine left_done (by kernel_rfl) ?_
    refine then_abs (fun X => New w X ∧ Blk X w.heap.size #[.int .i64 ca, .int .i64 af, .slice (some ⟨gg, 0, none⟩) (0 + 1) cp, .int .i64 ov, .int .i64 re, .bool false] ∧ Blk X (w.heap.size + 1 + 1) #[.int .i64 0, .int .i64 0, .slice none 0 0, .int .i64 0, .int .i64 0, .bool false] ∧ X.ownsRow (w.heap.size + 1 + 1 + 1) 26 3 (.slice (some ⟨gg, 0, none⟩) (0 + 1) cp) (0 + 1) (flat (0 + 1) 3 (mF (snoc (0) M ⟨t, x, g⟩)))) ?_ ?_
    · exact ⟨HN6.out.setCell (by simp) _, Blk.mk6 (by simp; omega) (by go_light; simp [go_sem, *]) (by go_light; simp [go_sem, *]) (by go_light; simp [go_sem, *]) (by go_light; simp [go_sem, *]) (by go_light; simp [go_sem, *]) (by go_light; simp [go_sem, *]) (fun o => by go_light; simp [go_sem, *]), Blk.mk6 (by simp; omega) (by go_light; simp [go_sem, *]) (by go_light; simp [go_sem, *]) (by go_light; simp [go_sem, *]) (by go_light; simp [go_sem, *]) (by go_light; simp [go_sem, *]) (by go_light; simp [go_sem, *]) (fun o => by go_light; simp [go_sem, *]), ownsRow_setCell_below (by rw [flat_put]; exact HOW.out) (by simp; omega) _⟩
    rintro X ⟨nX, aX, cX, oX⟩
    clear k0 k1 k2 k3 k4 k5 kf kz m0 m1 m2 m3 m4 m5 mf mz l0 l1 l2 lf lz hHeld
    obtain ⟨k0, k1, k2, k3, k4, k5, kf, kz⟩ := aX.c6
    obtain ⟨m0, m1, m2, m3, m4, m5, mf, mz⟩ := cX.c6
    have NX := Lib.hid nX
    have OX := Lib.hid oX
    clear nX aX cX oX
    by_cases hre : 0 < re
    · have HP := Lib.hid (HPY.out (by omega))
      have esr : IntKind.i64.wrap (re - 1) = re - 1 := IntWalk.i64_in _ (by have := RB.out; omega)
      go_wp2_with fail
      refine bodyPost_ret (v := .tuple #[.agg #[.int .i64 ca, .int .i64 af, .slice (some ⟨gg, 0, none⟩) (0 + 1) cp, .int .i64 ov, .int .i64 (re - 1), .bool (re - 1 == 0)], .int .i64 0]) (by go_light; simp [results, Try.results12, go_sem, *]) rfl ?_
      refine ⟨_, by rw [HE.out], ?_, by repeat (first | with_reducible exact new0 _ | with_reducible apply New.alloc | with_reducible apply New.drewN | with_reducible apply New.drew | (with_reducible refine New.setCell ?_ (by simp <;> omega) _) | (with_reducible refine New.trans ?_ NX.out))⟩
      rw [HE.out]
      show BufN _ _ _ (putB (⟨ca, af, 0, M, ov, re, false⟩ : Bf) ⟨t, x, g⟩)
      rw [HP.out]
      refine ⟨_, rfl, msN_own (base := w.heap.size + 1 + 1 + 1) (by omega) ?_⟩
      repeat (with_reducible refine ownsRow_setCell_below ?_ (by first | (simp; done) | (simp; omega)) _)
      exact OX.out
    · have HP := Lib.hid (HPN.out (by omega))
      go_wp2_with fail
      refine bodyPost_ret (v := .tuple #[.agg #[.int .i64 ca, .int .i64 af, .slice (some ⟨gg, 0, none⟩) (0 + 1) cp, .int .i64 ov, .int .i64 re, .bool false], .int .i64 0]) (by go_light; simp [results, Try.results12, go_sem, *]) rfl ?_
      refine ⟨_, by rw [HE.out], ?_, by repeat (first | with_reducible exact new0 _ | with_reducible apply New.alloc | with_reducible apply New.drewN | with_reducible apply New.drew | (with_reducible refine New.setCell ?_ (by simp <;> omega) _) | (with_reducible refine New.trans ?_ NX.out))⟩
      rw [HE.out]
      show BufN _ _ _ (putB (⟨ca, af, 0, M, ov, re, false⟩ : Bf) ⟨t, x, g⟩)
      rw [HP.out]
      refine ⟨_, rfl, msN_own (base := w.heap.size + 1 + 1 + 1) (by omega) ?_⟩
      repeat (with_reducible refine ownsRow_setCell_below ?_ (by first | (simp; done) | (simp; omega)) _)
      exact OX.out
  · skip
    go_simp
    have n3 : New W (W.alloc (.cells #[.int .i64 t, .int .i64 x, .bool g] 26)) := (new0 _).alloc _
    obtain ⟨l0, l1, l2, lf, lz⟩ := (B2.out.new n3).c3
    have hHeld := And.intro l0 (And.intro l1 l2)
    refine hK.out _ _ (fun _ => hHeld) ?_
    clear hK KK
    try simp only [Act.put, List.setIfInBounds_toArray, List.set_cons_zero, List.set_cons_succ]
    refine left_one (i := 1) (o := { dst := some 60, op := Op.call { callee := Callee.value (Operand.func 32), args := #[Operand.tmp 59], argTypes := #[22] }, type := 22, pos := "ringbuffer.go:105", after := #[{ on := 0, ground := Ground.data }], guard := none }) rfl (by kernel_rfl) (fun KK hK => ?_)
    go_simp
    refine (clone_v _ (0) M _ (by omega) (KW.out.new (by repeat (first | with_reducible exact new0 _ | with_reducible apply New.alloc | with_reducible apply New.drewN | with_reducible apply New.drew | (with_reducible refine New.setCell ?_ (by simp <;> omega) _))))).mono ?_
    rintro e w4 ⟨v4, rfl, ho4, g4⟩
    obtain ⟨A4, c4, rfl⟩ := (msV_row (row_own ho4)).len
    have n5 : New W w4 := New.trans (by repeat (first | with_reducible exact new0 _ | with_reducible apply New.alloc | with_reducible apply New.drewN | with_reducible apply New.drew | (with_reducible refine New.setCell ?_ (by simp <;> omega) _))) g4
    obtain ⟨l0, l1, l2, lf, lz⟩ := (B2.out.new n5).c3
    obtain ⟨e0, e1, e2, ef, ez⟩ := ((blk_alloc W #[.int .i64 t, .int .i64 x, .bool g] 26 _ rfl).new (show New (W.alloc (.cells #[.int .i64 t, .int .i64 x, .bool g] 26)) w4 from New.trans (by repeat (first | with_reducible exact new0 _ | with_reducible apply New.alloc | with_reducible apply New.drewN | with_reducible apply New.drew | (with_reducible refine New.setCell ?_ (by simp <;> omega) _))) g4)).c3
    have hHeld := And.intro l0 (And.intro l1 l2)
    refine hK.out _ _ (fun _ => hHeld) ?_
    clear hK KK
    try simp only [Act.put, List.setIfInBounds_toArray, List.set_cons_zero, List.set_cons_succ]
    refine left_one (i := 4) (o := { dst := some 63, op := Op.call { callee := Callee.builtin Builtin.append, args := #[Operand.tmp 60, Operand.tmp 62], argTypes := #[22, 22] }, type := 22, pos := "ringbuffer.go:105", after := #[{ on := 1, ground := Ground.data }, { on := 3, ground := Ground.data }, { on := 1, ground := Ground.chain }], guard := none }) rfl (by kernel_rfl) (fun KK hK => ?_)
    refine step_append_lies _ rfl (.tmp 60) (.tmp 62) 22 rfl (w.heap.size + 1 + 1 + 1) 26 i0 (.agg #[.int .i64 0, .int .i64 0, .bool false]) 3 24 Try.underlying22 hi hz0 hz1 hz2 rfl (by decide) (.slice A4 (0) c4) (0) (flat (0) 3 (mF M)) rfl (own_mono ho4 (show w.heap.size + 1 + 1 + 1 ≤ (W.alloc (.cells #[.int .i64 t, .int .i64 x, .bool g] 26)).heap.size by simp; omega)) ⟨W.heap.size, 0, none⟩ 1 1 [.int .i64 t, .int .i64 x, .bool g] rfl rfl (by intro j u hj; match j, hj with | 0, hj | 1, hj | 2, hj => simp at hj; subst hj; simp [Addr.add, *]) (by intro u hu; simp at hu; rcases hu with rfl | rfl | rfl <;> rfl) (by decide) (by unfold maxLen; omega) (by omega) (by first | (simp; done) | (simp; omega) | omega) _ rfl ?_
    intro gg cp w5 hown hgrow _ _
    have n6 : New W w5 := n5.grown hgrow ho4 (by first | exact Nat.le_refl _ | (simp; done) | (simp; omega))
    obtain ⟨l0, l1, l2, lf, lz⟩ := (B2.out.new n6).c3
    have hHeld := And.intro l0 (And.intro l1 l2)
    refine hK.out _ _ (fun _ => hHeld) ?_
    clear hK KK
    try simp only [Act.put, List.setIfInBounds_toArray, List.set_cons_zero, List.set_cons_succ]
    obtain ⟨k0, k1, k2, k3, k4, k5, kf, kz⟩ := (A2.out.new n6).c6
    obtain ⟨m0, m1, m2, m3, m4, m5, mf, mz⟩ := (C2.out.new n6).c6
    have HOW := Lib.hid hown
    have HN6 := Lib.hid (HW.out.trans n6)
    clear hown hgrow n6 n5 g4 ho4 n3 e0 e1 e2 ef ez
    refine left_one (i := 5) rfl (by kernel_rfl) (fun KK hK => ?_)
    go_simp
    refine hK.out _ _ (fun _ => hHeld) ?_
    clear hK KK
    try simp only [Act.put, List.setIfInBounds_toArray, List.set_cons_zero, List.set_cons_succ]
    refine left_one (i := 6) rfl (by kernel_rfl) (fun KK hK => ?_)
    go_simp
    refine hK.out _ _ (fun h => absurd rfl h) ?_
    clear hK KK
    try simp only [Act.put, List.setIfInBounds_toArray, List.set_cons_zero, List.set_cons_succ]
    refine left_done (by kernel_rfl) ?_
    refine then_abs (fun X => New w X ∧ Blk X w.heap.size #[.int .i64 ca, .int .i64 af, .slice (some ⟨gg, 0, none⟩) (0 + 1) cp, .int .i64 ov, .int .i64 re, .bool false] ∧ Blk X (w.heap.size + 1 + 1) #[.int .i64 0, .int .i64 0, .slice none 0 0, .int .i64 0, .int .i64 0, .bool false] ∧ X.ownsRow (w.heap.size + 1 + 1 + 1) 26 3 (.slice (some ⟨gg, 0, none⟩) (0 + 1) cp) (0 + 1) (flat (0 + 1) 3 (mF (snoc (0) M ⟨t, x, g⟩)))) ?_ ?_
    · exact ⟨HN6.out.setCell (by simp) _, Blk.mk6 (by simp; omega) (by go_light; simp [go_sem, *]) (by go_light; simp [go_sem, *]) (by go_light; simp [go_sem, *]) (by go_light; simp [go_sem, *]) (by go_light; simp [go_sem, *]) (by go_light; simp [go_sem, *]) (fun o => by go_light; simp [go_sem, *]), Blk.mk6 (by simp; omega) (by go_light; simp [go_sem, *]) (by go_light; simp [go_sem, *]) (by go_light; simp [go_sem, *]) (by go_light; simp [go_sem, *]) (by go_light; simp [go_sem, *]) (by go_light; simp [go_sem, *]) (fun o => by go_light; simp [go_sem, *]), ownsRow_setCell_below (by rw [flat_put]; exact HOW.out) (by simp; omega) _⟩
    rintro X ⟨nX, aX, cX, oX⟩
    clear k0 k1 k2 k3 k4 k5 kf kz m0 m1 m2 m3 m4 m5 mf mz l0 l1 l2 lf lz hHeld
    obtain ⟨k0, k1, k2, k3, k4, k5, kf, kz⟩ := aX.c6
    obtain ⟨m0, m1, m2, m3, m4, m5, mf, mz⟩ := cX.c6
    have NX := Lib.hid nX
    have OX := Lib.hid oX
    clear nX aX cX oX
    by_cases hre : 0 < re
    · have HP := Lib.hid (HPY.out (by omega))
      have esr : IntKind.i64.wrap (re - 1) = re - 1 := IntWalk.i64_in _ (by have := RB.out; omega)
      go_wp2_with fail
      refine bodyPost_ret (v := .tuple #[.agg #[.int .i64 ca, .int .i64 af, .slice (some ⟨gg, 0, none⟩) (0 + 1) cp, .int .i64 ov, .int .i64 (re - 1), .bool (re - 1 == 0)], .int .i64 0]) (by go_light; simp [results, Try.results12, go_sem, *]) rfl ?_
      refine ⟨_, by rw [HE.out], ?_, by repeat (first | with_reducible exact new0 _ | with_reducible apply New.alloc | with_reducible apply New.drewN | with_reducible apply New.drew | (with_reducible refine New.setCell ?_ (by simp <;> omega) _) | (with_reducible refine New.trans ?_ NX.out))⟩
      rw [HE.out]
      show BufN _ _ _ (putB (⟨ca, af, 0, M, ov, re, false⟩ : Bf) ⟨t, x, g⟩)
      rw [HP.out]
      refine ⟨_, rfl, msN_own (base := w.heap.size + 1 + 1 + 1) (by omega) ?_⟩
      repeat (with_reducible refine ownsRow_setCell_below ?_ (by first | (simp; done) | (simp; omega)) _)
      exact OX.out
    · have HP := Lib.hid (HPN.out (by omega))
      go_wp2_with fail
      refine bodyPost_ret (v := .tuple #[.agg #[.int .i64 ca, .int .i64 af, .slice (some ⟨gg, 0, none⟩) (0 + 1) cp, .int .i64 ov, .int .i64 re, .bool false], .int .i64 0]) (by go_light; simp [results, Try.results12, go_sem, *]) rfl ?_
      refine ⟨_, by rw [HE.out], ?_, by repeat (first | with_reducible exact new0 _ | with_reducible apply New.alloc | with_reducible apply New.drewN | with_reducible apply New.drew | (with_reducible refine New.setCell ?_ (by simp <;> omega) _) | (with_reducible refine New.trans ?_ NX.out))⟩
      rw [HE.out]
      show BufN _ _ _ (putB (⟨ca, af, 0, M, ov, re, false⟩ : Bf) ⟨t, x, g⟩)
      rw [HP.out]
      refine ⟨_, rfl, msN_own (base := w.heap.size + 1 + 1 + 1) (by omega) ?_⟩
      repeat (with_reducible refine ownsRow_setCell_below ?_ (by first | (simp; done) | (simp; omega)) _)
      exact OX.out
end Go.Proofs.Ytedbjnojogjnkaa
