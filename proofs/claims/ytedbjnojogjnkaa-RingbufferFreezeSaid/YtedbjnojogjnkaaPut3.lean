/-
  Put, by the program: all cases.
-/
import Derived.Test.YtedbjnojogjnkaaPut2
namespace Go.Proofs.Ytedbjnojogjnkaa
open Go.RowKit
set_option maxHeartbeats 6400000 in
theorem put_full (ca af : Int) (A : Option Addr) (n cap : Nat) (M : Nat → Ms) (ov re : Int) (fz : Bool) (t x : Int) (g : Bool) (w : World) (hM : MsV w (.slice A n cap) n M) (hn : n ≤ 1000) (hv : vB ⟨ca, af, n, M, ov, re, fz⟩ = 0) (hf : fz = false) (ho : okM ⟨t, x, g⟩ = true) (hov : ov = 1099511627776) (h0 : 0 < n) (hl : ¬ t < (M (n - 1)).t) :
    Calls Try.prog 12 #[.agg #[.int .i64 ca, .int .i64 af, .slice A n cap, .int .i64 ov, .int .i64 re, .bool fz], .agg #[.int .i64 t, .int .i64 x, .bool g]] w (ResPost w (resB (putE (⟨ca, af, n, M, ov, re, fz⟩ : Bf) (⟨t, x, g⟩ : Ms)) (putB (⟨ca, af, n, M, ov, re, fz⟩ : Bf) (⟨t, x, g⟩ : Ms))) (putE (⟨ca, af, n, M, ov, re, fz⟩ : Bf) (⟨t, x, g⟩ : Ms))) := by
  subst hf
  have HO := Lib.hid ho
  obtain ⟨b, off, rfl, hcap, hs⟩ : ∃ b off, A = some ⟨b, off, none⟩ ∧ n ≤ cap ∧ Mss w b off n M := by
    rcases hM with ⟨h0, _⟩ | ⟨b, off, c, e, hcp, hs⟩
    · omega
    · cases e; exact ⟨b, off, rfl, hcp, hs⟩
  have HSM := Lib.hid hs
  clear hs
  obtain ⟨k, rfl⟩ : ∃ k, n = k + 1 := ⟨n - 1, by omega⟩
  have hl : ¬ t < (M k).t := hl
  subst hov
  have HM := Lib.hid hM
  have hvv : valE ca af (k + 1) M 1099511627776 re false = 0 := hv
  have HV := Lib.hid hvv
  have HE := Lib.hid (show putE (⟨ca, af, k + 1, M, 1099511627776, re, false⟩ : Bf) (⟨t, x, g⟩ : Ms) = 16 by unfold putE; rw [hv]; simp [ho]; omega)
  clear hM hv hvv
  have A1 := Lib.hid ((blk_alloc w #[.int .i64 ca, .int .i64 af, .slice (some ⟨b, off, none⟩) (k + 1) cap, .int .i64 1099511627776, .int .i64 re, .bool false] 24 _ rfl).new (((new0 _).alloc (.cells #[.int .i64 t, .int .i64 x, .bool g] 26)).alloc (.cells #[.int .i64 0, .int .i64 0, .slice none 0 0, .int .i64 0, .int .i64 0, .bool false] 24)))
  have B1 := Lib.hid ((blk_alloc (w.alloc (.cells #[.int .i64 ca, .int .i64 af, .slice (some ⟨b, off, none⟩) (k + 1) cap, .int .i64 1099511627776, .int .i64 re, .bool false] 24)) #[.int .i64 t, .int .i64 x, .bool g] 26 (w.heap.size + 1) (by simp)).new ((new0 _).alloc (.cells #[.int .i64 0, .int .i64 0, .slice none 0 0, .int .i64 0, .int .i64 0, .bool false] 24)))
  have C1 := Lib.hid (blk_alloc ((w.alloc (.cells #[.int .i64 ca, .int .i64 af, .slice (some ⟨b, off, none⟩) (k + 1) cap, .int .i64 1099511627776, .int .i64 re, .bool false] 24)).alloc (.cells #[.int .i64 t, .int .i64 x, .bool g] 26)) #[.int .i64 0, .int .i64 0, .slice none 0 0, .int .i64 0, .int .i64 0, .bool false] 24 (w.heap.size + 1 + 1) (by simp))
  go_enter Try.func12, Try.ntmps12
  go_wp2_with fail
  refine (valid_any ca af (some ⟨b, off, none⟩) (k + 1) cap M 1099511627776 re false _ (HM.out.new ((((new0 w).alloc _).alloc _).alloc _)) hn).mono ?_
  rw [HV.out]
  rintro e w1 ⟨rfl, g1⟩
  have A1 := Lib.hid (A1.out.new g1)
  have B1 := Lib.hid (B1.out.new g1)
  have C1 := Lib.hid (C1.out.new g1)
  obtain ⟨k0, k1, k2, k3, k4, k5, kf, kz⟩ := A1.out.c6
  obtain ⟨l0, l1, l2, lf, lz⟩ := B1.out.c3
  obtain ⟨m0, m1, m2, m3, m4, m5, mf, mz⟩ := C1.out.c6
  have H1 := Lib.hid (show New w w1 from New.trans ((((new0 w).alloc _).alloc _).alloc _) g1)
  clear g1
  go_wp2_with fail
  clear ho
  obtain ⟨d0, d1, d2⟩ := (HSM.out.new H1.out).2 k (by omega)
  have hbz : b < w1.heap.size := (HSM.out.new H1.out).1
  have hk0 : (0 : Int) < (k : Int) + 1 := by omega
  have hk1 : (k : Int) < (k : Int) + 1 := by omega
  have esub : IntKind.i64.wrap ((k : Int) + 1 - 1) = k := by rw [IntWalk.i64_in _ (by omega)]; omega
  refine (samErr_any t x g _).mono ?_
  rw [HO.out]
  rintro e w2 ⟨rfl, cs, rfl⟩
  go_wp2_with fail
  go_quiet (fail)
  go_wp2_with fail
  refine bodyPost_ret (v := .tuple #[.agg #[.int .i64 0, .int .i64 0, .slice none 0 0, .int .i64 0, .int .i64 0, .bool false], .int .i64 16]) (by go_light; simp [results, Try.results12, go_sem, *]) rfl ?_
  exact ⟨_, by rw [HE.out], by rw [HE.out]; first | exact bz_of _ | (unfold resB; rw [if_neg (by first | assumption | decide)]; exact bz_of _), by repeat (first | with_reducible exact new0 _ | with_reducible apply New.alloc | with_reducible apply New.drewN | with_reducible apply New.drew | (with_reducible refine New.setCell ?_ (by simp <;> omega) _) | (with_reducible refine New.trans ?_ H1.out))⟩
theorem put_v (u : Value) (y : Bf) (s : Ms) (w : World) (h : BufB w u y) (hn : y.n ≤ 1000) : Calls Try.prog 12 #[u, .agg #[.int .i64 s.t, .int .i64 s.x, .bool s.g]] w (ResPost w (resB (putE y s) (putB y s)) (putE y s)) := by
  obtain ⟨ca, af, n, M, ov, re, fz⟩ := y
  obtain ⟨t, x, g⟩ := s
  obtain ⟨v, rfl, hM⟩ := h
  obtain ⟨A, cap, rfl⟩ := hM.len
  replace hM : MsV w (.slice A n cap) n M := hM
  replace hn : n ≤ 1000 := hn
  by_cases hv : vB ⟨ca, af, n, M, ov, re, fz⟩ = 0
  · by_cases hf : fz = true
    · exact put_frz ca af A n cap M ov re fz t x g w hM hn hv hf
    · have hf : fz = false := by simpa using hf
      by_cases ho : okM ⟨t, x, g⟩ = true
      · have hvz := vB_zero hv
        by_cases h0 : 0 < n
        · by_cases hl : t < (M (n - 1)).t
          · exact put_ord ca af A n cap M ov re fz t x g w hM hn hv hf ho h0 hl
          · by_cases hov : ov = 1099511627776
            · exact put_full ca af A n cap M ov re fz t x g w hM hn hv hf ho hov h0 hl
            · by_cases hc : (n : Int) = ca
              · by_cases hcp : cap = 1
                · have h1 : n = 1 := by
                    rcases hM with ⟨e, _⟩ | ⟨b, off, c, e, hcap, _⟩
                    · omega
                    · cases e; omega
                  exact put_s3 ca af A n cap M ov re fz t x g w hM hn hv hf ho hov h1 hl hc hcp
                · exact put_s2 ca af A n cap M ov re fz t x g w hM hn hv hf ho hov h0 hl hc hcp
              · exact put_s1 ca af A n cap M ov re fz t x g w hM hn hv hf ho hov h0 hl hc
        · have h0 : n = 0 := by omega
          have hov : ¬ ov = 1099511627776 := by
            intro e
            have h1 : 1 ≤ ca := hvz.1
            have h2 : 0 < ov → (n : Int) = ca := hvz.2.2.2.2.2.2.2.2.2.2.1
            have := h2 (by omega)
            omega
          exact put_s0 ca af A n cap M ov re fz t x g w hM hn hv hf ho hov h0
      · exact put_rng ca af A n cap M ov re fz t x g w hM hn hv hf (by simpa using ho)
  · exact put_bad ca af A n cap M ov re fz t x g w hM hn _ rfl hv
end Go.Proofs.Ytedbjnojogjnkaa
