/-
  Put, by the program.
-/
import Derived.Test.YtedbjnojogjnkaaCl
import Derived.Deep.AppendLies
namespace Go.Proofs.Ytedbjnojogjnkaa
open Go.RowKit
/-- A buffer. -/
structure Bf where
  ca : Int
  af : Int
  n : Nat
  M : Nat → Ms
  ov : Int
  re : Int
  fz : Bool
def bz : Bf := ⟨0, 0, 0, fun _ => ⟨0, 0, false⟩, 0, 0, false⟩
def BufB (w : World) (u : Value) (x : Bf) : Prop := BufV w u x.ca x.af x.n x.M x.ov x.re x.fz
theorem BufB.new {W W' : World} {u : Value} {x : Bf} (h : BufB W u x) (hn : New W W') : BufB W' u x := BufV.new h hn
def vB (x : Bf) : Int := valE x.ca x.af x.n x.M x.ov x.re x.fz
def putE (x : Bf) (s : Ms) : Int := if vB x ≠ 0 then vB x else if x.fz = true then 8 else if okM s = false then 6 else if 0 < x.n ∧ s.t < (x.M (x.n - 1)).t then 15 else if x.ov = 1099511627776 then 16 else 0
/-- How many samples are left out at the beginning. -/
def drp (x : Bf) : Nat := if (x.n : Int) = x.ca then 1 else 0
def snoc (k : Nat) (M : Nat → Ms) (s : Ms) : Nat → Ms := fun j => if j < k then M j else s
def putB (x : Bf) (s : Ms) : Bf := ⟨x.ca, x.af, x.n - drp x + 1, snoc (x.n - drp x) (fun j => x.M (j + drp x)) s, x.ov + drp x, if 0 < x.re then x.re - 1 else x.re, if 0 < x.re then decide (x.re = 1) else false⟩
def resB (e : Int) (x : Bf) : Bf := if e = 0 then x else bz
/-- Samples that lie at lo or behind. -/
def MsN (lo : Nat) (w : World) (v : Value) (n : Nat) (M : Nat → Ms) : Prop := MsV w v n M ∧ ∀ (b off c : Nat), v = .slice (some ⟨b, off, none⟩) n c → 0 < n → lo ≤ b
def BufN (lo : Nat) (w : World) (u : Value) (x : Bf) : Prop := ∃ v, u = .agg #[.int .i64 x.ca, .int .i64 x.af, v, .int .i64 x.ov, .int .i64 x.re, .bool x.fz] ∧ MsN lo w v x.n x.M
theorem msN_own {w : World} {base lo n : Nat} {v : Value} {M : Nat → Ms} (hl : lo ≤ base) (h : w.ownsRow base 26 3 v n (flat n 3 (mF M))) : MsN lo w v n M :=
  ⟨msV_row (row_own h), fun b off c e _ => by subst e; exact Nat.le_trans hl (h.lt b rfl).1⟩
theorem BufN.buf {lo : Nat} {w : World} {u : Value} {x : Bf} (h : BufN lo w u x) : BufB w u x := by
  obtain ⟨v, rfl, h⟩ := h
  exact ⟨v, rfl, h.1⟩
theorem MsN.set {lo : Nat} {w : World} {v : Value} {n : Nat} {M : Nat → Ms} (h : MsN lo w v n M) {a : Addr} (ha : a.block < lo) (u : Value) : MsN lo (w.setCell a u) v n M := by
  refine ⟨?_, h.2⟩
  rcases h.1 with h1 | ⟨b, off, cap, rfl, hc, hs⟩
  · exact .inl h1
  · refine .inr ⟨b, off, cap, rfl, hc, by simpa using hs.1, fun j hj => ?_⟩
    have hb := h.2 b off cap rfl (by omega)
    have far : ∀ o, (w.setCell a u).cell? ⟨b, o, none⟩ = w.cell? ⟨b, o, none⟩ := fun o => World.cell?_setCell_other _ _ _ _ (fun e => by
      have e' : a.block = b := by rw [e]
      omega)
    obtain ⟨c0, c1, c2⟩ := hs.2 j hj
    exact ⟨(far _).trans c0, (far _).trans c1, (far _).trans c2⟩
theorem MsN.new {lo : Nat} {W W' : World} {v : Value} {n : Nat} {M : Nat → Ms} (h : MsN lo W v n M) (hn : New W W') : MsN lo W' v n M := ⟨h.1.new hn, h.2⟩
theorem MsN.mono {lo lo' : Nat} {W : World} {v : Value} {n : Nat} {M : Nat → Ms} (h : MsN lo W v n M) (hl : lo' ≤ lo) : MsN lo' W v n M := ⟨h.1, fun b off c e h0 => Nat.le_trans hl (h.2 b off c e h0)⟩
def ResPost (w : World) (x : Bf) (er : Int) (e : Ending) (w' : World) : Prop := ∃ u, e = .returned (.tuple #[u, .int .i64 er]) ∧ BufN w.heap.size w' u x ∧ New w w'
theorem bz_of {lo : Nat} (w : World) : BufN lo w (.agg #[.int .i64 0, .int .i64 0, .slice none 0 0, .int .i64 0, .int .i64 0, .bool false]) bz := ⟨_, rfl, .inl ⟨rfl, none, 0, rfl⟩, fun _ _ _ _ h => absurd h (by decide)⟩
/-- What a valid buffer is. -/
theorem vB_zero {x : Bf} (h : vB x = 0) : 1 ≤ x.ca ∧ x.ca ≤ 200 ∧ 0 ≤ x.af ∧ x.af ≤ 200 ∧ 0 ≤ x.ov ∧ x.ov ≤ 1099511627776 ∧ -1 ≤ x.re ∧ x.re ≤ x.af ∧ (x.n : Int) ≤ x.ca ∧ x.fz = decide (x.re = 0) ∧ (0 < x.ov → (x.n : Int) = x.ca) ∧ samE x.M x.n = 0 := by
  unfold vB valE at h
  by_cases h1 : rngB x.ca x.af x.ov x.re = false
  · rw [if_pos h1] at h; simp at h
  · rw [if_neg h1] at h
    by_cases h2 : samE x.M x.n ≠ 0
    · rw [if_pos h2] at h; exact absurd h h2
    · rw [if_neg h2] at h
      unfold endE at h
      by_cases h3 : x.ca < x.n
      · rw [if_pos h3] at h; simp at h
      · rw [if_neg h3] at h
        by_cases h4 : x.fz ≠ decide (x.re = 0) ∨ (0 < x.ov ∧ (x.n : Int) < x.ca)
        · rw [if_pos h4] at h; simp at h
        · have h1' : rngB x.ca x.af x.ov x.re = true := by simpa using h1
          unfold rngB fitB insB at h1'
          simp only [Bool.and_eq_true, decide_eq_true_eq] at h1'
          have h2' : samE x.M x.n = 0 := by simpa using h2
          have h5 : x.fz = decide (x.re = 0) := by
            by_cases e : x.fz = decide (x.re = 0)
            · exact e
            · exact absurd (Or.inl e) h4
          have h6 : ¬ (0 < x.ov ∧ (x.n : Int) < x.ca) := fun e => h4 (Or.inr e)
          refine ⟨?_, ?_, ?_, ?_, ?_, ?_, ?_, ?_, ?_, h5, ?_, h2'⟩ <;> omega
theorem MsV.drop1 {w : World} {b off cap n : Nat} {M : Nat → Ms} (hc : n ≤ cap) (h : Mss w b off (n + 1) M) : MsV w (.slice (some ⟨b, off + 3, none⟩) n cap) n (fun j => M (j + 1)) :=
  .inr ⟨b, off + 3, cap, rfl, hc, h.1, fun j hj => by
    obtain ⟨h0, h1, h2⟩ := h.2 (j + 1) (by omega)
    rw [show off + (j + 1) * 3 = off + 3 + j * 3 by omega] at h0 h1 h2
    exact ⟨h0, h1, h2⟩⟩
theorem flat_put (n : Nat) (M : Nat → Ms) (s : Ms) : flat (n + 1) 3 (mF (snoc n M s)) = flat n 3 (mF M) ++ [.int .i64 s.t, .int .i64 s.x, .bool s.g] := by
  rw [flat_snoc]
  congr 1
  · unfold flat
    apply List.map_congr_left
    intro j hj
    have hlt : j / 3 < n := (Nat.div_lt_iff_lt_mul (by decide)).2 (by simpa using hj)
    simp [mF, snoc, hlt]
  · simp [mF, snoc, List.range_succ]
set_option maxHeartbeats 6400000 in
theorem put_bad (ca af : Int) (A : Option Addr) (n cap : Nat) (M : Nat → Ms) (ov re : Int) (fz : Bool) (t x : Int) (g : Bool) (w : World) (hM : MsV w (.slice A n cap) n M) (hn : n ≤ 1000) (e : Int) (hv : vB ⟨ca, af, n, M, ov, re, fz⟩ = e) (h0 : ¬ e = 0) :
    Calls Try.prog 12 #[.agg #[.int .i64 ca, .int .i64 af, .slice A n cap, .int .i64 ov, .int .i64 re, .bool fz], .agg #[.int .i64 t, .int .i64 x, .bool g]] w (ResPost w (resB (putE (⟨ca, af, n, M, ov, re, fz⟩ : Bf) (⟨t, x, g⟩ : Ms)) (putB (⟨ca, af, n, M, ov, re, fz⟩ : Bf) (⟨t, x, g⟩ : Ms))) (putE (⟨ca, af, n, M, ov, re, fz⟩ : Bf) (⟨t, x, g⟩ : Ms))) := by
  have HM := Lib.hid hM
  have hvv : valE ca af n M ov re fz = e := hv
  have HV := Lib.hid hvv
  have HE := Lib.hid (show putE (⟨ca, af, n, M, ov, re, fz⟩ : Bf) (⟨t, x, g⟩ : Ms) = e by unfold putE; rw [hv, if_pos (by simpa using h0)])
  clear hM hv hvv
  have A1 := Lib.hid ((blk_alloc w #[.int .i64 ca, .int .i64 af, .slice A n cap, .int .i64 ov, .int .i64 re, .bool fz] 24 _ rfl).new (((new0 _).alloc (.cells #[.int .i64 t, .int .i64 x, .bool g] 26)).alloc (.cells #[.int .i64 0, .int .i64 0, .slice none 0 0, .int .i64 0, .int .i64 0, .bool false] 24)))
  have B1 := Lib.hid ((blk_alloc (w.alloc (.cells #[.int .i64 ca, .int .i64 af, .slice A n cap, .int .i64 ov, .int .i64 re, .bool fz] 24)) #[.int .i64 t, .int .i64 x, .bool g] 26 (w.heap.size + 1) (by simp)).new ((new0 _).alloc (.cells #[.int .i64 0, .int .i64 0, .slice none 0 0, .int .i64 0, .int .i64 0, .bool false] 24)))
  have C1 := Lib.hid (blk_alloc ((w.alloc (.cells #[.int .i64 ca, .int .i64 af, .slice A n cap, .int .i64 ov, .int .i64 re, .bool fz] 24)).alloc (.cells #[.int .i64 t, .int .i64 x, .bool g] 26)) #[.int .i64 0, .int .i64 0, .slice none 0 0, .int .i64 0, .int .i64 0, .bool false] 24 (w.heap.size + 1 + 1) (by simp))
  go_enter Try.func12, Try.ntmps12
  go_wp2_with fail
  refine (valid_any ca af A n cap M ov re fz _ (HM.out.new ((((new0 w).alloc _).alloc _).alloc _)) hn).mono ?_
  rw [HV.out]
  rintro e w1 ⟨rfl, g1⟩
  have A1 := Lib.hid (A1.out.new g1)
  have B1 := Lib.hid (B1.out.new g1)
  have C1 := Lib.hid (C1.out.new g1)
  obtain ⟨k0, k1, k2, k3, k4, k5, kf, kz⟩ := A1.out.c6
  obtain ⟨l0, l1, l2, lf, lz⟩ := B1.out.c3
  obtain ⟨m0, m1, m2, m3, m4, m5, mf, mz⟩ := C1.out.c6
  have H1 := Lib.hid (show New w w1 from New.trans ((((new0 w).alloc _).alloc _).alloc _) g1)
  clear g1
  go_wp2_with fail
  refine bodyPost_ret (v := .tuple #[.agg #[.int .i64 0, .int .i64 0, .slice none 0 0, .int .i64 0, .int .i64 0, .bool false], .int .i64 e]) (by go_light; simp [results, Try.results12, go_sem, *]) rfl ?_
  exact ⟨_, by rw [HE.out], by rw [HE.out]; first | exact bz_of _ | (unfold resB; rw [if_neg (by first | assumption | decide)]; exact bz_of _), by repeat (first | with_reducible exact new0 _ | with_reducible apply New.alloc | with_reducible apply New.drewN | with_reducible apply New.drew | (with_reducible refine New.setCell ?_ (by simp <;> omega) _) | (with_reducible refine New.trans ?_ H1.out))⟩
set_option maxHeartbeats 6400000 in
theorem put_frz (ca af : Int) (A : Option Addr) (n cap : Nat) (M : Nat → Ms) (ov re : Int) (fz : Bool) (t x : Int) (g : Bool) (w : World) (hM : MsV w (.slice A n cap) n M) (hn : n ≤ 1000) (hv : vB ⟨ca, af, n, M, ov, re, fz⟩ = 0) (hf : fz = true) :
    Calls Try.prog 12 #[.agg #[.int .i64 ca, .int .i64 af, .slice A n cap, .int .i64 ov, .int .i64 re, .bool fz], .agg #[.int .i64 t, .int .i64 x, .bool g]] w (ResPost w (resB (putE (⟨ca, af, n, M, ov, re, fz⟩ : Bf) (⟨t, x, g⟩ : Ms)) (putB (⟨ca, af, n, M, ov, re, fz⟩ : Bf) (⟨t, x, g⟩ : Ms))) (putE (⟨ca, af, n, M, ov, re, fz⟩ : Bf) (⟨t, x, g⟩ : Ms))) := by
  subst hf
  have HM := Lib.hid hM
  have hvv : valE ca af n M ov re true = 0 := hv
  have HV := Lib.hid hvv
  have HE := Lib.hid (show putE (⟨ca, af, n, M, ov, re, true⟩ : Bf) (⟨t, x, g⟩ : Ms) = 8 by unfold putE; rw [hv]; simp)
  clear hM hv hvv
  have A1 := Lib.hid ((blk_alloc w #[.int .i64 ca, .int .i64 af, .slice A n cap, .int .i64 ov, .int .i64 re, .bool true] 24 _ rfl).new (((new0 _).alloc (.cells #[.int .i64 t, .int .i64 x, .bool g] 26)).alloc (.cells #[.int .i64 0, .int .i64 0, .slice none 0 0, .int .i64 0, .int .i64 0, .bool false] 24)))
  have B1 := Lib.hid ((blk_alloc (w.alloc (.cells #[.int .i64 ca, .int .i64 af, .slice A n cap, .int .i64 ov, .int .i64 re, .bool true] 24)) #[.int .i64 t, .int .i64 x, .bool g] 26 (w.heap.size + 1) (by simp)).new ((new0 _).alloc (.cells #[.int .i64 0, .int .i64 0, .slice none 0 0, .int .i64 0, .int .i64 0, .bool false] 24)))
  have C1 := Lib.hid (blk_alloc ((w.alloc (.cells #[.int .i64 ca, .int .i64 af, .slice A n cap, .int .i64 ov, .int .i64 re, .bool true] 24)).alloc (.cells #[.int .i64 t, .int .i64 x, .bool g] 26)) #[.int .i64 0, .int .i64 0, .slice none 0 0, .int .i64 0, .int .i64 0, .bool false] 24 (w.heap.size + 1 + 1) (by simp))
  go_enter Try.func12, Try.ntmps12
  go_wp2_with fail
  refine (valid_any ca af A n cap M ov re true _ (HM.out.new ((((new0 w).alloc _).alloc _).alloc _)) hn).mono ?_
  rw [HV.out]
  rintro e w1 ⟨rfl, g1⟩
  have A1 := Lib.hid (A1.out.new g1)
  have B1 := Lib.hid (B1.out.new g1)
  have C1 := Lib.hid (C1.out.new g1)
  obtain ⟨k0, k1, k2, k3, k4, k5, kf, kz⟩ := A1.out.c6
  obtain ⟨l0, l1, l2, lf, lz⟩ := B1.out.c3
  obtain ⟨m0, m1, m2, m3, m4, m5, mf, mz⟩ := C1.out.c6
  have H1 := Lib.hid (show New w w1 from New.trans ((((new0 w).alloc _).alloc _).alloc _) g1)
  clear g1
  go_wp2_with fail
  refine bodyPost_ret (v := .tuple #[.agg #[.int .i64 0, .int .i64 0, .slice none 0 0, .int .i64 0, .int .i64 0, .bool false], .int .i64 8]) (by go_light; simp [results, Try.results12, go_sem, *]) rfl ?_
  exact ⟨_, by rw [HE.out], by rw [HE.out]; first | exact bz_of _ | (unfold resB; rw [if_neg (by first | assumption | decide)]; exact bz_of _), by repeat (first | with_reducible exact new0 _ | with_reducible apply New.alloc | with_reducible apply New.drewN | with_reducible apply New.drew | (with_reducible refine New.setCell ?_ (by simp <;> omega) _) | (with_reducible refine New.trans ?_ H1.out))⟩
set_option maxHeartbeats 6400000 in
theorem put_rng (ca af : Int) (A : Option Addr) (n cap : Nat) (M : Nat → Ms) (ov re : Int) (fz : Bool) (t x : Int) (g : Bool) (w : World) (hM : MsV w (.slice A n cap) n M) (hn : n ≤ 1000) (hv : vB ⟨ca, af, n, M, ov, re, fz⟩ = 0) (hf : fz = false) (ho : okM ⟨t, x, g⟩ = false) :
    Calls Try.prog 12 #[.agg #[.int .i64 ca, .int .i64 af, .slice A n cap, .int .i64 ov, .int .i64 re, .bool fz], .agg #[.int .i64 t, .int .i64 x, .bool g]] w (ResPost w (resB (putE (⟨ca, af, n, M, ov, re, fz⟩ : Bf) (⟨t, x, g⟩ : Ms)) (putB (⟨ca, af, n, M, ov, re, fz⟩ : Bf) (⟨t, x, g⟩ : Ms))) (putE (⟨ca, af, n, M, ov, re, fz⟩ : Bf) (⟨t, x, g⟩ : Ms))) := by
  subst hf
  have HO := Lib.hid ho
  have HM := Lib.hid hM
  have hvv : valE ca af n M ov re false = 0 := hv
  have HV := Lib.hid hvv
  have HE := Lib.hid (show putE (⟨ca, af, n, M, ov, re, false⟩ : Bf) (⟨t, x, g⟩ : Ms) = 6 by unfold putE; rw [hv]; simp [ho])
  clear hM hv hvv
  have A1 := Lib.hid ((blk_alloc w #[.int .i64 ca, .int .i64 af, .slice A n cap, .int .i64 ov, .int .i64 re, .bool false] 24 _ rfl).new (((new0 _).alloc (.cells #[.int .i64 t, .int .i64 x, .bool g] 26)).alloc (.cells #[.int .i64 0, .int .i64 0, .slice none 0 0, .int .i64 0, .int .i64 0, .bool false] 24)))
  have B1 := Lib.hid ((blk_alloc (w.alloc (.cells #[.int .i64 ca, .int .i64 af, .slice A n cap, .int .i64 ov, .int .i64 re, .bool false] 24)) #[.int .i64 t, .int .i64 x, .bool g] 26 (w.heap.size + 1) (by simp)).new ((new0 _).alloc (.cells #[.int .i64 0, .int .i64 0, .slice none 0 0, .int .i64 0, .int .i64 0, .bool false] 24)))
  have C1 := Lib.hid (blk_alloc ((w.alloc (.cells #[.int .i64 ca, .int .i64 af, .slice A n cap, .int .i64 ov, .int .i64 re, .bool false] 24)).alloc (.cells #[.int .i64 t, .int .i64 x, .bool g] 26)) #[.int .i64 0, .int .i64 0, .slice none 0 0, .int .i64 0, .int .i64 0, .bool false] 24 (w.heap.size + 1 + 1) (by simp))
  go_enter Try.func12, Try.ntmps12
  go_wp2_with fail
  refine (valid_any ca af A n cap M ov re false _ (HM.out.new ((((new0 w).alloc _).alloc _).alloc _)) hn).mono ?_
  rw [HV.out]
  rintro e w1 ⟨rfl, g1⟩
  have A1 := Lib.hid (A1.out.new g1)
  have B1 := Lib.hid (B1.out.new g1)
  have C1 := Lib.hid (C1.out.new g1)
  obtain ⟨k0, k1, k2, k3, k4, k5, kf, kz⟩ := A1.out.c6
  obtain ⟨l0, l1, l2, lf, lz⟩ := B1.out.c3
  obtain ⟨m0, m1, m2, m3, m4, m5, mf, mz⟩ := C1.out.c6
  have H1 := Lib.hid (show New w w1 from New.trans ((((new0 w).alloc _).alloc _).alloc _) g1)
  clear g1
  go_wp2_with fail
  clear ho
  refine (samErr_any t x g _).mono ?_
  rw [HO.out]
  rintro e w2 ⟨rfl, cs, rfl⟩
  go_wp2_with fail
  refine bodyPost_ret (v := .tuple #[.agg #[.int .i64 0, .int .i64 0, .slice none 0 0, .int .i64 0, .int .i64 0, .bool false], .int .i64 6]) (by go_light; simp [results, Try.results12, go_sem, *]) rfl ?_
  exact ⟨_, by rw [HE.out], by rw [HE.out]; first | exact bz_of _ | (unfold resB; rw [if_neg (by first | assumption | decide)]; exact bz_of _), by repeat (first | with_reducible exact new0 _ | with_reducible apply New.alloc | with_reducible apply New.drewN | with_reducible apply New.drew | (with_reducible refine New.setCell ?_ (by simp <;> omega) _) | (with_reducible refine New.trans ?_ H1.out))⟩
set_option maxHeartbeats 6400000 in
theorem put_ord (ca af : Int) (A : Option Addr) (n cap : Nat) (M : Nat → Ms) (ov re : Int) (fz : Bool) (t x : Int) (g : Bool) (w : World) (hM : MsV w (.slice A n cap) n M) (hn : n ≤ 1000) (hv : vB ⟨ca, af, n, M, ov, re, fz⟩ = 0) (hf : fz = false) (ho : okM ⟨t, x, g⟩ = true) (h0 : 0 < n) (hl : t < (M (n - 1)).t) :
    Calls Try.prog 12 #[.agg #[.int .i64 ca, .int .i64 af, .slice A n cap, .int .i64 ov, .int .i64 re, .bool fz], .agg #[.int .i64 t, .int .i64 x, .bool g]] w (ResPost w (resB (putE (⟨ca, af, n, M, ov, re, fz⟩ : Bf) (⟨t, x, g⟩ : Ms)) (putB (⟨ca, af, n, M, ov, re, fz⟩ : Bf) (⟨t, x, g⟩ : Ms))) (putE (⟨ca, af, n, M, ov, re, fz⟩ : Bf) (⟨t, x, g⟩ : Ms))) := by
  subst hf
  have HO := Lib.hid ho
  obtain ⟨b, off, rfl, hcap, hs⟩ : ∃ b off, A = some ⟨b, off, none⟩ ∧ n ≤ cap ∧ Mss w b off n M := by
    rcases hM with ⟨h0, _⟩ | ⟨b, off, c, e, hcp, hs⟩
    · omega
    · cases e; exact ⟨b, off, rfl, hcp, hs⟩
  have HSM := Lib.hid hs
  clear hs
  obtain ⟨k, rfl⟩ : ∃ k, n = k + 1 := ⟨n - 1, by omega⟩
  have hl : t < (M k).t := hl
  have HM := Lib.hid hM
  have hvv : valE ca af (k + 1) M ov re false = 0 := hv
  have HV := Lib.hid hvv
  have HE := Lib.hid (show putE (⟨ca, af, k + 1, M, ov, re, false⟩ : Bf) (⟨t, x, g⟩ : Ms) = 15 by unfold putE; rw [hv]; simp [ho]; intro h; omega)
  clear hM hv hvv
  have A1 := Lib.hid ((blk_alloc w #[.int .i64 ca, .int .i64 af, .slice (some ⟨b, off, none⟩) (k + 1) cap, .int .i64 ov, .int .i64 re, .bool false] 24 _ rfl).new (((new0 _).alloc (.cells #[.int .i64 t, .int .i64 x, .bool g] 26)).alloc (.cells #[.int .i64 0, .int .i64 0, .slice none 0 0, .int .i64 0, .int .i64 0, .bool false] 24)))
  have B1 := Lib.hid ((blk_alloc (w.alloc (.cells #[.int .i64 ca, .int .i64 af, .slice (some ⟨b, off, none⟩) (k + 1) cap, .int .i64 ov, .int .i64 re, .bool false] 24)) #[.int .i64 t, .int .i64 x, .bool g] 26 (w.heap.size + 1) (by simp)).new ((new0 _).alloc (.cells #[.int .i64 0, .int .i64 0, .slice none 0 0, .int .i64 0, .int .i64 0, .bool false] 24)))
  have C1 := Lib.hid (blk_alloc ((w.alloc (.cells #[.int .i64 ca, .int .i64 af, .slice (some ⟨b, off, none⟩) (k + 1) cap, .int .i64 ov, .int .i64 re, .bool false] 24)).alloc (.cells #[.int .i64 t, .int .i64 x, .bool g] 26)) #[.int .i64 0, .int .i64 0, .slice none 0 0, .int .i64 0, .int .i64 0, .bool false] 24 (w.heap.size + 1 + 1) (by simp))
  go_enter Try.func12, Try.ntmps12
  go_wp2_with fail
  refine (valid_any ca af (some ⟨b, off, none⟩) (k + 1) cap M ov re false _ (HM.out.new ((((new0 w).alloc _).alloc _).alloc _)) hn).mono ?_
  rw [HV.out]
  rintro e w1 ⟨rfl, g1⟩
  have A1 := Lib.hid (A1.out.new g1)
  have B1 := Lib.hid (B1.out.new g1)
  have C1 := Lib.hid (C1.out.new g1)
  obtain ⟨k0, k1, k2, k3, k4, k5, kf, kz⟩ := A1.out.c6
  obtain ⟨l0, l1, l2, lf, lz⟩ := B1.out.c3
  obtain ⟨m0, m1, m2, m3, m4, m5, mf, mz⟩ := C1.out.c6
  have H1 := Lib.hid (show New w w1 from New.trans ((((new0 w).alloc _).alloc _).alloc _) g1)
  clear g1
  go_wp2_with fail
  clear ho
  obtain ⟨d0, d1, d2⟩ := (HSM.out.new H1.out).2 k (by omega)
  have hbz : b < w1.heap.size := (HSM.out.new H1.out).1
  have hk0 : (0 : Int) < (k : Int) + 1 := by omega
  have hk1 : (k : Int) < (k : Int) + 1 := by omega
  have esub : IntKind.i64.wrap ((k : Int) + 1 - 1) = k := by rw [IntWalk.i64_in _ (by omega)]; omega
  refine (samErr_any t x g _).mono ?_
  rw [HO.out]
  rintro e w2 ⟨rfl, cs, rfl⟩
  go_wp2_with fail
  go_quiet (fail)
  go_wp2_with fail
  refine bodyPost_ret (v := .tuple #[.agg #[.int .i64 0, .int .i64 0, .slice none 0 0, .int .i64 0, .int .i64 0, .bool false], .int .i64 15]) (by go_light; simp [results, Try.results12, go_sem, *]) rfl ?_
  exact ⟨_, by rw [HE.out], by rw [HE.out]; first | exact bz_of _ | (unfold resB; rw [if_neg (by first | assumption | decide)]; exact bz_of _), by repeat (first | with_reducible exact new0 _ | with_reducible apply New.alloc | with_reducible apply New.drewN | with_reducible apply New.drew | (with_reducible refine New.setCell ?_ (by simp <;> omega) _) | (with_reducible refine New.trans ?_ H1.out))⟩
set_option maxHeartbeats 6400000 in
theorem rput_bad (ca af : Int) (A : Option Addr) (n cap : Nat) (M : Nat → Ms) (ov re : Int) (fz : Bool) (t x : Int) (g : Bool) (w : World) (hM : MsV w (.slice A n cap) n M) (hn : n ≤ 1000) (e : Int) (hv : vB ⟨ca, af, n, M, ov, re, fz⟩ = e) (h0 : ¬ e = 0) :
    Calls Try.prog 14 #[.agg #[.int .i64 ca, .int .i64 af, .slice A n cap, .int .i64 ov, .int .i64 re, .bool fz], .agg #[.int .i64 t, .int .i64 x, .bool g]] w (ResPost w (resB (putE (⟨ca, af, n, M, ov, re, fz⟩ : Bf) (⟨t, x, g⟩ : Ms)) (putB (⟨ca, af, n, M, ov, re, fz⟩ : Bf) (⟨t, x, g⟩ : Ms))) (putE (⟨ca, af, n, M, ov, re, fz⟩ : Bf) (⟨t, x, g⟩ : Ms))) := by
  have HM := Lib.hid hM
  have hvv : valE ca af n M ov re fz = e := hv
  have HV := Lib.hid hvv
  have HE := Lib.hid (show putE (⟨ca, af, n, M, ov, re, fz⟩ : Bf) (⟨t, x, g⟩ : Ms) = e by unfold putE; rw [hv, if_pos (by simpa using h0)])
  clear hM hv hvv
  have A1 := Lib.hid ((blk_alloc w #[.int .i64 ca, .int .i64 af, .slice A n cap, .int .i64 ov, .int .i64 re, .bool fz] 24 _ rfl).new (((new0 _).alloc (.cells #[.int .i64 t, .int .i64 x, .bool g] 26)).alloc (.cells #[.int .i64 0, .int .i64 0, .slice none 0 0, .int .i64 0, .int .i64 0, .bool false] 24)))
  have B1 := Lib.hid ((blk_alloc (w.alloc (.cells #[.int .i64 ca, .int .i64 af, .slice A n cap, .int .i64 ov, .int .i64 re, .bool fz] 24)) #[.int .i64 t, .int .i64 x, .bool g] 26 (w.heap.size + 1) (by simp)).new ((new0 _).alloc (.cells #[.int .i64 0, .int .i64 0, .slice none 0 0, .int .i64 0, .int .i64 0, .bool false] 24)))
  have C1 := Lib.hid (blk_alloc ((w.alloc (.cells #[.int .i64 ca, .int .i64 af, .slice A n cap, .int .i64 ov, .int .i64 re, .bool fz] 24)).alloc (.cells #[.int .i64 t, .int .i64 x, .bool g] 26)) #[.int .i64 0, .int .i64 0, .slice none 0 0, .int .i64 0, .int .i64 0, .bool false] 24 (w.heap.size + 1 + 1) (by simp))
  go_enter Try.func14, Try.ntmps14
  go_wp2_with fail
  refine (rvalid_any ca af A n cap M ov re fz _ (HM.out.new ((((new0 w).alloc _).alloc _).alloc _)) hn).mono ?_
  rw [HV.out]
  rintro e w1 ⟨rfl, g1⟩
  have A1 := Lib.hid (A1.out.new g1)
  have B1 := Lib.hid (B1.out.new g1)
  have C1 := Lib.hid (C1.out.new g1)
  obtain ⟨k0, k1, k2, k3, k4, k5, kf, kz⟩ := A1.out.c6
  obtain ⟨l0, l1, l2, lf, lz⟩ := B1.out.c3
  obtain ⟨m0, m1, m2, m3, m4, m5, mf, mz⟩ := C1.out.c6
  have H1 := Lib.hid (show New w w1 from New.trans ((((new0 w).alloc _).alloc _).alloc _) g1)
  clear g1
  go_wp2_with fail
  refine bodyPost_ret (v := .tuple #[.agg #[.int .i64 0, .int .i64 0, .slice none 0 0, .int .i64 0, .int .i64 0, .bool false], .int .i64 e]) (by go_light; simp [results, Try.results14, go_sem, *]) rfl ?_
  exact ⟨_, by rw [HE.out], by rw [HE.out]; first | exact bz_of _ | (unfold resB; rw [if_neg (by first | assumption | decide)]; exact bz_of _), by repeat (first | with_reducible exact new0 _ | with_reducible apply New.alloc | with_reducible apply New.drewN | with_reducible apply New.drew | (with_reducible refine New.setCell ?_ (by simp <;> omega) _) | (with_reducible refine New.trans ?_ H1.out))⟩
set_option maxHeartbeats 6400000 in
theorem rput_frz (ca af : Int) (A : Option Addr) (n cap : Nat) (M : Nat → Ms) (ov re : Int) (fz : Bool) (t x : Int) (g : Bool) (w : World) (hM : MsV w (.slice A n cap) n M) (hn : n ≤ 1000) (hv : vB ⟨ca, af, n, M, ov, re, fz⟩ = 0) (hf : fz = true) :
    Calls Try.prog 14 #[.agg #[.int .i64 ca, .int .i64 af, .slice A n cap, .int .i64 ov, .int .i64 re, .bool fz], .agg #[.int .i64 t, .int .i64 x, .bool g]] w (ResPost w (resB (putE (⟨ca, af, n, M, ov, re, fz⟩ : Bf) (⟨t, x, g⟩ : Ms)) (putB (⟨ca, af, n, M, ov, re, fz⟩ : Bf) (⟨t, x, g⟩ : Ms))) (putE (⟨ca, af, n, M, ov, re, fz⟩ : Bf) (⟨t, x, g⟩ : Ms))) := by
  subst hf
  have HM := Lib.hid hM
  have hvv : valE ca af n M ov re true = 0 := hv
  have HV := Lib.hid hvv
  have HE := Lib.hid (show putE (⟨ca, af, n, M, ov, re, true⟩ : Bf) (⟨t, x, g⟩ : Ms) = 8 by unfold putE; rw [hv]; simp)
  clear hM hv hvv
  have A1 := Lib.hid ((blk_alloc w #[.int .i64 ca, .int .i64 af, .slice A n cap, .int .i64 ov, .int .i64 re, .bool true] 24 _ rfl).new (((new0 _).alloc (.cells #[.int .i64 t, .int .i64 x, .bool g] 26)).alloc (.cells #[.int .i64 0, .int .i64 0, .slice none 0 0, .int .i64 0, .int .i64 0, .bool false] 24)))
  have B1 := Lib.hid ((blk_alloc (w.alloc (.cells #[.int .i64 ca, .int .i64 af, .slice A n cap, .int .i64 ov, .int .i64 re, .bool true] 24)) #[.int .i64 t, .int .i64 x, .bool g] 26 (w.heap.size + 1) (by simp)).new ((new0 _).alloc (.cells #[.int .i64 0, .int .i64 0, .slice none 0 0, .int .i64 0, .int .i64 0, .bool false] 24)))
  have C1 := Lib.hid (blk_alloc ((w.alloc (.cells #[.int .i64 ca, .int .i64 af, .slice A n cap, .int .i64 ov, .int .i64 re, .bool true] 24)).alloc (.cells #[.int .i64 t, .int .i64 x, .bool g] 26)) #[.int .i64 0, .int .i64 0, .slice none 0 0, .int .i64 0, .int .i64 0, .bool false] 24 (w.heap.size + 1 + 1) (by simp))
  go_enter Try.func14, Try.ntmps14
  go_wp2_with fail
  refine (rvalid_any ca af A n cap M ov re true _ (HM.out.new ((((new0 w).alloc _).alloc _).alloc _)) hn).mono ?_
  rw [HV.out]
  rintro e w1 ⟨rfl, g1⟩
  have A1 := Lib.hid (A1.out.new g1)
  have B1 := Lib.hid (B1.out.new g1)
  have C1 := Lib.hid (C1.out.new g1)
  obtain ⟨k0, k1, k2, k3, k4, k5, kf, kz⟩ := A1.out.c6
  obtain ⟨l0, l1, l2, lf, lz⟩ := B1.out.c3
  obtain ⟨m0, m1, m2, m3, m4, m5, mf, mz⟩ := C1.out.c6
  have H1 := Lib.hid (show New w w1 from New.trans ((((new0 w).alloc _).alloc _).alloc _) g1)
  clear g1
  go_wp2_with fail
  refine bodyPost_ret (v := .tuple #[.agg #[.int .i64 0, .int .i64 0, .slice none 0 0, .int .i64 0, .int .i64 0, .bool false], .int .i64 8]) (by go_light; simp [results, Try.results14, go_sem, *]) rfl ?_
  exact ⟨_, by rw [HE.out], by rw [HE.out]; first | exact bz_of _ | (unfold resB; rw [if_neg (by first | assumption | decide)]; exact bz_of _), by repeat (first | with_reducible exact new0 _ | with_reducible apply New.alloc | with_reducible apply New.drewN | with_reducible apply New.drew | (with_reducible refine New.setCell ?_ (by simp <;> omega) _) | (with_reducible refine New.trans ?_ H1.out))⟩
set_option maxHeartbeats 6400000 in
theorem rput_rng (ca af : Int) (A : Option Addr) (n cap : Nat) (M : Nat → Ms) (ov re : Int) (fz : Bool) (t x : Int) (g : Bool) (w : World) (hM : MsV w (.slice A n cap) n M) (hn : n ≤ 1000) (hv : vB ⟨ca, af, n, M, ov, re, fz⟩ = 0) (hf : fz = false) (ho : okM ⟨t, x, g⟩ = false) :
    Calls Try.prog 14 #[.agg #[.int .i64 ca, .int .i64 af, .slice A n cap, .int .i64 ov, .int .i64 re, .bool fz], .agg #[.int .i64 t, .int .i64 x, .bool g]] w (ResPost w (resB (putE (⟨ca, af, n, M, ov, re, fz⟩ : Bf) (⟨t, x, g⟩ : Ms)) (putB (⟨ca, af, n, M, ov, re, fz⟩ : Bf) (⟨t, x, g⟩ : Ms))) (putE (⟨ca, af, n, M, ov, re, fz⟩ : Bf) (⟨t, x, g⟩ : Ms))) := by
  subst hf
  have HO := Lib.hid ho
  have HM := Lib.hid hM
  have hvv : valE ca af n M ov re false = 0 := hv
  have HV := Lib.hid hvv
  have HE := Lib.hid (show putE (⟨ca, af, n, M, ov, re, false⟩ : Bf) (⟨t, x, g⟩ : Ms) = 6 by unfold putE; rw [hv]; simp [ho])
  clear hM hv hvv
  have A1 := Lib.hid ((blk_alloc w #[.int .i64 ca, .int .i64 af, .slice A n cap, .int .i64 ov, .int .i64 re, .bool false] 24 _ rfl).new (((new0 _).alloc (.cells #[.int .i64 t, .int .i64 x, .bool g] 26)).alloc (.cells #[.int .i64 0, .int .i64 0, .slice none 0 0, .int .i64 0, .int .i64 0, .bool false] 24)))
  have B1 := Lib.hid ((blk_alloc (w.alloc (.cells #[.int .i64 ca, .int .i64 af, .slice A n cap, .int .i64 ov, .int .i64 re, .bool false] 24)) #[.int .i64 t, .int .i64 x, .bool g] 26 (w.heap.size + 1) (by simp)).new ((new0 _).alloc (.cells #[.int .i64 0, .int .i64 0, .slice none 0 0, .int .i64 0, .int .i64 0, .bool false] 24)))
  have C1 := Lib.hid (blk_alloc ((w.alloc (.cells #[.int .i64 ca, .int .i64 af, .slice A n cap, .int .i64 ov, .int .i64 re, .bool false] 24)).alloc (.cells #[.int .i64 t, .int .i64 x, .bool g] 26)) #[.int .i64 0, .int .i64 0, .slice none 0 0, .int .i64 0, .int .i64 0, .bool false] 24 (w.heap.size + 1 + 1) (by simp))
  go_enter Try.func14, Try.ntmps14
  go_wp2_with fail
  refine (rvalid_any ca af A n cap M ov re false _ (HM.out.new ((((new0 w).alloc _).alloc _).alloc _)) hn).mono ?_
  rw [HV.out]
  rintro e w1 ⟨rfl, g1⟩
  have A1 := Lib.hid (A1.out.new g1)
  have B1 := Lib.hid (B1.out.new g1)
  have C1 := Lib.hid (C1.out.new g1)
  obtain ⟨k0, k1, k2, k3, k4, k5, kf, kz⟩ := A1.out.c6
  obtain ⟨l0, l1, l2, lf, lz⟩ := B1.out.c3
  obtain ⟨m0, m1, m2, m3, m4, m5, mf, mz⟩ := C1.out.c6
  have H1 := Lib.hid (show New w w1 from New.trans ((((new0 w).alloc _).alloc _).alloc _) g1)
  clear g1
  go_wp2_with fail
  clear ho
  refine (rsam_any t x g _).mono ?_
  rw [HO.out]
  rintro e w2 ⟨rfl, cs, rfl⟩
  go_wp2_with fail
  refine bodyPost_ret (v := .tuple #[.agg #[.int .i64 0, .int .i64 0, .slice none 0 0, .int .i64 0, .int .i64 0, .bool false], .int .i64 6]) (by go_light; simp [results, Try.results14, go_sem, *]) rfl ?_
  exact ⟨_, by rw [HE.out], by rw [HE.out]; first | exact bz_of _ | (unfold resB; rw [if_neg (by first | assumption | decide)]; exact bz_of _), by repeat (first | with_reducible exact new0 _ | with_reducible apply New.alloc | with_reducible apply New.drewN | with_reducible apply New.drew | (with_reducible refine New.setCell ?_ (by simp <;> omega) _) | (with_reducible refine New.trans ?_ H1.out))⟩
set_option maxHeartbeats 6400000 in
theorem rput_ord (ca af : Int) (A : Option Addr) (n cap : Nat) (M : Nat → Ms) (ov re : Int) (fz : Bool) (t x : Int) (g : Bool) (w : World) (hM : MsV w (.slice A n cap) n M) (hn : n ≤ 1000) (hv : vB ⟨ca, af, n, M, ov, re, fz⟩ = 0) (hf : fz = false) (ho : okM ⟨t, x, g⟩ = true) (h0 : 0 < n) (hl : t < (M (n - 1)).t) :
    Calls Try.prog 14 #[.agg #[.int .i64 ca, .int .i64 af, .slice A n cap, .int .i64 ov, .int .i64 re, .bool fz], .agg #[.int .i64 t, .int .i64 x, .bool g]] w (ResPost w (resB (putE (⟨ca, af, n, M, ov, re, fz⟩ : Bf) (⟨t, x, g⟩ : Ms)) (putB (⟨ca, af, n, M, ov, re, fz⟩ : Bf) (⟨t, x, g⟩ : Ms))) (putE (⟨ca, af, n, M, ov, re, fz⟩ : Bf) (⟨t, x, g⟩ : Ms))) := by
  subst hf
  have HO := Lib.hid ho
  obtain ⟨b, off, rfl, hcap, hs⟩ : ∃ b off, A = some ⟨b, off, none⟩ ∧ n ≤ cap ∧ Mss w b off n M := by
    rcases hM with ⟨h0, _⟩ | ⟨b, off, c, e, hcp, hs⟩
    · omega
    · cases e; exact ⟨b, off, rfl, hcp, hs⟩
  have HSM := Lib.hid hs
  clear hs
  obtain ⟨k, rfl⟩ : ∃ k, n = k + 1 := ⟨n - 1, by omega⟩
  have hl : t < (M k).t := hl
  have HM := Lib.hid hM
  have hvv : valE ca af (k + 1) M ov re false = 0 := hv
  have HV := Lib.hid hvv
  have HE := Lib.hid (show putE (⟨ca, af, k + 1, M, ov, re, false⟩ : Bf) (⟨t, x, g⟩ : Ms) = 15 by unfold putE; rw [hv]; simp [ho]; intro h; omega)
  clear hM hv hvv
  have A1 := Lib.hid ((blk_alloc w #[.int .i64 ca, .int .i64 af, .slice (some ⟨b, off, none⟩) (k + 1) cap, .int .i64 ov, .int .i64 re, .bool false] 24 _ rfl).new (((new0 _).alloc (.cells #[.int .i64 t, .int .i64 x, .bool g] 26)).alloc (.cells #[.int .i64 0, .int .i64 0, .slice none 0 0, .int .i64 0, .int .i64 0, .bool false] 24)))
  have B1 := Lib.hid ((blk_alloc (w.alloc (.cells #[.int .i64 ca, .int .i64 af, .slice (some ⟨b, off, none⟩) (k + 1) cap, .int .i64 ov, .int .i64 re, .bool false] 24)) #[.int .i64 t, .int .i64 x, .bool g] 26 (w.heap.size + 1) (by simp)).new ((new0 _).alloc (.cells #[.int .i64 0, .int .i64 0, .slice none 0 0, .int .i64 0, .int .i64 0, .bool false] 24)))
  have C1 := Lib.hid (blk_alloc ((w.alloc (.cells #[.int .i64 ca, .int .i64 af, .slice (some ⟨b, off, none⟩) (k + 1) cap, .int .i64 ov, .int .i64 re, .bool false] 24)).alloc (.cells #[.int .i64 t, .int .i64 x, .bool g] 26)) #[.int .i64 0, .int .i64 0, .slice none 0 0, .int .i64 0, .int .i64 0, .bool false] 24 (w.heap.size + 1 + 1) (by simp))
  go_enter Try.func14, Try.ntmps14
  go_wp2_with fail
  refine (rvalid_any ca af (some ⟨b, off, none⟩) (k + 1) cap M ov re false _ (HM.out.new ((((new0 w).alloc _).alloc _).alloc _)) hn).mono ?_
  rw [HV.out]
  rintro e w1 ⟨rfl, g1⟩
  have A1 := Lib.hid (A1.out.new g1)
  have B1 := Lib.hid (B1.out.new g1)
  have C1 := Lib.hid (C1.out.new g1)
  obtain ⟨k0, k1, k2, k3, k4, k5, kf, kz⟩ := A1.out.c6
  obtain ⟨l0, l1, l2, lf, lz⟩ := B1.out.c3
  obtain ⟨m0, m1, m2, m3, m4, m5, mf, mz⟩ := C1.out.c6
  have H1 := Lib.hid (show New w w1 from New.trans ((((new0 w).alloc _).alloc _).alloc _) g1)
  clear g1
  go_wp2_with fail
  clear ho
  obtain ⟨d0, d1, d2⟩ := (HSM.out.new H1.out).2 k (by omega)
  have hbz : b < w1.heap.size := (HSM.out.new H1.out).1
  have hk0 : (0 : Int) < (k : Int) + 1 := by omega
  have hk1 : (k : Int) < (k : Int) + 1 := by omega
  have esub : IntKind.i64.wrap ((k : Int) + 1 - 1) = k := by rw [IntWalk.i64_in _ (by omega)]; omega
  refine (rsam_any t x g _).mono ?_
  rw [HO.out]
  rintro e w2 ⟨rfl, cs, rfl⟩
  go_wp2_with fail
  go_quiet (fail)
  go_wp2_with fail
  refine bodyPost_ret (v := .tuple #[.agg #[.int .i64 0, .int .i64 0, .slice none 0 0, .int .i64 0, .int .i64 0, .bool false], .int .i64 15]) (by go_light; simp [results, Try.results14, go_sem, *]) rfl ?_
  exact ⟨_, by rw [HE.out], by rw [HE.out]; first | exact bz_of _ | (unfold resB; rw [if_neg (by first | assumption | decide)]; exact bz_of _), by repeat (first | with_reducible exact new0 _ | with_reducible apply New.alloc | with_reducible apply New.drewN | with_reducible apply New.drew | (with_reducible refine New.setCell ?_ (by simp <;> omega) _) | (with_reducible refine New.trans ?_ H1.out))⟩
end Go.Proofs.Ytedbjnojogjnkaa
