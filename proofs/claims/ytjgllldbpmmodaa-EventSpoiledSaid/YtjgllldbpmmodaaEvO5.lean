/-
  What the reckoner's operations on values say of the model's: slices, conversions, arithmetic, comparisons.
-/
import Derived.Test.YtjgllldbpmmodaaEvO4
namespace Go.Ev
open Go.RowKit
set_option linter.unusedSimpArgs false

section
variable {P : Program}
theorem keq_eq {k k' : IntKind} (h : keq k k' = true) : k = k' := by cases k <;> cases k' <;> first | rfl | cases h
theorem wrap_in (k : IntKind) (n : Int) (h : k.min ≤ n ∧ n ≤ k.max) : k.wrap n = n := by
  cases k
  · exact IntWalk.i8_in n (by simpa [IntKind.min, IntKind.max, IntKind.signed, IntKind.bits] using h)
  · exact IntWalk.i16_in n (by simpa [IntKind.min, IntKind.max, IntKind.signed, IntKind.bits] using h)
  · exact IntWalk.i32_in n (by simpa [IntKind.min, IntKind.max, IntKind.signed, IntKind.bits] using h)
  · exact IntWalk.i64_in n (by simpa [IntKind.min, IntKind.max, IntKind.signed, IntKind.bits] using h)
  · exact IntWalk.u8_in n (by simpa [IntKind.min, IntKind.max, IntKind.signed, IntKind.bits] using h)
  · exact IntWalk.u16_in n (by simpa [IntKind.min, IntKind.max, IntKind.signed, IntKind.bits] using h)
  · exact IntWalk.u32_in n (by simpa [IntKind.min, IntKind.max, IntKind.signed, IntKind.bits] using h)
  · exact IntWalk.u64_in n (by simpa [IntKind.min, IntKind.max, IntKind.signed, IntKind.bits] using h)
theorem lim_wrap {k : IntKind} {n : Int} (h : lim k n = true) : k.wrap n = n := wrap_in k n (by simpa [lim] using h)

theorem bound_some {w : World} {k : IntKind} {n : Int} {y : Nat} {c : BoundsCode} (h : 0 ≤ n ∧ n ≤ y) : (Instr.sliceBound (.int k n) y c).run P w = .ok n.toNat w := by
  simp [Instr.sliceBound, asIntOf, h]
/-- The bounds of a slice expression. -/
theorem bounds_ok {w : World} (isS : Bool) (n c : Nat) (lo hi : Option Value) (l h : Option Int) (hl : ∀ v, lo = some v → ∃ k m, l = some m ∧ v = .int k m) (hl0 : lo = none → l = none) (hh : ∀ v, hi = some v → ∃ k m, h = some m ∧ v = .int k m) (hh0 : hi = none → h = none)
    (hc : n ≤ c) (b : 0 ≤ l.getD 0 ∧ l.getD 0 ≤ h.getD n ∧ h.getD n ≤ n) : (Instr.sliceBounds isS n c lo hi none).run P w = .ok ((l.getD 0).toNat, (h.getD n).toNat, c) w := by
  cases hi with
  | none =>
    have e := hh0 rfl
    subst e
    simp only [Option.getD_none] at b
    cases lo with
    | none =>
      have e := hl0 rfl
      subst e
      simp [Instr.sliceBounds]
    | some v =>
      obtain ⟨k, m, rfl, rfl⟩ := hl v rfl
      simp only [Option.getD_some] at b
      simp [Instr.sliceBounds, bound_some (P := P) (w := w) (k := k) (n := m) (y := n) (by omega)]
  | some v =>
    obtain ⟨k, m, rfl, rfl⟩ := hh v rfl
    simp only [Option.getD_some] at b
    cases lo with
    | none =>
      have e := hl0 rfl
      subst e
      simp only [Option.getD_none] at b
      simp [Instr.sliceBounds, bound_some (P := P) (w := w) (k := k) (n := m) (y := c) (by omega)]
    | some v =>
      obtain ⟨k', m', rfl, rfl⟩ := hl v rfl
      simp only [Option.getD_some] at b
      simp [Instr.sliceBounds, bound_some (P := P) (w := w) (k := k) (n := m) (y := c) (by omega), bound_some (P := P) (w := w) (k := k') (n := m') (y := m.toNat) (by omega)]
theorem optInt_ok {σ : Sg} {T : Tmps} {ρ : Operand → Value} {o : Option Operand} {l : Option Int} (h : optInt T o = some l) (hρ : ∀ x, o = some x → VR σ (ev T x) (ρ x)) :
    (∀ v, o.map ρ = some v → ∃ k m, l = some m ∧ v = .int k m) ∧ (o.map ρ = none → l = none) := by
  cases o with
  | none => simp [optInt] at h; subst h; simp
  | some x =>
    have hv := hρ x rfl
    simp only [optInt] at h
    cases hx : ev T x <;> rw [hx] at h <;> try (cases h; done)
    rename_i k n
    simp only [Option.some.injEq] at h
    subst h
    rw [hx] at hv
    generalize hu : ρ x = u at hv
    cases hv
    exact ⟨fun v hv => ⟨k, n, rfl, by simpa [hu] using hv.symm⟩, by simp⟩
variable {E : Env} (ok : EnvOk P E)
include ok
theorem oSliceA_ok {H : Heap} {fr : Nat} {t e : TypeId} {x : PV} {l h : Option Int} {K : Kon} (hu : P.underlying t = some (.slice e)) (hk : oSliceA cond E H fr e x l h K) : ∃ r, K r H fr ∧ ∀ σ w u lo hi, VR σ x u → (∀ v, lo = some v → ∃ k m, l = some m ∧ v = .int k m) → (lo = none → l = none) → (∀ v, hi = some v → ∃ k m, h = some m ∧ v = .int k m) → (hi = none → h = none) →
    ∃ y, (Instr.sliceAt t u lo hi none).run P w = .ok y w ∧ VR σ r y := by
  unfold oSliceA at hk
  split at hk
  · rename_i a n sz hs hj
    split at hk
    · rename_i hst
      obtain ⟨hb, hk⟩ := cond_t hk
      have hb : 0 ≤ l.getD 0 ∧ l.getD 0 ≤ h.getD n ∧ h.getD n ≤ n := by simpa using hb
      have hst := Nat.eq_of_beq_eq_true hst
      obtain ⟨J, hJ, hsz⟩ := szT_ok ok hj
      refine ⟨_, hk, fun σ w u lo hi hx h1 h2 h3 h4 => ?_⟩
      obtain ⟨A, c, rfl, hnc, hA⟩ := span_ok hs hx
      refine ⟨.slice (if c = (l.getD 0).toNat then A else A.map (·.add ((l.getD 0).toNat * J.size))) ((h.getD n).toNat - (l.getD 0).toNat) (c - (l.getD 0).toNat), ?_, .loose _ _ _ _ (by omega) fun h0 => ?_⟩
      · simp [Instr.sliceAt, Instr.slice, run_underlying hu, bounds_ok true n c lo hi l h h1 h2 h3 h4 hnc hb, run_size w hJ]
      · obtain ⟨rb, hr, rfl⟩ := hA (by omega)
        refine ⟨rb, hr, ?_⟩
        rw [if_neg (by omega), hsz, ← hst]
        simp [PA.at, add_at, pos_eq, Nat.add_mul, Nat.add_comm, Nat.add_left_comm, Nat.add_assoc]
    · exact hk.elim
  · exact hk.elim
theorem oSliceO_ok {H : Heap} {fr : Nat} {t e : TypeId} {nm st n : Nat} {h : Option Int} {K : Kon} (hu : P.underlying t = some (.slice e)) (hk : oSliceO cond E H fr e nm st n h K) : ∃ r, K r H fr ∧ ∀ σ w u lo hi, VR σ (.own nm st n) u → (∀ v, lo = some v → ∃ k m, (none : Option Int) = some m ∧ v = .int k m) → (lo = none → (none : Option Int) = none) → (∀ v, hi = some v → ∃ k m, h = some m ∧ v = .int k m) → (hi = none → h = none) →
    ∃ y, (Instr.sliceAt t u lo hi none).run P w = .ok y w ∧ VR σ r y := by
  unfold oSliceO at hk
  split at hk
  · rename_i sz hs
    split at hk
    · rename_i hst
      obtain ⟨hb, hk⟩ := cond_t hk
      have hb : 0 ≤ h.getD n ∧ h.getD n ≤ n := by simpa using hb
      obtain ⟨J, hJ, hsz⟩ := szT_ok ok hs
      refine ⟨_, hk, fun σ w u lo hi hx h1 h2 h3 h4 => ?_⟩
      cases hx with
      | own0 _ _ A =>
        have e0 : (h.getD ((0 : Nat) : Int)).toNat = 0 := by omega
        rw [e0]
        have hbo := bounds_ok (P := P) (w := w) true 0 0 lo hi none h h1 h2 h3 h4 (Nat.le_refl _) ⟨by simp, by simpa using hb.1, hb.2⟩
        have e1 : h.getD ((0 : Nat) : Int) = 0 := by omega
        rw [e1] at hbo
        exact ⟨.slice A 0 0, by simp [Instr.sliceAt, Instr.slice, run_underlying hu, hbo, run_size w hJ], .own0 _ _ A⟩
      | own _ _ _ rb c hr h0 hc hcap =>
        have hbo := bounds_ok (P := P) (w := w) true n c lo hi none h h1 h2 h3 h4 hc ⟨by simp, by simpa using hb.1, hb.2⟩
        refine ⟨.slice (some ⟨rb.blk, rb.base, none⟩) (h.getD n).toNat c, ?_, .own _ _ _ rb c hr h0 (by omega) hcap⟩
        simp [Instr.sliceAt, Instr.slice, run_underlying hu, hbo, run_size w hJ, Addr.add]
    · exact hk.elim
  · exact hk.elim
theorem oSlice2_ok {H : Heap} {fr : Nat} {t : TypeId} {x : PV} {l h : Option Int} {K : Kon} (hk : oSlice2 cond E H fr t x l h K) : ∃ r, K r H fr ∧ ∀ σ w u lo hi, VR σ x u → (∀ v, lo = some v → ∃ k m, l = some m ∧ v = .int k m) → (lo = none → l = none) → (∀ v, hi = some v → ∃ k m, h = some m ∧ v = .int k m) → (hi = none → h = none) →
    ∃ y, (Instr.sliceAt t u lo hi none).run P w = .ok y w ∧ VR σ r y := by
  unfold oSlice2 at hk
  split at hk
  · exact hk.elim
  rename_i ti hti
  have e := ok.ty t ti hti
  subst e
  have hd : (mkTy P t).d ≠ .other → (mkTy P t).d = mkD P t := fun h => let ⟨_, _, _, _, _, h⟩ := mk_info h; h
  split at hk
  · rename_i s hd0
    obtain ⟨hb, hk⟩ := cond_t hk
    have hb : 0 ≤ l.getD 0 ∧ l.getD 0 ≤ h.getD s.size ∧ h.getD s.size ≤ s.size := by simpa using hb
    have hu := mkD_string ((hd (by simp [hd0])).symm.trans hd0)
    refine ⟨_, hk, fun σ w u lo hi hx h1 h2 h3 h4 => ?_⟩
    cases hx
    exact ⟨_, by simp [Instr.sliceAt, Instr.slice, run_underlying hu, bounds_ok false s.size s.size lo hi l h h1 h2 h3 h4 (Nat.le_refl _) hb], .str _⟩
  · rename_i n e a hd0
    split at hk
    · rename_i sz hs
      obtain ⟨hb, hk⟩ := cond_t hk
      have hb : 0 ≤ l.getD 0 ∧ l.getD 0 ≤ h.getD n ∧ h.getD n ≤ n := by simpa using hb
      have hu := mkD_array ((hd (by simp [hd0])).symm.trans hd0)
      obtain ⟨J, hJ, hsz⟩ := szT_ok ok hs
      refine ⟨_, hk, fun σ w u lo hi hx h1 h2 h3 h4 => ?_⟩
      cases hx with
      | ptr _ rb hr =>
      refine ⟨.slice (some (if n = (l.getD 0).toNat then a.at rb else (a.at rb).add ((l.getD 0).toNat * J.size))) ((h.getD n).toNat - (l.getD 0).toNat) (n - (l.getD 0).toNat), ?_, .loose _ _ _ _ (by omega) fun h0 => ⟨rb, hr, ?_⟩⟩
      · simp [Instr.sliceAt, run_underlying hu, Instr.sureAddr, bounds_ok false n n lo hi l h h1 h2 h3 h4 (Nat.le_refl _) hb, run_size w hJ]
      · rw [if_neg (by omega), hsz]
        simp [PA.at, add_at, pos_eq, Nat.add_comm, Nat.add_left_comm, Nat.add_assoc]
    · exact hk.elim
  · rename_i e hd0
    split at hk
    · rename_i sz hs
      obtain ⟨hb, hk⟩ := cond_t hk
      have hb : l.getD 0 = 0 ∧ h.getD 0 = 0 := by simpa using hb
      have hu := mkD_slice ((hd (by simp [hd0])).symm.trans hd0)
      obtain ⟨J, hJ, hsz⟩ := szT_ok ok hs
      refine ⟨_, hk, fun σ w u lo hi hx h1 h2 h3 h4 => ?_⟩
      cases hx
      have hbo := bounds_ok (P := P) (w := w) true 0 0 lo hi l h h1 h2 h3 h4 (Nat.le_refl _) ⟨by omega, by first | (simp; done) | (simp; omega), by first | (simp; done) | (simp; omega)⟩
      have e2 : h.getD ((0 : Nat) : Int) = 0 := hb.2
      rw [hb.1, e2] at hbo
      exact ⟨_, by simp [Instr.sliceAt, Instr.slice, run_underlying hu, hbo, run_size w hJ], .nils⟩
    · exact hk.elim
  · rename_i e hd0
    split at hk
    · rename_i sz hs
      obtain ⟨hb, hk⟩ := cond_t hk
      have hb : l.getD 0 = 0 ∧ h.getD 0 = 0 := by simpa using hb
      have hu := mkD_slice ((hd (by simp [hd0])).symm.trans hd0)
      obtain ⟨J, hJ, hsz⟩ := szT_ok ok hs
      refine ⟨_, hk, fun σ w u lo hi hx h1 h2 h3 h4 => ?_⟩
      cases hx
      have hbo := bounds_ok (P := P) (w := w) true 0 0 lo hi l h h1 h2 h3 h4 (Nat.le_refl _) ⟨by omega, by first | (simp; done) | (simp; omega), by first | (simp; done) | (simp; omega)⟩
      have e2 : h.getD ((0 : Nat) : Int) = 0 := hb.2
      rw [hb.1, e2] at hbo
      exact ⟨_, by simp [Instr.sliceAt, Instr.slice, run_underlying hu, hbo, run_size w hJ]; rfl, .emp _⟩
    · exact hk.elim
  · rename_i e nm st n hd0
    have hu := mkD_slice ((hd (by simp [hd0])).symm.trans hd0)
    split at hk
    · exact oSliceO_ok ok hu hk
    · exact oSliceA_ok ok hu hk
  · rename_i e v hd0 hn1 hn2 hn3
    exact oSliceA_ok ok (mkD_slice ((hd (by simp [hd0])).symm.trans hd0)) hk
  · exact hk.elim
omit ok in
theorem slice3_zero {w : World} {n c : Nat} {k k' : IntKind} : (Instr.sliceBounds true n c none (some (.int k 0)) (some (.int k' 0))).run P w = .ok (0, 0, 0) w := by
  simp [Instr.sliceBounds, bound_some (P := P) (w := w) (k := k') (n := 0) (y := c) (by omega), bound_some (P := P) (w := w) (k := k) (n := 0) (y := 0) (by omega)]
theorem oSlice3_ok {H : Heap} {fr : Nat} {t : TypeId} {x : PV} {l : Option Int} {h c : Int} {K : Kon} (hk : oSlice3 cond E H fr t x l h c K) : l = none ∧ ∃ r, K r H fr ∧ ∀ σ w u k k', VR σ x u →
    ∃ y, (Instr.sliceAt t u none (some (.int k h)) (some (.int k' c))).run P w = .ok y w ∧ VR σ r y := by
  unfold oSlice3 at hk
  split at hk
  · rename_i ti hti
    have e := ok.ty t ti hti
    subst e
    refine ⟨rfl, ?_⟩
    split at hk
    · rename_i e hd0
      split at hk
      · rename_i sz hs
        have hd : (mkTy P t).d ≠ .other → (mkTy P t).d = mkD P t := fun h => let ⟨_, _, _, _, _, h⟩ := mk_info h; h
        have hu := mkD_slice ((hd (by simp [hd0])).symm.trans hd0)
        obtain ⟨J, hJ, hsz⟩ := szT_ok ok hs
        split at hk
        · obtain ⟨hb, hk⟩ := cond_t hk
          obtain ⟨rfl, rfl⟩ : h = 0 ∧ c = 0 := by simpa using hb
          refine ⟨_, hk, fun σ w u k k' hx => ?_⟩
          cases hx
          exact ⟨_, by simp [Instr.sliceAt, Instr.slice, run_underlying hu, slice3_zero, run_size w hJ], .nils⟩
        · obtain ⟨hb, hk⟩ := cond_t hk
          obtain ⟨rfl, rfl⟩ : h = 0 ∧ c = 0 := by simpa using hb
          refine ⟨_, hk, fun σ w u k k' hx => ?_⟩
          cases hx
          exact ⟨_, by simp [Instr.sliceAt, Instr.slice, run_underlying hu, slice3_zero, run_size w hJ]; rfl, .emp _⟩
        · split at hk
          · rename_i p hs
            obtain ⟨hb, hk⟩ := cond_t hk
            obtain ⟨rfl, rfl⟩ : h = 0 ∧ c = 0 := by simpa using hb
            refine ⟨_, hk, fun σ w u k k' hx => ?_⟩
            obtain ⟨A, c, rfl, hnc, hA⟩ := span_ok hs hx
            exact ⟨_, by simp [Instr.sliceAt, Instr.slice, run_underlying hu, slice3_zero, run_size w hJ]; rfl, .emp _⟩
          · exact hk.elim
      · exact hk.elim
    · exact hk.elim
  · exact hk.elim
theorem oSlice_ok {T : Tmps} {H : Heap} {fr : Nat} {t : TypeId} {x : Operand} {lo hi mx : Option Operand} {K : Kon} (hk : oSlice cond E T H fr t x lo hi mx K) : ∃ r, K r H fr ∧ ∀ σ w (ρ : Operand → Value), VR σ (ev T x) (ρ x) → (∀ y, lo = some y → VR σ (ev T y) (ρ y)) → (∀ y, hi = some y → VR σ (ev T y) (ρ y)) → (∀ y, mx = some y → VR σ (ev T y) (ρ y)) →
    ∃ y, (Instr.sliceAt t (ρ x) (lo.map ρ) (hi.map ρ) (mx.map ρ)).run P w = .ok y w ∧ VR σ r y := by
  unfold oSlice at hk
  split at hk
  · rename_i l h hl hh
    obtain ⟨r, h1, h2⟩ := oSlice2_ok ok hk
    refine ⟨r, h1, fun σ w ρ hx hlo hhi _ => ?_⟩
    obtain ⟨a1, a2⟩ := optInt_ok hl hlo
    obtain ⟨b1, b2⟩ := optInt_ok hh hhi
    exact h2 σ w (ρ x) (lo.map ρ) (hi.map ρ) hx a1 a2 b1 b2
  · rename_i l h m hl hh
    split at hk
    · rename_i k c hm
      obtain ⟨rfl, r, h1, h2⟩ := oSlice3_ok ok hk
      refine ⟨r, h1, fun σ w ρ hx hlo hhi hmx => ?_⟩
      obtain ⟨a1, a2⟩ := optInt_ok hl hlo
      obtain ⟨b1, b2⟩ := optInt_ok hh hhi
      have hmv := hmx m rfl
      rw [hm] at hmv
      generalize hq : ρ m = q at hmv
      cases hmv
      have el : lo.map ρ = none := by
        cases lo with
        | none => rfl
        | some v => obtain ⟨k, m, e, _⟩ := a1 (ρ v) rfl; cases e
      have eh : ∃ k', hi.map ρ = some (.int k' h) := by
        cases hi with
        | none => have := b2 rfl; cases this
        | some v => obtain ⟨k', m', e, e2⟩ := b1 (ρ v) rfl; cases e; exact ⟨k', by simp [e2]⟩
      obtain ⟨k', eh⟩ := eh
      rw [el, eh, Option.map_some, hq]
      exact h2 σ w (ρ x) k' k hx
    · exact hk.elim
  · exact hk.elim
theorem oConvert0_ok {H : Heap} {fr : Nat} {src dst : TypeId} {x : PV} {K : Kon} (h : oConvert0 cond E H fr src dst x K) : ∃ r, K r H fr ∧ ∀ σ w u, VR σ x u → ∃ y, (Go.convert src dst u).run P w = .ok y w ∧ VR σ r y := by
  unfold oConvert0 at h
  split at h
  · rename_i si j hsi hj
    have e := ok.ty _ _ hsi
    subst e
    have e := ok.ty _ _ hj
    subst e
    have hd : ∀ {t}, (mkTy P t).d ≠ .other → (mkTy P t).d = mkD P t := fun h => let ⟨_, _, _, _, _, h⟩ := mk_info h; h
    split at h
    · rename_i ks k k' n h1 h2
      have u1 := mkD_int ((hd (by simp [h1])).symm.trans h1)
      have u2 := mkD_int ((hd (by simp [h2])).symm.trans h2)
      split at h
      · obtain ⟨hl, h⟩ := cond_t h
        refine ⟨_, h, fun σ w u hx => ?_⟩
        cases hx
        exact ⟨_, by simp [Go.convert, run_underlying u1, run_underlying u2, Conv.intToInt, lim_wrap hl], .int _ _⟩
      · refine ⟨_, h, fun σ w u hx => ?_⟩
        cases hx
        exact ⟨_, by simp [Go.convert, run_underlying u1, run_underlying u2, Conv.intToInt], .int _ _⟩
    · rename_i s h1 h2
      have u1 := mkD_string ((hd (by simp [h1])).symm.trans h1)
      have u2 := mkD_string ((hd (by simp [h2])).symm.trans h2)
      refine ⟨_, h, fun σ w u hx => ?_⟩
      cases hx
      exact ⟨_, by simp [Go.convert, run_underlying u1, run_underlying u2], .str _⟩
    · exact h.elim
  · exact h.elim
end
section
variable {P : Program} {E : Env} (ok : EnvOk P E)
omit ok in
theorem oUn_ok {H : Heap} {fr : Nat} {op : UnOp} {x : PV} {K : Kon} (h : oUn cond H fr op x K) : ∃ r, K r H fr ∧ ∀ σ w u, VR σ x u → ∃ y, (Op.unary op u).run P w = .ok y w ∧ VR σ r y := by
  unfold oUn at h
  split at h
  · rename_i n
    refine ⟨_, h, fun σ w u hx => ?_⟩
    cases hx
    exact ⟨.int .u64 _, by simp [Op.unary, Op.intArith], .int _ _⟩
  · rename_i k n _
    obtain ⟨hl, h⟩ := cond_t h
    refine ⟨_, h, fun σ w u hx => ?_⟩
    cases hx
    have := lim_wrap hl
    exact ⟨.int k (-n), by simp [Op.unary, Op.intArith, this], .int _ _⟩
  · refine ⟨_, h, fun σ w u hx => ?_⟩
    cases hx
    exact ⟨_, by simp [Op.unary], .bool _⟩
  · refine ⟨_, h, fun σ w u hx => ?_⟩
    cases hx
    exact ⟨_, by simp [Op.unary], .tf _⟩
  · exact h.elim
omit ok in
theorem shI_ok {op : BinOp} {k : IntKind} {a b : Int} {K : PV → Prop} (h : shI cond op k a b K) : ∃ r, K r ∧ ∀ (k' : IntKind) σ w t, ∃ y, (Go.binOp op t (.int k a) (.int k' b)).run P w = .ok y w ∧ VR σ r y := by
  cases op <;> simp only [shI] at h <;> try exact h.elim
  · obtain ⟨hl, h⟩ := cond_f h
    have hl : ¬ b < 0 := by simpa using hl
    exact ⟨_, h, fun k' σ w t => ⟨_, by simp only [Go.binOp, Op.shift, if_neg hl, S.shlB, Sem.run_pure], .int _ _⟩⟩
  · obtain ⟨hl, h⟩ := cond_f h
    have hl : ¬ b < 0 := by simpa using hl
    exact ⟨_, h, fun k' σ w t => ⟨_, by simp only [Go.binOp, Op.shift, if_neg hl, S.shrB, Sem.run_pure], .int _ _⟩⟩
omit ok in
theorem binI_ok {op : BinOp} {k : IntKind} {a b : Int} {K : PV → Prop} (h : binI cond op k a b K) : ∃ r, K r ∧ ∀ σ w t, ∃ y, (Go.binOp op t (.int k a) (.int k b)).run P w = .ok y w ∧ VR σ r y := by
  cases op <;> simp only [binI] at h <;> try exact h.elim
  · obtain ⟨hl, h⟩ := cond_t h
    exact ⟨_, h, fun σ w t => ⟨_, by simp [Go.binOp, Op.intArith, lim_wrap hl], .int _ _⟩⟩
  · obtain ⟨hl, h⟩ := cond_t h
    exact ⟨_, h, fun σ w t => ⟨_, by simp [Go.binOp, Op.intArith, lim_wrap hl], .int _ _⟩⟩
  · obtain ⟨hl, h⟩ := cond_t h
    exact ⟨_, h, fun σ w t => ⟨_, by simp [Go.binOp, Op.intArith, lim_wrap hl], .int _ _⟩⟩
  · obtain ⟨h0, h⟩ := cond_f h
    obtain ⟨hl, h⟩ := cond_t h
    have h0 : ¬ b = 0 := by simpa using h0
    exact ⟨_, h, fun σ w t => ⟨_, by simp [Go.binOp, Op.intDiv, h0, lim_wrap hl], .int _ _⟩⟩
  · obtain ⟨h0, h⟩ := cond_f h
    have h0 : ¬ b = 0 := by simpa using h0
    exact ⟨_, h, fun σ w t => ⟨_, by simp [Go.binOp, Op.intDiv, h0], .int _ _⟩⟩
  · exact ⟨_, h, fun σ w t => ⟨_, by simp [Go.binOp, Op.intBits, S.andB], .int _ _⟩⟩
  · exact ⟨_, h, fun σ w t => ⟨_, by simp [Go.binOp, Op.intBits, S.orB], .int _ _⟩⟩
  · exact ⟨_, h, fun σ w t => ⟨_, by simp [Go.binOp, Op.intBits, S.xorB], .int _ _⟩⟩
  · obtain ⟨r, h1, h2⟩ := shI_ok (P := P) h
    exact ⟨r, h1, h2 k⟩
  · obtain ⟨r, h1, h2⟩ := shI_ok (P := P) h
    exact ⟨r, h1, h2 k⟩
  · exact ⟨_, h, fun σ w t => ⟨_, by simp [Go.binOp, Op.intBits, S.andNotB], .int _ _⟩⟩
  · exact ⟨_, h, fun σ w t => ⟨_, by simp [Go.binOp, Op.intCmp], .bool _⟩⟩
  · exact ⟨_, h, fun σ w t => ⟨_, by simp [Go.binOp, Op.intCmp], .bool _⟩⟩
  · exact ⟨_, h, fun σ w t => ⟨_, by simp [Go.binOp, Op.intCmp], .bool _⟩⟩
  · exact ⟨_, h, fun σ w t => ⟨_, by simp [Go.binOp, Op.intCmp], .bool _⟩⟩
  · exact ⟨_, h, fun σ w t => ⟨_, by simp [Go.binOp, Op.intCmp], .bool _⟩⟩
  · exact ⟨_, h, fun σ w t => ⟨_, by simp [Go.binOp, Op.intCmp], .bool _⟩⟩
omit ok in
theorem binS_ok {op : BinOp} {a b : ByteArray} {K : PV → Prop} (h : binS cond op a b K) : ∃ r, K r ∧ ∀ σ w t, ∃ y, (Go.binOp op t (.string a) (.string b)).run P w = .ok y w ∧ VR σ r y := by
  cases op <;> simp only [binS] at h <;> try exact h.elim
  · obtain ⟨hl, h⟩ := cond_t h
    have hl : ((a.size + b.size : Nat) : Int) ≤ 9223372036854775807 := by simpa using hl
    refine ⟨_, h, fun σ w t => ⟨_, ?_, .str _⟩⟩
    have : ¬ ((a.size + b.size : Nat) : Int) > IntKind.i64.max := by
      have e : IntKind.i64.max = 9223372036854775807 := by decide
      rw [e]
      omega
    simp only [Go.binOp, Op.stringOp, this, if_false, Sem.run_pure]
  all_goals exact ⟨_, h, fun σ w t => ⟨_, by simp only [Go.binOp, Op.stringOp, Sem.run_pure], .bool _⟩⟩
end
end Go.Ev
