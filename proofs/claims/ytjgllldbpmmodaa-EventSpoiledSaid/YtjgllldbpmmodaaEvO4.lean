/-
  What the reckoner's operations on values say of the model's: parts, places, slices.
-/
import Derived.Test.YtjgllldbpmmodaaEvO3
namespace Go.Ev
open Go.RowKit
set_option linter.unusedSimpArgs false

theorem nth_get : ∀ {cs : List PV} {i : Nat} {v : PV}, nth cs i = some v → i < len cs := nth_lt
section
variable {P : Program} {E : Env} (ok : EnvOk P E)
include ok
theorem part_ok {σ : Sg} {w : World} {t : TypeId} {cs : List PV} {arr : Array Value} {off : Nat} {v : PV} (hc : VRs σ cs arr.toList) (h : part E t cs off = some v) : ∃ u, (Go.part t arr off).run P w = .ok u w ∧ VR σ v u := by
  unfold part at h
  split at h
  · rename_i i hi
    have e := ok.ty t i hi
    subst e
    split at h
    · rename_i ha
      split at h
      · rename_i vs hv
        cases h
        obtain ⟨I, hI, hsz, -, -, -⟩ := mk_info (P := P) (t := t) (by intro e; rw [e] at ha; cases ha)
        obtain ⟨h1, h2⟩ := cut_spec hv
        refine ⟨.agg (arr.extract off (off + I.size)), by simp [Go.part, run_isAgg w ha, run_size w hI], .agg _ _ ?_⟩
        have hl := hc.length
        have hl' : arr.size = len cs := hl
        rw [hsz] at h1
        have hroom : off + I.size ≤ arr.size ∨ I.size = 0 := by
          by_cases h0 : I.size = 0
          · exact .inr h0
          · obtain ⟨x, h3, _⟩ := h2 (I.size - 1) (by omega)
            have := nth_lt h3
            omega
        refine vrs_of _ _ (by simp; omega) fun j x hx => ?_
        have hj := nth_lt hx
        obtain ⟨y, h3, h4⟩ := h2 j (by omega)
        rw [hx] at h4
        cases h4
        obtain ⟨u, h5, h6⟩ := hc.get h3
        refine ⟨u, ?_, h6⟩
        simp only [Array.getElem?_toList] at h5 ⊢
        rw [Array.getElem?_extract]
        rw [if_pos (by omega)]
        exact h5
      · cases h
    · rename_i ha
      obtain ⟨u, h1, h2⟩ := hc.get h
      refine ⟨u, ?_, h2⟩
      simp only [Array.getElem?_toList] at h1
      simp [Go.part, run_isAgg w ha, h1]
    · cases h
  · cases h

theorem oField_ok {H : Heap} {fr : Nat} {s : TypeId} {v : PV} {f : Nat} {K : Kon} (h : oField E H fr s v f K) : ∃ r, K r H fr ∧ ∀ σ w u, VR σ v u → ∃ x, (Instr.field s u f).run P w = .ok x w ∧ VR σ r x := by
  unfold oField at h
  split at h
  · rename_i cs i hi
    have e := ok.ty s i hi
    subst e
    split at h
    · rename_i fs hfs
      split at h
      · rename_i off t hn
        split at h
        · rename_i r hr
          obtain ⟨I, hI, -, -, -, hd⟩ := mk_info (P := P) (t := s) (by intro e; rw [e] at hfs; cases hfs)
          rw [hd] at hfs
          obtain ⟨gs, hu, rfl⟩ := mkD_struct hfs
          refine ⟨r, h, fun σ w u hv => ?_⟩
          cases hv with
          | agg _ vs hvs =>
          obtain ⟨x, h1, h2⟩ := part_ok ok (w := w) hvs hr
          refine ⟨x, ?_, h2⟩
          rw [nthD_get] at hn
          simp only [List.getElem?_map, Option.map_eq_some_iff, Prod.mk.injEq] at hn
          obtain ⟨g, hg, e1, e2⟩ := hn
          simp only [Array.getElem?_toList] at hg
          simp [Instr.field, run_underlying hu, hg, asAgg, e1, e2, h1]
        · exact h.elim
      · exact h.elim
    · exact h.elim
  · exact h.elim
omit ok in
theorem oExtract_ok {H : Heap} {fr : Nat} {v : PV} {i : Nat} {K : Kon} (h : oExtract H fr v i K) : ∃ r, K r H fr ∧ ∀ σ w u, VR σ v u → ∃ x, (Instr.extract u i).run P w = .ok x w ∧ VR σ r x := by
  unfold oExtract at h
  split at h
  · split at h
    · rename_i vs v hv
      refine ⟨_, h, fun σ w u hu => ?_⟩
      cases hu with
      | tup _ us hus =>
      obtain ⟨x, h1, h2⟩ := hus.get hv
      refine ⟨x, ?_, h2⟩
      simp only [Array.getElem?_toList] at h1
      simp [Instr.extract, h1]
    · exact h.elim
  · exact h.elim
theorem placeS_ok {fs : List (Nat × TypeId)} {i off n : Nat} (h : placeS E fs i = some (off, n)) : ∃ t I, fs[i]? = some (off, t) ∧ P.info? t = some I ∧ I.size = n := by
  unfold placeS at h
  split at h
  · rename_i o t hn
    split at h
    · rename_i m hj
      simp only [Option.some.injEq, Prod.mk.injEq] at h
      obtain ⟨rfl, rfl⟩ := h
      rw [nthD_get] at hn
      obtain ⟨I, h1, h2⟩ := szT_ok ok hj
      exact ⟨t, I, hn, h1, h2⟩
    · cases h
  · cases h
theorem oFieldAddr_ok {H : Heap} {fr : Nat} {s : TypeId} {v : PV} {f : Nat} {K : Kon} (h : oFieldAddr E H fr s v f K) : ∃ r, K r H fr ∧ ∀ σ w u, VR σ v u → ∃ x, (Instr.fieldAt s u f).run P w = .ok x w ∧ VR σ r x := by
  unfold oFieldAddr at h
  split at h
  · rename_i a i hi
    have e := ok.ty s i hi
    subst e
    split at h
    · rename_i fs hfs
      split at h
      · rename_i off n hn
        obtain ⟨I, hI, -, -, -, hd⟩ := mk_info (P := P) (t := s) (by intro e; rw [e] at hfs; cases hfs)
        rw [hd] at hfs
        obtain ⟨gs, hu, rfl⟩ := mkD_struct hfs
        obtain ⟨t, J, h1, h2, h3⟩ := placeS_ok ok hn
        refine ⟨_, h, fun σ w u hv => ?_⟩
        cases hv with
        | ptr _ rb hr =>
        refine ⟨.pointer (some ((⟨a.nm, a.st, a.ix, off + a.off⟩ : PA).at rb)), ?_, .ptr _ rb hr⟩
        simp only [List.getElem?_map, Option.map_eq_some_iff, Prod.mk.injEq] at h1
        obtain ⟨g, hg, e1, e2⟩ := h1
        simp only [Array.getElem?_toList] at hg
        subst e2
        simp only [Instr.fieldAt, Sem.run_bind, run_underlying hu, Result.andThen_ok, hg, Instr.sureAddr, Sem.run_pure, fieldPlace, run_size w h2, h3]
        simp [PA.at, add_at, pos_eq, e1, Nat.add_comm, Nat.add_left_comm, Nat.add_assoc]
      · exact h.elim
    · exact h.elim
  · exact h.elim
omit ok in
theorem span_ok {σ : Sg} {v : PV} {u : Value} {a : PA} {n : Nat} (h : spanOf v = some (a, n)) (hv : VR σ v u) : ∃ A c, u = .slice A n c ∧ n ≤ c ∧ (0 < n → ∃ rb, σ a.nm = some rb ∧ A = some (a.at rb)) := by
  cases hv <;> simp only [spanOf, Option.some.injEq, Prod.mk.injEq, reduceCtorEq] at h
  case loose b m A c hc hk => obtain ⟨rfl, rfl⟩ := h; exact ⟨A, c, rfl, hc, hk⟩
  case sl b m rb c hc hk => obtain ⟨rfl, rfl⟩ := h; exact ⟨_, c, rfl, hc, fun _ => ⟨rb, hk, rfl⟩⟩
  case own0 nm st A => obtain ⟨rfl, rfl⟩ := h; exact ⟨A, 0, rfl, Nat.le_refl _, fun h => absurd h (by omega)⟩
  case own nm st m rb c hr h0 hc hk =>
    obtain ⟨rfl, rfl⟩ := h
    refine ⟨_, c, rfl, hc, fun _ => ⟨rb, hr, ?_⟩⟩
    simp [PA.at, pos_eq]
theorem oIndexAddr_ok {H : Heap} {fr : Nat} {t : TypeId} {x ix : PV} {K : Kon} (h : oIndexAddr cond E H fr t x ix K) : ∃ r, K r H fr ∧ ∀ σ w u iu, VR σ x u → VR σ ix iu → ∃ y, (Instr.indexAt t u iu).run P w = .ok y w ∧ VR σ r y := by
  unfold oIndexAddr at h
  split at h
  · rename_i ti k i hti
    have e := ok.ty t ti hti
    subst e
    split at h
    · rename_i n e hd0
      split at h
      · rename_i a sz hj
        obtain ⟨hc, h⟩ := cond_t h
        have hc : 0 ≤ i ∧ i < n := by simpa using hc
        obtain ⟨I, hI, -, -, -, hd⟩ := mk_info (P := P) (t := t) (by intro e; rw [e] at hd0; cases hd0)
        rw [hd] at hd0
        have hu := mkD_array hd0
        obtain ⟨J, hJ, hsz⟩ := szT_ok ok hj
        refine ⟨_, h, fun σ w u iu hx hi => ?_⟩
        cases hi
        cases hx with
        | ptr _ rb hr =>
        refine ⟨.pointer (some ((⟨a.nm, a.st, a.ix, mulc i.toNat sz + a.off⟩ : PA).at rb)), ?_, .ptr _ rb hr⟩
        simp only [Instr.indexAt, asIntOf, Sem.run_bind, run_underlying hu, Result.andThen_ok, Instr.sureAddr, Sem.run_pure, pure_bind]
        simp only [hc, and_self, if_true, Sem.run_bind, run_size w hJ, Result.andThen_ok, Sem.run_pure, hsz]
        simp [PA.at, add_at, pos_eq, mulc_eq, Nat.add_comm, Nat.add_left_comm, Nat.add_assoc]
      · exact h.elim
    · rename_i e hd0
      split at h
      · rename_i a n sz hs hj
        split at h
        · rename_i hst
          obtain ⟨hc, h⟩ := cond_t h
          have hc : 0 ≤ i ∧ i < n := by simpa using hc
          have hst := Nat.eq_of_beq_eq_true hst
          obtain ⟨I, hI, -, -, -, hd⟩ := mk_info (P := P) (t := t) (by intro e; rw [e] at hd0; cases hd0)
          rw [hd] at hd0
          have hu := mkD_slice hd0
          obtain ⟨J, hJ, hsz⟩ := szT_ok ok hj
          refine ⟨_, h, fun σ w u iu hx hi => ?_⟩
          cases hi
          obtain ⟨A, c, rfl, hnc, hA⟩ := span_ok hs hx
          obtain ⟨rb, hr, rfl⟩ := hA (by omega)
          refine ⟨.pointer (some ((⟨a.nm, a.st, i.toNat + a.ix, a.off⟩ : PA).at rb)), ?_, .ptr _ rb hr⟩
          simp only [Instr.indexAt, asIntOf, Sem.run_bind, run_underlying hu, Result.andThen_ok, Sem.run_pure, pure_bind]
          simp only [hc, and_self, if_true, Sem.run_bind, run_size w hJ, Result.andThen_ok, Sem.run_pure, hsz, ← hst]
          simp [PA.at, add_at, pos_eq, Nat.add_mul, Nat.add_comm, Nat.add_left_comm, Nat.add_assoc]
        · exact h.elim
      · exact h.elim
    · exact h.elim
  · exact h.elim
theorem oIndex_ok {H : Heap} {fr : Nat} {t : TypeId} {x ix : PV} {K : Kon} (h : oIndex cond E H fr t x ix K) : ∃ r, K r H fr ∧ ∀ σ w u iu, VR σ x u → VR σ ix iu → ∃ y, (Instr.index t u iu).run P w = .ok y w ∧ VR σ r y := by
  unfold oIndex at h
  split at h
  · rename_i ti cs k i hti
    have e := ok.ty t ti hti
    subst e
    split at h
    · rename_i n e hd0
      split at h
      · rename_i sz hj
        obtain ⟨hc, h⟩ := cond_t h
        have hc : 0 ≤ i ∧ i < n := by simpa using hc
        split at h
        · rename_i v hv
          obtain ⟨I, hI, -, -, -, hd⟩ := mk_info (P := P) (t := t) (by intro e; rw [e] at hd0; cases hd0)
          rw [hd] at hd0
          have hu := mkD_array hd0
          obtain ⟨J, hJ, hsz⟩ := szT_ok ok hj
          refine ⟨v, h, fun σ w u iu hx hi => ?_⟩
          cases hi
          cases hx with
          | agg _ vs hvs =>
          obtain ⟨y, h1, h2⟩ := part_ok ok (w := w) hvs hv
          refine ⟨y, ?_, h2⟩
          simp only [Instr.index, asIntOf, Sem.run_bind, run_underlying hu, Result.andThen_ok, Sem.run_pure, pure_bind]
          simp only [hc, and_self, if_true, Sem.run_bind, run_size w hJ, Result.andThen_ok, hsz, h1]
        · exact h.elim
      · exact h.elim
    · exact h.elim
  · rename_i ti s k i hti
    have e := ok.ty t ti hti
    subst e
    split at h
    · rename_i hd0
      obtain ⟨hc, h⟩ := cond_t h
      have hc : 0 ≤ i ∧ i < s.size := by simpa using hc
      obtain ⟨I, hI, -, -, -, hd⟩ := mk_info (P := P) (t := t) (by intro e; rw [e] at hd0; cases hd0)
      rw [hd] at hd0
      have hu := mkD_string hd0
      refine ⟨_, h, fun σ w u iu hx hi => ?_⟩
      cases hi
      cases hx
      have hlt : i.toNat < s.size := by omega
      refine ⟨_, ?_, .int _ _⟩
      simp only [Instr.index, asIntOf, Sem.run_bind, run_underlying hu, Result.andThen_ok, Sem.run_pure, pure_bind]
      have e1 : s[i.toNat]? = some s[i.toNat] := getElem?_pos s i.toNat hlt
      have e2 : s.data.toList.getD i.toNat 0 = s[i.toNat] := by
        have hl : i.toNat < s.data.toList.length := hlt
        rw [List.getD_eq_getElem?_getD, List.getElem?_eq_getElem hl]
        rfl
      simp [hc, e1, keys, e2]
      rfl
    · exact h.elim
  · exact h.elim
end
end Go.Ev
