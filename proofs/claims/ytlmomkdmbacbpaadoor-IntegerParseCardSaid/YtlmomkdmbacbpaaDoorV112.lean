/-
  The parts that the statement needs, 2 of 2.
-/
import Derived.Test.YtlmomkdmbacbpaaDoorV111
namespace Go.Ev
open Go.Proofs
set_option linter.unusedVariables false
set_option linter.unusedSimpArgs false
set_option maxRecDepth 100000
noncomputable abbrev w40 {α : Type} (g : ByteArray → α) (x : ByteArray × Unit) : α := g x.1
noncomputable def k40  : Con := ⟨40, [.one (.plain (.str))], w40 (fun st => decide (st.size ≤ 1000000)), w40 (fun st => (V40 st) ((S.parS st).1, (S.parS st).2.1, (S.parS st).2.2)), w40 (fun st => (N40 st) ((S.parS st).1, (S.parS st).2.1, (S.parS st).2.2)), fun _ _ => .dead⟩
theorem s40f (st w : ByteArray) (ng : Bool) (x : Int) (L : List Int) (hx : x ≤ 0) (hl : L.length ≤ 1000) (hd : ∀ y ∈ L, 0 ≤ y ∧ y < 1000000) (hv : S.valL L = S.decW w w.size) : Comes (q40 st) (.h0 w ng x L) (S.sgB ng (S.decW w w.size), 0, S.grp (S.decW w w.size)) := by
  have v0 := valL_nn' hd
  rw [← hv]
  apply Comes.of
  show Goes _ _ _
  rw [q40]
  skip
  have e1 : S.trim (S.mkl L.length fun j => S.at' L j) = S.grp (S.valL L) := by rw [mkl1_at, trim_grp hd]
  simp only [e1]
  refine goes_no (decide_eq_false (by omega)) ?_
  cases ng
  refine goes_no rfl ?_
  rotate_left
  refine goes_ok rfl ?_
  all_goals
    refine goes_ok (decide_eq_true (Nat.le_refl _)) ?_
    refine goes_ok (decide_eq_true (by omega)) ?_
    by_cases h0 : ((S.grp (S.valL L)).length : Int) = 0
    · refine goes_ok (by rw [h0]; rfl) (goes_inr.mpr ?_)
      rw [(fin_q v0 h0).1, (fin_q (c := true) v0 h0).2]
    · refine goes_no (by simpa using h0) (goes_inr.mpr ?_)
      rw [fin_q2 h0]
theorem s40i (st w : ByteArray) (ng : Bool) (a e : Nat) (L : List Int) (res : Rt40) (ha : a ≤ e ∧ e - a ≤ 6 ∧ e ≤ w.size ∧ e ≤ 1000) (hl : L.length ≤ 1000) (hw : ∀ j, j < w.size → 48 ≤ keys w j ∧ keys w j ≤ 57) (hC : Comes (q40 st) (.h0 w ng ((e : Int) - 6) (S.snoc L (S.decN (fun j => keys w (a + j) - 48) (e - a)))) res) : ∀ (k i : Nat), i + k = e - a → Comes (q40 st) (.h1 w ng (e : Int) (S.decN (fun j => keys w (a + j) - 48) i) ((S.subS w a e).size : Int) (i : Int) (S.mkl (S.subS w a e).size fun j => keys (S.subS w a e) j) L) res := by
  have hs : (S.subS w a e).size = e - a := sub_size ha.2.2.1
  intro k
  induction k with
  | zero =>
    intro i hi
    obtain rfl : i = e - a := by omega
    generalize S.decN (fun j => keys w (a + j) - 48) (e - a) = d at *
    apply Comes.of
    show Goes _ _ _
    rw [q40]
    skip
    simp only [hs]
    repeat' (first | with_reducible refine goes_if (fun h => ?_) (fun h => ?_) <;> (try simp only [SH] at h) | exact goes_none.mpr (by omega))
    all_goals first | (exfalso; omega) | exact hC
  | succ k ih =>
    intro i hi
    have ih := ih (i + 1) (by omega)
    have hd := hw (a + i) (by omega)
    have db := decN_b (f := fun j => keys w (a + j) - 48) (n := i) fun j hj => by have := hw (a + j) (by omega); (try dsimp only); omega
    have pb := p10_6 (n := i) (by omega)
    have e1 : S.decN (fun j => keys w (a + j) - 48) (i + 1) = S.decN (fun j => keys w (a + j) - 48) i * 10 + (keys w (a + i) - 48) := rfl
    rw [e1] at ih
    have ek : S.at' (S.mkl (S.subS w a e).size fun j => keys (S.subS w a e) j) i = keys w (a + i) := by rw [at_mkl (by omega)]; exact keys_sub ha.2.2.1 (by omega)
    generalize S.decN (fun j => keys w (a + j) - 48) i = d at *
    apply Comes.of
    show Goes _ _ _
    rw [q40]
    skip
    simp only [Int.toNat_natCast, ek, mkl_len]
    simp only [hs] at ih ⊢
    repeat' (first | with_reducible refine goes_if (fun h => ?_) (fun h => ?_) <;> (try simp only [SH, limu8] at h) | exact goes_none.mpr (by omega))
    all_goals first | (exfalso; omega) | exact ih
theorem s40o (st w : ByteArray) (ng : Bool) (hz : w.size ≤ 480) (hw : ∀ j, j < w.size → 48 ≤ keys w j ∧ keys w j ≤ 57) : ∀ (k e : Nat) (L : List Int), e ≤ k → e ≤ w.size → L.length + e ≤ 600 → (∀ y ∈ L, 0 ≤ y ∧ y < 1000000) → S.valL L + S.pw L.length * S.decW w e = S.decW w w.size → Comes (q40 st) (.h0 w ng (e : Int) L) (S.sgB ng (S.decW w w.size), 0, S.grp (S.decW w w.size)) := by
  intro k
  induction k with
  | zero =>
    intro e L hk he hl hd hv
    obtain rfl : e = 0 := by omega
    exact s40f st w ng _ L (by omega) (by omega) hd (by rw [← hv]; show S.valL L = S.valL L + S.pw L.length * 0; omega)
  | succ k ih =>
    intro e L hk he hl hd hv
    by_cases h0 : e = 0
    · subst h0
      exact s40f st w ng _ L (by omega) (by omega) hd (by rw [← hv]; show S.valL L = S.valL L + S.pw L.length * 0; omega)
    · have cut := decW_cut (w := w) (a := e - 6) (e := e) (by omega)
      have db := decN_b (f := fun j => keys w (e - 6 + j) - 48) (n := e - (e - 6)) fun j hj => by have := hw (e - 6 + j) (by omega); (try dsimp only); omega
      have pb := p10_6 (n := e - (e - 6)) (by omega)
      have hC : Comes (q40 st) (.h0 w ng ((e : Int) - 6) (S.snoc L (S.decN (fun j => keys w (e - 6 + j) - 48) (e - (e - 6))))) (S.sgB ng (S.decW w w.size), 0, S.grp (S.decW w w.size)) := by
        by_cases h6 : 6 ≤ e
        · have p6 : pT (e - (e - 6)) = 1000000 := by rw [show e - (e - 6) = 6 by omega]; decide
          rw [p6] at cut
          have := ih (e - 6) (S.snoc L (S.decN (fun j => keys w (e - 6 + j) - 48) (e - (e - 6)))) (by omega) (by omega) (by rw [snoc_len]; omega) (dig_snoc hd (by omega)) (by
            rw [← hv, cut, snoc_eq, valL_snoc, List.length_append]
            show _ + S.pw (L.length + 1) * _ = _
            have : S.pw (L.length + 1) = 1000000 * S.pw L.length := rfl
            rw [this, Int.mul_add, Int.mul_assoc, Int.mul_left_comm 1000000, Int.mul_comm 1000000]
            omega)
          rw [show ((e - 6 : Nat) : Int) = (e : Int) - 6 by omega] at this
          exact this
        · refine s40f st w ng _ _ (by omega) (by rw [snoc_len]; omega) (dig_snoc hd (by omega)) ?_
          rw [← hv, cut, snoc_eq, valL_snoc, show e - 6 = 0 by omega]
          show _ = _ + _ * (0 * _ + _)
          rw [Int.zero_mul, Int.zero_add]
      have hm := s40i st w ng (e - 6) e L (S.sgB ng (S.decW w w.size), 0, S.grp (S.decW w w.size)) ⟨by omega, by omega, he, by omega⟩ (by omega) hw hC (e - (e - 6)) 0 (by omega)
      have z : S.decN (fun j => keys w (e - 6 + j) - 48) 0 = 0 := rfl
      rw [z] at hm
      clear hC cut db hv
      generalize (S.sgB ng (S.decW w w.size), 0, S.grp (S.decW w w.size)) = R at *
      apply Comes.of
      show Goes _ _ _
      rw [q40]
      skip
      have e2 : Max.max 0 ((e : Int) - 6) = ((e - 6 : Nat) : Int) := by omega
      simp only [e2, Int.toNat_natCast]
      repeat' (first | with_reducible refine goes_if (fun h => ?_) (fun h => ?_) <;> (try simp only [SH] at h) | exact goes_none.mpr (by omega))
      all_goals first | (exfalso; omega) | exact hm
theorem natB_iff  {w : ByteArray} : S.natB w = true ↔ (w.size ≠ 0 ∧ ¬ (w.size > 1 ∧ keys w 0 = 48)) ∧ S.alD w = true := by
  unfold S.natB
  rw [Bool.and_eq_true, decide_eq_true_eq]
theorem par_t  {w : ByteArray} (h : w.size ≠ 0 ∧ keys w 0 ≠ 48) : S.parW true w = if S.alD w = true then (if w.size > 480 then (false, 3, []) else (S.sgB true (S.decW w w.size), 0, S.grp (S.decW w w.size))) else (false, 2, []) := by
  unfold S.parW
  by_cases ha : S.alD w = true
  · rw [if_pos ⟨natB_iff.mpr ⟨⟨h.1, fun h2 => h.2 h2.2⟩, ha⟩, fun h2 => h.2 h2.2.2⟩, if_pos ha]
  · rw [if_neg (fun h2 => ha (natB_iff.mp h2.1).2), if_neg ha]
theorem par_f  {w : ByteArray} (h : w.size ≠ 0 ∧ ¬ (w.size > 1 ∧ keys w 0 = 48)) : S.parW false w = if S.alD w = true then (if w.size > 480 then (false, 3, []) else (S.sgB false (S.decW w w.size), 0, S.grp (S.decW w w.size))) else (false, 2, []) := by
  unfold S.parW
  by_cases ha : S.alD w = true
  · rw [if_pos ⟨natB_iff.mpr ⟨h, ha⟩, fun h2 => Bool.false_ne_true h2.1⟩, if_pos ha]
  · rw [if_neg (fun h2 => ha (natB_iff.mp h2.1).2), if_neg ha]
theorem par_tn  {w : ByteArray} (h : ¬ (w.size ≠ 0 ∧ keys w 0 ≠ 48)) : S.parW true w = (false, 2, []) := by
  unfold S.parW
  refine if_neg fun h2 => ?_
  have h3 := (natB_iff.mp h2.1).1
  have h4 := h2.2
  simp only [true_and] at h4
  by_cases h5 : keys w 0 = 48
  · exact h4 ⟨by have := h3.2; omega, h5⟩
  · exact h ⟨h3.1, h5⟩
theorem par_fn  {w : ByteArray} (h : ¬ (w.size ≠ 0 ∧ ¬ (w.size > 1 ∧ keys w 0 = 48))) : S.parW false w = (false, 2, []) := by
  unfold S.parW
  exact if_neg fun h2 => h (natB_iff.mp h2.1).1
theorem s41d (st w : ByteArray) (ng : Bool) (hz : w.size ≤ 1000000) : ∀ (k i : Nat), i + k = w.size → (∀ j, j < i → 48 ≤ keys w j ∧ keys w j ≤ 57) → Comes (q41 st) (.h0 w ng (i : Int)) (if S.alD w = true then (if w.size > 480 then ((false, 3, []) : Bool × Int × List Int) else (S.sgB ng (S.decW w w.size), 0, S.grp (S.decW w w.size))) else (false, 2, [])) := by
  intro k
  induction k with
  | zero =>
    intro i hi hj
    have hw : ∀ j, j < w.size → 48 ≤ keys w j ∧ keys w j ≤ 57 := fun j h => hj j (by omega)
    rw [if_pos (alD_iff.mpr hw)]
    by_cases h4 : w.size > 480
    · rw [if_pos h4]
      apply Comes.of
      show Goes _ _ _
      rw [q41]
      skip
      repeat' (first | with_reducible refine goes_if (fun h => ?_) (fun h => ?_) <;> (try simp only [SH] at h) | exact goes_none.mpr (by omega))
      all_goals first | (exfalso; omega) | exact goes_inr.mpr rfl
    · rw [if_neg h4]
      have hm := s41o st w ng (by omega) hw w.size w.size [] (Nat.le_refl _) (Nat.le_refl _) (by simp; omega) (fun y hy => by cases hy) (by show (0 : Int) + 1 * _ = _; omega)
      generalize (S.sgB ng (S.decW w w.size), (0 : Int), S.grp (S.decW w w.size)) = R at *
      apply Comes.of
      show Goes _ _ _
      rw [q41]
      skip
      repeat' (first | with_reducible refine goes_if (fun h => ?_) (fun h => ?_) <;> (try simp only [SH] at h) | exact goes_none.mpr (by omega))
      all_goals first | (exfalso; omega) | exact hm
  | succ k ih =>
    intro i hi hj
    by_cases h0 : 48 ≤ keys w i ∧ keys w i ≤ 57
    · have ih := ih (i + 1) (by omega) (fun j h => by
        by_cases hji : j = i
        · subst hji; exact h0
        · exact hj j (by omega))
      generalize (if S.alD w = true then (if w.size > 480 then ((false, 3, []) : Bool × Int × List Int) else (S.sgB ng (S.decW w w.size), 0, S.grp (S.decW w w.size))) else (false, 2, [])) = R at *
      apply Comes.of
      show Goes _ _ _
      rw [q41]
      skip
      simp only [Int.toNat_natCast]
      repeat' (first | with_reducible refine goes_if (fun h => ?_) (fun h => ?_) <;> (try simp only [SH] at h) | exact goes_none.mpr (by omega))
      all_goals first | (exfalso; omega) | exact ih
    · rw [if_neg fun h => h0 (alD_iff.mp h i (by omega))]
      apply Comes.of
      show Goes _ _ _
      rw [q41]
      skip
      simp only [Int.toNat_natCast]
      repeat' (first | with_reducible refine goes_if (fun h => ?_) (fun h => ?_) <;> (try simp only [SH] at h) | exact goes_none.mpr (by omega))
      all_goals first | (exfalso; omega) | exact goes_inr.mpr rfl
theorem s41 (st : ByteArray) (hp : st.size ≤ 1000000) : Goes ((q41 st)) ((p41 st)) (((S.parS st).1, (S.parS st).2.1, (S.parS st).2.2)) := by
  show Goes _ _ (S.parS st)
  unfold S.parS S.isM
  by_cases hM : st.size > 0 ∧ keys st 0 = 45
  · rw [if_pos (decide_eq_true hM)]
    have hs : (S.subS st 1 st.size).size = st.size - 1 := sub_size (Nat.le_refl _)
    obtain ⟨w, hw⟩ : ∃ w, S.subS st 1 st.size = w := ⟨_, rfl⟩
    rw [hw] at hs ⊢
    have hm := s41d st w true (by omega) w.size 0 (by omega) (fun j h => by omega)
    have e45 : (keys st 0 == 45) = true := by rw [hM.2]; rfl
    unfold p41
    simp only [eqS_nil, hw, e45]
    by_cases hc : w.size ≠ 0 ∧ keys w 0 ≠ 48
    · rw [par_t hc]
      generalize (if S.alD w = true then (if w.size > 480 then ((false, 3, []) : Bool × Int × List Int) else (S.sgB true (S.decW w w.size), 0, S.grp (S.decW w w.size))) else (false, 2, [])) = R at *
      repeat' (first | with_reducible refine goes_if (fun h => ?_) (fun h => ?_) <;> (try simp only [SH] at h) | exact goes_none.mpr (by omega))
      all_goals first | (exfalso; omega) | exact hm
    · rw [par_tn hc]
      clear hm
      repeat' (first | with_reducible refine goes_if (fun h => ?_) (fun h => ?_) <;> (try simp only [SH] at h) | exact goes_none.mpr (by omega))
      all_goals first | (exfalso; omega) | exact goes_inr.mpr rfl
  · rw [if_neg (fun h => hM (of_decide_eq_true h))]
    have hm := s41d st st false (by omega) st.size 0 (by omega) (fun j h => by omega)
    unfold p41
    simp only [eqS_nil]
    by_cases hc : st.size ≠ 0 ∧ ¬ (st.size > 1 ∧ keys st 0 = 48)
    · rw [par_f hc]
      generalize (if S.alD st = true then (if st.size > 480 then ((false, 3, []) : Bool × Int × List Int) else (S.sgB false (S.decW st st.size), 0, S.grp (S.decW st st.size))) else (false, 2, [])) = R at *
      repeat' (first | with_reducible refine goes_if (fun h => ?_) (fun h => ?_) <;> (try simp only [SH] at h) | exact goes_none.mpr (by omega))
      all_goals first | (exfalso; omega) | exact hm
    · rw [par_fn hc]
      clear hm
      repeat' (first | with_reducible refine goes_if (fun h => ?_) (fun h => ?_) <;> (try simp only [SH] at h) | exact goes_none.mpr (by omega))
      all_goals first | (exfalso; omega) | exact goes_inr.mpr rfl
theorem k41_ok  : k41.ok Tryd.prog := by
  intro x hx
  obtain ⟨st, _⟩ := x
  obtain ⟨h1, h2⟩ := a41 st (s41 st (of_dec hx rfl))
  exact ⟨⟨400, (by decide : 0 + 1 + 1 ≤ 400), h1⟩, h2⟩
theorem s40 (st : ByteArray) (hp : st.size ≤ 1000000) : Goes ((q40 st)) ((p40 st)) (((S.parS st).1, (S.parS st).2.1, (S.parS st).2.2)) := by
  show Goes _ _ (S.parS st)
  unfold S.parS S.isM
  have h45 : st.size ≥ 1 → (S.eqS (S.subS st 0 1) (ByteArray.mk #[(45 : UInt8)])) = decide (keys st 0 = 45) := fun h1 => eqS_dec (by
    rw [one_iff, sub_size h1, keys_sub h1 (by omega)]
    exact ⟨fun h => h.2, fun h => ⟨rfl, h⟩⟩)
  have h48 : ∀ w : ByteArray, S.eqS w (ByteArray.mk #[(48 : UInt8)]) = decide (w.size = 1 ∧ keys w 0 = 48) := fun w => eqS_dec one_iff
  have hsz : (ByteArray.mk #[(45 : UInt8)]).size = 1 := rfl
  by_cases hM : st.size > 0 ∧ keys st 0 = 45
  · rw [if_pos (decide_eq_true hM)]
    have h45 := h45 (by omega)
    have hs : (S.subS st 1 st.size).size = st.size - 1 := sub_size (Nat.le_refl _)
    obtain ⟨w, hw⟩ : ∃ w, S.subS st 1 st.size = w := ⟨_, rfl⟩
    rw [hw] at hs ⊢
    have hm := fun (hz : w.size ≤ 480) (ha : S.alD w = true) => s40o st w true hz (alD_iff.mp ha) w.size w.size [] (Nat.le_refl _) (Nat.le_refl _) (by simp; omega) (fun y hy => by cases hy) (by show (0 : Int) + 1 * _ = _; omega)
    unfold p40
    simp only [h45, h48, hw, hsz]
    by_cases hc : w.size ≠ 0 ∧ keys w 0 ≠ 48
    · rw [par_t hc]
      cases hb : S.alD w
      · have hn : S.natB w = false := by
          rw [Bool.eq_false_iff]; intro h; rw [(natB_iff.mp h).2] at hb; cases hb
        rw [if_neg Bool.false_ne_true]
        simp only [hn]
        repeat' (first | with_reducible refine goes_if (fun h => ?_) (fun h => ?_) <;> (try simp only [SH] at h) | exact goes_none.mpr (by omega))
        all_goals first | (exfalso; omega) | exact goes_inr.mpr rfl
      · have hn : S.natB w = true := natB_iff.mpr ⟨⟨hc.1, fun h => hc.2 h.2⟩, hb⟩
        have hm := fun hz => hm hz hb
        rw [if_pos rfl]
        simp only [hn]
        by_cases h4 : w.size > 480
        · rw [if_pos h4]
          repeat' (first | with_reducible refine goes_if (fun h => ?_) (fun h => ?_) <;> (try simp only [SH] at h) | exact goes_none.mpr (by omega))
          all_goals first | (exfalso; omega) | exact goes_inr.mpr rfl
        · rw [if_neg h4]
          have hm := hm (by omega)
          generalize (S.sgB true (S.decW w w.size), (0 : Int), S.grp (S.decW w w.size)) = R at *
          repeat' (first | with_reducible refine goes_if (fun h => ?_) (fun h => ?_) <;> (try simp only [SH] at h) | exact goes_none.mpr (by omega))
          all_goals first | (exfalso; omega) | exact hm
    · rw [par_tn hc]
      clear hm
      cases hb : S.natB w
      repeat' (first | with_reducible refine goes_if (fun h => ?_) (fun h => ?_) <;> (try simp only [SH] at h) | exact goes_none.mpr (by omega))
      all_goals first | (exfalso; omega) | exact goes_inr.mpr rfl | (exfalso; have := (natB_iff.mp hb).1; omega)
  · rw [if_neg (fun h => hM (of_decide_eq_true h))]
    have hm := fun (hz : st.size ≤ 480) (ha : S.alD st = true) => s40o st st false hz (alD_iff.mp ha) st.size st.size [] (Nat.le_refl _) (Nat.le_refl _) (by simp; omega) (fun y hy => by cases hy) (by show (0 : Int) + 1 * _ = _; omega)
    unfold p40
    simp only [hsz]
    by_cases hc : st.size ≠ 0 ∧ ¬ (st.size > 1 ∧ keys st 0 = 48)
    · have h45 := h45 (by omega)
      simp only [h45]
      rw [par_f hc]
      cases hb : S.alD st
      · have hn : S.natB st = false := by
          rw [Bool.eq_false_iff]; intro h; rw [(natB_iff.mp h).2] at hb; cases hb
        rw [if_neg Bool.false_ne_true]
        simp only [hn]
        repeat' (first | with_reducible refine goes_if (fun h => ?_) (fun h => ?_) <;> (try simp only [SH] at h) | exact goes_none.mpr (by omega))
        all_goals first | (exfalso; omega) | exact goes_inr.mpr rfl
      · have hn : S.natB st = true := natB_iff.mpr ⟨hc, hb⟩
        have hm := fun hz => hm hz hb
        rw [if_pos rfl]
        simp only [hn]
        by_cases h4 : st.size > 480
        · rw [if_pos h4]
          repeat' (first | with_reducible refine goes_if (fun h => ?_) (fun h => ?_) <;> (try simp only [SH] at h) | exact goes_none.mpr (by omega))
          all_goals first | (exfalso; omega) | exact goes_inr.mpr rfl
        · rw [if_neg h4]
          have hm := hm (by omega)
          generalize (S.sgB false (S.decW st st.size), (0 : Int), S.grp (S.decW st st.size)) = R at *
          repeat' (first | with_reducible refine goes_if (fun h => ?_) (fun h => ?_) <;> (try simp only [SH] at h) | exact goes_none.mpr (by omega))
          all_goals first | (exfalso; omega) | exact hm
    · rw [par_fn hc]
      have hn : S.natB st = false := by
        rw [Bool.eq_false_iff]; intro h; exact hc (natB_iff.mp h).1
      simp only [hn]
      clear hm
      by_cases hz : st.size ≥ 1
      · simp only [h45 hz]
        repeat' (first | with_reducible refine goes_if (fun h => ?_) (fun h => ?_) <;> (try simp only [SH] at h) | exact goes_none.mpr (by omega))
        all_goals first | (exfalso; omega) | exact goes_inr.mpr rfl
      · refine goes_no (decide_eq_false (by omega)) ?_
        repeat' (first | with_reducible refine goes_if (fun h => ?_) (fun h => ?_) <;> (try simp only [SH] at h) | exact goes_none.mpr (by omega))
        all_goals first | (exfalso; omega) | exact goes_inr.mpr rfl
theorem k40_ok  : k40.ok Tryd.prog := by
  intro x hx
  obtain ⟨st, _⟩ := x
  obtain ⟨h1, h2⟩ := a40 st (s40 st (of_dec hx rfl))
  exact ⟨⟨400, (by decide : 0 + 1 + 1 ≤ 400), h1⟩, h2⟩
theorem dec_inj  {f g : Nat → Int} : ∀ {n : Nat}, (∀ j, j < n → 0 ≤ f j ∧ f j ≤ 9) → (∀ j, j < n → 0 ≤ g j ∧ g j ≤ 9) → S.decN f n = S.decN g n → ∀ j, j < n → f j = g j
  | 0, _, _, _, j, hj => by omega
  | n + 1, hf, hg, h, j, hj => by
    simp only [S.decN] at h
    have h1 := hf n (by omega)
    have h2 := hg n (by omega)
    by_cases hn : j = n
    · subst hn; omega
    · exact dec_inj (n := n) (fun j h => hf j (by omega)) (fun j h => hg j (by omega)) (by omega) j (by omega)
theorem dec_lead  {f : Nat → Int} {n : Nat} (h : ∀ j, j < n + 1 → 0 ≤ f j ∧ f j ≤ 9) : S.decN f (n + 1) = f 0 * pT n + S.decN (fun j => f (1 + j)) n := by
  have := decN_add (f := f) (a := 1) (c := n)
  rw [Nat.add_comm 1 n] at this
  rw [this]
  show (0 * 10 + f 0) * _ + _ = _
  rw [Int.zero_mul, Int.zero_add]
theorem p10_mono  : ∀ {a c : Nat}, a ≤ c → pT a ≤ pT c
  | a, 0, h => by obtain rfl : a = 0 := by omega
                  exact Int.le_refl _
  | a, c + 1, h => by
    by_cases hac : a = c + 1
    · subst hac; exact Int.le_refl _
    · have := p10_mono (a := a) (c := c) (by omega)
      have := p10_pos (n := c)
      show pT a ≤ 10 * pT c
      omega
theorem nat_dig  {w : ByteArray} (h : S.natB w = true) : (w.size ≠ 0 ∧ ¬ (w.size > 1 ∧ keys w 0 = 48)) ∧ ∀ j, j < w.size → 0 ≤ keys w j - 48 ∧ keys w j - 48 ≤ 9 := by
  obtain ⟨h1, h2⟩ := natB_iff.mp h
  exact ⟨h1, fun j hj => by have := alD_iff.mp h2 j hj; omega⟩
theorem nat_ge  {w : ByteArray} (h : S.natB w = true) (h2 : w.size > 1) : pT (w.size - 1) ≤ S.decW w w.size := by
  obtain ⟨h1, hd⟩ := nat_dig h
  have e := dec_lead (f := fun j => keys w j - 48) (n := w.size - 1) (fun j hj => hd j (by omega))
  rw [show w.size - 1 + 1 = w.size by omega] at e
  have e : S.decW w w.size = (keys w 0 - 48) * pT (w.size - 1) + S.decN (fun j => keys w (1 + j) - 48) (w.size - 1) := e
  have b0 := decN_b (f := fun j => keys w (1 + j) - 48) (n := w.size - 1) fun j hj => hd (1 + j) (by omega)
  have d0 := hd 0 (by omega)
  have : 1 * pT (w.size - 1) ≤ (keys w 0 - 48) * pT (w.size - 1) := Int.mul_le_mul_of_nonneg_right (by omega) (by have := p10_pos (n := w.size - 1); omega)
  omega
theorem nat_uniq  {w u : ByteArray} (h : S.natB w = true) (h2 : S.natB u = true) (he : S.decW w w.size = S.decW u u.size) : w = u := by
  obtain ⟨w1, wd⟩ := nat_dig h
  obtain ⟨u1, ud⟩ := nat_dig h2
  have wb := (decN_b (f := fun j => keys w j - 48) (n := w.size) wd).2
  have ub := (decN_b (f := fun j => keys u j - 48) (n := u.size) ud).2
  have wb : S.decW w w.size < pT w.size := wb
  have ub : S.decW u u.size < pT u.size := ub
  have hs : w.size = u.size := by
    rcases Nat.lt_trichotomy w.size u.size with hl | hl | hl
    · have := nat_ge h2 (by omega)
      have := p10_mono (a := w.size) (c := u.size - 1) (by omega)
      omega
    · exact hl
    · have := nat_ge h (by omega)
      have := p10_mono (a := u.size) (c := w.size - 1) (by omega)
      omega
  refine keys_ext hs fun j hj => ?_
  have he : S.decN (fun j => keys w j - 48) w.size = S.decN (fun j => keys u j - 48) w.size := by
    have : S.decW u u.size = S.decN (fun j => keys u j - 48) w.size := by rw [hs]; rfl
    rw [← this, ← he]; rfl
  have := dec_inj wd (fun j hj => ud j (by omega)) he j hj
  (try dsimp only at this)
  omega
namespace S
noncomputable def numW (V : Int) : ByteArray := @dite _ (∃ w, natB w = true ∧ decW w w.size = V) (Classical.propDecidable _) (fun h => Classical.choose h) (fun _ => ByteArray.mk #[])
noncomputable def fmtW (ng : Bool) (V : Int) : ByteArray := if ng = true then (ByteArray.mk #[(45 : UInt8)]) ++ numW V else numW V
noncomputable def fmtS (n1 : Bool) (n : Nat) (t : Nat → Int) : ByteArray × Int := if okI n1 n t = true then (fmtW n1 (val n t), 0) else (ByteArray.mk #[], 1)
end S
theorem num_is  {w : ByteArray} {V : Int} (h : S.natB w = true) (hv : S.decW w w.size = V) : S.numW V = w := by
  have hx : ∃ w, S.natB w = true ∧ S.decW w w.size = V := ⟨w, h, hv⟩
  unfold S.numW
  rw [dif_pos hx]
  have := Classical.choose_spec hx
  exact nat_uniq this.1 h (by rw [this.2, hv])
theorem nat_zero  : S.natB (ByteArray.mk #[(48 : UInt8)]) = true ∧ S.decW (ByteArray.mk #[(48 : UInt8)]) (ByteArray.mk #[(48 : UInt8)]).size = 0 := by decide
theorem strip_eq  {w : ByteArray} (h1 : w.size > 1) (h0 : keys w 0 = 48) (hd : ∀ j, j < w.size → 48 ≤ keys w j ∧ keys w j ≤ 57) : S.decW (S.subS w 1 w.size) (S.subS w 1 w.size).size = S.decW w w.size ∧ ∀ j, j < (S.subS w 1 w.size).size → 48 ≤ keys (S.subS w 1 w.size) j ∧ keys (S.subS w 1 w.size) j ≤ 57 := by
  have hs : (S.subS w 1 w.size).size = w.size - 1 := sub_size (Nat.le_refl _)
  constructor
  · rw [hs]
    have e := dec_lead (f := fun j => keys w j - 48) (n := w.size - 1) (fun j hj => by have := hd j (by omega); (try dsimp only); omega)
    rw [show w.size - 1 + 1 = w.size by omega] at e
    have e : S.decW w w.size = (keys w 0 - 48) * pT (w.size - 1) + S.decN (fun j => keys w (1 + j) - 48) (w.size - 1) := e
    rw [e, h0]
    show S.decN _ _ = (48 - 48) * _ + _
    rw [show (48 : Int) - 48 = 0 from rfl, Int.zero_mul, Int.zero_add]
    exact decN_congr fun j hj => by rw [keys_sub (Nat.le_refl _) (by omega)]
  · intro j hj
    rw [keys_sub (Nat.le_refl _) (by omega)]
    exact hd (1 + j) (by omega)
theorem p10_pw  : ∀ {i : Nat}, pT (6 * i) = S.pw i
  | 0 => rfl
  | i + 1 => by
    rw [show 6 * (i + 1) = 6 * i + 6 by omega]
    show 10 * (10 * (10 * (10 * (10 * (10 * pT (6 * i)))))) = 1000000 * S.pw i
    rw [p10_pw]; omega
noncomputable def k79  : Con := ⟨79, [.one (.plain (.str))], fun _ => false, fun _ => .tup [.agg [.int .u32 0, .int .u32 0, .int .u32 0, .int .u32 0, .int .u32 0, .int .u32 0, .int .u32 0, .int .u32 0], .tf false], fun _ => [], fun _ _ => .dead⟩
theorem k79_ok  : k79.ok Tryd.prog := fun _ hx => absurd (show false = true from hx) Bool.false_ne_true
noncomputable def k81  : Con := ⟨81, [.one (.plain (.str)), .one (.plain (.str))], fun _ => false, fun _ => .str (ByteArray.mk #[]), fun _ => [], fun _ _ => .dead⟩
theorem k81_ok  : k81.ok Tryd.prog := fun _ hx => absurd (show false = true from hx) Bool.false_ne_true
noncomputable def xq2 (test : Bool → Prop → Prop → Prop) : Ext := consX test [k18, k78, k79, k81]
theorem xq2_ok  : ExtOk Tryd.prog (xq2 cond) := consX_ok ⟨k18_ok, k78_ok, k79_ok, k81_ok, trivial⟩
theorem tri_ok  : ∀ {n : Nat} {w : ByteArray}, w.size = n → (∀ j, j < w.size → 48 ≤ keys w j ∧ keys w j ≤ 57) → 0 < S.decW w w.size → S.natB (S.triN 48 n w) = true ∧ S.decW (S.triN 48 n w) (S.triN 48 n w).size = S.decW w w.size ∧ (S.triN 48 n w).size ≤ n
  | 0, w, hw, _, hv => by
    rw [hw] at hv
    exact absurd hv (by show ¬ (0 : Int) < 0; omega)
  | n + 1, w, hw, hd, hv => by
    simp only [S.triN]
    by_cases h0 : w.size > 0 ∧ keys w 0 = 48
    · rw [if_pos h0]
      have h1 : w.size > 1 := by
        refine Nat.not_le.mp fun h => ?_
        have e1 : w.size = 1 := by omega
        rw [e1] at hv
        have : S.decW w 1 = 0 * 10 + (keys w 0 - 48) := rfl
        omega
      obtain ⟨s1, s2⟩ := strip_eq h1 h0.2 hd
      have hs : (S.subS w 1 w.size).size = w.size - 1 := sub_size (Nat.le_refl _)
      have := tri_ok (n := n) (w := S.subS w 1 w.size) (by omega) s2 (by rw [s1]; exact hv)
      exact ⟨this.1, this.2.1.trans s1, by omega⟩
    · rw [if_neg h0]
      exact ⟨natB_iff.mpr ⟨⟨by omega, fun h => h0 ⟨by omega, h.2⟩⟩, alD_iff.mpr hd⟩, rfl, by omega⟩
theorem decL_snoc  {L : List Int} {x : Int} : S.decN (fun j => S.at' (S.snoc L x) j - 48) (S.snoc L x).length = S.decN (fun j => S.at' L j - 48) L.length * 10 + (x - 48) := by
  rw [snoc_len]
  simp only [S.decN]
  rw [at_snoc_eq, decN_congr (g := fun j => S.at' L j - 48) fun j hj => by rw [at_snoc_lt hj]]
theorem digL_snoc  {L : List Int} {x : Int} (h : ∀ j, j < L.length → 48 ≤ S.at' L j ∧ S.at' L j ≤ 57) (hx : 48 ≤ x ∧ x ≤ 57) : ∀ j, j < (S.snoc L x).length → 48 ≤ S.at' (S.snoc L x) j ∧ S.at' (S.snoc L x) j ≤ 57 := by
  intro j hj
  rw [snoc_len] at hj
  by_cases hl : j < L.length
  · rw [at_snoc_lt hl]; exact h j hl
  · obtain rfl : j = L.length := by omega
    rw [at_snoc_eq]; exact hx
inductive St38 where
  | h0 (x0 : Int) (x1 : List Int)
  | h1 (x0 : Int) (x1 : Int) (x2 : List Int)
abbrev Rt38  := ByteArray × Int
noncomputable def V38 (n1 : Bool) (ap np mp : Nat) (tp : NI) (r : Rt38) : PV := PV.tup [PV.str r.1, PV.int .i64 r.2]
noncomputable def N38 (n1 : Bool) (ap np mp : Nat) (tp : NI) (r : Rt38) : List Blk := []
noncomputable def I38 (n1 : Bool) (ap np mp : Nat) (tp : NI) : St38 → Hd
  | .h0 x0 x1 => ⟨hd Tryd.f38 0, [PV.ptr (PA.mk (1) (0) (0) (0)),
 PV.own (2) (1) (List.length x1), PV.int .i64 x0, PV.unk], [[(1, (true, Blk.cells [PV.bool n1, PV.loose (PA.mk (0) (1) ap (0)) np])), (2, (true, Blk.cols (List.length x1) [Col.int .u8 fun j => S.at' x1 j]))], [(0, (false, .cols mp [.int .i64 tp]))]], 3⟩
  | .h1 x0 x1 x2 => ⟨hd Tryd.f38 1, [PV.ptr (PA.mk (1) (0) (0) (0)),
 PV.own (2) (1) (List.length x2), PV.int .i64 x0, PV.int .i64 x1], [[(1, (true, Blk.cells [PV.bool n1, PV.loose (PA.mk (0) (1) ap (0)) np])), (2, (true, Blk.cols (List.length x2) [Col.int .u8 fun j => S.at' x2 j]))], [(0, (false, .cols mp [.int .i64 tp]))]], 3⟩
noncomputable def q38 (n1 : Bool) (ap np mp : Nat) (tp : NI) : St38 → Option (St38 ⊕ Rt38) | .h0 x0 x1 => bif (decide (x0 ≥ 0)) then (some (.inl (.h1 (x0) ((100000 : Int)) (x1)))) else (bif (decide (0 + List.length x1 ≤ List.length x1)) then (bif (S.eqS (S.ofB (fun j => S.at' x1 j) (List.length x1)) (ByteArray.mk #[])) then (bif (n1) then (bif (decide ((↑(1 + ByteArray.size (S.ofB (fun j => S.at' x1 j) (List.length x1))) : Int) ≤ 9223372036854775807)) then (some (.inr (ByteArray.mk #[(45 : UInt8)] ++ S.ofB (fun j => S.at' x1 j) (List.length x1), (0 : Int)))) else (none)) else (some (.inr (S.ofB (fun j => S.at' x1 j) (List.length x1), (0 : Int))))) else (bif (decide (ByteArray.size (S.ofB (fun j => S.at' x1 j) (List.length x1)) ≤ 1000000)) then (bif (n1) then (bif (decide ((↑(1 + ByteArray.size (S.triS (S.ofB (fun j => S.at' x1 j) (List.length x1)) (48 : Int))) : Int) ≤ 9223372036854775807)) then (some (.inr (ByteArray.mk #[(45 : UInt8)] ++ S.triS (S.ofB (fun j => S.at' x1 j) (List.length x1)) (48 : Int), (0 : Int)))) else (none)) else (some (.inr (S.triS (S.ofB (fun j => S.at' x1 j) (List.length x1)) (48 : Int), (0 : Int))))) else (none))) else (none)) | .h1 x0 x1 x2 => bif (decide (x1 > 0)) then (bif (decide ((0 : Int) ≤ x0 ∧ x0 < (↑np : Int))) then (bif (decide (Int.toNat x0 + ap < mp)) then (bif (decide (x1 = 0)) then (none) else (bif (lim .i64 (Int.tdiv (tp (Int.toNat x0 + ap)) x1)) then (bif (lim .i64 ((48 : Int) + Int.tmod (Int.tdiv (tp (Int.toNat x0 + ap)) x1) (10 : Int))) then (bif (decide (List.length x2 + 1 ≤ 1000000)) then (bif (decide (List.length x2 ≤ List.length x2)) then (bif (lim .i64 (Int.tdiv x1 (10 : Int))) then (some (.inl (.h1 (x0) (Int.tdiv x1 (10 : Int)) (S.snoc x2 (IntKind.wrap .u8 ((48 : Int) + Int.tmod (Int.tdiv (tp (Int.toNat x0 + ap)) x1) (10 : Int))))))) else (none)) else (none)) else (none)) else (none)) else (none))) else (none)) else (none)) else (bif (lim .i64 (x0 - 1)) then (some (.inl (.h0 (x0 - 1) (x2)))) else (none))
noncomputable def p38 (n1 : Bool) (ap np mp : Nat) (tp : NI) : Option (St38 ⊕ Rt38) := bif (decide (ap + np ≤ mp ∧ np ≤ 1000000)) then (bif (S.okI n1 np fun j => tp (j + ap)) then (bif ((↑np : Int) == 0) then (some (.inr (ByteArray.mk #[(48 : UInt8)], (0 : Int)))) else (bif (lim .i64 ((↑np : Int) - 1)) then (some (.inl (.h0 ((↑np : Int) - 1) ([])))) else (none))) else (some (.inr (ByteArray.mk #[], (1 : Int))))) else (none)
noncomputable def Te38 (test : TT) (Kst : KS) (Kret : KR) (n1 : Bool) (ap np mp : Nat) (tp : NI) : Prop := test (decide (ap + np ≤ mp ∧ np ≤ 1000000)) (test (S.okI n1 np fun j => tp (j + ap)) (test ((↑np : Int) == 0) (Kret (PV.tup [PV.str (ByteArray.mk #[(48 : UInt8)]), PV.int .i64 (0 : Int)]) ([[(0, false, Blk.cols mp [Col.int .i64 tp])]]) (3)) (test (lim .i64 ((↑np : Int) - 1)) (Kst (hd Tryd.f38 0) ([PV.ptr (PA.mk (1) (0) (0) (0)), PV.nils, PV.int .i64 ((↑np : Int) - 1), PV.unk]) ([[(0, false, Blk.cols mp [Col.int .i64 tp]), (1, true, Blk.cells [PV.bool n1, PV.loose (PA.mk (0) (1) ap (0)) np])]]) (3)) (False))) (Kret (PV.tup [PV.str (ByteArray.mk #[]), PV.int .i64 (1 : Int)]) ([[(0, false, Blk.cols mp [Col.int .i64 tp])]]) (3))) (False)
theorem te38 (test : TT) (Kst : KS) (Kret : KR) (n1 : Bool) (ap np mp : Nat) (tp : NI) : run test Tryd.env true (xq2 test) true 400 ⟨38, [.cd (mkFn Tryd.f38).body], argT 0 [.agg [.bool n1, .loose ⟨0, 1, ap, 0⟩ np]], [[], [(0, (false, .cols mp [.int .i64 tp]))]], 1⟩ (proj 1 [1, 4, 5, 6] Kst Kret) =
  Te38 test Kst Kret n1 ap np mp tp := by kernel_rfl
noncomputable def T38_0 (test : TT) (Kst : KS) (Kret : KR) (n1 : Bool) (ap np mp : Nat) (tp : NI) (x0 : Int) (x1 : List Int) : Prop := test (decide (x0 ≥ 0)) (Kst (hd Tryd.f38 1) ([PV.ptr (PA.mk (1) (0) (0) (0)), PV.own (2) (1) (List.length x1), PV.int .i64 x0, PV.int .i64 (100000 : Int)]) ([[(0, false, Blk.cols mp [Col.int .i64 tp]), (2, true, Blk.cols (List.length x1) [Col.int .u8 fun j => S.at' x1 j]), (1, true, Blk.cells [PV.bool n1, PV.loose (PA.mk (0) (1) ap (0)) np])]]) (3)) (test (decide (0 + List.length x1 ≤ List.length x1)) (test (S.eqS (S.ofB (fun j => S.at' x1 j) (List.length x1)) (ByteArray.mk #[])) (test (n1) (test (decide ((↑(1 + ByteArray.size (S.ofB (fun j => S.at' x1 j) (List.length x1))) : Int) ≤ 9223372036854775807)) (Kret (PV.tup [PV.str (ByteArray.mk #[(45 : UInt8)] ++ S.ofB (fun j => S.at' x1 j) (List.length x1)), PV.int .i64 (0 : Int)]) ([[(0, false, Blk.cols mp [Col.int .i64 tp])]]) (3)) (False)) (Kret (PV.tup [PV.str (S.ofB (fun j => S.at' x1 j) (List.length x1)), PV.int .i64 (0 : Int)]) ([[(0, false, Blk.cols mp [Col.int .i64 tp])]]) (3))) (test (false) (test (n1) (test (decide ((↑(1 + ByteArray.size (S.ofB (fun j => S.at' x1 j) (List.length x1))) : Int) ≤ 9223372036854775807)) (Kret (PV.tup [PV.str (ByteArray.mk #[(45 : UInt8)] ++ S.ofB (fun j => S.at' x1 j) (List.length x1)), PV.int .i64 (0 : Int)]) ([[(0, false, Blk.cols mp [Col.int .i64 tp])]]) (3)) (False)) (Kret (PV.tup [PV.str (S.ofB (fun j => S.at' x1 j) (List.length x1)), PV.int .i64 (0 : Int)]) ([[(0, false, Blk.cols mp [Col.int .i64 tp])]]) (3))) (test (true) (test (true) (test (true) (test (true) (test (decide (ByteArray.size (S.ofB (fun j => S.at' x1 j) (List.length x1)) ≤ 1000000)) (test (n1) (test (decide ((↑(1 + ByteArray.size (S.triS (S.ofB (fun j => S.at' x1 j) (List.length x1)) (48 : Int))) : Int) ≤ 9223372036854775807)) (Kret (PV.tup [PV.str (ByteArray.mk #[(45 : UInt8)] ++ S.triS (S.ofB (fun j => S.at' x1 j) (List.length x1)) (48 : Int)), PV.int .i64 (0 : Int)]) ([[(0, false, Blk.cols mp [Col.int .i64 tp])]]) (4)) (False)) (Kret (PV.tup [PV.str (S.triS (S.ofB (fun j => S.at' x1 j) (List.length x1)) (48 : Int)), PV.int .i64 (0 : Int)]) ([[(0, false, Blk.cols mp [Col.int .i64 tp])]]) (4))) (False)) (False)) (test (false) (False) (False))) (False)) (test (false) (False) (False))))) (False))
theorem t38_0 (test : TT) (Kst : KS) (Kret : KR) (n1 : Bool) (ap np mp : Nat) (tp : NI) (x0 : Int) (x1 : List Int) : run test Tryd.env true (xq2 test) true 400 ⟨38, hd Tryd.f38 0, zipT [1, 4, 5, 6] [PV.ptr (PA.mk (1) (0) (0) (0)),
 PV.own (2) (1) (List.length x1), PV.int .i64 x0, PV.unk], [[(1, (true, Blk.cells [PV.bool n1, PV.loose (PA.mk (0) (1) ap (0)) np])), (2, (true, Blk.cols (List.length x1) [Col.int .u8 fun j => S.at' x1 j]))], [(0, (false, .cols mp [.int .i64 tp]))]], 3⟩ (proj 1 [1, 4, 5, 6] Kst Kret) =
  T38_0 test Kst Kret n1 ap np mp tp x0 x1 := by kernel_rfl
noncomputable def T38_1 (test : TT) (Kst : KS) (Kret : KR) (n1 : Bool) (ap np mp : Nat) (tp : NI) (x0 x1 : Int) (x2 : List Int) : Prop := test (decide (x1 > 0)) (test (decide ((0 : Int) ≤ x0 ∧ x0 < (↑np : Int))) (test (decide (Int.toNat x0 + ap < mp)) (test (decide (x1 = 0)) (False) (test (lim .i64 (Int.tdiv (tp (Int.toNat x0 + ap)) x1)) (test (false) (False) (test (lim .i64 ((48 : Int) + Int.tmod (Int.tdiv (tp (Int.toNat x0 + ap)) x1) (10 : Int))) (test (decide (List.length x2 + 1 ≤ 1000000)) (test (decide (List.length x2 ≤ List.length x2)) (test (true) (test (false) (False) (test (lim .i64 (Int.tdiv x1 (10 : Int))) (Kst (hd Tryd.f38 1) ([PV.ptr (PA.mk (1) (0) (0) (0)), PV.own (4) (1) (List.length x2 + 1), PV.int .i64 x0, PV.int .i64 (Int.tdiv x1 (10 : Int))]) ([[(0, false, Blk.cols mp [Col.int .i64 tp]), (4, true, Blk.cols (List.length x2 + 1) [Col.int .u8 fun j => bif Nat.blt j (List.length x2) then S.at' x2 j else IntKind.wrap .u8 ((48 : Int) + Int.tmod (Int.tdiv (tp (Int.toNat x0 + ap)) x1) (10 : Int))]), (1, true, Blk.cells [PV.bool n1, PV.loose (PA.mk (0) (1) ap (0)) np])]]) (5)) (False))) (False)) (False)) (False)) (False))) (False))) (False)) (False)) (test (lim .i64 (x0 - 1)) (Kst (hd Tryd.f38 0) ([PV.ptr (PA.mk (1) (0) (0) (0)), PV.own (2) (1) (List.length x2), PV.int .i64 (x0 - 1), PV.int .i64 x1]) ([[(0, false, Blk.cols mp [Col.int .i64 tp]), (2, true, Blk.cols (List.length x2) [Col.int .u8 fun j => S.at' x2 j]), (1, true, Blk.cells [PV.bool n1, PV.loose (PA.mk (0) (1) ap (0)) np])]]) (3)) (False))
theorem t38_1 (test : TT) (Kst : KS) (Kret : KR) (n1 : Bool) (ap np mp : Nat) (tp : NI) (x0 x1 : Int) (x2 : List Int) : run test Tryd.env true (xq2 test) true 400 ⟨38, hd Tryd.f38 1, zipT [1, 4, 5, 6] [PV.ptr (PA.mk (1) (0) (0) (0)),
 PV.own (2) (1) (List.length x2), PV.int .i64 x0, PV.int .i64 x1], [[(1, (true, Blk.cells [PV.bool n1, PV.loose (PA.mk (0) (1) ap (0)) np])), (2, (true, Blk.cols (List.length x2) [Col.int .u8 fun j => S.at' x2 j]))], [(0, (false, .cols mp [.int .i64 tp]))]], 3⟩ (proj 1 [1, 4, 5, 6] Kst Kret) =
  T38_1 test Kst Kret n1 ap np mp tp x0 x1 x2 := by kernel_rfl
noncomputable abbrev J38 (n1 : Bool) (ap np mp : Nat) (tp : NI) : Rt38 → Heap := fun r => [newL (1 + 1) ((N38 n1 ap np mp tp) r) ++ [(0, (false, .cols mp [.int .i64 tp]))]]
attribute [local irreducible] Int.subNatNat in
theorem be38 (n1 : Bool) (ap np mp : Nat) (tp : NI) (Kst : KS) (Kret : KR) (x : St38 ⊕ Rt38) (hS : HS 1 400 ((I38 n1 ap np mp tp)) Kst x) (hR : HR 1 400 ((V38 n1 ap np mp tp)) (J38 n1 ap np mp tp) Kret x) (h : p38 n1 ap np mp tp = some x) : Te38 cond Kst Kret n1 ap np mp tp := by
  unfold Te38
  unfold p38 at h
  refine bif_split h (fun c0 h => bif_split h (fun c1 h => bif_split h (fun c2 h => ret_at hR _ h (fun n => n) rfl rfl rfl (rn_tup ⟨(rn_str rfl), (rn_int rfl), trivial⟩) rfl (entl_bor (use_lo rfl) rfl rfl entl_nil)) (fun c2 h => bif_split h (fun c3 h => stop_at hS _ h (fun n => bif Nat.beq n 1 then 1 else bif Nat.beq n 2 then 399 else n) rfl rfl rfl ⟨(rn_ptr (use_own rfl) rfl rfl), ⟨(rn_own_nils rfl), ⟨(rn_int rfl), ⟨(rn_unk _), trivial⟩⟩⟩⟩ rfl (entl_b (use_own rfl) rfl (by simp) (rb_cells ⟨(rn_bool rfl), (rn_loose (use_lo rfl) rfl rfl rfl), trivial⟩) (entl_fresh (use_own rfl) (fresh_ok rfl) (entl_bor (use_lo rfl) rfl rfl entl_nil)))) (fun c3 h => no_some h))) (fun c1 h => ret_at hR _ h (fun n => n) rfl rfl rfl (rn_tup ⟨(rn_str rfl), (rn_int rfl), trivial⟩) rfl (entl_bor (use_lo rfl) rfl rfl entl_nil))) (fun c0 h => no_some h)
attribute [local irreducible] Int.subNatNat in
theorem b38_0 (n1 : Bool) (ap np mp : Nat) (tp : NI) (Kst : KS) (Kret : KR) (x : St38 ⊕ Rt38) (hS : HS 1 400 ((I38 n1 ap np mp tp)) Kst x) (hR : HR 1 400 ((V38 n1 ap np mp tp)) (J38 n1 ap np mp tp) Kret x) (x0 : Int) (x1 : List Int) (h : q38 n1 ap np mp tp (.h0 x0 x1) = some x) : T38_0 cond Kst Kret n1 ap np mp tp x0 x1 := by
  unfold T38_0
  rw [q38] at h
  refine bif_split h (fun c0 h => stop_at hS _ h (fun n => bif Nat.beq n 1 then 1 else bif Nat.beq n 2 then 2 else n) rfl rfl rfl ⟨(rn_ptr (use_own rfl) rfl rfl), ⟨(rn_own (use_own rfl) rfl rfl), ⟨(rn_int rfl), ⟨(rn_int rfl), trivial⟩⟩⟩⟩ rfl (entl_b (use_own rfl) rfl (by simp) (rb_cells ⟨(rn_bool rfl), (rn_loose (use_lo rfl) rfl rfl rfl), trivial⟩) (entl_new (use_own rfl) rfl (Nat.le_of_eq rfl) (rcs_int (fun _ _ => rfl) rcs_nil) (entl_bor (use_lo rfl) rfl rfl entl_nil)))) (fun c0 h => bif_split h (fun c1 h => bif_split h (fun c2 h => bif_split h (fun c3 h => bif_split h (fun c4 h => ?_) (fun c4 h => ?_)) (fun c3 h => ?_)) (fun c2 h => cond_no rfl (cond_yes rfl (cond_yes rfl (cond_yes rfl (cond_yes rfl (bif_split h (fun c3 h => bif_split h (fun c4 h => bif_split h (fun c5 h => ?_) (fun c5 h => ?_)) (fun c4 h => ?_)) (fun c3 h => ?_)))))))) (fun c1 h => ?_))
  all_goals first
    | exact ret_at hR _ h (fun n => n) rfl rfl rfl (rn_tup ⟨(rn_str rfl), (rn_int rfl), trivial⟩) rfl (entl_bor (use_lo rfl) rfl rfl entl_nil)
    | exact no_some h
attribute [local irreducible] Int.subNatNat in
theorem b38_1 (n1 : Bool) (ap np mp : Nat) (tp : NI) (Kst : KS) (Kret : KR) (x : St38 ⊕ Rt38) (hS : HS 1 400 ((I38 n1 ap np mp tp)) Kst x) (hR : HR 1 400 ((V38 n1 ap np mp tp)) (J38 n1 ap np mp tp) Kret x) (x0 x1 : Int) (x2 : List Int) (h : q38 n1 ap np mp tp (.h1 x0 x1 x2) = some x) : T38_1 cond Kst Kret n1 ap np mp tp x0 x1 x2 := by
  unfold T38_1
  rw [q38] at h
  exact bif_split h (fun c0 h => bif_split h (fun c1 h => bif_split h (fun c2 h => bif_split h (fun c3 h => no_some h) (fun c3 h => bif_split h (fun c4 h => cond_no rfl (bif_split h (fun c5 h => bif_split h (fun c6 h => bif_split h (fun c7 h => cond_yes rfl (cond_no rfl (bif_split h (fun c8 h => stop_at hS _ h (fun n => bif Nat.beq n 1 then 1 else bif Nat.beq n 2 then 4 else n) rfl rfl rfl ⟨(rn_ptr (use_own rfl) rfl rfl), ⟨(rn_own (use_own rfl) rfl (snoc_len' rfl)), ⟨(rn_int rfl), ⟨(rn_int rfl), trivial⟩⟩⟩⟩ rfl (entl_b (use_own rfl) rfl (by simp) (rb_cells ⟨(rn_bool rfl), (rn_loose (use_lo rfl) rfl rfl rfl), trivial⟩) (entl_new (use_own rfl) rfl (Nat.le_of_eq (snoc_len' rfl)) (rcs_int (col_snoc' (fun (t : Int) => t) rfl (fun _ _ => rfl)) rcs_nil) (entl_bor (use_lo rfl) rfl rfl entl_nil)))) (fun c8 h => no_some h)))) (fun c7 h => no_some h)) (fun c6 h => no_some h)) (fun c5 h => no_some h))) (fun c4 h => no_some h))) (fun c2 h => no_some h)) (fun c1 h => no_some h)) (fun c0 h => bif_split h (fun c1 h => stop_at hS _ h (fun n => bif Nat.beq n 1 then 1 else bif Nat.beq n 2 then 2 else n) rfl rfl rfl ⟨(rn_ptr (use_own rfl) rfl rfl), ⟨(rn_own (use_own rfl) rfl rfl), ⟨(rn_int rfl), ⟨(rn_unk _), trivial⟩⟩⟩⟩ rfl (entl_b (use_own rfl) rfl (by simp) (rb_cells ⟨(rn_bool rfl), (rn_loose (use_lo rfl) rfl rfl rfl), trivial⟩) (entl_new (use_own rfl) rfl (Nat.le_of_eq rfl) (rcs_int (fun _ _ => rfl) rcs_nil) (entl_bor (use_lo rfl) rfl rfl entl_nil)))) (fun c1 h => no_some h))
theorem a38 (n1 : Bool) (ap np mp : Nat) (tp : NI) {r : Rt38} (h : Goes ((q38 n1 ap np mp tp)) ((p38 n1 ap np mp tp)) r) : CallR Tryd.prog 38 [.agg [.bool n1, .loose ⟨0, 1, ap, 0⟩ np]] [[(0, (false, .cols mp [.int .i64 tp]))]] 1 ((V38 n1 ap np mp tp) r) ((J38 n1 ap np mp tp) r) 400 ∧ ∃ F, Tryd.prog.funcs[38]? = some F ∧ F.body.isSome = true ∧ (F.name == "runtime.NumGoroutine") = false := by
  refine dec_calls (f := 38) (lo := 1) (hi := 400) Tryd.envOk Tryd.mixed xq2_ok ((I38 n1 ap np mp tp)) ((V38 n1 ap np mp tp)) (J38 n1 ap np mp tp) (fn := mkFn Tryd.f38) (ts := [1, 4, 5, 6]) (n := 400) rfl (by decide) (by simp) (names_of rfl) ?_ ?_ ?_ h
  · intro s; cases s <;> exact ⟨hd_ok _ _, by simp [I38], names_of rfl, Nat.le_of_ble_eq_true rfl⟩
  · intro Kst Kret x hS hR h
    exact Holds.eq (te38 cond Kst Kret n1 ap np mp tp) (be38 n1 ap np mp tp Kst Kret x hS hR h)
  · intro Kst Kret x hS hR s h
    cases s with
    | h0 x0 x1 => exact Holds.eq (t38_0 cond Kst Kret n1 ap np mp tp x0 x1) (b38_0 n1 ap np mp tp Kst Kret x hS hR x0 x1 h)
    | h1 x0 x1 x2 => exact Holds.eq (t38_1 cond Kst Kret n1 ap np mp tp x0 x1 x2) (b38_1 n1 ap np mp tp Kst Kret x hS hR x0 x1 x2 h)
noncomputable abbrev w38 {α : Type} (g : Bool → Nat → Nat → Nat → (Nat → Int) → α) (x : (Bool × (Nat × Nat × Nat × (Nat → Int) × Unit) × Unit) × Unit) : α := g x.1.1 x.1.2.1.1 x.1.2.1.2.1 x.1.2.1.2.2.1 x.1.2.1.2.2.2.1
noncomputable def k38  : Con := ⟨38, [.agg [.plain (.bool), .list [.int .i64]]], w38 (fun n1 ap np mp tp => decide (ap + np ≤ mp ∧ np ≤ 1000000)), w38 (fun n1 ap np mp tp => (V38 n1 ap np mp tp) ((S.fmtS n1 np (fun j => tp (j + ap))).1, (S.fmtS n1 np (fun j => tp (j + ap))).2)), w38 (fun n1 ap np mp tp => (N38 n1 ap np mp tp) ((S.fmtS n1 np (fun j => tp (j + ap))).1, (S.fmtS n1 np (fun j => tp (j + ap))).2)), fun _ _ => .dead⟩
theorem s38e (n1 : Bool) (ap np mp : Nat) (tp : Nat → Int) (hk : S.okI n1 np (fun j => tp (j + ap)) = true) (h0 : np ≠ 0) (x : Int) (L : List Int) (hx : x < 0) (hl : L.length = 6 * np) (hd : ∀ j, j < L.length → 48 ≤ S.at' L j ∧ S.at' L j ≤ 57) (hv : (S.decN (fun j => S.at' L j - 48) L.length) = (S.val np (fun j => tp (j + ap)))) : Comes (q38 n1 ap np mp tp) (.h0 x L) (S.fmtW n1 (S.val np (fun j => tp (j + ap))), 0) := by
  obtain ⟨l1, g1, z1⟩ := okI_iff.mp hk
  have vp := val_pos g1 (by omega)
  have us : (S.ofB (fun j => S.at' L j) L.length).size = L.length := ofB_size
  have uk : ∀ j, j < L.length → keys (S.ofB (fun j => S.at' L j) L.length) j = S.at' L j := fun j hj => keys_ofB (f := fun j => S.at' L j) hj (by have := hd j hj; (try dsimp only); omega)
  obtain ⟨u, hu⟩ : ∃ u, S.ofB (fun j => S.at' L j) L.length = u := ⟨_, rfl⟩
  rw [hu] at us uk
  have ud : ∀ j, j < u.size → 48 ≤ keys u j ∧ keys u j ≤ 57 := fun j hj => by rw [uk j (by omega)]; exact hd j (by omega)
  have uv : S.decW u u.size = (S.val np (fun j => tp (j + ap))) := by
    rw [us, ← hv]
    exact decN_congr fun j hj => by rw [uk j hj]
  obtain ⟨t1, t2, t3⟩ := tri_ok (n := u.size) rfl ud (by rw [uv]; exact vp)
  have hf : S.numW (S.val np (fun j => tp (j + ap))) = S.triS u 48 := num_is t1 (t2.trans uv)
  unfold S.fmtW
  rw [hf]
  have t3 : (S.triS u 48).size ≤ u.size := t3
  clear uv hv
  apply Comes.of
  show Goes _ _ _
  rw [q38]
  skip
  simp only [hu, eqS_nil]
  generalize S.triS u 48 = w at *
  cases n1
  · rw [if_neg Bool.false_ne_true]
    repeat' (first | with_reducible refine goes_if (fun h => ?_) (fun h => ?_) <;> (try simp only [SH] at h) | exact goes_none.mpr (by omega))
    all_goals first | (exfalso; omega) | exact goes_inr.mpr rfl
  · rw [if_pos rfl]
    repeat' (first | with_reducible refine goes_if (fun h => ?_) (fun h => ?_) <;> (try simp only [SH] at h) | exact goes_none.mpr (by omega))
    all_goals first | (exfalso; omega) | exact goes_inr.mpr rfl
theorem s38i (n1 : Bool) (ap np mp : Nat) (tp : Nat → Int) (hp : ap + np ≤ mp ∧ np ≤ 1000000) (hk : S.okI n1 np (fun j => tp (j + ap)) = true) (i : Nat) (hi : i < np) (X : Int) (hC : ∀ L : List Int, L.length = 6 * (np - i) → (∀ j, j < L.length → 48 ≤ S.at' L j ∧ S.at' L j ≤ 57) → (S.decN (fun j => S.at' L j - 48) L.length) = X * 1000000 + tp (i + ap) → Comes (q38 n1 ap np mp tp) (.h0 ((i : Int) - 1) L) (S.fmtW n1 (S.val np (fun j => tp (j + ap))), 0)) : ∀ (m k : Nat) (L : List Int), k + m = 6 → L.length = 6 * (np - (i + 1)) + k → (∀ j, j < L.length → 48 ≤ S.at' L j ∧ S.at' L j ≤ 57) → (S.decN (fun j => S.at' L j - 48) L.length) = X * pT k + tp (i + ap) / pT m → Comes (q38 n1 ap np mp tp) (.h1 (i : Int) (pT m / 10) L) (S.fmtW n1 (S.val np (fun j => tp (j + ap))), 0) := by
  obtain ⟨l1, g1, z1⟩ := okI_iff.mp hk
  have hx := (okG_iff.mp g1).1 i hi
  (try dsimp only at hx)
  obtain ⟨hp1, hp2⟩ := hp
  intro m
  induction m with
  | zero =>
    intro k L hkm hl hd hv
    obtain rfl : k = 6 := by omega
    have p6 : pT 6 = 1000000 := by decide
    have e0 : tp (i + ap) / pT 0 = tp (i + ap) := Int.ediv_one _
    rw [p6, e0] at hv
    have := hC L (by omega) hd hv
    have z : pT 0 / 10 = 0 := by decide
    rw [z]
    generalize (S.fmtW n1 (S.val np (fun j => tp (j + ap))), 0) = R at *
    clear hC hv
    apply Comes.of
    show Goes _ _ _
    rw [q38]
    skip
    repeat' (first | with_reducible refine goes_if (fun h => ?_) (fun h => ?_) <;> (try simp only [SH] at h) | exact goes_none.mpr (by omega))
    all_goals first | (exfalso; omega) | exact this
  | succ m ih =>
    intro k L hkm hl hd hv
    have pp := p10_pos (n := m)
    have p6 := p10_6 (n := m) (by omega)
    have e0 : pT (m + 1) / 10 = pT m := by show 10 * pT m / 10 = _; omega
    have g0 : 0 ≤ tp (i + ap) / pT m := Int.ediv_nonneg hx.1 (by omega)
    have gl : tp (i + ap) / pT m ≤ tp (i + ap) := Int.ediv_le_self _ hx.1
    have e1 : tp (i + ap) / pT (m + 1) = tp (i + ap) / pT m / 10 := by
      show tp (i + ap) / (10 * pT m) = _
      rw [Int.mul_comm, Int.ediv_ediv_of_nonneg (by omega)]
    have t0 : Int.tdiv (tp (i + ap)) (pT m) = tp (i + ap) / pT m := Int.tdiv_eq_ediv_of_nonneg hx.1
    rw [e1] at hv
    generalize hg : tp (i + ap) / pT m = g at *
    have t1 : Int.tmod g 10 = g % 10 := Int.tmod_eq_emod_of_nonneg g0
    have t2 : Int.tdiv (pT m) 10 = pT m / 10 := Int.tdiv_eq_ediv_of_nonneg (by omega)
    have w8 : IntKind.u8.wrap (48 + g % 10) = 48 + g % 10 := by
      show (48 + g % 10) % 256 = _
      omega
    have ih := ih (k + 1) (S.snoc L (48 + g % 10)) (by omega) (by rw [snoc_len]; omega) (digL_snoc hd (by omega)) (by
      rw [decL_snoc, hv]
      show _ = X * (10 * pT k) + g
      rw [Int.mul_left_comm X 10]
      omega)
    rw [e0]
    generalize (S.fmtW n1 (S.val np (fun j => tp (j + ap))), 0) = R at *
    clear hC hv e0 e1
    generalize pT m = P at *
    apply Comes.of
    show Goes _ _ _
    rw [q38]
    skip
    simp only [Int.toNat_natCast, t0, t1, t2, w8]
    repeat' (first | with_reducible refine goes_if (fun h => ?_) (fun h => ?_) <;> (try simp only [SH] at h) | exact goes_none.mpr (by omega))
    all_goals first | (exfalso; omega) | exact ih
theorem s38o (n1 : Bool) (ap np mp : Nat) (tp : Nat → Int) (hp : ap + np ≤ mp ∧ np ≤ 1000000) (hk : S.okI n1 np (fun j => tp (j + ap)) = true) (h0 : np ≠ 0) : ∀ (i : Nat) (L : List Int), i ≤ np → L.length = 6 * (np - i) → (∀ j, j < L.length → 48 ≤ S.at' L j ∧ S.at' L j ≤ 57) → (S.decN (fun j => S.at' L j - 48) L.length) = S.valF (fun j => tp (j + ap)) i (np - i) → Comes (q38 n1 ap np mp tp) (.h0 ((i : Int) - 1) L) (S.fmtW n1 (S.val np (fun j => tp (j + ap))), 0) := by
  have l1 := (okI_iff.mp hk).1
  intro i
  induction i with
  | zero =>
    intro L hi hl hd hv
    exact s38e n1 ap np mp tp hk h0 _ L (by omega) hl hd hv
  | succ i ih =>
    intro L hi hl hd hv
    have s1 := suf_step (t := (fun j => tp (j + ap))) (n := np) (i := i) (by omega)
    (try dsimp only at s1)
    have hm := s38i n1 ap np mp tp hp hk i (by omega) (S.valF (fun j => tp (j + ap)) (i + 1) (np - (i + 1))) (fun L h1 h2 h3 => ih L (by omega) h1 h2 (by rw [h3, s1]; omega)) 6 0 L (by omega) hl hd (by
      have p6 : pT 6 = 1000000 := by decide
      have hx := (okG_iff.mp (okI_iff.mp hk).2.1).1 i (by omega)
      (try dsimp only at hx)
      rw [hv, p6, Int.ediv_eq_zero_of_lt hx.1 hx.2]
      show _ = _ * 1 + 0
      omega)
    have p6 : pT 6 / 10 = 100000 := by decide
    rw [p6] at hm
    have e1 : (((i + 1 : Nat) : Int) - 1) = i := by omega
    rw [e1]
    generalize (S.fmtW n1 (S.val np (fun j => tp (j + ap))), 0) = R at *
    clear hv s1
    apply Comes.of
    show Goes _ _ _
    rw [q38]
    skip
    repeat' (first | with_reducible refine goes_if (fun h => ?_) (fun h => ?_) <;> (try simp only [SH] at h) | exact goes_none.mpr (by omega))
    all_goals first | (exfalso; omega) | exact hm
theorem s38 (n1 : Bool) (ap np mp : Nat) (tp : Nat → Int) (hp : ap + np ≤ mp ∧ np ≤ 1000000) : Goes ((q38 n1 ap np mp tp)) ((p38 n1 ap np mp tp)) (((S.fmtS n1 np (fun j => tp (j + ap))).1, (S.fmtS n1 np (fun j => tp (j + ap))).2)) := by
  show Goes _ _ (S.fmtS n1 np (fun j => tp (j + ap)))
  have d1 : ap + np ≤ mp ∧ np ≤ 1000000 := hp
  unfold S.fmtS
  by_cases g1 : S.okI n1 np (fun j => tp (j + ap)) = true
  · rw [if_pos g1]
    obtain ⟨l1, k1, z1⟩ := okI_iff.mp g1
    by_cases h0 : np = 0
    · have hv0 : (S.val np (fun j => tp (j + ap))) = 0 := by subst h0; rfl
      have hng : n1 = false := by
        rcases z1 with h | h
        · omega
        · exact h
      subst hng
      unfold S.fmtW
      rw [if_neg Bool.false_ne_true, hv0, num_is nat_zero.1 nat_zero.2]
      unfold p38
      refine goes_ok (decide_eq_true d1) (goes_ok g1 (goes_ok (by rw [h0]; rfl) (goes_inr.mpr rfl)))
    · have hm := s38o n1 ap np mp tp hp g1 h0 np [] (Nat.le_refl _) (by simp) (fun j hj => absurd hj (Nat.not_lt_zero j)) (by rw [Nat.sub_self]; rfl)
      unfold p38
      refine goes_ok (decide_eq_true d1) (goes_ok g1 (goes_no (by rw [beq_eq_false_iff_ne]; omega) ?_))
      generalize (S.fmtW n1 (S.val np (fun j => tp (j + ap))), 0) = R at *
      repeat' (first | with_reducible refine goes_if (fun h => ?_) (fun h => ?_) <;> (try simp only [SH] at h) | exact goes_none.mpr (by omega))
      all_goals first | (exfalso; omega) | exact hm
  · rw [if_neg g1]
    have g1 := Bool.eq_false_iff.mpr g1
    unfold p38
    exact goes_ok (decide_eq_true d1) (goes_no g1 (goes_inr.mpr rfl))
theorem k38_ok  : k38.ok Tryd.prog := by
  intro x hx
  obtain ⟨⟨n1, ⟨ap, np, mp, tp, _⟩, _⟩, _⟩ := x
  obtain ⟨h1, h2⟩ := a38 n1 ap np mp tp (s38 n1 ap np mp tp (of_dec hx rfl))
  exact ⟨⟨400, (by decide : 1 + 1 + 0 ≤ 400), h1⟩, h2⟩
noncomputable def xT10 (test : Bool → Prop → Prop → Prop) : Ext := consX test [k12, k38, k40, k41, k20]
theorem xT10_ok  : ExtOk Tryd.prog (xT10 cond) := consX_ok ⟨k12_ok, k38_ok, k40_ok, k41_ok, k20_ok, trivial⟩
section
variable {n1 n2 : Bool} {n m : Nat} {t u : Nat → Int}
theorem samI_self  {L : List Int} {c : Bool} : S.samI c L.length (fun j => S.at' L j) c L.length (fun j => S.at' L j) = true := decide_eq_true ⟨rfl, rfl⟩
end
theorem par_fmt  {st : ByteArray} (h : (S.parS st).2.1 = 0) : S.fmtS (S.parS st).1 (S.parS st).2.2.length (fun j => S.at' (S.parS st).2.2 j) = (st, 0) := by
  have key : ∀ (ng : Bool) (w : ByteArray), (S.parW ng w).2.1 = 0 → S.fmtS (S.parW ng w).1 (S.parW ng w).2.2.length (fun j => S.at' (S.parW ng w).2.2 j) = ((if ng = true then ByteArray.mk #[(45 : UInt8)] ++ w else w), 0) := by
    intro ng w h
    unfold S.parW at h ⊢
    split at h
    · rename_i hc
      rw [if_pos hc]
      split at h
      · cases h
      · rename_i hz
        rw [if_neg hz]
        dsimp only
        obtain ⟨n1, n2⟩ := nat_dig hc.1
        have b := decN_b (f := fun j => keys w j - 48) (n := w.size) n2
        have b0 : 0 ≤ S.decW w w.size := b.1
        have b1 : S.decW w w.size < pT w.size := b.2
        have b2 := p10_mono (a := w.size) (c := 6 * 80) (by omega)
        rw [p10_pw] at b2
        have hl := grp_le (v := S.decW w w.size) (n := 80) (by omega)
        have hv := val_grpL b0
        have hpos : ng = true → 0 < S.decW w w.size := fun hng => by
          refine Int.not_le.mp fun h0 => hc.2 ⟨hng, ?_⟩
          have hz0 : S.decW w w.size = 0 := by omega
          have := nat_uniq hc.1 nat_zero.1 (by rw [hz0, nat_zero.2])
          rw [this]
          exact ⟨rfl, rfl⟩
        have hs : S.sgB ng (S.decW w w.size) = ng := by
          unfold S.sgB
          cases ng
          · rfl
          · rw [decide_eq_true (hpos rfl)]; rfl
        have hk : S.okI (S.sgB ng (S.decW w w.size)) (S.grp (S.decW w w.size)).length (fun j => S.at' (S.grp (S.decW w w.size)) j) = true := by
          rw [okI_iff]
          refine ⟨hl, grp_ok, ?_⟩
          rw [hs]
          cases ng
          · right; rfl
          · left; exact len_pos (hpos rfl)
        unfold S.fmtS
        rw [if_pos hk, hv, hs]
        unfold S.fmtW
        rw [num_is hc.1 rfl]
    · cases h
  unfold S.parS at h ⊢
  by_cases hM : S.isM st = true
  · rw [if_pos hM] at h ⊢
    rw [key true _ h, if_pos rfl]
    have hM := of_decide_eq_true hM
    congr 1
    have s1 : (ByteArray.mk #[(45 : UInt8)]).size = 1 := rfl
    have hs : (S.subS st 1 st.size).size = st.size - 1 := sub_size (Nat.le_refl _)
    refine keys_ext (by rw [app_size, s1, hs]; omega) fun j hj => ?_
    rw [app_size, s1, hs] at hj
    rw [keys_app]
    split
    · rename_i hj0
      obtain rfl : j = 0 := by omega
      rw [hM.2]; rfl
    · rename_i hj0
      rw [s1] at hj0 ⊢
      rw [keys_sub (Nat.le_refl _) (by omega), show 1 + (j - 1) = j by omega]
  · rw [if_neg hM] at h ⊢
    rw [key false _ h, if_neg Bool.false_ne_true]
theorem par_len  {st : ByteArray} (hz : st.size ≤ 1000) : (S.parS st).2.2.length ≤ 1000 := by
  have key : ∀ (ng : Bool) (w : ByteArray), (S.parW ng w).2.2.length ≤ 1000 := by
    intro ng w
    unfold S.parW
    split
    · rename_i hc
      split
      · exact Nat.zero_le _
      · obtain ⟨n1, n2⟩ := nat_dig hc.1
        have b := decN_b (f := fun j => keys w j - 48) (n := w.size) n2
        have b1 : S.decW w w.size < pT w.size := b.2
        have b2 := p10_mono (a := w.size) (c := 6 * 80) (by omega)
        rw [p10_pw] at b2
        have hl := grp_le (v := S.decW w w.size) (n := 80) (by omega)
        dsimp only
        omega
    · exact Nat.zero_le _
  unfold S.parS
  split
  · exact key _ _
  · exact key _ _
noncomputable abbrev c11_e_0 (st : ByteArray) := decide ((0 + List.length ((S.parS st).2.2) ≤ List.length ((S.parS st).2.2) ∧ List.length ((S.parS st).2.2) ≤ 1000000) ∧ 0 + List.length ((S.parS st).2.2) ≤ List.length ((S.parS st).2.2) ∧ List.length ((S.parS st).2.2) ≤ 1000000)
noncomputable abbrev c11_e_1 (st : ByteArray) := S.samI ((S.parS st).1) (List.length ((S.parS st).2.2)) (fun j => S.at' ((S.parS st).2.2) j) ((S.parS st).1) (List.length ((S.parS st).2.2)) fun j => S.at' ((S.parS st).2.2) j
abbrev St11  := Empty
abbrev Rt11  := Bool
noncomputable def V11 (st : ByteArray) (r : Rt11) : PV := PV.bool r
noncomputable def N11 (st : ByteArray) (r : Rt11) : List Blk := []
noncomputable def I11 (st : ByteArray) : St11 → Hd := fun s => s.elim
noncomputable def q11 (st : ByteArray) : St11 → Option (St11 ⊕ Rt11) := fun s => s.elim
noncomputable def p11 (st : ByteArray) : Option (St11 ⊕ Rt11) := bif (decide ((↑(ByteArray.size st) : Int) > 600)) then (some (.inr (true))) else (bif (decide (ByteArray.size st ≤ 1000000)) then (bif ((S.parS st).2.1 != (S.parS st).2.1) then (bif ((S.parS st).2.1 == (S.parS st).2.1) then (bif (c11_e_0 st) then (bif (c11_e_1 st) then (some (.inr (true))) else (some (.inr (false)))) else (none)) else (some (.inr (false)))) else (bif (c11_e_0 st) then (bif (c11_e_1 st) then (bif ((S.parS st).2.1 != 0) then (bif ((S.parS st).2.1 == (S.parS st).2.1) then (some (.inr (true))) else (some (.inr (false)))) else (bif (decide (0 + List.length ((S.parS st).2.2) ≤ List.length ((S.parS st).2.2) ∧ List.length ((S.parS st).2.2) ≤ 1000000)) then (bif (Prod.snd (S.fmtS ((S.parS st).1) (List.length ((S.parS st).2.2)) fun j => S.at' ((S.parS st).2.2) j) == 0) then (bif (S.eqS (Prod.fst (S.fmtS ((S.parS st).1) (List.length ((S.parS st).2.2)) fun j => S.at' ((S.parS st).2.2) j)) st) then (some (.inr (true))) else (some (.inr (false)))) else (some (.inr (false)))) else (none))) else (bif ((S.parS st).2.1 == (S.parS st).2.1) then (some (.inr (false))) else (some (.inr (false))))) else (none))) else (none))
noncomputable def Te11 (test : TT) (Kst : KS) (Kret : KR) (st : ByteArray) : Prop := test (true) (test (true) (test (decide ((↑(ByteArray.size st) : Int) > 600)) (test (true) (test (true) (Kret (PV.tf true) ([[]]) (2)) (Kret (PV.tf false) ([[]]) (2))) (False)) (test (decide (ByteArray.size st ≤ 1000000)) (test (decide (ByteArray.size st ≤ 1000000)) (test ((S.parS st).2.1 != (S.parS st).2.1) (test ((S.parS st).2.1 == (S.parS st).2.1) (test (c11_e_0 st) (test (c11_e_1 st) (Kret (PV.tf true) ([[]]) (8)) (Kret (PV.tf false) ([[]]) (8))) (False)) (Kret (PV.tf false) ([[]]) (7))) (test (c11_e_0 st) (test (c11_e_1 st) (test ((S.parS st).2.1 != 0) (test ((S.parS st).2.1 == (S.parS st).2.1) (test (c11_e_0 st) (test (c11_e_1 st) (Kret (PV.tf true) ([[]]) (9)) (Kret (PV.tf false) ([[]]) (9))) (False)) (Kret (PV.tf false) ([[]]) (8))) (test (decide (0 + List.length ((S.parS st).2.2) ≤ List.length ((S.parS st).2.2) ∧ List.length ((S.parS st).2.2) ≤ 1000000)) (test (Prod.snd (S.fmtS ((S.parS st).1) (List.length ((S.parS st).2.2)) fun j => S.at' ((S.parS st).2.2) j) == 0) (test (S.eqS (Prod.fst (S.fmtS ((S.parS st).1) (List.length ((S.parS st).2.2)) fun j => S.at' ((S.parS st).2.2) j)) st) (Kret (PV.tf true) ([[]]) (9)) (Kret (PV.tf false) ([[]]) (9))) (Kret (PV.tf false) ([[]]) (9))) (False))) (test ((S.parS st).2.1 == (S.parS st).2.1) (test (c11_e_0 st) (test (c11_e_1 st) (Kret (PV.tf true) ([[]]) (9)) (Kret (PV.tf false) ([[]]) (9))) (False)) (Kret (PV.tf false) ([[]]) (8)))) (False))) (False)) (False))) (test (true) (test (true) (Kret (PV.tf true) ([[]]) (2)) (Kret (PV.tf false) ([[]]) (2))) (False))) (False)
theorem te11 (test : TT) (Kst : KS) (Kret : KR) (st : ByteArray) : run test Tryd.env true (xT10 test) true 400 ⟨11, [.cd (mkFn Tryd.f11).body], argT 0 [.str st], [[], []], 0⟩ (proj 0 [] Kst Kret) =
  Te11 test Kst Kret st := by kernel_rfl
attribute [local irreducible] Int.subNatNat in
theorem be11 (st : ByteArray) (Kst : KS) (Kret : KR) (x : St11 ⊕ Rt11) (hS : HS 0 400 ((I11 st)) Kst x) (hR : HR 0 400 ((V11 st)) (fun r => [newL (0 + 1) ((N11 st) r) ++ []]) Kret x) (h : p11 st = some x) : Te11 cond Kst Kret st := by
  unfold Te11
  unfold p11 at h
  exact cond_yes rfl (cond_yes rfl (bif_split h (fun c0 h => cond_yes rfl (cond_yes rfl (ret_at hR _ h (fun n => n) rfl rfl rfl (rn_bool_tf rfl) rfl entl_nil))) (fun c0 h => bif_split h (fun c1 h => cond_yes c1 (bif_split h (fun c2 h => bif_split h (fun c3 h => bif_split h (fun c4 h => bif_split h (fun c5 h => ret_at hR _ h (fun n => n) rfl rfl rfl (rn_bool_tf rfl) rfl entl_nil) (fun c5 h => ret_at hR _ h (fun n => n) rfl rfl rfl (rn_bool_tf rfl) rfl entl_nil)) (fun c4 h => no_some h)) (fun c3 h => ret_at hR _ h (fun n => n) rfl rfl rfl (rn_bool_tf rfl) rfl entl_nil)) (fun c2 h => bif_split h (fun c3 h => bif_split h (fun c4 h => bif_split h (fun c5 h => bif_split h (fun c6 h => cond_yes c3 (cond_yes c4 (ret_at hR _ h (fun n => n) rfl rfl rfl (rn_bool_tf rfl) rfl entl_nil))) (fun c6 h => ret_at hR _ h (fun n => n) rfl rfl rfl (rn_bool_tf rfl) rfl entl_nil)) (fun c5 h => bif_split h (fun c6 h => bif_split h (fun c7 h => bif_split h (fun c8 h => ret_at hR _ h (fun n => n) rfl rfl rfl (rn_bool_tf rfl) rfl entl_nil) (fun c8 h => ret_at hR _ h (fun n => n) rfl rfl rfl (rn_bool_tf rfl) rfl entl_nil)) (fun c7 h => ret_at hR _ h (fun n => n) rfl rfl rfl (rn_bool_tf rfl) rfl entl_nil)) (fun c6 h => no_some h))) (fun c4 h => bif_split h (fun c5 h => cond_yes c3 (cond_no c4 (ret_at hR _ h (fun n => n) rfl rfl rfl (rn_bool_tf rfl) rfl entl_nil))) (fun c5 h => ret_at hR _ h (fun n => n) rfl rfl rfl (rn_bool_tf rfl) rfl entl_nil))) (fun c3 h => no_some h)))) (fun c1 h => no_some h))))
theorem a11 (st : ByteArray) {r : Rt11} (h : Goes ((q11 st)) ((p11 st)) r) : CallR Tryd.prog 11 [.str st] [[]] 0 ((V11 st) r) ((fun r => [newL (0 + 1) ((N11 st) r) ++ []]) r) 400 ∧ ∃ F, Tryd.prog.funcs[11]? = some F ∧ F.body.isSome = true ∧ (F.name == "runtime.NumGoroutine") = false := by
  refine dec_calls (f := 11) (lo := 0) (hi := 400) Tryd.envOk Tryd.mixed xT10_ok ((I11 st)) ((V11 st)) (fun r => [newL (0 + 1) ((N11 st) r) ++ []]) (fn := mkFn Tryd.f11) (ts := []) (n := 400) rfl (by decide) (by simp) (names_of rfl) ?_ ?_ ?_ h
  · intro s; exact s.elim
  · intro Kst Kret x hS hR h
    exact Holds.eq (te11 cond Kst Kret st) (be11 st Kst Kret x hS hR h)
  · intro Kst Kret x hS hR s h; exact s.elim
noncomputable abbrev w11 {α : Type} (g : ByteArray → α) (x : ByteArray × Unit) : α := g x.1
noncomputable def k11  : Con := ⟨11, [.one (.plain (.str))], w11 (fun st => decide (True)), w11 (fun st => (V11 st) (true)), w11 (fun st => (N11 st) (true)), fun _ _ => .dead⟩
theorem s11 (st : ByteArray) (hp : True) : Goes ((q11 st)) ((p11 st)) (true) := by
  by_cases h0 : (st.size : Int) > 600
  · unfold p11
    exact goes_ok (decide_eq_true h0) (goes_inr.mpr rfl)
  have hl := par_len (st := st) (by omega)
  have hf := @par_fmt st
  have hS : S.samI (S.parS st).1 (S.parS st).2.2.length (fun j => S.at' (S.parS st).2.2 j) (S.parS st).1 (S.parS st).2.2.length (fun j => S.at' (S.parS st).2.2 j) = true := samI_self
  have hE : S.eqS st st = true := eqS_iff.mpr rfl
  unfold p11
  simp only [-eq_self, c11_e_0, c11_e_1]
  by_cases hc : (S.parS st).2.1 = 0
  · have hf := hf hc
    simp only [hS, hf, hE]
    generalize S.parS st = A at *
    repeat' (first | with_reducible refine goes_if (fun h => ?_) (fun h => ?_) <;> (try simp only [SH] at h) | exact goes_none.mpr (by omega))
    all_goals first
      | exact goes_inr.mpr rfl
      | (exfalso; omega)
      | (exfalso; simp_all; done)
  · simp only [hS]
    generalize S.parS st = A at *
    generalize S.fmtS A.1 A.2.2.length (fun j => S.at' A.2.2 j) = B at *
    repeat' (first | with_reducible refine goes_if (fun h => ?_) (fun h => ?_) <;> (try simp only [SH] at h) | exact goes_none.mpr (by omega))
    all_goals first
      | exact goes_inr.mpr rfl
      | (exfalso; omega)
      | (exfalso; simp_all; done)
theorem k11_ok  : k11.ok Tryd.prog := by
  intro x hx
  obtain ⟨st, _⟩ := x
  obtain ⟨h1, h2⟩ := a11 st (s11 st (of_dec hx rfl))
  exact ⟨⟨400, (by decide : 0 + 1 + 0 ≤ 400), h1⟩, h2⟩
theorem pre11  {x : SsI k11.ss} (hx : ssFits k11.ss x) : k11.pre (ssj k11.ss x) = true := decide_eq_true trivial
end Go.Ev
