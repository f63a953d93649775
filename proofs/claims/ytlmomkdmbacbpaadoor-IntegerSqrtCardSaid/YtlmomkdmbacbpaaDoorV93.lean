/-
  The parts that the statement needs, 3 of 3.
-/
import Derived.Test.YtlmomkdmbacbpaaDoorV92
namespace Go.Ev
open Go.Proofs
set_option linter.unusedVariables false
set_option linter.unusedSimpArgs false
set_option maxRecDepth 100000
attribute [local irreducible] Int.subNatNat in
theorem b54_0 (ap np mp : Nat) (tp : NI) (aq nq mq : Nat) (tq : NI) (Kst : KS) (Kret : KR) (x : St54 ⊕ Rt54) (hS : HS 2 400 ((I54 ap np mp tp aq nq mq tq)) Kst x) (hR : HR 2 400 ((V54 ap np mp tp aq nq mq tq)) (J54 ap np mp tp aq nq mq tq) Kret x) (x0 : Int) (x1 x2 x3 x4 : List Int) (h : q54 ap np mp tp aq nq mq tq (.h0 x0 x1 x2 x3 x4) = some x) : T54_0 cond Kst Kret ap np mp tp aq nq mq tq x0 x1 x2 x3 x4 := by
  unfold T54_0
  rw [q54] at h
  exact bif_split h (fun c0 h => bif_split h (fun c1 h => bif_split h (fun c2 h => bif_split h (fun c3 h => bif_split h (fun c4 h => bif_split h (fun c5 h => bif_split h (fun c6 h => bif_split h (fun c7 h => stop_at hS _ h (fun n => bif Nat.beq n 2 then 2 else bif Nat.beq n 3 then 3 else bif Nat.beq n 4 then 4 else bif Nat.beq n 5 then 5 else n) rfl rfl rfl ⟨(rn_own (use_own rfl) rfl rfl), ⟨(rn_own (use_own rfl) rfl mkl_len), ⟨(rn_own (use_own rfl) rfl rfl), ⟨(rn_own (use_own rfl) rfl mkl_len), ⟨(rn_int rfl), trivial⟩⟩⟩⟩⟩ rfl (entl_new (use_own rfl) rfl (Nat.le_of_eq rfl) (rcs_int (fun _ _ => rfl) rcs_nil) (entl_new (use_own rfl) rfl (by first | exact Nat.le_of_eq mkl_len | (simp only [mkl_len, snoc_len]; omega)) (rcs_int (fun _ hj => col_mkl (fun (t : Int) => t) hj) rcs_nil) (entl_new (use_own rfl) rfl (Nat.le_of_eq rfl) (rcs_int (fun _ _ => rfl) rcs_nil) (entl_new (use_own rfl) rfl (Nat.le_of_eq mkl_len) (rcs_int (fun _ hj => col_mkl (fun (t : Int) => t) hj) rcs_nil) (entl_bor (use_lo rfl) rfl rfl (entl_bor (use_lo rfl) rfl rfl entl_nil))))))) (fun c7 h => no_some h)) (fun c6 h => no_some h)) (fun c5 h => no_some h)) (fun c4 h => no_some h)) (fun c3 h => no_some h)) (fun c2 h => no_some h)) (fun c1 h => no_some h)) (fun c0 h => bif_split h (fun c1 h => bif_split h (fun c2 h => bif_split h (fun c3 h => bif_split h (fun c4 h => bif_split h (fun c5 h => bif_split h (fun c6 h => bif_split h (fun c7 h => ret_at hR _ h (fun n => bif Nat.beq n 3 then 8 else bif Nat.beq n 4 then 5 else n) rfl rfl rfl (rn_tup ⟨(rn_own (use_own rfl) rfl rfl), (rn_own (use_own rfl) rfl rfl), trivial⟩) rfl (entl_new (use_own rfl) rfl (Nat.le_of_eq rfl) (rcs_int (fun _ _ => rfl) rcs_nil) (entl_new (use_own rfl) rfl (Nat.le_of_eq rfl) (rcs_int (fun _ _ => rfl) rcs_nil) (entl_bor (use_lo rfl) rfl rfl (entl_bor (use_lo rfl) rfl rfl entl_nil))))) (fun c7 h => no_some h)) (fun c6 h => no_some h)) (fun c5 h => no_some h)) (fun c4 h => no_some h)) (fun c3 h => no_some h)) (fun c2 h => no_some h)) (fun c1 h => no_some h))
theorem a54 (ap np mp : Nat) (tp : NI) (aq nq mq : Nat) (tq : NI) {r : Rt54} (h : Goes ((q54 ap np mp tp aq nq mq tq)) ((p54 ap np mp tp aq nq mq tq)) r) : CallR Tryd.prog 54 [.loose ⟨0, 1, ap, 0⟩ np, .loose ⟨1, 1, aq, 0⟩ nq] [[(0, (false, .cols mp [.int .i64 tp])), (1, (false, .cols mq [.int .i64 tq]))]] 2 ((V54 ap np mp tp aq nq mq tq) r) ((J54 ap np mp tp aq nq mq tq) r) 400 ∧ ∃ F, Tryd.prog.funcs[54]? = some F ∧ F.body.isSome = true ∧ (F.name == "runtime.NumGoroutine") = false := by
  refine dec_calls (f := 54) (lo := 2) (hi := 400) Tryd.envOk Tryd.mixed xF2_ok ((I54 ap np mp tp aq nq mq tq)) ((V54 ap np mp tp aq nq mq tq)) (J54 ap np mp tp aq nq mq tq) (fn := mkFn Tryd.f54) (ts := [8, 9, 10, 11, 12]) (n := 400) rfl (by decide) (by simp) (names_of rfl) ?_ ?_ ?_ h
  · intro s; cases s <;> exact ⟨hd_ok _ _, by simp [I54], names_of rfl, Nat.le_of_ble_eq_true rfl⟩
  · intro Kst Kret x hS hR h
    exact Holds.eq (te54 cond Kst Kret ap np mp tp aq nq mq tq) (be54 ap np mp tp aq nq mq tq Kst Kret x hS hR h)
  · intro Kst Kret x hS hR s h
    cases s with
    | h0 x0 x1 x2 x3 x4 => exact Holds.eq (t54_0 cond Kst Kret ap np mp tp aq nq mq tq x0 x1 x2 x3 x4) (b54_0 ap np mp tp aq nq mq tq Kst Kret x hS hR x0 x1 x2 x3 x4 h)
noncomputable abbrev w54 {α : Type} (g : Nat → Nat → Nat → (Nat → Int) → Nat → Nat → Nat → (Nat → Int) → α) (x : (Nat × Nat × Nat × (Nat → Int) × Unit) × (Nat × Nat × Nat × (Nat → Int) × Unit) × Unit) : α := g x.1.1 x.1.2.1 x.1.2.2.1 x.1.2.2.2.1 x.2.1.1 x.2.1.2.1 x.2.1.2.2.1 x.2.1.2.2.2.1
noncomputable def k54  : Con := ⟨54, [.one (.list [.int .i64]), .one (.list [.int .i64])], w54 (fun ap np mp tp aq nq mq tq => decide ((ap + np ≤ mp ∧ aq + nq ≤ mq) ∧ (np ≤ 900 ∧ nq ≤ 900) ∧ S.okG np (fun j => tp (j + ap)) = true ∧ S.okG nq (fun j => tq (j + aq)) = true ∧ 0 < nq)), w54 (fun ap np mp tp aq nq mq tq => (V54 ap np mp tp aq nq mq tq) (S.grp ((S.val np (fun j => tp (j + ap))) % (S.val nq (fun j => tq (j + aq)))), S.grp ((S.val np (fun j => tp (j + ap))) / (S.val nq (fun j => tq (j + aq)))))), w54 (fun ap np mp tp aq nq mq tq => (N54 ap np mp tp aq nq mq tq) (S.grp ((S.val np (fun j => tp (j + ap))) % (S.val nq (fun j => tq (j + aq)))), S.grp ((S.val np (fun j => tp (j + ap))) / (S.val nq (fun j => tq (j + aq)))))), fun _ _ => .dead⟩
theorem s54' (ap np mp : Nat) (tp : Nat → Int) (aq nq mq : Nat) (tq : Nat → Int) (hp : (ap + np ≤ mp ∧ aq + nq ≤ mq) ∧ (np ≤ 900 ∧ nq ≤ 900) ∧ S.okG np (fun j => tp (j + ap)) = true ∧ S.okG nq (fun j => tq (j + aq)) = true ∧ 0 < nq) (D : List Int) (hD : (S.okG D.length fun j => S.at' D j) = true) (s : Int) (hs : 0 < s ∧ s ≤ 1000000) (hV : (S.val D.length fun j => S.at' D j) = (S.val nq (fun j => tq (j + aq))) * s) (hn : 2 ≤ D.length ∧ D.length ≤ 901) (m : Nat) (hm : m ≤ 950 ∧ m + D.length ≤ 1000) : ∀ (k : Nat) (R Q : List Int), k ≤ m → R.length = m + D.length → Q.length = m → (∀ j, j < m + D.length → 0 ≤ S.at' R j ∧ S.at' R j < 1000000) → (∀ j, j < m → 0 ≤ S.at' Q j ∧ S.at' Q j < 1000000) → S.valF (fun j => S.at' R j) (k) (m + D.length - k) < (S.val nq (fun j => tq (j + aq))) * s → S.valF (fun j => S.at' R j) (0) (m + D.length) + S.pw k * S.valF (fun j => S.at' Q j) (k) (m - k) * ((S.val nq (fun j => tq (j + aq))) * s) = (S.val np (fun j => tp (j + ap))) * s → Comes (q54 ap np mp tp aq nq mq tq) (.h0 ((k : Int) - 1) [s] R D Q) (S.grp ((S.val np (fun j => tp (j + ap))) % (S.val nq (fun j => tq (j + aq)))), S.grp ((S.val np (fun j => tp (j + ap))) / (S.val nq (fun j => tq (j + aq))))) := by
  obtain ⟨⟨hp1, hp2⟩, ⟨hp3, hp4⟩, g1, g2, hq0⟩ := hp
  have vp := val_pos g2 hq0
  have vV : 0 < (S.val nq (fun j => tq (j + aq))) * s := Int.mul_pos vp hs.1
  intro k
  induction k with
  | zero =>
    intro R Q hk hR hQ hdR hdQ hX hE
    rw [Nat.sub_zero] at hX
    have x0 := valF_nn (t := fun j => S.at' R j) (k := m + D.length) (i := 0) fun j _ h => (hdR j (by omega)).1
    have e0 : S.pw 0 = 1 := rfl
    rw [e0, Int.one_mul, Nat.sub_zero] at hE
    have hXs := end_eq hE
    have eR : S.trim R = S.grp (S.valF (fun j => S.at' R j) (0) (m + D.length)) := trim_val hR hdR
    have eQ : S.trim Q = S.grp (S.valF (fun j => S.at' Q j) (0) (m)) := trim_val hQ hdQ
    generalize S.valF (fun j => S.at' Q j) (0) (m) = W at *
    have rs : S.valF (fun j => S.at' R j) (0) (m + D.length) / s = (S.val np (fun j => tp (j + ap))) - W * (S.val nq (fun j => tq (j + aq))) := by rw [hXs]; exact Int.mul_ediv_cancel _ (by omega)
    have r0 : 0 ≤ (S.val np (fun j => tp (j + ap))) - W * (S.val nq (fun j => tq (j + aq))) := by rw [← rs]; exact Int.ediv_nonneg x0 (by omega)
    have r1 : (S.val np (fun j => tp (j + ap))) - W * (S.val nq (fun j => tq (j + aq))) < (S.val nq (fun j => tq (j + aq))) := by
      rw [hXs] at hX
      exact Int.lt_of_mul_lt_mul_right hX (by omega)
    have qd : (S.val np (fun j => tp (j + ap))) / (S.val nq (fun j => tq (j + aq))) = W := div_uniq vp (by omega) (by rw [Int.add_mul, Int.one_mul]; omega)
    have qm : (S.val np (fun j => tp (j + ap))) % (S.val nq (fun j => tq (j + aq))) = (S.val np (fun j => tp (j + ap))) - W * (S.val nq (fun j => tq (j + aq))) := mod_uniq vp (by omega) (by rw [Int.add_mul, Int.one_mul]; omega)
    rw [qd, qm, ← rs, ← eQ]
    generalize hXX : S.valF (fun j => S.at' R j) (0) (m + D.length) = X at *
    have c1 : 0 + (S.grp X).length ≤ (S.grp X).length ∧ (S.grp X).length ≤ 1000 ∧ (S.okD (S.grp X).length fun j => S.at' (S.grp X) j) = true ∧ 0 < s ∧ s ≤ 1000000 := by
      refine ⟨by omega, ?_, okG_D grp_ok, hs⟩
      have := grp_le (v := X) (n := m + D.length) (by rw [← hXX]; exact valF_lt fun j _ h => hdR j (by omega))
      omega
    have e1 : S.trim (S.mkl R.length fun j => S.at' R j) = S.grp X := by rw [show (S.mkl R.length fun j => S.at' R j) = R from mkl_at R]; exact eR
    have e2 : S.trim (S.mkl Q.length fun j => S.at' Q j) = S.trim Q := by rw [show (S.mkl Q.length fun j => S.at' Q j) = Q from mkl_at Q]
    have e3 : S.at' [s] 0 = s := rfl
    rw [hR] at e1
    rw [hQ] at e2
    have e4 := val_grpL x0
    clear hE hXs rs qd qm hX
    apply Comes.of
    show Goes _ _ _
    rw [q54]
    simp only [e1, e2, e3, e4, decide_eq_true c1, hR, hQ]
    repeat' (first | with_reducible refine goes_if (fun h => ?_) (fun h => ?_) <;> (try simp only [SH, List.length_cons, List.length_nil] at h) | exact goes_none.mpr (by omega))
    all_goals first | (exfalso; omega) | exact goes_inr.mpr rfl
  | succ k ih =>
    intro R Q hk hR hQ hdR hdQ hX hE
    have vlt : (S.val nq (fun j => tq (j + aq))) * s < S.pw D.length := by rw [← hV]; exact val_lt (okG_D hD) (Nat.le_refl _)
    have hi := valF_high (t := fun j => S.at' R j) (m := D.length) (k := m - (k + 1)) (i := k + 1) (fun j h1 h2 => hdR j (by omega)) (by rw [show D.length + (m - (k + 1)) = m + D.length - (k + 1) by omega]; omega)
    have r1 : S.valF (fun j => S.at' R j) (k + 1) (m + D.length - (k + 1)) = S.valF (fun j => S.at' R j) (k + 1) (D.length) := by
      rw [show m + D.length - (k + 1) = D.length + (m - (k + 1)) by omega, valF_add, valF_zeros (i := k + 1 + D.length) fun j h1 h2 => hi j h1 (by omega), Int.mul_zero, Int.add_zero]
    rw [r1] at hX
    have hdk := hdR k (by omega)
    have u1 : (S.val (D.length + 1) fun j => S.at' R (j + k)) = S.at' R k + 1000000 * S.valF (fun j => S.at' R j) (k + 1) (D.length) := by
      unfold S.val
      rw [valF_shift (t := fun j => S.at' R j), Nat.zero_add]
      rfl
    have u0 : 0 ≤ S.val (D.length + 1) fun j => S.at' R (j + k) := val_nn (okD_iff.mpr fun j hj => hdR _ (by omega))
    have u2 : (S.val (D.length + 1) fun j => S.at' R (j + k)) < 1000000 * ((S.val nq (fun j => tq (j + aq))) * s) := by omega
    have dU := Int.emod_add_mul_ediv (S.val (D.length + 1) fun j => S.at' R (j + k)) ((S.val nq (fun j => tq (j + aq))) * s)
    have m0 := Int.emod_nonneg (S.val (D.length + 1) fun j => S.at' R (j + k)) (show (S.val nq (fun j => tq (j + aq))) * s ≠ 0 by omega)
    have m1 := Int.emod_lt_of_pos (S.val (D.length + 1) fun j => S.at' R (j + k)) vV
    have q0 : 0 ≤ (S.val (D.length + 1) fun j => S.at' R (j + k)) / ((S.val nq (fun j => tq (j + aq))) * s) := Int.ediv_nonneg u0 (by omega)
    have q1 : (S.val (D.length + 1) fun j => S.at' R (j + k)) / ((S.val nq (fun j => tq (j + aq))) * s) < 1000000 := (Int.ediv_lt_iff_lt_mul vV).mpr u2
    have hz : ∀ j, k + (D.length + 1) ≤ j → j < m + D.length → S.at' R j = 0 := fun j h1 h2 => hi j (by omega) (by omega)
    have lo : S.valF (fun j => S.at' R j) (0) (m + D.length) = S.valF (fun j => S.at' R j) (0) (k) + S.pw k * S.val (D.length + 1) fun j => S.at' R (j + k) := by
      rw [show m + D.length = k + (D.length + 1 + (m - (k + 1))) by omega, valF_add, Nat.zero_add, valF_add (a := D.length + 1), valF_zeros (i := k + (D.length + 1)) fun j h1 h2 => hz j h1 (by omega), Int.mul_zero, Int.add_zero]
      unfold S.val
      rw [valF_shift (t := fun j => S.at' R j), Nat.zero_add]
    generalize hU : (S.val (D.length + 1) fun j => S.at' R (j + k)) = U at *
    generalize hqq : U / ((S.val nq (fun j => tq (j + aq))) * s) = qd at *
    generalize hrr : U % ((S.val nq (fun j => tq (j + aq))) * s) = rd at *
    have w1 : S.valF (fun j => S.at' (S.mkl (m + D.length) fun j => S.winD (fun j => S.at' R j) k (D.length + 1) rd j) j) k (m + D.length - k) = rd := by
      rw [show m + D.length - k = D.length + 1 + (m - (k + 1)) by omega, valF_add, valF_zeros (i := k + (D.length + 1)) fun j h1 h2 => by rw [win_at (by omega), if_neg (by omega)]; exact hz j h1 (by omega), Int.mul_zero, Int.add_zero]
      have vs := valF_shift (t := fun j => S.at' (S.mkl (m + D.length) fun j => S.winD (fun j => S.at' R j) k (D.length + 1) rd j) j) (a := k) (i := 0) (k := D.length + 1)
      rw [Nat.zero_add] at vs
      rw [← vs]
      rw [valF_congr (u := fun j => S.at' (S.grp rd) j) fun j h1 h2 => by rw [win_at (by omega), if_pos (by omega), show j + k - k = j by omega]]
      exact grp_valF m0 (by have : S.pw (D.length + 1) = 1000000 * S.pw D.length := rfl; omega)
    have w2 : S.valF (fun j => S.at' (S.mkl (m + D.length) fun j => S.winD (fun j => S.at' R j) k (D.length + 1) rd j) j) 0 (m + D.length) = S.valF (fun j => S.at' R j) (0) (k) + S.pw k * rd := by
      have := valF_add (t := fun j => S.at' (S.mkl (m + D.length) fun j => S.winD (fun j => S.at' R j) k (D.length + 1) rd j) j) (a := k) (b := m + D.length - k) (i := 0)
      rw [show k + (m + D.length - k) = m + D.length by omega, Nat.zero_add, w1] at this
      rw [this]
      congr 1
      exact valF_congr fun j h1 h2 => by rw [win_at (by omega), if_neg (by omega)]
    have w3 : S.valF (fun j => S.at' (S.mkl m fun j => bif Nat.beq j k then qd else S.at' Q j) j) k (m - k) = qd + 1000000 * S.valF (fun j => S.at' Q j) (k + 1) (m - (k + 1)) := by
      rw [show m - k = (m - (k + 1)) + 1 by omega]
      simp only [S.valF]
      rw [upd_at (by omega), if_pos rfl, valF_congr (u := fun j => S.at' Q j) fun j h1 h2 => by rw [upd_at (by omega), if_neg (by omega)]]
    have ih := ih (S.mkl (m + D.length) fun j => S.winD (fun j => S.at' R j) k (D.length + 1) rd j) (S.mkl m fun j => bif Nat.beq j k then qd else S.at' Q j) (by omega) mkl_len mkl_len
      (fun j hj => by
        rw [win_at hj]
        split
        · exact grp_at
        · exact hdR j hj)
      (upd_dig hQ hdQ ⟨q0, q1⟩) (by rw [w1]; exact m1) (by
        rw [w2, w3]
        refine step_eq (U := U) (by rw [Int.mul_comm]; omega) ?_
        rw [← lo]
        exact hE)
    have e1 : (((k + 1 : Nat) : Int) - 1) = k := by omega
    have e2 : ((k : Int) + D.length + 1).toNat - k = D.length + 1 := by omega
    have c1 : k + (D.length + 1) ≤ m + D.length ∧ m + D.length ≤ 1000000 ∧ D.length + 1 = D.length + 1 ∧ 2 ≤ D.length ∧ D.length ≤ 1000 ∧ 0 + D.length ≤ D.length ∧ (S.okD (D.length + 1) fun j => S.at' R (j + k)) = true ∧ (S.okG D.length fun j => S.at' D j) = true ∧ U < 1000000 * ((S.val nq (fun j => tq (j + aq))) * s) := ⟨by omega, by omega, rfl, hn.1, by omega, by omega, okD_iff.mpr fun j hj => hdR _ (by omega), hD, u2⟩
    have c1' : k + (((k : Int) + D.length + 1).toNat - k) ≤ m + D.length ∧ m + D.length ≤ 1000000 ∧ ((k : Int) + D.length + 1).toNat - k = D.length + 1 ∧ 2 ≤ D.length ∧ D.length ≤ 1000 ∧ 0 + D.length ≤ D.length ∧ (S.okD (((k : Int) + D.length + 1).toNat - k) fun j => S.at' R (j + k)) = true ∧ (S.okG D.length fun j => S.at' D j) = true ∧ (S.val (((k : Int) + D.length + 1).toNat - k) fun j => S.at' R (j + k)) < 1000000 * S.val D.length fun j => S.at' D j := by
      rw [e2, hU, hV]; exact c1
    rw [e1]
    clear hE w1 w2 w3 lo dU hX r1 u1
    apply Comes.of
    show Goes _ _ _
    rw [q54]
    simp only [Int.toNat_natCast, hR, hQ, decide_eq_true c1', cond_true]
    simp only [e2, hU, hV, hqq, hrr, mkl_mkl]
    repeat' (first | with_reducible refine goes_if (fun h => ?_) (fun h => ?_) <;> (try simp only [SH] at h) | exact goes_none.mpr (by omega))
    all_goals first | (exfalso; omega) | exact ih
theorem at_zero  {L : List Int} {j : Nat} : S.at' (L ++ [0]) j = S.at' L j := by
  unfold S.at'
  by_cases h : j < L.length
  · simp [List.getElem?_append_left h]
  · by_cases h2 : j = L.length
    · subst h2; simp
    · simp [List.getElem?_eq_none (show L.length ≤ j by omega), List.getElem?_eq_none (show (L ++ [(0 : Int)]).length ≤ j by simp; omega)]
theorem at_end  {L : List Int} : S.at' L L.length = 0 := by simp [S.at']
theorem lit_at  {s : Int} {j : Nat} (h : j < 1) : S.lit [s] 0 j = s := by
  obtain rfl : j = 0 := by omega
  rfl
theorem mkl_lit  {n : Nat} {f : Nat → Int} (h : n = 1) : S.val n f = f 0 := by
  subst h
  simp only [S.val, S.valF]
  omega
theorem s54 (ap np mp : Nat) (tp : Nat → Int) (aq nq mq : Nat) (tq : Nat → Int) (hp : (ap + np ≤ mp ∧ aq + nq ≤ mq) ∧ (np ≤ 900 ∧ nq ≤ 900) ∧ S.okG np (fun j => tp (j + ap)) = true ∧ S.okG nq (fun j => tq (j + aq)) = true ∧ 0 < nq) : Goes ((q54 ap np mp tp aq nq mq tq)) ((p54 ap np mp tp aq nq mq tq)) ((S.grp ((S.val np (fun j => tp (j + ap))) % (S.val nq (fun j => tq (j + aq)))), S.grp ((S.val np (fun j => tp (j + ap))) / (S.val nq (fun j => tq (j + aq)))))) := by
  have hp' := hp
  obtain ⟨⟨hp1, hp2⟩, ⟨hp3, hp4⟩, g1, g2, hq0⟩ := hp
  have up := val_nn (okG_D g1)
  have vp := val_pos g2 hq0
  have dP := (okG_iff.mp g1).1
  have dQ := (okG_iff.mp g2).1
  have c1 : ap + np ≤ mp ∧ np ≤ 1000000 ∧ aq + nq ≤ mq ∧ nq ≤ 1000000 ∧ S.okG np (fun j => tp (j + ap)) = true ∧ S.okG nq (fun j => tq (j + aq)) = true := ⟨hp1, by omega, hp2, by omega, g1, g2⟩
  have c2 : ap + np ≤ mp ∧ np ≤ 1000000 := ⟨hp1, by omega⟩
  have hC : S.cmpS (S.val np (fun j => tp (j + ap))) (S.val nq (fun j => tq (j + aq))) < 0 ↔ (S.val np (fun j => tp (j + ap))) < (S.val nq (fun j => tq (j + aq))) := by
    unfold S.cmpS
    (repeat' split) <;> omega
  by_cases h1 : (S.val np (fun j => tp (j + ap))) < (S.val nq (fun j => tq (j + aq)))
  · rw [Int.emod_eq_of_lt up h1, Int.ediv_eq_zero_of_lt up h1, grp_zero, ← ok_grp g1]
    unfold p54
    simp only [decide_eq_true c1, decide_eq_true (hC.mpr h1), decide_eq_true c2, cond_true]
    exact goes_inr.mpr rfl
  · have h1' : ¬ S.cmpS (S.val np (fun j => tp (j + ap))) (S.val nq (fun j => tq (j + aq))) < 0 := fun h => h1 (hC.mp h)
    by_cases hn : nq = 1
    · subst hn
      have hv : S.val 1 (fun j => tq (j + aq)) = tq (0 + aq) := mkl_lit rfl
      have q0 := dQ 0 (by omega)
      (try dsimp only at q0)
      rw [hv] at vp ⊢
      have m0 := Int.emod_nonneg (S.val np (fun j => tp (j + ap))) (show tq (0 + aq) ≠ 0 by omega)
      have m1 := Int.emod_lt_of_pos (S.val np (fun j => tp (j + ap))) vp
      have c3 : ap + np ≤ mp ∧ np ≤ 1000 ∧ S.okD np (fun j => tp (j + ap)) = true ∧ 0 < tq (0 + aq) ∧ tq (0 + aq) ≤ 1000000 := ⟨hp1, by omega, okG_D g1, vp, by omega⟩
      have hw : IntKind.u64.wrap ((S.val np (fun j => tp (j + ap))) % tq (0 + aq)) = (S.val np (fun j => tp (j + ap))) % tq (0 + aq) := by rw [IntKind.wrap_u64]; omega
      unfold p54
      simp only [decide_eq_true c1, decide_eq_false h1', decide_eq_true c2, decide_eq_true c3, hw, cond_true, cond_false]
      repeat' (first | with_reducible refine goes_if (fun h => ?_) (fun h => ?_) <;> (try simp only [SH] at h) | exact goes_none.mpr (by omega))
      all_goals first | (exfalso; omega) | exact goes_inr.mpr rfl
    · have l1 := dQ (nq - 1) (by omega)
      have e1 : ((nq : Int) - 1).toNat = nq - 1 := by omega
      (try dsimp only at l1)
      have ts := tdiv_nn (X := 1000000) (Y := tq (nq - 1 + aq) + 1) (by omega) (by omega)
      have tf : 0 < Int.tdiv 1000000 (tq (nq - 1 + aq) + 1) := by
        rcases Int.lt_or_eq_of_le ts.1 with h | h
        · exact h
        · rw [← h] at ts; omega
      obtain ⟨ts0, -, ts2⟩ := ts
      have l2 : 1 ≤ tq (nq - 1 + aq) := by
        have := (okG_iff.mp g2).2
        rcases this with h | h
        · omega
        · (try dsimp only at h); omega
      have ts5 : Int.tdiv 1000000 (tq (nq - 1 + aq) + 1) ≤ 500000 := by
        rw [Int.tdiv_eq_ediv_of_nonneg (by omega)]
        have := (Int.ediv_lt_iff_lt_mul (a := 1000000) (b := 500001) (c := tq (nq - 1 + aq) + 1) (by omega)).mpr (by omega)
        omega
      generalize hs : Int.tdiv 1000000 (tq (nq - 1 + aq) + 1) = s at *
      have hv1 : (S.val 1 fun j => S.lit [s] 0 j) = s := mkl_lit rfl
      have hkS : (S.okG 1 fun j => S.lit [s] 0 j) = true := okG_iff.mpr ⟨fun j hj => by rw [lit_at hj]; omega, .inr (show s ≠ 0 by omega)⟩
      have vq1 : S.pw (nq - 1) ≤ (S.val nq (fun j => tq (j + aq))) := by
        have h := valF_snoc (t := (fun j => tq (j + aq))) (i := 0) (k := nq - 1)
        rw [show nq - 1 + 1 = nq by omega, Nat.zero_add] at h
        have h' : (S.val nq (fun j => tq (j + aq))) = S.valF (fun j => tq (j + aq)) 0 (nq - 1) + S.pw (nq - 1) * tq (nq - 1 + aq) := h
        have n0 := valF_nn (t := (fun j => tq (j + aq))) (k := nq - 1) (i := 0) fun j _ h => (dQ j (by omega)).1
        have : S.pw (nq - 1) * 1 ≤ S.pw (nq - 1) * tq (nq - 1 + aq) := Int.mul_le_mul_of_nonneg_left (by omega) (by have := pw_pos (k := nq - 1); omega)
        omega
      have vs1 : (S.val nq (fun j => tq (j + aq))) * 1 ≤ (S.val nq (fun j => tq (j + aq))) * s := Int.mul_le_mul_of_nonneg_left (by omega) (by omega)
      have us1 : (S.val nq (fun j => tq (j + aq))) * s ≤ (S.val np (fun j => tp (j + ap))) * s := Int.mul_le_mul_of_nonneg_right (by omega) (by omega)
      have pw1 : S.pw 1 = 1000000 := rfl
      have uB := (mul_lt (a := np) (b := 1) ⟨up, val_lt (okG_D g1) (Nat.le_refl np)⟩ ⟨show 0 ≤ s by omega, by omega⟩).2
      have vB := (mul_lt (a := nq) (b := 1) ⟨by omega, val_lt (okG_D g2) (Nat.le_refl nq)⟩ ⟨show 0 ≤ s by omega, by omega⟩).2
      have lu := grp_le uB
      have lv := grp_le vB
      have lv2 := len_ge (k := nq - 1) (v := (S.val nq (fun j => tq (j + aq))) * s) (by omega)
      have hV := val_grpL (v := (S.val nq (fun j => tq (j + aq))) * s) (by omega)
      have hU : S.valL (S.grp ((S.val np (fun j => tp (j + ap))) * s)) = (S.val np (fun j => tp (j + ap))) * s := val_grp (by omega)
      have lm : (S.grp ((S.val nq (fun j => tq (j + aq))) * s)).length ≤ (S.grp ((S.val np (fun j => tp (j + ap))) * s)).length := by
        refine grp_le (Int.lt_of_le_of_lt us1 ?_)
        have := val_lt (okG_D (grp_ok (v := (S.val np (fun j => tp (j + ap))) * s))) (Nat.le_refl _)
        rw [val_at, hU] at this
        exact this
      have lp : S.pw ((S.grp ((S.val nq (fun j => tq (j + aq))) * s)).length - 1) ≤ (S.val nq (fun j => tq (j + aq))) * s := by
        refine Int.not_lt.mp fun h => ?_
        have := grp_le h
        omega
      have hDk : (S.okG (S.grp ((S.val nq (fun j => tq (j + aq))) * s)).length fun j => S.at' (S.grp ((S.val nq (fun j => tq (j + aq))) * s)) j) = true := grp_ok
      obtain ⟨m, hmm⟩ : ∃ m, m = (S.grp ((S.val np (fun j => tp (j + ap))) * s)).length + 1 - (S.grp ((S.val nq (fun j => tq (j + aq))) * s)).length := ⟨_, rfl⟩
      have hRl : (S.snoc (S.grp ((S.val np (fun j => tp (j + ap))) * s)) 0).length = m + (S.grp ((S.val nq (fun j => tq (j + aq))) * s)).length := by rw [snoc_len]; omega
      have hRa : ∀ j, S.at' (S.snoc (S.grp ((S.val np (fun j => tp (j + ap))) * s)) 0) j = S.at' (S.grp ((S.val np (fun j => tp (j + ap))) * s)) j := fun j => by rw [snoc_eq]; exact at_zero
      have hdR : ∀ j, j < m + (S.grp ((S.val nq (fun j => tq (j + aq))) * s)).length → 0 ≤ S.at' (S.snoc (S.grp ((S.val np (fun j => tp (j + ap))) * s)) 0) j ∧ S.at' (S.snoc (S.grp ((S.val np (fun j => tp (j + ap))) * s)) 0) j < 1000000 := fun j _ => by rw [hRa]; exact grp_at
      have hRv : S.valF (fun j => S.at' (S.snoc (S.grp ((S.val np (fun j => tp (j + ap))) * s)) 0) j) 0 (m + (S.grp ((S.val nq (fun j => tq (j + aq))) * s)).length) = (S.val np (fun j => tp (j + ap))) * s := by
        rw [show (fun j => S.at' (S.snoc (S.grp ((S.val np (fun j => tp (j + ap))) * s)) 0) j) = fun j => S.at' (S.grp ((S.val np (fun j => tp (j + ap))) * s)) j from funext hRa]
        exact grp_valF (by omega) (by have := val_lt (okG_D (grp_ok (v := (S.val np (fun j => tp (j + ap))) * s))) (show (S.grp ((S.val np (fun j => tp (j + ap))) * s)).length ≤ m + (S.grp ((S.val nq (fun j => tq (j + aq))) * s)).length by omega); rw [val_at, hU] at this; exact this)
      have hRt : S.valF (fun j => S.at' (S.snoc (S.grp ((S.val np (fun j => tp (j + ap))) * s)) 0) j) m (m + (S.grp ((S.val nq (fun j => tq (j + aq))) * s)).length - m) < (S.val nq (fun j => tq (j + aq))) * s := by
        rw [show (fun j => S.at' (S.snoc (S.grp ((S.val np (fun j => tp (j + ap))) * s)) 0) j) = fun j => S.at' (S.grp ((S.val np (fun j => tp (j + ap))) * s)) j from funext hRa]
        rw [show m + (S.grp ((S.val nq (fun j => tq (j + aq))) * s)).length - m = (S.grp ((S.val nq (fun j => tq (j + aq))) * s)).length - 1 + 1 by omega, valF_snoc, show m + ((S.grp ((S.val nq (fun j => tq (j + aq))) * s)).length - 1) = (S.grp ((S.val np (fun j => tp (j + ap))) * s)).length by omega, at_end, Int.mul_zero, Int.add_zero]
        exact Int.lt_of_lt_of_le (valF_lt fun j _ _ => grp_at) lp
      have hz : ∀ j, S.at' (S.mkl m fun _ => (0 : Int)) j = 0 := fun j => by
        by_cases h : j < m
        · exact at_mkl h
        · simp [S.at', List.getElem?_eq_none (show (S.mkl m fun _ => (0 : Int)).length ≤ j by rw [mkl_len]; omega)]
      have hm := s54' ap np mp tp aq nq mq tq hp' (S.grp ((S.val nq (fun j => tq (j + aq))) * s)) hDk s ⟨tf, by omega⟩ hV ⟨by omega, by omega⟩ m ⟨by omega, by omega⟩ m (S.snoc (S.grp ((S.val np (fun j => tp (j + ap))) * s)) 0) (S.mkl m fun _ => 0) (Nat.le_refl _) hRl mkl_len hdR (fun j _ => by rw [hz]; omega) hRt (by rw [hRv, Nat.sub_self]; simp only [S.valF]; rw [Int.mul_zero, Int.zero_mul, Int.add_zero])
      have c4 : (ap + np ≤ mp ∧ 1 ≤ 1) ∧ (np ≤ 1000 ∧ 1 ≤ 1000) ∧ S.okG np (fun j => tp (j + ap)) = true ∧ (S.okG 1 fun j => S.lit [s] 0 j) = true := ⟨⟨hp1, by omega⟩, ⟨by omega, by omega⟩, g1, hkS⟩
      have c5 : (aq + nq ≤ mq ∧ 1 ≤ 1) ∧ (nq ≤ 1000 ∧ 1 ≤ 1000) ∧ S.okG nq (fun j => tq (j + aq)) = true ∧ (S.okG 1 fun j => S.lit [s] 0 j) = true := ⟨⟨hp2, by omega⟩, ⟨by omega, by omega⟩, g2, hkS⟩
      have e5 : (((S.grp ((S.val np (fun j => tp (j + ap))) * s)).length + 1 : Nat) : Int) - ((S.grp ((S.val nq (fun j => tq (j + aq))) * s)).length : Int) = (m : Int) := by omega
      clear uB vB hRl hRa hdR hRv hRt hU hV lp lm
      unfold p54
      simp only [decide_eq_true c1, decide_eq_false h1', cond_true, cond_false, e1, hs, hv1, decide_eq_true c4, decide_eq_true c5, e5, Int.toNat_natCast]
      repeat' (first | with_reducible refine goes_if (fun h => ?_) (fun h => ?_) <;> (try simp only [SH] at h) | exact goes_none.mpr (by omega))
      all_goals first | (exfalso; omega) | exact hm
theorem k54_ok  : k54.ok Tryd.prog := by
  intro x hx
  obtain ⟨⟨ap, np, mp, tp, _⟩, ⟨aq, nq, mq, tq, _⟩, _⟩ := x
  obtain ⟨h1, h2⟩ := a54 ap np mp tp aq nq mq tq (s54 ap np mp tp aq nq mq tq (of_dec hx rfl))
  exact ⟨⟨400, (by decide : 2 + 1 + 2 ≤ 400), h1⟩, h2⟩
noncomputable def xF3 (test : Bool → Prop → Prop → Prop) : Ext := consX test [k69, k65, k69v, k65v, k60, k61, k44, k55, k45, k56, k52, k53, k71, k77, k54]
theorem xF3_ok  : ExtOk Tryd.prog (xF3 cond) := consX_ok ⟨k69_ok, k65_ok, k69v_ok, k65v_ok, k60_ok, k61_ok, k44_ok, k55_ok, k45_ok, k56_ok, k52_ok, k53_ok, k71_ok, k77_ok, k54_ok, trivial⟩
noncomputable def xG2 (test : Bool → Prop → Prop → Prop) : Ext := consX test [k69, k65, k69v, k65v, k60, k61, k44, k55, k45, k56, k46, k18, k19, k54]
theorem xG2_ok  : ExtOk Tryd.prog (xG2 cond) := consX_ok ⟨k69_ok, k65_ok, k69v_ok, k65v_ok, k60_ok, k61_ok, k44_ok, k55_ok, k45_ok, k56_ok, k46_ok, k18_ok, k19_ok, k54_ok, trivial⟩
section
variable {c : Bool} {q r : Int}
end
theorem cmpS_sv  {n1 n2 : Bool} {V W : Int} (hV : 0 ≤ V) (hW : 0 ≤ W) (h1 : 0 < V ∨ n1 = false) (h2 : 0 < W ∨ n2 = false) : S.cmpS (S.sv n1 V) (S.sv n2 W) = bif n1 then (bif n2 then S.cmpS W V else -1) else (bif n2 then 1 else S.cmpS V W) := by
  unfold S.cmpS S.sv
  cases n1 <;> cases n2 <;> simp only [cond_true, cond_false, Bool.true_eq_false, or_false] at * <;> (repeat' split) <;> omega
abbrev St31  := Empty
abbrev Rt31  := Int
noncomputable def V31 (n1 : Bool) (ap np mp : Nat) (tp : NI) (n2 : Bool) (aq nq mq : Nat) (tq : NI) (r : Rt31) : PV := PV.int .i64 r
noncomputable def N31 (n1 : Bool) (ap np mp : Nat) (tp : NI) (n2 : Bool) (aq nq mq : Nat) (tq : NI) (r : Rt31) : List Blk := []
noncomputable def I31 (n1 : Bool) (ap np mp : Nat) (tp : NI) (n2 : Bool) (aq nq mq : Nat) (tq : NI) : St31 → Hd := fun s => s.elim
noncomputable def q31 (n1 : Bool) (ap np mp : Nat) (tp : NI) (n2 : Bool) (aq nq mq : Nat) (tq : NI) : St31 → Option (St31 ⊕ Rt31) := fun s => s.elim
noncomputable def p31 (n1 : Bool) (ap np mp : Nat) (tp : NI) (n2 : Bool) (aq nq mq : Nat) (tq : NI) : Option (St31 ⊕ Rt31) := bif (decide (ap + np ≤ mp ∧ np ≤ 1000000)) then (bif (S.okI n1 np fun j => tp (j + ap)) then (bif (decide (aq + nq ≤ mq ∧ nq ≤ 1000000)) then (bif (S.okI n2 nq fun j => tq (j + aq)) then (bif (n1) then (bif (n2) then (bif (decide (aq + nq ≤ mq ∧ nq ≤ 1000000 ∧ ap + np ≤ mp ∧ np ≤ 1000000 ∧ (S.okG nq fun j => tq (j + aq)) = true ∧ (S.okG np fun j => tp (j + ap)) = true)) then (some (.inr (S.cmpS (S.val nq fun j => tq (j + aq)) (S.val np fun j => tp (j + ap))))) else (none)) else (some (.inr ((-1 : Int))))) else (bif (n2) then (some (.inr ((1 : Int)))) else (bif (decide (ap + np ≤ mp ∧ np ≤ 1000000 ∧ aq + nq ≤ mq ∧ nq ≤ 1000000 ∧ (S.okG np fun j => tp (j + ap)) = true ∧ (S.okG nq fun j => tq (j + aq)) = true)) then (some (.inr (S.cmpS (S.val np fun j => tp (j + ap)) (S.val nq fun j => tq (j + aq))))) else (none)))) else (some (.inr ((0 : Int))))) else (none)) else (some (.inr ((0 : Int))))) else (none)
noncomputable def Te31 (test : TT) (Kst : KS) (Kret : KR) (n1 : Bool) (ap np mp : Nat) (tp : NI) (n2 : Bool) (aq nq mq : Nat) (tq : NI) : Prop := test (decide (ap + np ≤ mp ∧ np ≤ 1000000)) (test (S.okI n1 np fun j => tp (j + ap)) (test (decide (aq + nq ≤ mq ∧ nq ≤ 1000000)) (test (S.okI n2 nq fun j => tq (j + aq)) (test (n1) (test (n2) (test (n1) (test (n1) (test (decide (aq + nq ≤ mq ∧ nq ≤ 1000000 ∧ ap + np ≤ mp ∧ np ≤ 1000000 ∧ (S.okG nq fun j => tq (j + aq)) = true ∧ (S.okG np fun j => tp (j + ap)) = true)) (Kret (PV.int .i64 (S.cmpS (S.val nq fun j => tq (j + aq)) (S.val np fun j => tp (j + ap)))) ([[(1, false, Blk.cols mq [Col.int .i64 tq]), (0, false, Blk.cols mp [Col.int .i64 tp])]]) (7)) (False)) (test (decide (ap + np ≤ mp ∧ np ≤ 1000000 ∧ aq + nq ≤ mq ∧ nq ≤ 1000000 ∧ (S.okG np fun j => tp (j + ap)) = true ∧ (S.okG nq fun j => tq (j + aq)) = true)) (Kret (PV.int .i64 (S.cmpS (S.val np fun j => tp (j + ap)) (S.val nq fun j => tq (j + aq)))) ([[(1, false, Blk.cols mq [Col.int .i64 tq]), (0, false, Blk.cols mp [Col.int .i64 tp])]]) (7)) (False))) (test (n2) (Kret (PV.int .i64 (1 : Int)) ([[(1, false, Blk.cols mq [Col.int .i64 tq]), (0, false, Blk.cols mp [Col.int .i64 tp])]]) (6)) (test (n1) (test (decide (aq + nq ≤ mq ∧ nq ≤ 1000000 ∧ ap + np ≤ mp ∧ np ≤ 1000000 ∧ (S.okG nq fun j => tq (j + aq)) = true ∧ (S.okG np fun j => tp (j + ap)) = true)) (Kret (PV.int .i64 (S.cmpS (S.val nq fun j => tq (j + aq)) (S.val np fun j => tp (j + ap)))) ([[(1, false, Blk.cols mq [Col.int .i64 tq]), (0, false, Blk.cols mp [Col.int .i64 tp])]]) (7)) (False)) (test (decide (ap + np ≤ mp ∧ np ≤ 1000000 ∧ aq + nq ≤ mq ∧ nq ≤ 1000000 ∧ (S.okG np fun j => tp (j + ap)) = true ∧ (S.okG nq fun j => tq (j + aq)) = true)) (Kret (PV.int .i64 (S.cmpS (S.val np fun j => tp (j + ap)) (S.val nq fun j => tq (j + aq)))) ([[(1, false, Blk.cols mq [Col.int .i64 tq]), (0, false, Blk.cols mp [Col.int .i64 tp])]]) (7)) (False))))) (Kret (PV.int .i64 (-1 : Int)) ([[(1, false, Blk.cols mq [Col.int .i64 tq]), (0, false, Blk.cols mp [Col.int .i64 tp])]]) (6))) (test (n1) (test (n1) (test (decide (aq + nq ≤ mq ∧ nq ≤ 1000000 ∧ ap + np ≤ mp ∧ np ≤ 1000000 ∧ (S.okG nq fun j => tq (j + aq)) = true ∧ (S.okG np fun j => tp (j + ap)) = true)) (Kret (PV.int .i64 (S.cmpS (S.val nq fun j => tq (j + aq)) (S.val np fun j => tp (j + ap)))) ([[(1, false, Blk.cols mq [Col.int .i64 tq]), (0, false, Blk.cols mp [Col.int .i64 tp])]]) (7)) (False)) (test (decide (ap + np ≤ mp ∧ np ≤ 1000000 ∧ aq + nq ≤ mq ∧ nq ≤ 1000000 ∧ (S.okG np fun j => tp (j + ap)) = true ∧ (S.okG nq fun j => tq (j + aq)) = true)) (Kret (PV.int .i64 (S.cmpS (S.val np fun j => tp (j + ap)) (S.val nq fun j => tq (j + aq)))) ([[(1, false, Blk.cols mq [Col.int .i64 tq]), (0, false, Blk.cols mp [Col.int .i64 tp])]]) (7)) (False))) (test (n2) (Kret (PV.int .i64 (1 : Int)) ([[(1, false, Blk.cols mq [Col.int .i64 tq]), (0, false, Blk.cols mp [Col.int .i64 tp])]]) (6)) (test (n1) (test (decide (aq + nq ≤ mq ∧ nq ≤ 1000000 ∧ ap + np ≤ mp ∧ np ≤ 1000000 ∧ (S.okG nq fun j => tq (j + aq)) = true ∧ (S.okG np fun j => tp (j + ap)) = true)) (Kret (PV.int .i64 (S.cmpS (S.val nq fun j => tq (j + aq)) (S.val np fun j => tp (j + ap)))) ([[(1, false, Blk.cols mq [Col.int .i64 tq]), (0, false, Blk.cols mp [Col.int .i64 tp])]]) (7)) (False)) (test (decide (ap + np ≤ mp ∧ np ≤ 1000000 ∧ aq + nq ≤ mq ∧ nq ≤ 1000000 ∧ (S.okG np fun j => tp (j + ap)) = true ∧ (S.okG nq fun j => tq (j + aq)) = true)) (Kret (PV.int .i64 (S.cmpS (S.val np fun j => tp (j + ap)) (S.val nq fun j => tq (j + aq)))) ([[(1, false, Blk.cols mq [Col.int .i64 tq]), (0, false, Blk.cols mp [Col.int .i64 tp])]]) (7)) (False)))))) (Kret (PV.int .i64 (0 : Int)) ([[(1, false, Blk.cols mq [Col.int .i64 tq]), (0, false, Blk.cols mp [Col.int .i64 tp])]]) (6))) (False)) (Kret (PV.int .i64 (0 : Int)) ([[(1, false, Blk.cols mq [Col.int .i64 tq]), (0, false, Blk.cols mp [Col.int .i64 tp])]]) (5))) (False)
theorem te31 (test : TT) (Kst : KS) (Kret : KR) (n1 : Bool) (ap np mp : Nat) (tp : NI) (n2 : Bool) (aq nq mq : Nat) (tq : NI) : run test Tryd.env true (xG2 test) true 400 ⟨31, [.cd (mkFn Tryd.f31).body], argT 0 [.agg [.bool n1, .loose ⟨0, 1, ap, 0⟩ np], .agg [.bool n2, .loose ⟨1, 1, aq, 0⟩ nq]], [[], [(0, (false, .cols mp [.int .i64 tp])), (1, (false, .cols mq [.int .i64 tq]))]], 2⟩ (proj 2 [] Kst Kret) =
  Te31 test Kst Kret n1 ap np mp tp n2 aq nq mq tq := by kernel_rfl
noncomputable abbrev J31 (n1 : Bool) (ap np mp : Nat) (tp : NI) (n2 : Bool) (aq nq mq : Nat) (tq : NI) : Rt31 → Heap := fun r => [newL (2 + 1) ((N31 n1 ap np mp tp n2 aq nq mq tq) r) ++ [(0, (false, .cols mp [.int .i64 tp])), (1, (false, .cols mq [.int .i64 tq]))]]
attribute [local irreducible] Int.subNatNat in
theorem be31 (n1 : Bool) (ap np mp : Nat) (tp : NI) (n2 : Bool) (aq nq mq : Nat) (tq : NI) (Kst : KS) (Kret : KR) (x : St31 ⊕ Rt31) (hS : HS 2 400 ((I31 n1 ap np mp tp n2 aq nq mq tq)) Kst x) (hR : HR 2 400 ((V31 n1 ap np mp tp n2 aq nq mq tq)) (J31 n1 ap np mp tp n2 aq nq mq tq) Kret x) (h : p31 n1 ap np mp tp n2 aq nq mq tq = some x) : Te31 cond Kst Kret n1 ap np mp tp n2 aq nq mq tq := by
  unfold Te31
  unfold p31 at h
  refine bif_split h (fun c0 h => bif_split h (fun c1 h => bif_split h (fun c2 h => bif_split h (fun c3 h => bif_split h (fun c4 h => bif_split h (fun c5 h => cond_yes c4 (cond_yes c4 (bif_split h (fun c6 h => ?_) (fun c6 h => ?_)))) (fun c5 h => ?_)) (fun c4 h => cond_no c4 (bif_split h (fun c5 h => ?_) (fun c5 h => cond_no c4 (bif_split h (fun c6 h => ?_) (fun c6 h => ?_)))))) (fun c3 h => ?_)) (fun c2 h => ?_)) (fun c1 h => ?_)) (fun c0 h => ?_)
  all_goals first
    | exact ret_at hR _ h (fun n => n) rfl rfl rfl (rn_int rfl) rfl (entl_bor (use_lo rfl) rfl rfl (entl_bor (use_lo rfl) rfl rfl entl_nil))
    | exact no_some h
theorem a31 (n1 : Bool) (ap np mp : Nat) (tp : NI) (n2 : Bool) (aq nq mq : Nat) (tq : NI) {r : Rt31} (h : Goes ((q31 n1 ap np mp tp n2 aq nq mq tq)) ((p31 n1 ap np mp tp n2 aq nq mq tq)) r) : CallR Tryd.prog 31 [.agg [.bool n1, .loose ⟨0, 1, ap, 0⟩ np], .agg [.bool n2, .loose ⟨1, 1, aq, 0⟩ nq]] [[(0, (false, .cols mp [.int .i64 tp])), (1, (false, .cols mq [.int .i64 tq]))]] 2 ((V31 n1 ap np mp tp n2 aq nq mq tq) r) ((J31 n1 ap np mp tp n2 aq nq mq tq) r) 400 ∧ ∃ F, Tryd.prog.funcs[31]? = some F ∧ F.body.isSome = true ∧ (F.name == "runtime.NumGoroutine") = false := by
  refine dec_calls (f := 31) (lo := 2) (hi := 400) Tryd.envOk Tryd.mixed xG2_ok ((I31 n1 ap np mp tp n2 aq nq mq tq)) ((V31 n1 ap np mp tp n2 aq nq mq tq)) (J31 n1 ap np mp tp n2 aq nq mq tq) (fn := mkFn Tryd.f31) (ts := []) (n := 400) rfl (by decide) (by simp) (names_of rfl) ?_ ?_ ?_ h
  · intro s; exact s.elim
  · intro Kst Kret x hS hR h
    exact Holds.eq (te31 cond Kst Kret n1 ap np mp tp n2 aq nq mq tq) (be31 n1 ap np mp tp n2 aq nq mq tq Kst Kret x hS hR h)
  · intro Kst Kret x hS hR s h; exact s.elim
noncomputable abbrev w31 {α : Type} (g : Bool → Nat → Nat → Nat → (Nat → Int) → Bool → Nat → Nat → Nat → (Nat → Int) → α) (x : (Bool × (Nat × Nat × Nat × (Nat → Int) × Unit) × Unit) × (Bool × (Nat × Nat × Nat × (Nat → Int) × Unit) × Unit) × Unit) : α := g x.1.1 x.1.2.1.1 x.1.2.1.2.1 x.1.2.1.2.2.1 x.1.2.1.2.2.2.1 x.2.1.1 x.2.1.2.1.1 x.2.1.2.1.2.1 x.2.1.2.1.2.2.1 x.2.1.2.1.2.2.2.1
noncomputable def k31  : Con := ⟨31, [.agg [.plain (.bool), .list [.int .i64]], .agg [.plain (.bool), .list [.int .i64]]], w31 (fun n1 ap np mp tp n2 aq nq mq tq => decide ((ap + np ≤ mp ∧ np ≤ 1000000) ∧ aq + nq ≤ mq ∧ nq ≤ 1000000)), w31 (fun n1 ap np mp tp n2 aq nq mq tq => (V31 n1 ap np mp tp n2 aq nq mq tq) (S.cmpI n1 np (fun j => tp (j + ap)) n2 nq (fun j => tq (j + aq)))), w31 (fun n1 ap np mp tp n2 aq nq mq tq => (N31 n1 ap np mp tp n2 aq nq mq tq) (S.cmpI n1 np (fun j => tp (j + ap)) n2 nq (fun j => tq (j + aq)))), fun _ _ => .dead⟩
theorem s31 (n1 : Bool) (ap np mp : Nat) (tp : Nat → Int) (n2 : Bool) (aq nq mq : Nat) (tq : Nat → Int) (hp : (ap + np ≤ mp ∧ np ≤ 1000000) ∧ aq + nq ≤ mq ∧ nq ≤ 1000000) : Goes ((q31 n1 ap np mp tp n2 aq nq mq tq)) ((p31 n1 ap np mp tp n2 aq nq mq tq)) (S.cmpI n1 np (fun j => tp (j + ap)) n2 nq (fun j => tq (j + aq))) := by
  obtain ⟨⟨hp1, hp2⟩, hp3, hp4⟩ := hp
  have d1 : ap + np ≤ mp ∧ np ≤ 1000000 := ⟨hp1, hp2⟩
  have d2 : aq + nq ≤ mq ∧ nq ≤ 1000000 := ⟨hp3, hp4⟩
  unfold S.cmpI
  by_cases g1 : S.okI n1 np (fun j => tp (j + ap)) = true
  · by_cases g2 : S.okI n2 nq (fun j => tq (j + aq)) = true
    · rw [if_pos ⟨g1, g2⟩]
      obtain ⟨l1, k1, z1⟩ := okI_iff.mp g1
      obtain ⟨l2, k2, z2⟩ := okI_iff.mp g2
      have v1 := val_nn (okG_D k1)
      have v2 := val_nn (okG_D k2)
      rw [cmpS_sv v1 v2 (by rcases z1 with h | h; exact .inl (val_pos k1 h); exact .inr h) (by rcases z2 with h | h; exact .inl (val_pos k2 h); exact .inr h)]
      have c1 : aq + nq ≤ mq ∧ nq ≤ 1000000 ∧ ap + np ≤ mp ∧ np ≤ 1000000 ∧ S.okG nq (fun j => tq (j + aq)) = true ∧ S.okG np (fun j => tp (j + ap)) = true := ⟨hp3, hp4, hp1, hp2, k2, k1⟩
      have c2 : ap + np ≤ mp ∧ np ≤ 1000000 ∧ aq + nq ≤ mq ∧ nq ≤ 1000000 ∧ S.okG np (fun j => tp (j + ap)) = true ∧ S.okG nq (fun j => tq (j + aq)) = true := ⟨hp1, hp2, hp3, hp4, k1, k2⟩
      unfold p31
      cases n1 <;> cases n2 <;> simp only [g1, g2, decide_eq_true d1, decide_eq_true d2, cond_true, cond_false, decide_eq_true c1, decide_eq_true c2] <;> exact goes_inr.mpr rfl
    · rw [if_neg (fun h => g2 h.2)]
      have g2 := Bool.not_eq_true _ ▸ g2
      unfold p31
      simp only [cond_true, cond_false, g1, g2, decide_eq_true d1, decide_eq_true d2]
      exact goes_inr.mpr rfl
  · rw [if_neg (fun h => g1 h.1)]
    have g1 := Bool.not_eq_true _ ▸ g1
    unfold p31
    simp only [cond_true, cond_false, g1, decide_eq_true d1]
    exact goes_inr.mpr rfl
theorem k31_ok  : k31.ok Tryd.prog := by
  intro x hx
  obtain ⟨⟨n1, ⟨ap, np, mp, tp, _⟩, _⟩, ⟨n2, ⟨aq, nq, mq, tq, _⟩, _⟩, _⟩ := x
  obtain ⟨h1, h2⟩ := a31 n1 ap np mp tp n2 aq nq mq tq (s31 n1 ap np mp tp n2 aq nq mq tq (of_dec hx rfl))
  exact ⟨⟨400, (by decide : 2 + 1 + 0 ≤ 400), h1⟩, h2⟩
namespace S
noncomputable def sqr (V : Int) : Int := @dite Int (∃ R : Int, 0 ≤ R ∧ R * R ≤ V ∧ V < (R + 1) * (R + 1)) (Classical.propDecidable _) (fun h => Classical.choose h) (fun _ => 0)
noncomputable def sqrI (ng : Bool) (n : Nat) (t : Nat → Int) : Bool × Int × List Int := if okI ng n t = true then (if ng = true then (false, 6, []) else (false, 0, grp (sqr (val n t)))) else (false, 1, [])
end S
theorem sq_le  {a c : Int} (ha : 0 ≤ a) (hc : 0 ≤ c) (h : a * a < (c + 1) * (c + 1)) : a ≤ c := by
  refine Int.not_lt.mp fun h2 => ?_
  have := Int.mul_le_mul (show c + 1 ≤ a by omega) (show c + 1 ≤ a by omega) (show 0 ≤ c + 1 by omega) ha
  omega
theorem sqr_is  {V R : Int} (h0 : 0 ≤ R) (h1 : R * R ≤ V) (h2 : V < (R + 1) * (R + 1)) : S.sqr V = R := by
  unfold S.sqr
  rw [dif_pos ⟨R, h0, h1, h2⟩]
  have h := Classical.choose_spec (p := fun R : Int => 0 ≤ R ∧ R * R ≤ V ∧ V < (R + 1) * (R + 1)) ⟨R, h0, h1, h2⟩
  generalize Classical.choose (p := fun R : Int => 0 ≤ R ∧ R * R ≤ V ∧ V < (R + 1) * (R + 1)) ⟨R, h0, h1, h2⟩ = x at h
  obtain ⟨a, c, d⟩ := h
  have e1 := sq_le a h0 (Int.lt_of_le_of_lt c h2)
  have e2 := sq_le h0 a (Int.lt_of_le_of_lt h1 d)
  omega
theorem sqr_ex  : ∀ n : Nat, ∃ r : Nat, r * r ≤ n ∧ n < (r + 1) * (r + 1)
  | 0 => ⟨0, by decide, by decide⟩
  | n + 1 => by
    obtain ⟨r, h1, h2⟩ := sqr_ex n
    by_cases h : n + 1 < (r + 1) * (r + 1)
    · exact ⟨r, by omega, h⟩
    · refine ⟨r + 1, by omega, ?_⟩
      have : (r + 1 + 1) * (r + 1 + 1) = (r + 1) * (r + 1) + 2 * (r + 1) + 1 := by
        simp only [Nat.add_mul, Nat.mul_add]; omega
      omega
theorem sqr_of  {V : Int} (h : 0 ≤ V) : 0 ≤ S.sqr V ∧ S.sqr V * S.sqr V ≤ V ∧ V < (S.sqr V + 1) * (S.sqr V + 1) := by
  obtain ⟨r, h1, h2⟩ := sqr_ex V.toNat
  have e : ((V.toNat : Nat) : Int) = V := by omega
  have a1 : (r : Int) * r ≤ V := by rw [← e, ← Int.natCast_mul]; omega
  have a2 : V < ((r : Int) + 1) * ((r : Int) + 1) := by
    have : (((r + 1) * (r + 1) : Nat) : Int) = ((r : Int) + 1) * ((r : Int) + 1) := by rw [Int.natCast_mul]; rfl
    rw [← this]; omega
  rw [sqr_is (by omega) a1 a2]
  exact ⟨by omega, a1, a2⟩
theorem sq_four  {x y m : Int} (hx : 0 ≤ x) (hy : 0 ≤ y) (h : x + y ≤ 2 * m) : x * y ≤ m * m := by
  have h1 : (x + y) * (x + y) ≤ (2 * m) * (2 * m) := Int.mul_le_mul h h (by omega) (by omega)
  have h2 : 0 ≤ (x - y) * (x - y) := by
    rcases Int.le_total x y with h | h
    · have : (x - y) * (x - y) = (y - x) * (y - x) := by rw [← Int.neg_sub y x, Int.neg_mul_neg]
      rw [this]; exact Int.mul_nonneg (by omega) (by omega)
    · exact Int.mul_nonneg (by omega) (by omega)
  have e1 : (x + y) * (x + y) = x * x + 2 * (x * y) + y * y := by
    rw [Int.add_mul, Int.mul_add, Int.mul_add, Int.mul_comm y x]; omega
  have e2 : (x - y) * (x - y) = x * x - 2 * (x * y) + y * y := by
    rw [Int.sub_mul, Int.mul_sub, Int.mul_sub, Int.mul_comm y x]; omega
  have e3 : (2 * m) * (2 * m) = 4 * (m * m) := by
    rw [Int.mul_assoc, Int.mul_left_comm m 2 m]; omega
  omega
theorem newton  {V R q N : Int} (hR : 0 < R) (hV : 0 < V) (hq : V / R = q) (hN : (R + q) / 2 = N) : V < (N + 1) * (N + 1) ∧ 0 < N ∧ 0 ≤ q ∧ (R ≤ N → R * R ≤ V) := by
  have q0 : 0 ≤ q := hq ▸ Int.ediv_nonneg (by omega) (by omega)
  have m1 := Int.emod_lt_of_pos V hR
  have m0 := Int.emod_nonneg V (show R ≠ 0 by omega)
  have e := Int.mul_ediv_add_emod V R
  rw [hq] at e
  have h1 : V < R * (q + 1) := by rw [Int.mul_add]; omega
  have h2 := sq_four (x := R) (y := q + 1) (m := N + 1) (by omega) (by omega) (by omega)
  refine ⟨by omega, ?_, q0, fun h => ?_⟩
  · refine Int.not_le.mp fun h => ?_
    have : N = 0 := by omega
    subst this
    omega
  · have : R * R ≤ R * q := Int.mul_le_mul_of_nonneg_left (by omega) (by omega)
    omega
theorem pw_split  {a : Nat} : ∀ {c : Nat}, S.pw (a + c) = S.pw a * S.pw c
  | 0 => by rw [Nat.add_zero]; exact (Int.mul_one _).symm
  | c + 1 => by
    show 1000000 * S.pw (a + c) = S.pw a * (1000000 * S.pw c)
    rw [pw_split, Int.mul_left_comm]
theorem valF_one  {k : Nat} : ∀ {n i : Nat}, i ≤ k → k < i + n → S.valF (fun j => if j = k then (1 : Int) else 0) i n = S.pw (k - i)
  | 0, i, h1, h2 => by omega
  | n + 1, i, h1, h2 => by
    simp only [S.valF]
    by_cases h : i = k
    · subst h
      rw [if_pos rfl, valF_zeros (fun j hj _ => if_neg (by omega)), Nat.sub_self]
      rfl
    · rw [if_neg h, valF_one (n := n) (i := i + 1) (by omega) (by omega), show k - i = (k - (i + 1)) + 1 by omega]
      show 0 + 1000000 * _ = 1000000 * _
      omega
theorem first_root  {k : Nat} {L : List Int} (hl : L.length = k + 1) (h : ∀ j, j < k + 1 → S.at' L j = if j = k then 1 else 0) : L = S.grp (S.pw k) := by
  have hD : ∀ j, j < k + 1 → 0 ≤ S.at' L j ∧ S.at' L j < 1000000 := fun j hj => by rw [h j hj]; split <;> omega
  have e := trim_mkl (n := k + 1) (t := S.at' L) (okD_iff.mpr hD)
  rw [trim_mkl1 (by rw [h k (by omega), if_pos rfl]; decide), show S.val (k + 1) (S.at' L) = S.pw k by
    show S.valF _ 0 (k + 1) = _
    rw [valF_congr (u := fun j => if j = k then (1 : Int) else 0) fun j _ hj => h j (by omega), valF_one (by omega) (by omega), Nat.sub_zero], ← hl, mkl_at] at e
  exact e
inductive St64 where
  | h0 (x0 : List Int)
abbrev Rt64  := List Int
noncomputable def V64 (ap np mp : Nat) (tp : NI) (r : Rt64) : PV := PV.own (2) (1) (List.length r)
noncomputable def N64 (ap np mp : Nat) (tp : NI) (r : Rt64) : List Blk := [Blk.cols (List.length r) [Col.int .i64 fun j => S.at' r j]]
noncomputable def I64 (ap np mp : Nat) (tp : NI) : St64 → Hd
  | .h0 x0 => ⟨hd Tryd.f64 0, [PV.loose (PA.mk (0) (1) ap (0)) np,
 PV.own (1) (1) (List.length x0)], [[(1, (true, Blk.cols (List.length x0) [Col.int .i64 fun j => S.at' x0 j]))], [(0, (false, .cols mp [.int .i64 tp]))]], 2⟩
noncomputable def q64 (ap np mp : Nat) (tp : NI) : St64 → Option (St64 ⊕ Rt64) | .h0 x0 => bif (decide ((ap + np ≤ mp ∧ 0 + List.length x0 ≤ List.length x0) ∧ (np ≤ 900 ∧ List.length x0 ≤ 900) ∧ (S.okG np fun j => tp (j + ap)) = true ∧ (S.okG (List.length x0) fun j => S.at' x0 j) = true ∧ 0 < List.length x0)) then (bif (decide ((0 + List.length x0 ≤ List.length x0 ∧ 0 + List.length (S.grp ((S.val np fun j => tp (j + ap)) / S.val (List.length x0) fun j => S.at' x0 j)) ≤ List.length (S.grp ((S.val np fun j => tp (j + ap)) / S.val (List.length x0) fun j => S.at' x0 j))) ∧ (List.length x0 ≤ 1000 ∧ List.length (S.grp ((S.val np fun j => tp (j + ap)) / S.val (List.length x0) fun j => S.at' x0 j)) ≤ 1000) ∧ (S.okG (List.length x0) fun j => S.at' x0 j) = true ∧ (S.okG (List.length (S.grp ((S.val np fun j => tp (j + ap)) / S.val (List.length x0) fun j => S.at' x0 j))) fun j => S.at' (S.grp ((S.val np fun j => tp (j + ap)) / S.val (List.length x0) fun j => S.at' x0 j)) j) = true)) then (bif (decide (0 + List.length (S.grp ((S.val (List.length x0) fun j => S.at' x0 j) + S.val (List.length (S.grp ((S.val np fun j => tp (j + ap)) / S.val (List.length x0) fun j => S.at' x0 j))) fun j => S.at' (S.grp ((S.val np fun j => tp (j + ap)) / S.val (List.length x0) fun j => S.at' x0 j)) j)) ≤ List.length (S.grp ((S.val (List.length x0) fun j => S.at' x0 j) + S.val (List.length (S.grp ((S.val np fun j => tp (j + ap)) / S.val (List.length x0) fun j => S.at' x0 j))) fun j => S.at' (S.grp ((S.val np fun j => tp (j + ap)) / S.val (List.length x0) fun j => S.at' x0 j)) j)) ∧ List.length (S.grp ((S.val (List.length x0) fun j => S.at' x0 j) + S.val (List.length (S.grp ((S.val np fun j => tp (j + ap)) / S.val (List.length x0) fun j => S.at' x0 j))) fun j => S.at' (S.grp ((S.val np fun j => tp (j + ap)) / S.val (List.length x0) fun j => S.at' x0 j)) j)) ≤ 1000 ∧ (S.okD (List.length (S.grp ((S.val (List.length x0) fun j => S.at' x0 j) + S.val (List.length (S.grp ((S.val np fun j => tp (j + ap)) / S.val (List.length x0) fun j => S.at' x0 j))) fun j => S.at' (S.grp ((S.val np fun j => tp (j + ap)) / S.val (List.length x0) fun j => S.at' x0 j)) j))) fun j => S.at' (S.grp ((S.val (List.length x0) fun j => S.at' x0 j) + S.val (List.length (S.grp ((S.val np fun j => tp (j + ap)) / S.val (List.length x0) fun j => S.at' x0 j))) fun j => S.at' (S.grp ((S.val np fun j => tp (j + ap)) / S.val (List.length x0) fun j => S.at' x0 j)) j)) j) = true ∧ (0 : Int) < 2 ∧ (2 : Int) ≤ 1000000)) then (bif (decide (0 + List.length (S.grp ((S.val (List.length (S.grp ((S.val (List.length x0) fun j => S.at' x0 j) + S.val (List.length (S.grp ((S.val np fun j => tp (j + ap)) / S.val (List.length x0) fun j => S.at' x0 j))) fun j => S.at' (S.grp ((S.val np fun j => tp (j + ap)) / S.val (List.length x0) fun j => S.at' x0 j)) j))) fun j => S.at' (S.grp ((S.val (List.length x0) fun j => S.at' x0 j) + S.val (List.length (S.grp ((S.val np fun j => tp (j + ap)) / S.val (List.length x0) fun j => S.at' x0 j))) fun j => S.at' (S.grp ((S.val np fun j => tp (j + ap)) / S.val (List.length x0) fun j => S.at' x0 j)) j)) j) / (2 : Int))) ≤ List.length (S.grp ((S.val (List.length (S.grp ((S.val (List.length x0) fun j => S.at' x0 j) + S.val (List.length (S.grp ((S.val np fun j => tp (j + ap)) / S.val (List.length x0) fun j => S.at' x0 j))) fun j => S.at' (S.grp ((S.val np fun j => tp (j + ap)) / S.val (List.length x0) fun j => S.at' x0 j)) j))) fun j => S.at' (S.grp ((S.val (List.length x0) fun j => S.at' x0 j) + S.val (List.length (S.grp ((S.val np fun j => tp (j + ap)) / S.val (List.length x0) fun j => S.at' x0 j))) fun j => S.at' (S.grp ((S.val np fun j => tp (j + ap)) / S.val (List.length x0) fun j => S.at' x0 j)) j)) j) / (2 : Int))) ∧ List.length (S.grp ((S.val (List.length (S.grp ((S.val (List.length x0) fun j => S.at' x0 j) + S.val (List.length (S.grp ((S.val np fun j => tp (j + ap)) / S.val (List.length x0) fun j => S.at' x0 j))) fun j => S.at' (S.grp ((S.val np fun j => tp (j + ap)) / S.val (List.length x0) fun j => S.at' x0 j)) j))) fun j => S.at' (S.grp ((S.val (List.length x0) fun j => S.at' x0 j) + S.val (List.length (S.grp ((S.val np fun j => tp (j + ap)) / S.val (List.length x0) fun j => S.at' x0 j))) fun j => S.at' (S.grp ((S.val np fun j => tp (j + ap)) / S.val (List.length x0) fun j => S.at' x0 j)) j)) j) / (2 : Int))) ≤ 1000000 ∧ 0 + List.length x0 ≤ List.length x0 ∧ List.length x0 ≤ 1000000 ∧ (S.okG (List.length (S.grp ((S.val (List.length (S.grp ((S.val (List.length x0) fun j => S.at' x0 j) + S.val (List.length (S.grp ((S.val np fun j => tp (j + ap)) / S.val (List.length x0) fun j => S.at' x0 j))) fun j => S.at' (S.grp ((S.val np fun j => tp (j + ap)) / S.val (List.length x0) fun j => S.at' x0 j)) j))) fun j => S.at' (S.grp ((S.val (List.length x0) fun j => S.at' x0 j) + S.val (List.length (S.grp ((S.val np fun j => tp (j + ap)) / S.val (List.length x0) fun j => S.at' x0 j))) fun j => S.at' (S.grp ((S.val np fun j => tp (j + ap)) / S.val (List.length x0) fun j => S.at' x0 j)) j)) j) / (2 : Int)))) fun j => S.at' (S.grp ((S.val (List.length (S.grp ((S.val (List.length x0) fun j => S.at' x0 j) + S.val (List.length (S.grp ((S.val np fun j => tp (j + ap)) / S.val (List.length x0) fun j => S.at' x0 j))) fun j => S.at' (S.grp ((S.val np fun j => tp (j + ap)) / S.val (List.length x0) fun j => S.at' x0 j)) j))) fun j => S.at' (S.grp ((S.val (List.length x0) fun j => S.at' x0 j) + S.val (List.length (S.grp ((S.val np fun j => tp (j + ap)) / S.val (List.length x0) fun j => S.at' x0 j))) fun j => S.at' (S.grp ((S.val np fun j => tp (j + ap)) / S.val (List.length x0) fun j => S.at' x0 j)) j)) j) / (2 : Int))) j) = true ∧ (S.okG (List.length x0) fun j => S.at' x0 j) = true)) then (bif (decide (S.cmpS (S.val (List.length (S.grp ((S.val (List.length (S.grp ((S.val (List.length x0) fun j => S.at' x0 j) + S.val (List.length (S.grp ((S.val np fun j => tp (j + ap)) / S.val (List.length x0) fun j => S.at' x0 j))) fun j => S.at' (S.grp ((S.val np fun j => tp (j + ap)) / S.val (List.length x0) fun j => S.at' x0 j)) j))) fun j => S.at' (S.grp ((S.val (List.length x0) fun j => S.at' x0 j) + S.val (List.length (S.grp ((S.val np fun j => tp (j + ap)) / S.val (List.length x0) fun j => S.at' x0 j))) fun j => S.at' (S.grp ((S.val np fun j => tp (j + ap)) / S.val (List.length x0) fun j => S.at' x0 j)) j)) j) / (2 : Int)))) fun j => S.at' (S.grp ((S.val (List.length (S.grp ((S.val (List.length x0) fun j => S.at' x0 j) + S.val (List.length (S.grp ((S.val np fun j => tp (j + ap)) / S.val (List.length x0) fun j => S.at' x0 j))) fun j => S.at' (S.grp ((S.val np fun j => tp (j + ap)) / S.val (List.length x0) fun j => S.at' x0 j)) j))) fun j => S.at' (S.grp ((S.val (List.length x0) fun j => S.at' x0 j) + S.val (List.length (S.grp ((S.val np fun j => tp (j + ap)) / S.val (List.length x0) fun j => S.at' x0 j))) fun j => S.at' (S.grp ((S.val np fun j => tp (j + ap)) / S.val (List.length x0) fun j => S.at' x0 j)) j)) j) / (2 : Int))) j) (S.val (List.length x0) fun j => S.at' x0 j) ≥ 0)) then (some (.inr (x0))) else (some (.inl (.h0 (S.grp ((S.val (List.length (S.grp ((S.val (List.length x0) fun j => S.at' x0 j) + S.val (List.length (S.grp ((S.val np fun j => tp (j + ap)) / S.val (List.length x0) fun j => S.at' x0 j))) fun j => S.at' (S.grp ((S.val np fun j => tp (j + ap)) / S.val (List.length x0) fun j => S.at' x0 j)) j))) fun j => S.at' (S.grp ((S.val (List.length x0) fun j => S.at' x0 j) + S.val (List.length (S.grp ((S.val np fun j => tp (j + ap)) / S.val (List.length x0) fun j => S.at' x0 j))) fun j => S.at' (S.grp ((S.val np fun j => tp (j + ap)) / S.val (List.length x0) fun j => S.at' x0 j)) j)) j) / (2 : Int))))))) else (none)) else (none)) else (none)) else (none)
noncomputable def p64 (ap np mp : Nat) (tp : NI) : Option (St64 ⊕ Rt64) := bif ((↑np : Int) == 0) then (some (.inr ([]))) else (bif (lim .i64 ((↑np : Int) + 1)) then (bif (lim .i64 (Int.tdiv ((↑np : Int) + 1) (2 : Int))) then (bif (lim .i64 (Int.tdiv ((↑np : Int) + 1) (2 : Int) + 1)) then (bif (decide ((0 : Int) ≤ Int.tdiv ((↑np : Int) + 1) (2 : Int) + 1 ∧ Int.tdiv ((↑np : Int) + 1) (2 : Int) + 1 ≤ Int.tdiv ((↑np : Int) + 1) (2 : Int) + 1 ∧ Int.tdiv ((↑np : Int) + 1) (2 : Int) + 1 ≤ 1000000)) then (bif (lim .i64 ((↑(Int.toNat (Int.tdiv ((↑np : Int) + 1) (2 : Int) + 1)) : Int) - 1)) then (bif (decide ((0 : Int) ≤ (↑(Int.toNat (Int.tdiv ((↑np : Int) + 1) (2 : Int) + 1)) : Int) - 1 ∧ (↑(Int.toNat (Int.tdiv ((↑np : Int) + 1) (2 : Int) + 1)) : Int) - 1 < (↑(Int.toNat (Int.tdiv ((↑np : Int) + 1) (2 : Int) + 1)) : Int))) then (bif (decide (Int.toNat ((↑(Int.toNat (Int.tdiv ((↑np : Int) + 1) (2 : Int) + 1)) : Int) - 1) < Int.toNat (Int.tdiv ((↑np : Int) + 1) (2 : Int) + 1))) then (some (.inl (.h0 (S.mkl (Int.toNat (Int.tdiv ((↑np : Int) + 1) (2 : Int) + 1)) fun j => bif Nat.beq j (Int.toNat ((↑(Int.toNat (Int.tdiv ((↑np : Int) + 1) (2 : Int) + 1)) : Int) - 1)) then (1 : Int) else (0 : Int))))) else (none)) else (none)) else (none)) else (none)) else (none)) else (none)) else (none))
noncomputable def Te64 (test : TT) (Kst : KS) (Kret : KR) (ap np mp : Nat) (tp : NI) : Prop := test ((↑np : Int) == 0) (Kret (PV.nils) ([[(0, false, Blk.cols mp [Col.int .i64 tp])]]) (1)) (test (lim .i64 ((↑np : Int) + 1)) (test (false) (False) (test (lim .i64 (Int.tdiv ((↑np : Int) + 1) (2 : Int))) (test (lim .i64 (Int.tdiv ((↑np : Int) + 1) (2 : Int) + 1)) (test (decide ((0 : Int) ≤ Int.tdiv ((↑np : Int) + 1) (2 : Int) + 1 ∧ Int.tdiv ((↑np : Int) + 1) (2 : Int) + 1 ≤ Int.tdiv ((↑np : Int) + 1) (2 : Int) + 1 ∧ Int.tdiv ((↑np : Int) + 1) (2 : Int) + 1 ≤ 1000000)) (test (lim .i64 ((↑(Int.toNat (Int.tdiv ((↑np : Int) + 1) (2 : Int) + 1)) : Int) - 1)) (test (decide ((0 : Int) ≤ (↑(Int.toNat (Int.tdiv ((↑np : Int) + 1) (2 : Int) + 1)) : Int) - 1 ∧ (↑(Int.toNat (Int.tdiv ((↑np : Int) + 1) (2 : Int) + 1)) : Int) - 1 < (↑(Int.toNat (Int.tdiv ((↑np : Int) + 1) (2 : Int) + 1)) : Int))) (test (decide (Int.toNat ((↑(Int.toNat (Int.tdiv ((↑np : Int) + 1) (2 : Int) + 1)) : Int) - 1) < Int.toNat (Int.tdiv ((↑np : Int) + 1) (2 : Int) + 1))) (Kst (hd Tryd.f64 0) ([PV.loose (PA.mk (0) (1) ap (0)) np, PV.own (1) (1) (Int.toNat (Int.tdiv ((↑np : Int) + 1) (2 : Int) + 1))]) ([[(0, false, Blk.cols mp [Col.int .i64 tp]), (1, true, Blk.cols (Int.toNat (Int.tdiv ((↑np : Int) + 1) (2 : Int) + 1)) [Col.int .i64 fun j => bif Nat.beq j (Int.toNat ((↑(Int.toNat (Int.tdiv ((↑np : Int) + 1) (2 : Int) + 1)) : Int) - 1)) then (1 : Int) else (0 : Int)])]]) (2)) (False)) (False)) (False)) (False)) (False)) (False))) (False))
theorem te64 (test : TT) (Kst : KS) (Kret : KR) (ap np mp : Nat) (tp : NI) : run test Tryd.env true (xF3 test) true 400 ⟨64, [.cd (mkFn Tryd.f64).body], argT 0 [.loose ⟨0, 1, ap, 0⟩ np], [[], [(0, (false, .cols mp [.int .i64 tp]))]], 1⟩ (proj 1 [0, 3] Kst Kret) =
  Te64 test Kst Kret ap np mp tp := by kernel_rfl
noncomputable def T64_0 (test : TT) (Kst : KS) (Kret : KR) (ap np mp : Nat) (tp : NI) (x0 : List Int) : Prop := test (decide ((ap + np ≤ mp ∧ 0 + List.length x0 ≤ List.length x0) ∧ (np ≤ 900 ∧ List.length x0 ≤ 900) ∧ (S.okG np fun j => tp (j + ap)) = true ∧ (S.okG (List.length x0) fun j => S.at' x0 j) = true ∧ 0 < List.length x0)) (test (decide ((0 + List.length x0 ≤ List.length x0 ∧ 0 + List.length (S.grp ((S.val np fun j => tp (j + ap)) / S.val (List.length x0) fun j => S.at' x0 j)) ≤ List.length (S.grp ((S.val np fun j => tp (j + ap)) / S.val (List.length x0) fun j => S.at' x0 j))) ∧ (List.length x0 ≤ 1000 ∧ List.length (S.grp ((S.val np fun j => tp (j + ap)) / S.val (List.length x0) fun j => S.at' x0 j)) ≤ 1000) ∧ (S.okG (List.length x0) fun j => S.at' x0 j) = true ∧ (S.okG (List.length (S.grp ((S.val np fun j => tp (j + ap)) / S.val (List.length x0) fun j => S.at' x0 j))) fun j => S.at' (S.grp ((S.val np fun j => tp (j + ap)) / S.val (List.length x0) fun j => S.at' x0 j)) j) = true)) (test (decide (0 + List.length (S.grp ((S.val (List.length x0) fun j => S.at' x0 j) + S.val (List.length (S.grp ((S.val np fun j => tp (j + ap)) / S.val (List.length x0) fun j => S.at' x0 j))) fun j => S.at' (S.grp ((S.val np fun j => tp (j + ap)) / S.val (List.length x0) fun j => S.at' x0 j)) j)) ≤ List.length (S.grp ((S.val (List.length x0) fun j => S.at' x0 j) + S.val (List.length (S.grp ((S.val np fun j => tp (j + ap)) / S.val (List.length x0) fun j => S.at' x0 j))) fun j => S.at' (S.grp ((S.val np fun j => tp (j + ap)) / S.val (List.length x0) fun j => S.at' x0 j)) j)) ∧ List.length (S.grp ((S.val (List.length x0) fun j => S.at' x0 j) + S.val (List.length (S.grp ((S.val np fun j => tp (j + ap)) / S.val (List.length x0) fun j => S.at' x0 j))) fun j => S.at' (S.grp ((S.val np fun j => tp (j + ap)) / S.val (List.length x0) fun j => S.at' x0 j)) j)) ≤ 1000 ∧ (S.okD (List.length (S.grp ((S.val (List.length x0) fun j => S.at' x0 j) + S.val (List.length (S.grp ((S.val np fun j => tp (j + ap)) / S.val (List.length x0) fun j => S.at' x0 j))) fun j => S.at' (S.grp ((S.val np fun j => tp (j + ap)) / S.val (List.length x0) fun j => S.at' x0 j)) j))) fun j => S.at' (S.grp ((S.val (List.length x0) fun j => S.at' x0 j) + S.val (List.length (S.grp ((S.val np fun j => tp (j + ap)) / S.val (List.length x0) fun j => S.at' x0 j))) fun j => S.at' (S.grp ((S.val np fun j => tp (j + ap)) / S.val (List.length x0) fun j => S.at' x0 j)) j)) j) = true ∧ (0 : Int) < 2 ∧ (2 : Int) ≤ 1000000)) (test (decide (0 + List.length (S.grp ((S.val (List.length (S.grp ((S.val (List.length x0) fun j => S.at' x0 j) + S.val (List.length (S.grp ((S.val np fun j => tp (j + ap)) / S.val (List.length x0) fun j => S.at' x0 j))) fun j => S.at' (S.grp ((S.val np fun j => tp (j + ap)) / S.val (List.length x0) fun j => S.at' x0 j)) j))) fun j => S.at' (S.grp ((S.val (List.length x0) fun j => S.at' x0 j) + S.val (List.length (S.grp ((S.val np fun j => tp (j + ap)) / S.val (List.length x0) fun j => S.at' x0 j))) fun j => S.at' (S.grp ((S.val np fun j => tp (j + ap)) / S.val (List.length x0) fun j => S.at' x0 j)) j)) j) / (2 : Int))) ≤ List.length (S.grp ((S.val (List.length (S.grp ((S.val (List.length x0) fun j => S.at' x0 j) + S.val (List.length (S.grp ((S.val np fun j => tp (j + ap)) / S.val (List.length x0) fun j => S.at' x0 j))) fun j => S.at' (S.grp ((S.val np fun j => tp (j + ap)) / S.val (List.length x0) fun j => S.at' x0 j)) j))) fun j => S.at' (S.grp ((S.val (List.length x0) fun j => S.at' x0 j) + S.val (List.length (S.grp ((S.val np fun j => tp (j + ap)) / S.val (List.length x0) fun j => S.at' x0 j))) fun j => S.at' (S.grp ((S.val np fun j => tp (j + ap)) / S.val (List.length x0) fun j => S.at' x0 j)) j)) j) / (2 : Int))) ∧ List.length (S.grp ((S.val (List.length (S.grp ((S.val (List.length x0) fun j => S.at' x0 j) + S.val (List.length (S.grp ((S.val np fun j => tp (j + ap)) / S.val (List.length x0) fun j => S.at' x0 j))) fun j => S.at' (S.grp ((S.val np fun j => tp (j + ap)) / S.val (List.length x0) fun j => S.at' x0 j)) j))) fun j => S.at' (S.grp ((S.val (List.length x0) fun j => S.at' x0 j) + S.val (List.length (S.grp ((S.val np fun j => tp (j + ap)) / S.val (List.length x0) fun j => S.at' x0 j))) fun j => S.at' (S.grp ((S.val np fun j => tp (j + ap)) / S.val (List.length x0) fun j => S.at' x0 j)) j)) j) / (2 : Int))) ≤ 1000000 ∧ 0 + List.length x0 ≤ List.length x0 ∧ List.length x0 ≤ 1000000 ∧ (S.okG (List.length (S.grp ((S.val (List.length (S.grp ((S.val (List.length x0) fun j => S.at' x0 j) + S.val (List.length (S.grp ((S.val np fun j => tp (j + ap)) / S.val (List.length x0) fun j => S.at' x0 j))) fun j => S.at' (S.grp ((S.val np fun j => tp (j + ap)) / S.val (List.length x0) fun j => S.at' x0 j)) j))) fun j => S.at' (S.grp ((S.val (List.length x0) fun j => S.at' x0 j) + S.val (List.length (S.grp ((S.val np fun j => tp (j + ap)) / S.val (List.length x0) fun j => S.at' x0 j))) fun j => S.at' (S.grp ((S.val np fun j => tp (j + ap)) / S.val (List.length x0) fun j => S.at' x0 j)) j)) j) / (2 : Int)))) fun j => S.at' (S.grp ((S.val (List.length (S.grp ((S.val (List.length x0) fun j => S.at' x0 j) + S.val (List.length (S.grp ((S.val np fun j => tp (j + ap)) / S.val (List.length x0) fun j => S.at' x0 j))) fun j => S.at' (S.grp ((S.val np fun j => tp (j + ap)) / S.val (List.length x0) fun j => S.at' x0 j)) j))) fun j => S.at' (S.grp ((S.val (List.length x0) fun j => S.at' x0 j) + S.val (List.length (S.grp ((S.val np fun j => tp (j + ap)) / S.val (List.length x0) fun j => S.at' x0 j))) fun j => S.at' (S.grp ((S.val np fun j => tp (j + ap)) / S.val (List.length x0) fun j => S.at' x0 j)) j)) j) / (2 : Int))) j) = true ∧ (S.okG (List.length x0) fun j => S.at' x0 j) = true)) (test (decide (S.cmpS (S.val (List.length (S.grp ((S.val (List.length (S.grp ((S.val (List.length x0) fun j => S.at' x0 j) + S.val (List.length (S.grp ((S.val np fun j => tp (j + ap)) / S.val (List.length x0) fun j => S.at' x0 j))) fun j => S.at' (S.grp ((S.val np fun j => tp (j + ap)) / S.val (List.length x0) fun j => S.at' x0 j)) j))) fun j => S.at' (S.grp ((S.val (List.length x0) fun j => S.at' x0 j) + S.val (List.length (S.grp ((S.val np fun j => tp (j + ap)) / S.val (List.length x0) fun j => S.at' x0 j))) fun j => S.at' (S.grp ((S.val np fun j => tp (j + ap)) / S.val (List.length x0) fun j => S.at' x0 j)) j)) j) / (2 : Int)))) fun j => S.at' (S.grp ((S.val (List.length (S.grp ((S.val (List.length x0) fun j => S.at' x0 j) + S.val (List.length (S.grp ((S.val np fun j => tp (j + ap)) / S.val (List.length x0) fun j => S.at' x0 j))) fun j => S.at' (S.grp ((S.val np fun j => tp (j + ap)) / S.val (List.length x0) fun j => S.at' x0 j)) j))) fun j => S.at' (S.grp ((S.val (List.length x0) fun j => S.at' x0 j) + S.val (List.length (S.grp ((S.val np fun j => tp (j + ap)) / S.val (List.length x0) fun j => S.at' x0 j))) fun j => S.at' (S.grp ((S.val np fun j => tp (j + ap)) / S.val (List.length x0) fun j => S.at' x0 j)) j)) j) / (2 : Int))) j) (S.val (List.length x0) fun j => S.at' x0 j) ≥ 0)) (Kret (PV.own (1) (1) (List.length x0)) ([[(0, false, Blk.cols mp [Col.int .i64 tp]), (1, true, Blk.cols (List.length x0) [Col.int .i64 fun j => S.at' x0 j])]]) (10)) (Kst (hd Tryd.f64 0) ([PV.loose (PA.mk (0) (1) ap (0)) np, PV.own (8) (1) (List.length (S.grp ((S.val (List.length (S.grp ((S.val (List.length x0) fun j => S.at' x0 j) + S.val (List.length (S.grp ((S.val np fun j => tp (j + ap)) / S.val (List.length x0) fun j => S.at' x0 j))) fun j => S.at' (S.grp ((S.val np fun j => tp (j + ap)) / S.val (List.length x0) fun j => S.at' x0 j)) j))) fun j => S.at' (S.grp ((S.val (List.length x0) fun j => S.at' x0 j) + S.val (List.length (S.grp ((S.val np fun j => tp (j + ap)) / S.val (List.length x0) fun j => S.at' x0 j))) fun j => S.at' (S.grp ((S.val np fun j => tp (j + ap)) / S.val (List.length x0) fun j => S.at' x0 j)) j)) j) / (2 : Int))))]) ([[(0, false, Blk.cols mp [Col.int .i64 tp]), (8, true, Blk.cols (List.length (S.grp ((S.val (List.length (S.grp ((S.val (List.length x0) fun j => S.at' x0 j) + S.val (List.length (S.grp ((S.val np fun j => tp (j + ap)) / S.val (List.length x0) fun j => S.at' x0 j))) fun j => S.at' (S.grp ((S.val np fun j => tp (j + ap)) / S.val (List.length x0) fun j => S.at' x0 j)) j))) fun j => S.at' (S.grp ((S.val (List.length x0) fun j => S.at' x0 j) + S.val (List.length (S.grp ((S.val np fun j => tp (j + ap)) / S.val (List.length x0) fun j => S.at' x0 j))) fun j => S.at' (S.grp ((S.val np fun j => tp (j + ap)) / S.val (List.length x0) fun j => S.at' x0 j)) j)) j) / (2 : Int)))) [Col.int .i64 fun j => S.at' (S.grp ((S.val (List.length (S.grp ((S.val (List.length x0) fun j => S.at' x0 j) + S.val (List.length (S.grp ((S.val np fun j => tp (j + ap)) / S.val (List.length x0) fun j => S.at' x0 j))) fun j => S.at' (S.grp ((S.val np fun j => tp (j + ap)) / S.val (List.length x0) fun j => S.at' x0 j)) j))) fun j => S.at' (S.grp ((S.val (List.length x0) fun j => S.at' x0 j) + S.val (List.length (S.grp ((S.val np fun j => tp (j + ap)) / S.val (List.length x0) fun j => S.at' x0 j))) fun j => S.at' (S.grp ((S.val np fun j => tp (j + ap)) / S.val (List.length x0) fun j => S.at' x0 j)) j)) j) / (2 : Int))) j])]]) (10))) (False)) (False)) (False)) (False)
theorem t64_0 (test : TT) (Kst : KS) (Kret : KR) (ap np mp : Nat) (tp : NI) (x0 : List Int) : run test Tryd.env true (xF3 test) true 400 ⟨64, hd Tryd.f64 0, zipT [0, 3] [PV.loose (PA.mk (0) (1) ap (0)) np,
 PV.own (1) (1) (List.length x0)], [[(1, (true, Blk.cols (List.length x0) [Col.int .i64 fun j => S.at' x0 j]))], [(0, (false, .cols mp [.int .i64 tp]))]], 2⟩ (proj 1 [0, 3] Kst Kret) =
  T64_0 test Kst Kret ap np mp tp x0 := by kernel_rfl
noncomputable abbrev J64 (ap np mp : Nat) (tp : NI) : Rt64 → Heap := fun r => [newL (1 + 1) ((N64 ap np mp tp) r) ++ [(0, (false, .cols mp [.int .i64 tp]))]]
attribute [local irreducible] Int.subNatNat in
theorem be64 (ap np mp : Nat) (tp : NI) (Kst : KS) (Kret : KR) (x : St64 ⊕ Rt64) (hS : HS 1 400 ((I64 ap np mp tp)) Kst x) (hR : HR 1 400 ((V64 ap np mp tp)) (J64 ap np mp tp) Kret x) (h : p64 ap np mp tp = some x) : Te64 cond Kst Kret ap np mp tp := by
  unfold Te64
  unfold p64 at h
  refine bif_split h (fun c0 h => ret_at hR _ h (fun n => bif Nat.beq n 2 then 399 else n) rfl rfl rfl (rn_own_nils rfl) rfl (entl_fresh (use_own rfl) (fresh_ok rfl) (entl_bor (use_lo rfl) rfl rfl entl_nil))) (fun c0 h => bif_split h (fun c1 h => cond_no rfl (bif_split h (fun c2 h => bif_split h (fun c3 h => bif_split h (fun c4 h => bif_split h (fun c5 h => bif_split h (fun c6 h => bif_split h (fun c7 h => stop_at hS _ h (fun n => bif Nat.beq n 1 then 1 else n) rfl rfl rfl ⟨(rn_loose (use_lo rfl) rfl rfl rfl), ⟨(rn_own (use_own rfl) rfl mkl_len), trivial⟩⟩ rfl (entl_new (use_own rfl) rfl (Nat.le_of_eq mkl_len) (rcs_int (fun _ hj => col_mkl (fun (t : Int) => t) hj) rcs_nil) (entl_bor (use_lo rfl) rfl rfl entl_nil))) (fun c7 h => no_some h)) (fun c6 h => no_some h)) (fun c5 h => no_some h)) (fun c4 h => no_some h)) (fun c3 h => no_some h)) (fun c2 h => no_some h))) (fun c1 h => no_some h))
attribute [local irreducible] Int.subNatNat in
theorem b64_0 (ap np mp : Nat) (tp : NI) (Kst : KS) (Kret : KR) (x : St64 ⊕ Rt64) (hS : HS 1 400 ((I64 ap np mp tp)) Kst x) (hR : HR 1 400 ((V64 ap np mp tp)) (J64 ap np mp tp) Kret x) (x0 : List Int) (h : q64 ap np mp tp (.h0 x0) = some x) : T64_0 cond Kst Kret ap np mp tp x0 := by
  unfold T64_0
  rw [q64] at h
  exact bif_split h (fun c0 h => bif_split h (fun c1 h => bif_split h (fun c2 h => bif_split h (fun c3 h => bif_split h (fun c4 h => ret_at hR _ h (fun n => bif Nat.beq n 2 then 1 else n) rfl rfl rfl (rn_own (use_own rfl) rfl rfl) rfl (entl_new (use_own rfl) rfl (Nat.le_of_eq rfl) (rcs_int (fun _ _ => rfl) rcs_nil) (entl_bor (use_lo rfl) rfl rfl entl_nil))) (fun c4 h => stop_at hS _ h (fun n => bif Nat.beq n 1 then 8 else n) rfl rfl rfl ⟨(rn_loose (use_lo rfl) rfl rfl rfl), ⟨(rn_own (use_own rfl) rfl rfl), trivial⟩⟩ rfl (entl_new (use_own rfl) rfl (Nat.le_of_eq rfl) (rcs_int (fun _ _ => rfl) rcs_nil) (entl_bor (use_lo rfl) rfl rfl entl_nil)))) (fun c3 h => no_some h)) (fun c2 h => no_some h)) (fun c1 h => no_some h)) (fun c0 h => no_some h)
theorem a64 (ap np mp : Nat) (tp : NI) {r : Rt64} (h : Goes ((q64 ap np mp tp)) ((p64 ap np mp tp)) r) : CallR Tryd.prog 64 [.loose ⟨0, 1, ap, 0⟩ np] [[(0, (false, .cols mp [.int .i64 tp]))]] 1 ((V64 ap np mp tp) r) ((J64 ap np mp tp) r) 400 ∧ ∃ F, Tryd.prog.funcs[64]? = some F ∧ F.body.isSome = true ∧ (F.name == "runtime.NumGoroutine") = false := by
  refine dec_calls (f := 64) (lo := 1) (hi := 400) Tryd.envOk Tryd.mixed xF3_ok ((I64 ap np mp tp)) ((V64 ap np mp tp)) (J64 ap np mp tp) (fn := mkFn Tryd.f64) (ts := [0, 3]) (n := 400) rfl (by decide) (by simp) (names_of rfl) ?_ ?_ ?_ h
  · intro s; cases s <;> exact ⟨hd_ok _ _, by simp [I64], names_of rfl, Nat.le_of_ble_eq_true rfl⟩
  · intro Kst Kret x hS hR h
    exact Holds.eq (te64 cond Kst Kret ap np mp tp) (be64 ap np mp tp Kst Kret x hS hR h)
  · intro Kst Kret x hS hR s h
    cases s with
    | h0 x0 => exact Holds.eq (t64_0 cond Kst Kret ap np mp tp x0) (b64_0 ap np mp tp Kst Kret x hS hR x0 h)
noncomputable abbrev w64 {α : Type} (g : Nat → Nat → Nat → (Nat → Int) → α) (x : (Nat × Nat × Nat × (Nat → Int) × Unit) × Unit) : α := g x.1.1 x.1.2.1 x.1.2.2.1 x.1.2.2.2.1
noncomputable def k64  : Con := ⟨64, [.one (.list [.int .i64])], w64 (fun ap np mp tp => decide (ap + np ≤ mp ∧ np ≤ 800 ∧ S.okG np (fun j => tp (j + ap)) = true)), w64 (fun ap np mp tp => (V64 ap np mp tp) (S.grp (S.sqr (S.val np (fun j => tp (j + ap)))))), w64 (fun ap np mp tp => (N64 ap np mp tp) (S.grp (S.sqr (S.val np (fun j => tp (j + ap)))))), fun _ _ => .dead⟩
theorem s64' (ap np mp : Nat) (tp : Nat → Int) (hp : ap + np ≤ mp ∧ np ≤ 800 ∧ S.okG np (fun j => tp (j + ap)) = true) (hn : 0 < np) : ∀ (k : Nat) (R : Int), R.toNat ≤ k → 0 < R → R < S.pw 800 → (S.val np (fun j => tp (j + ap))) < (R + 1) * (R + 1) → Comes ((q64 ap np mp tp)) (.h0 (S.grp R)) (S.grp (S.sqr (S.val np (fun j => tp (j + ap))))) := by
  obtain ⟨hp1, hp2, g1⟩ := hp
  have vp := val_pos g1 hn
  have vl := val_lt (okG_D g1) (show np ≤ 800 by omega)
  intro k
  induction k with
  | zero => intro R h1 h2; omega
  | succ k ih =>
    intro R h1 h2 h3 h4
    obtain ⟨Q, hQ⟩ : ∃ Q, (S.val np (fun j => tp (j + ap))) / R = Q := ⟨_, rfl⟩
    obtain ⟨M, hM⟩ : ∃ M, (R + Q) / 2 = M := ⟨_, rfl⟩
    obtain ⟨n1, n2, n3, n4⟩ := newton h2 vp hQ hM
    have qle : Q ≤ (S.val np (fun j => tp (j + ap))) := hQ ▸ Int.ediv_le_self R (show 0 ≤ (S.val np (fun j => tp (j + ap))) by omega)
    have p801 : S.pw 801 = 1000000 * S.pw 800 := rfl
    have lr := grp_le (v := R) (n := 800) h3
    have lr0 := len_pos h2
    have lq := grp_le (v := Q) (n := 800) (by omega)
    have ls := grp_le (v := R + Q) (n := 801) (by omega)
    have lm := grp_le (v := M) (n := 801) (by omega)
    have vR := val_grpL (v := R) (by omega)
    have vQ := val_grpL n3
    have vS := val_grpL (v := R + Q) (by omega)
    have vM := val_grpL (v := M) (by omega)
    have a1 : (ap + np ≤ mp ∧ 0 + (S.grp (R)).length ≤ (S.grp (R)).length) ∧ (np ≤ 900 ∧ (S.grp (R)).length ≤ 900) ∧ S.okG np (fun j => tp (j + ap)) = true ∧ (S.okG (S.grp (R)).length fun j => S.at' (S.grp (R)) j) = true ∧ 0 < (S.grp (R)).length := ⟨⟨hp1, by omega⟩, ⟨by omega, by omega⟩, g1, grp_ok, lr0⟩
    have a2 : (0 + (S.grp (R)).length ≤ (S.grp (R)).length ∧ 0 + (S.grp (Q)).length ≤ (S.grp (Q)).length) ∧ ((S.grp (R)).length ≤ 1000 ∧ (S.grp (Q)).length ≤ 1000) ∧ (S.okG (S.grp (R)).length fun j => S.at' (S.grp (R)) j) = true ∧ (S.okG (S.grp (Q)).length fun j => S.at' (S.grp (Q)) j) = true := ⟨⟨by omega, by omega⟩, ⟨by omega, by omega⟩, grp_ok, grp_ok⟩
    have a3 : 0 + (S.grp (R + Q)).length ≤ (S.grp (R + Q)).length ∧ (S.grp (R + Q)).length ≤ 1000 ∧ (S.okD (S.grp (R + Q)).length fun j => S.at' (S.grp (R + Q)) j) = true ∧ (0 : Int) < 2 ∧ (2 : Int) ≤ 1000000 := ⟨by omega, by omega, okG_D grp_ok, by omega, by omega⟩
    have a4 : 0 + (S.grp (M)).length ≤ (S.grp (M)).length ∧ (S.grp (M)).length ≤ 1000000 ∧ 0 + (S.grp (R)).length ≤ (S.grp (R)).length ∧ (S.grp (R)).length ≤ 1000000 ∧ (S.okG (S.grp (M)).length fun j => S.at' (S.grp (M)) j) = true ∧ (S.okG (S.grp (R)).length fun j => S.at' (S.grp (R)) j) = true := ⟨by omega, by omega, by omega, by omega, grp_ok, grp_ok⟩
    apply Comes.of
    unfold q64
    simp only [vR, hQ, vQ, vS, hM, vM, decide_eq_true a1, decide_eq_true a2, decide_eq_true a3, decide_eq_true a4, cond_true]
    by_cases h : M < R
    · have e : S.cmpS M R = -1 := by unfold S.cmpS; rw [if_pos h]
      rw [e]
      exact goes_no (by decide) (ih M (by omega) n2 (by omega) n1)
    · have e : decide (S.cmpS M R ≥ 0) = true := decide_eq_true (by unfold S.cmpS; rw [if_neg h]; split <;> omega)
      rw [sqr_is (by omega) (n4 (by omega)) h4]
      exact goes_ok e (goes_inr.mpr rfl)
theorem s64 (ap np mp : Nat) (tp : Nat → Int) (hp : ap + np ≤ mp ∧ np ≤ 800 ∧ S.okG np (fun j => tp (j + ap)) = true) : Goes ((q64 ap np mp tp)) ((p64 ap np mp tp)) (S.grp (S.sqr (S.val np (fun j => tp (j + ap))))) := by
  have hp' := hp
  obtain ⟨hp1, hp2, g1⟩ := hp
  by_cases hn : np = 0
  · subst hn
    have e : S.sqr (S.val 0 (fun j => tp (j + ap))) = 0 := sqr_is (by omega) (by show (0 : Int) * 0 ≤ 0; decide) (by show (0 : Int) < (0 + 1) * (0 + 1); decide)
    rw [e]
    unfold p64
    exact goes_ok (by decide) (goes_inr.mpr (grp_neg (by omega)).symm)
  · obtain ⟨k, hk⟩ : ∃ k, k = (np + 1) / 2 := ⟨_, rfl⟩
    have e1 : Int.tdiv ((np : Int) + 1) 2 = (k : Int) := by
      rw [Int.tdiv_eq_ediv_of_nonneg (by omega)]; omega
    have e2 : (((k : Int) + 1).toNat) = k + 1 := by omega
    have e3 : (((k + 1 : Nat) : Int) - 1).toNat = k := by omega
    have p2 := pw_split (a := k) (c := k)
    have pp := pw_pos (k := k)
    have vl := val_lt (okG_D g1) (show np ≤ k + k by omega)
    have p8 : S.pw k < S.pw 800 := by
      have h := pw_mono (k := k + 1) (m := 800) (by omega)
      have : S.pw (k + 1) = 1000000 * S.pw k := rfl
      omega
    have hm := s64' ap np mp tp hp' (by omega) _ (S.pw k) (Nat.le_refl _) pp p8 (by
      have : S.pw k * S.pw k ≤ (S.pw k + 1) * (S.pw k + 1) := Int.mul_le_mul (by omega) (by omega) (by omega) (by omega)
      omega)
    rw [← first_root (L := S.mkl (k + 1) fun j => bif Nat.beq j k then 1 else 0) mkl_len (fun j hj => by
      rw [at_mkl hj]
      by_cases h : j = k
      · subst h; rw [if_pos rfl, Nat.beq_refl]; rfl
      · rw [if_neg h, show Nat.beq j k = false by cases hb : Nat.beq j k; rfl; exact absurd (Nat.eq_of_beq_eq_true hb) h]; rfl)] at hm
    unfold p64
    simp only [e1, e2, e3]
    repeat' (first | with_reducible refine goes_if (fun h => ?_) (fun h => ?_) <;> (try simp only [SH] at h) | exact goes_none.mpr (by omega))
    all_goals first | (exfalso; omega) | exact hm
theorem k64_ok  : k64.ok Tryd.prog := by
  intro x hx
  obtain ⟨⟨ap, np, mp, tp, _⟩, _⟩ := x
  obtain ⟨h1, h2⟩ := a64 ap np mp tp (s64 ap np mp tp (of_dec hx rfl))
  exact ⟨⟨400, (by decide : 1 + 1 + 1 ≤ 400), h1⟩, h2⟩
noncomputable def xF5 (test : Bool → Prop → Prop → Prop) : Ext := consX test [k64, k18]
theorem xF5_ok  : ExtOk Tryd.prog (xF5 cond) := consX_ok ⟨k64_ok, k18_ok, trivial⟩
noncomputable def xF4 (test : Bool → Prop → Prop → Prop) : Ext := consX test [k65v, k61, k53, k46, k18, k19]
theorem xF4_ok  : ExtOk Tryd.prog (xF4 cond) := consX_ok ⟨k65v_ok, k61_ok, k53_ok, k46_ok, k18_ok, k19_ok, trivial⟩
theorem trimN_le  {n : Nat} {t : Nat → Int} : S.trimN n t ≤ n := by
  have h := (trim_take (L := S.mkl n t)).1
  rw [mkl_len] at h
  exact h
theorem val_trimN  {n : Nat} {t : Nat → Int} (h : S.okD n t = true) : S.val (S.trimN n t) t = S.val n t := by
  have e := (trim_mk (n := n) (t := t)).trans (trim_mkl h)
  have hv := val_grpL (val_nn h)
  rw [← e, mkl_len] at hv
  rw [← hv]
  exact val_congr fun j hj => (at_mkl hj).symm
theorem okD_trimN  {n : Nat} {t : Nat → Int} (h : S.okD n t = true) : S.okD (S.trimN n t) t = true :=
  okD_iff.mpr fun j hj => okD_iff.mp h j (Nat.lt_of_lt_of_le hj trimN_le)
theorem valF_put  {k i : Nat} {d : Int} {t u : Nat → Int} (hi : i < k) (h : ∀ j, j < k → u j = if j = i then d else t j) : S.valF u i (k - i) = 1000000 * S.valF t (i + 1) (k - (i + 1)) + d := by
  rw [show k - i = (k - (i + 1)) + 1 by omega]
  simp only [S.valF]
  rw [h i hi, if_pos rfl, valF_congr (t := u) (u := t) fun j h1 h2 => by rw [h j (by omega), if_neg (by omega)]]
  omega
theorem val_high  {k i : Nat} {u : Nat → Int} (hi : i ≤ k) (hz : ∀ j, j < i → u j = 0) : S.val k u = S.pw i * S.valF u i (k - i) := by
  show S.valF u 0 k = _
  rw [show k = i + (k - i) by omega, valF_add, valF_zeros fun j _ h => hz j (by omega), Nat.zero_add, show i + (k - i) - i = k - i by omega]
  omega
theorem put_at  {k i j : Nat} {d : Int} {L : List Int} (hj : j < k) : S.at' (S.mkl k fun j => bif Nat.beq j i then d else S.at' L j) j = if j = i then d else S.at' L j := upd_at hj
theorem put_if  {i j : Nat} {d : Int} {L : List Int} : (bif Nat.beq j i then d else S.at' L j) = if j = i then d else S.at' L j := by
  by_cases h : j = i
  · subst h; rw [if_pos rfl, Nat.beq_refl]; rfl
  · rw [if_neg h, show Nat.beq j i = false by cases hb : Nat.beq j i; rfl; exact absurd (Nat.eq_of_beq_eq_true hb) h]; rfl
inductive St37 where
  | h0 (x0 : Int) (x1 : List Int)
  | h1 (x0 : Int) (x1 : Int) (x2 : Int) (x3 : List Int)
abbrev Rt37  := Bool × Int × List Int
noncomputable def V37 (n1 : Bool) (ap np mp : Nat) (tp : NI) (r : Rt37) : PV := PV.tup [PV.agg [PV.bool r.1, PV.own (2) (1) (List.length r.2.2)], PV.int .i64 r.2.1]
noncomputable def N37 (n1 : Bool) (ap np mp : Nat) (tp : NI) (r : Rt37) : List Blk := [Blk.cols (List.length r.2.2) [Col.int .i64 fun j => S.at' r.2.2 j]]
noncomputable def I37 (n1 : Bool) (ap np mp : Nat) (tp : NI) : St37 → Hd
  | .h0 x0 x1 => ⟨hd Tryd.f37 0, [PV.ptr (PA.mk (1) (0) (0) (0)),
 PV.ptr (PA.mk (2) (0) (0) (0)),
 PV.own (3) (1) (List.length x1), PV.int .i64 x0, PV.unk, PV.unk], [[(1, (true, Blk.cells [PV.bool n1, PV.loose (PA.mk (0) (1) ap (0)) np])), (2, (true, Blk.cells [PV.tf false, PV.nils])), (3, (true, Blk.cols (List.length x1) [Col.int .i64 fun j => S.at' x1 j]))], [(0, (false, .cols mp [.int .i64 tp]))]], 4⟩
  | .h1 x0 x1 x2 x3 => ⟨hd Tryd.f37 1, [PV.ptr (PA.mk (1) (0) (0) (0)),
 PV.ptr (PA.mk (2) (0) (0) (0)),
 PV.own (3) (1) (List.length x3), PV.int .i64 x0, PV.int .i64 x1,
 PV.int .i64 x2], [[(1, (true, Blk.cells [PV.bool n1, PV.loose (PA.mk (0) (1) ap (0)) np])), (2, (true, Blk.cells [PV.tf false, PV.nils])), (3, (true, Blk.cols (List.length x3) [Col.int .i64 fun j => S.at' x3 j]))], [(0, (false, .cols mp [.int .i64 tp]))]], 4⟩
noncomputable def q37 (n1 : Bool) (ap np mp : Nat) (tp : NI) : St37 → Option (St37 ⊕ Rt37) | .h0 x0 x1 => bif (decide (x0 ≥ 0)) then (some (.inl (.h1 (x0) ((0 : Int)) ((999999 : Int)) (x1)))) else (bif (decide (0 + List.length x1 ≤ List.length x1 ∧ List.length x1 ≤ 1000000 ∧ (S.okD (List.length x1) fun j => S.at' x1 j) = true)) then (some (.inr (S.sgB false (S.val (List.length x1) fun j => S.at' x1 j), (0 : Int), S.grp (S.val (List.length x1) fun j => S.at' x1 j)))) else (none)) | .h1 x0 x1 x2 x3 => bif (decide (x1 < x2)) then (bif (lim .i64 (x1 + x2)) then (bif (lim .i64 (x1 + x2 + 1)) then (bif (lim .i64 (Int.tdiv (x1 + x2 + 1) (2 : Int))) then (bif (decide ((0 : Int) ≤ x0 ∧ x0 < (↑(List.length x3) : Int))) then (bif (decide (Int.toNat x0 < List.length x3)) then (bif (decide (0 + List.length x3 ≤ List.length x3 ∧ List.length x3 ≤ 1000000)) then (bif (decide (((0 + S.trimN (List.length x3) fun j => bif Nat.beq j (Int.toNat x0) then Int.tdiv (x1 + x2 + 1) (2 : Int) else S.at' x3 j) ≤ List.length x3 ∧ (0 + S.trimN (List.length x3) fun j => bif Nat.beq j (Int.toNat x0) then Int.tdiv (x1 + x2 + 1) (2 : Int) else S.at' x3 j) ≤ List.length x3) ∧ ((S.trimN (List.length x3) fun j => bif Nat.beq j (Int.toNat x0) then Int.tdiv (x1 + x2 + 1) (2 : Int) else S.at' x3 j) ≤ 1000 ∧ (S.trimN (List.length x3) fun j => bif Nat.beq j (Int.toNat x0) then Int.tdiv (x1 + x2 + 1) (2 : Int) else S.at' x3 j) ≤ 1000) ∧ (S.okD (S.trimN (List.length x3) fun j => bif Nat.beq j (Int.toNat x0) then Int.tdiv (x1 + x2 + 1) (2 : Int) else S.at' x3 j) fun j => bif Nat.beq j (Int.toNat x0) then Int.tdiv (x1 + x2 + 1) (2 : Int) else S.at' x3 j) = true ∧ (S.okD (S.trimN (List.length x3) fun j => bif Nat.beq j (Int.toNat x0) then Int.tdiv (x1 + x2 + 1) (2 : Int) else S.at' x3 j) fun j => bif Nat.beq j (Int.toNat x0) then Int.tdiv (x1 + x2 + 1) (2 : Int) else S.at' x3 j) = true)) then (bif (decide (0 + List.length (S.grp ((S.val (S.trimN (List.length x3) fun j => bif Nat.beq j (Int.toNat x0) then Int.tdiv (x1 + x2 + 1) (2 : Int) else S.at' x3 j) fun j => bif Nat.beq j (Int.toNat x0) then Int.tdiv (x1 + x2 + 1) (2 : Int) else S.at' x3 j) * S.val (S.trimN (List.length x3) fun j => bif Nat.beq j (Int.toNat x0) then Int.tdiv (x1 + x2 + 1) (2 : Int) else S.at' x3 j) fun j => bif Nat.beq j (Int.toNat x0) then Int.tdiv (x1 + x2 + 1) (2 : Int) else S.at' x3 j)) ≤ List.length (S.grp ((S.val (S.trimN (List.length x3) fun j => bif Nat.beq j (Int.toNat x0) then Int.tdiv (x1 + x2 + 1) (2 : Int) else S.at' x3 j) fun j => bif Nat.beq j (Int.toNat x0) then Int.tdiv (x1 + x2 + 1) (2 : Int) else S.at' x3 j) * S.val (S.trimN (List.length x3) fun j => bif Nat.beq j (Int.toNat x0) then Int.tdiv (x1 + x2 + 1) (2 : Int) else S.at' x3 j) fun j => bif Nat.beq j (Int.toNat x0) then Int.tdiv (x1 + x2 + 1) (2 : Int) else S.at' x3 j)) ∧ List.length (S.grp ((S.val (S.trimN (List.length x3) fun j => bif Nat.beq j (Int.toNat x0) then Int.tdiv (x1 + x2 + 1) (2 : Int) else S.at' x3 j) fun j => bif Nat.beq j (Int.toNat x0) then Int.tdiv (x1 + x2 + 1) (2 : Int) else S.at' x3 j) * S.val (S.trimN (List.length x3) fun j => bif Nat.beq j (Int.toNat x0) then Int.tdiv (x1 + x2 + 1) (2 : Int) else S.at' x3 j) fun j => bif Nat.beq j (Int.toNat x0) then Int.tdiv (x1 + x2 + 1) (2 : Int) else S.at' x3 j)) ≤ 1000000 ∧ ap + np ≤ mp ∧ np ≤ 1000000 ∧ (S.okG (List.length (S.grp ((S.val (S.trimN (List.length x3) fun j => bif Nat.beq j (Int.toNat x0) then Int.tdiv (x1 + x2 + 1) (2 : Int) else S.at' x3 j) fun j => bif Nat.beq j (Int.toNat x0) then Int.tdiv (x1 + x2 + 1) (2 : Int) else S.at' x3 j) * S.val (S.trimN (List.length x3) fun j => bif Nat.beq j (Int.toNat x0) then Int.tdiv (x1 + x2 + 1) (2 : Int) else S.at' x3 j) fun j => bif Nat.beq j (Int.toNat x0) then Int.tdiv (x1 + x2 + 1) (2 : Int) else S.at' x3 j))) fun j => S.at' (S.grp ((S.val (S.trimN (List.length x3) fun j => bif Nat.beq j (Int.toNat x0) then Int.tdiv (x1 + x2 + 1) (2 : Int) else S.at' x3 j) fun j => bif Nat.beq j (Int.toNat x0) then Int.tdiv (x1 + x2 + 1) (2 : Int) else S.at' x3 j) * S.val (S.trimN (List.length x3) fun j => bif Nat.beq j (Int.toNat x0) then Int.tdiv (x1 + x2 + 1) (2 : Int) else S.at' x3 j) fun j => bif Nat.beq j (Int.toNat x0) then Int.tdiv (x1 + x2 + 1) (2 : Int) else S.at' x3 j)) j) = true ∧ (S.okG np fun j => tp (j + ap)) = true)) then (bif (decide (S.cmpS (S.val (List.length (S.grp ((S.val (S.trimN (List.length x3) fun j => bif Nat.beq j (Int.toNat x0) then Int.tdiv (x1 + x2 + 1) (2 : Int) else S.at' x3 j) fun j => bif Nat.beq j (Int.toNat x0) then Int.tdiv (x1 + x2 + 1) (2 : Int) else S.at' x3 j) * S.val (S.trimN (List.length x3) fun j => bif Nat.beq j (Int.toNat x0) then Int.tdiv (x1 + x2 + 1) (2 : Int) else S.at' x3 j) fun j => bif Nat.beq j (Int.toNat x0) then Int.tdiv (x1 + x2 + 1) (2 : Int) else S.at' x3 j))) fun j => S.at' (S.grp ((S.val (S.trimN (List.length x3) fun j => bif Nat.beq j (Int.toNat x0) then Int.tdiv (x1 + x2 + 1) (2 : Int) else S.at' x3 j) fun j => bif Nat.beq j (Int.toNat x0) then Int.tdiv (x1 + x2 + 1) (2 : Int) else S.at' x3 j) * S.val (S.trimN (List.length x3) fun j => bif Nat.beq j (Int.toNat x0) then Int.tdiv (x1 + x2 + 1) (2 : Int) else S.at' x3 j) fun j => bif Nat.beq j (Int.toNat x0) then Int.tdiv (x1 + x2 + 1) (2 : Int) else S.at' x3 j)) j) (S.val np fun j => tp (j + ap)) ≤ 0)) then (some (.inl (.h1 (x0) (bif Nat.beq (Int.toNat x0) (Int.toNat x0) then Int.tdiv (x1 + x2 + 1) (2 : Int)
else S.at' x3 (Int.toNat x0)) (x2) (S.mkl (List.length x3) fun j => bif Nat.beq j (Int.toNat x0) then Int.tdiv (x1 + x2 + 1) (2 : Int) else S.at' x3 j)))) else (bif (lim .i64 ((bif Nat.beq (Int.toNat x0) (Int.toNat x0) then Int.tdiv (x1 + x2 + 1) (2 : Int) else S.at' x3 (Int.toNat x0)) - 1)) then (some (.inl (.h1 (x0) (x1) ((bif Nat.beq (Int.toNat x0) (Int.toNat x0) then Int.tdiv (x1 + x2 + 1) (2 : Int) else S.at' x3 (Int.toNat x0)) - 1) (S.mkl (List.length x3) fun j => bif Nat.beq j (Int.toNat x0) then Int.tdiv (x1 + x2 + 1) (2 : Int) else S.at' x3 j)))) else (none))) else (none)) else (none)) else (none)) else (none)) else (none)) else (none)) else (none)) else (none)) else (bif (decide ((0 : Int) ≤ x0 ∧ x0 < (↑(List.length x3) : Int))) then (bif (decide (Int.toNat x0 < List.length x3)) then (bif (lim .i64 (x0 - 1)) then (some (.inl (.h0 (x0 - 1) (S.mkl (List.length x3) fun j => bif Nat.beq j (Int.toNat x0) then x1 else S.at' x3 j)))) else (none)) else (none)) else (none))
noncomputable def p37 (n1 : Bool) (ap np mp : Nat) (tp : NI) : Option (St37 ⊕ Rt37) := bif (decide (ap + np ≤ mp ∧ np ≤ 1000000)) then (bif (S.okI n1 np fun j => tp (j + ap)) then (bif (n1) then (some (.inr (false, (6 : Int), []))) else (bif (lim .i64 ((↑np : Int) + 1)) then (bif (lim .i64 (Int.tdiv ((↑np : Int) + 1) (2 : Int))) then (bif (decide ((0 : Int) ≤ Int.tdiv ((↑np : Int) + 1) (2 : Int) ∧ Int.tdiv ((↑np : Int) + 1) (2 : Int) ≤ Int.tdiv ((↑np : Int) + 1) (2 : Int) ∧ Int.tdiv ((↑np : Int) + 1) (2 : Int) ≤ 1000000)) then (bif (lim .i64 ((↑(Int.toNat (Int.tdiv ((↑np : Int) + 1) (2 : Int))) : Int) - 1)) then (some (.inl (.h0 ((↑(Int.toNat (Int.tdiv ((↑np : Int) + 1) (2 : Int))) : Int) - 1) (S.mkl (Int.toNat (Int.tdiv ((↑np : Int) + 1) (2 : Int))) fun j => 0)))) else (none)) else (none)) else (none)) else (none))) else (some (.inr (false, (1 : Int), [])))) else (none)
noncomputable def Te37 (test : TT) (Kst : KS) (Kret : KR) (n1 : Bool) (ap np mp : Nat) (tp : NI) : Prop := test (decide (ap + np ≤ mp ∧ np ≤ 1000000)) (test (S.okI n1 np fun j => tp (j + ap)) (test (n1) (Kret (PV.tup [PV.agg [PV.tf false, PV.nils], PV.int .i64 (6 : Int)]) ([[(0, false, Blk.cols mp [Col.int .i64 tp])]]) (4)) (test (lim .i64 ((↑np : Int) + 1)) (test (false) (False) (test (lim .i64 (Int.tdiv ((↑np : Int) + 1) (2 : Int))) (test (decide ((0 : Int) ≤ Int.tdiv ((↑np : Int) + 1) (2 : Int) ∧ Int.tdiv ((↑np : Int) + 1) (2 : Int) ≤ Int.tdiv ((↑np : Int) + 1) (2 : Int) ∧ Int.tdiv ((↑np : Int) + 1) (2 : Int) ≤ 1000000)) (test (lim .i64 ((↑(Int.toNat (Int.tdiv ((↑np : Int) + 1) (2 : Int))) : Int) - 1)) (Kst (hd Tryd.f37 0) ([PV.ptr (PA.mk (1) (0) (0) (0)), PV.ptr (PA.mk (2) (0) (0) (0)), PV.own (4) (1) (Int.toNat (Int.tdiv ((↑np : Int) + 1) (2 : Int))), PV.int .i64 ((↑(Int.toNat (Int.tdiv ((↑np : Int) + 1) (2 : Int))) : Int) - 1), PV.unk, PV.unk]) ([[(0, false, Blk.cols mp [Col.int .i64 tp]), (4, true, Blk.cols (Int.toNat (Int.tdiv ((↑np : Int) + 1) (2 : Int))) [Col.int .i64 fun (x : Nat) => 0]), (2, true, Blk.cells [PV.tf false, PV.nils]), (1, true, Blk.cells [PV.bool n1, PV.loose (PA.mk (0) (1) ap (0)) np])]]) (5)) (False)) (False)) (False))) (False))) (Kret (PV.tup [PV.agg [PV.tf false, PV.nils], PV.int .i64 (1 : Int)]) ([[(0, false, Blk.cols mp [Col.int .i64 tp])]]) (4))) (False)
theorem te37 (test : TT) (Kst : KS) (Kret : KR) (n1 : Bool) (ap np mp : Nat) (tp : NI) : run test Tryd.env true (xF4 test) true 400 ⟨37, [.cd (mkFn Tryd.f37).body], argT 0 [.agg [.bool n1, .loose ⟨0, 1, ap, 0⟩ np]], [[], [(0, (false, .cols mp [.int .i64 tp]))]], 1⟩ (proj 1 [1, 2, 4, 5, 6, 7] Kst Kret) =
  Te37 test Kst Kret n1 ap np mp tp := by kernel_rfl
noncomputable def T37_0 (test : TT) (Kst : KS) (Kret : KR) (n1 : Bool) (ap np mp : Nat) (tp : NI) (x0 : Int) (x1 : List Int) : Prop := test (decide (x0 ≥ 0)) (Kst (hd Tryd.f37 1) ([PV.ptr (PA.mk (1) (0) (0) (0)), PV.ptr (PA.mk (2) (0) (0) (0)), PV.own (3) (1) (List.length x1), PV.int .i64 x0, PV.int .i64 (0 : Int), PV.int .i64 (999999 : Int)]) ([[(0, false, Blk.cols mp [Col.int .i64 tp]), (3, true, Blk.cols (List.length x1) [Col.int .i64 fun j => S.at' x1 j]), (2, true, Blk.cells [PV.tf false, PV.nils]), (1, true, Blk.cells [PV.bool n1, PV.loose (PA.mk (0) (1) ap (0)) np])]]) (4)) (test (decide (0 + List.length x1 ≤ List.length x1 ∧ List.length x1 ≤ 1000000 ∧ (S.okD (List.length x1) fun j => S.at' x1 j) = true)) (Kret (PV.tup [PV.agg [PV.bool (S.sgB false (S.val (List.length x1) fun j => S.at' x1 j)), PV.own (5) (1) (List.length (S.grp (S.val (List.length x1) fun j => S.at' x1 j)))], PV.int .i64 (0 : Int)]) ([[(0, false, Blk.cols mp [Col.int .i64 tp]), (5, true, Blk.cols (List.length (S.grp (S.val (List.length x1) fun j => S.at' x1 j))) [Col.int .i64 fun j => S.at' (S.grp (S.val (List.length x1) fun j => S.at' x1 j)) j])]]) (6)) (False))
theorem t37_0 (test : TT) (Kst : KS) (Kret : KR) (n1 : Bool) (ap np mp : Nat) (tp : NI) (x0 : Int) (x1 : List Int) : run test Tryd.env true (xF4 test) true 400 ⟨37, hd Tryd.f37 0, zipT [1, 2, 4, 5, 6, 7] [PV.ptr (PA.mk (1) (0) (0) (0)),
 PV.ptr (PA.mk (2) (0) (0) (0)),
 PV.own (3) (1) (List.length x1), PV.int .i64 x0, PV.unk, PV.unk], [[(1, (true, Blk.cells [PV.bool n1, PV.loose (PA.mk (0) (1) ap (0)) np])), (2, (true, Blk.cells [PV.tf false, PV.nils])), (3, (true, Blk.cols (List.length x1) [Col.int .i64 fun j => S.at' x1 j]))], [(0, (false, .cols mp [.int .i64 tp]))]], 4⟩ (proj 1 [1, 2, 4, 5, 6, 7] Kst Kret) =
  T37_0 test Kst Kret n1 ap np mp tp x0 x1 := by kernel_rfl
noncomputable def T37_1 (test : TT) (Kst : KS) (Kret : KR) (n1 : Bool) (ap np mp : Nat) (tp : NI) (x0 x1 x2 : Int) (x3 : List Int) : Prop := test (decide (x1 < x2)) (test (lim .i64 (x1 + x2)) (test (lim .i64 (x1 + x2 + 1)) (test (false) (False) (test (lim .i64 (Int.tdiv (x1 + x2 + 1) (2 : Int))) (test (decide ((0 : Int) ≤ x0 ∧ x0 < (↑(List.length x3) : Int))) (test (decide (Int.toNat x0 < List.length x3)) (test (decide (0 + List.length x3 ≤ List.length x3 ∧ List.length x3 ≤ 1000000)) (test (decide (((0 + S.trimN (List.length x3) fun j => bif Nat.beq j (Int.toNat x0) then Int.tdiv (x1 + x2 + 1) (2 : Int) else S.at' x3 j) ≤ List.length x3 ∧ (0 + S.trimN (List.length x3) fun j => bif Nat.beq j (Int.toNat x0) then Int.tdiv (x1 + x2 + 1) (2 : Int) else S.at' x3 j) ≤ List.length x3) ∧ ((S.trimN (List.length x3) fun j => bif Nat.beq j (Int.toNat x0) then Int.tdiv (x1 + x2 + 1) (2 : Int) else S.at' x3 j) ≤ 1000 ∧ (S.trimN (List.length x3) fun j => bif Nat.beq j (Int.toNat x0) then Int.tdiv (x1 + x2 + 1) (2 : Int) else S.at' x3 j) ≤ 1000) ∧ (S.okD (S.trimN (List.length x3) fun j => bif Nat.beq j (Int.toNat x0) then Int.tdiv (x1 + x2 + 1) (2 : Int) else S.at' x3 j) fun j => bif Nat.beq j (Int.toNat x0) then Int.tdiv (x1 + x2 + 1) (2 : Int) else S.at' x3 j) = true ∧ (S.okD (S.trimN (List.length x3) fun j => bif Nat.beq j (Int.toNat x0) then Int.tdiv (x1 + x2 + 1) (2 : Int) else S.at' x3 j) fun j => bif Nat.beq j (Int.toNat x0) then Int.tdiv (x1 + x2 + 1) (2 : Int) else S.at' x3 j) = true)) (test (decide (0 + List.length (S.grp ((S.val (S.trimN (List.length x3) fun j => bif Nat.beq j (Int.toNat x0) then Int.tdiv (x1 + x2 + 1) (2 : Int) else S.at' x3 j) fun j => bif Nat.beq j (Int.toNat x0) then Int.tdiv (x1 + x2 + 1) (2 : Int) else S.at' x3 j) * S.val (S.trimN (List.length x3) fun j => bif Nat.beq j (Int.toNat x0) then Int.tdiv (x1 + x2 + 1) (2 : Int) else S.at' x3 j) fun j => bif Nat.beq j (Int.toNat x0) then Int.tdiv (x1 + x2 + 1) (2 : Int) else S.at' x3 j)) ≤ List.length (S.grp ((S.val (S.trimN (List.length x3) fun j => bif Nat.beq j (Int.toNat x0) then Int.tdiv (x1 + x2 + 1) (2 : Int) else S.at' x3 j) fun j => bif Nat.beq j (Int.toNat x0) then Int.tdiv (x1 + x2 + 1) (2 : Int) else S.at' x3 j) * S.val (S.trimN (List.length x3) fun j => bif Nat.beq j (Int.toNat x0) then Int.tdiv (x1 + x2 + 1) (2 : Int) else S.at' x3 j) fun j => bif Nat.beq j (Int.toNat x0) then Int.tdiv (x1 + x2 + 1) (2 : Int) else S.at' x3 j)) ∧ List.length (S.grp ((S.val (S.trimN (List.length x3) fun j => bif Nat.beq j (Int.toNat x0) then Int.tdiv (x1 + x2 + 1) (2 : Int) else S.at' x3 j) fun j => bif Nat.beq j (Int.toNat x0) then Int.tdiv (x1 + x2 + 1) (2 : Int) else S.at' x3 j) * S.val (S.trimN (List.length x3) fun j => bif Nat.beq j (Int.toNat x0) then Int.tdiv (x1 + x2 + 1) (2 : Int) else S.at' x3 j) fun j => bif Nat.beq j (Int.toNat x0) then Int.tdiv (x1 + x2 + 1) (2 : Int) else S.at' x3 j)) ≤ 1000000 ∧ ap + np ≤ mp ∧ np ≤ 1000000 ∧ (S.okG (List.length (S.grp ((S.val (S.trimN (List.length x3) fun j => bif Nat.beq j (Int.toNat x0) then Int.tdiv (x1 + x2 + 1) (2 : Int) else S.at' x3 j) fun j => bif Nat.beq j (Int.toNat x0) then Int.tdiv (x1 + x2 + 1) (2 : Int) else S.at' x3 j) * S.val (S.trimN (List.length x3) fun j => bif Nat.beq j (Int.toNat x0) then Int.tdiv (x1 + x2 + 1) (2 : Int) else S.at' x3 j) fun j => bif Nat.beq j (Int.toNat x0) then Int.tdiv (x1 + x2 + 1) (2 : Int) else S.at' x3 j))) fun j => S.at' (S.grp ((S.val (S.trimN (List.length x3) fun j => bif Nat.beq j (Int.toNat x0) then Int.tdiv (x1 + x2 + 1) (2 : Int) else S.at' x3 j) fun j => bif Nat.beq j (Int.toNat x0) then Int.tdiv (x1 + x2 + 1) (2 : Int) else S.at' x3 j) * S.val (S.trimN (List.length x3) fun j => bif Nat.beq j (Int.toNat x0) then Int.tdiv (x1 + x2 + 1) (2 : Int) else S.at' x3 j) fun j => bif Nat.beq j (Int.toNat x0) then Int.tdiv (x1 + x2 + 1) (2 : Int) else S.at' x3 j)) j) = true ∧ (S.okG np fun j => tp (j + ap)) = true)) (test (decide (S.cmpS (S.val (List.length (S.grp ((S.val (S.trimN (List.length x3) fun j => bif Nat.beq j (Int.toNat x0) then Int.tdiv (x1 + x2 + 1) (2 : Int) else S.at' x3 j) fun j => bif Nat.beq j (Int.toNat x0) then Int.tdiv (x1 + x2 + 1) (2 : Int) else S.at' x3 j) * S.val (S.trimN (List.length x3) fun j => bif Nat.beq j (Int.toNat x0) then Int.tdiv (x1 + x2 + 1) (2 : Int) else S.at' x3 j) fun j => bif Nat.beq j (Int.toNat x0) then Int.tdiv (x1 + x2 + 1) (2 : Int) else S.at' x3 j))) fun j => S.at' (S.grp ((S.val (S.trimN (List.length x3) fun j => bif Nat.beq j (Int.toNat x0) then Int.tdiv (x1 + x2 + 1) (2 : Int) else S.at' x3 j) fun j => bif Nat.beq j (Int.toNat x0) then Int.tdiv (x1 + x2 + 1) (2 : Int) else S.at' x3 j) * S.val (S.trimN (List.length x3) fun j => bif Nat.beq j (Int.toNat x0) then Int.tdiv (x1 + x2 + 1) (2 : Int) else S.at' x3 j) fun j => bif Nat.beq j (Int.toNat x0) then Int.tdiv (x1 + x2 + 1) (2 : Int) else S.at' x3 j)) j) (S.val np fun j => tp (j + ap)) ≤ 0)) (test (decide ((0 : Int) ≤ x0 ∧ x0 < (↑(List.length x3) : Int))) (test (decide (Int.toNat x0 < List.length x3)) (Kst (hd Tryd.f37 1) ([PV.ptr (PA.mk (1) (0) (0) (0)), PV.ptr (PA.mk (2) (0) (0) (0)), PV.own (3) (1) (List.length x3), PV.int .i64 x0, PV.int .i64 (bif Nat.beq (Int.toNat x0) (Int.toNat x0) then Int.tdiv (x1 + x2 + 1) (2 : Int) else S.at' x3 (Int.toNat x0)), PV.int .i64 x2]) ([[(0, false, Blk.cols mp [Col.int .i64 tp]), (3, true, Blk.cols (List.length x3) [Col.int .i64 fun j => bif Nat.beq j (Int.toNat x0) then Int.tdiv (x1 + x2 + 1) (2 : Int) else S.at' x3 j]), (2, true, Blk.cells [PV.tf false, PV.nils]), (1, true, Blk.cells [PV.bool n1, PV.loose (PA.mk (0) (1) ap (0)) np])]]) (8)) (False)) (False)) (test (decide ((0 : Int) ≤ x0 ∧ x0 < (↑(List.length x3) : Int))) (test (decide (Int.toNat x0 < List.length x3)) (test (lim .i64 ((bif Nat.beq (Int.toNat x0) (Int.toNat x0) then Int.tdiv (x1 + x2 + 1) (2 : Int) else S.at' x3 (Int.toNat x0)) - 1)) (Kst (hd Tryd.f37 1) ([PV.ptr (PA.mk (1) (0) (0) (0)), PV.ptr (PA.mk (2) (0) (0) (0)), PV.own (3) (1) (List.length x3), PV.int .i64 x0, PV.int .i64 x1, PV.int .i64 ((bif Nat.beq (Int.toNat x0) (Int.toNat x0) then Int.tdiv (x1 + x2 + 1) (2 : Int) else S.at' x3 (Int.toNat x0)) - 1)]) ([[(0, false, Blk.cols mp [Col.int .i64 tp]), (3, true, Blk.cols (List.length x3) [Col.int .i64 fun j => bif Nat.beq j (Int.toNat x0) then Int.tdiv (x1 + x2 + 1) (2 : Int) else S.at' x3 j]), (2, true, Blk.cells [PV.tf false, PV.nils]), (1, true, Blk.cells [PV.bool n1, PV.loose (PA.mk (0) (1) ap (0)) np])]]) (8)) (False)) (False)) (False))) (False)) (False)) (False)) (False)) (False)) (False))) (False)) (False)) (test (decide ((0 : Int) ≤ x0 ∧ x0 < (↑(List.length x3) : Int))) (test (decide (Int.toNat x0 < List.length x3)) (test (lim .i64 (x0 - 1)) (Kst (hd Tryd.f37 0) ([PV.ptr (PA.mk (1) (0) (0) (0)), PV.ptr (PA.mk (2) (0) (0) (0)), PV.own (3) (1) (List.length x3), PV.int .i64 (x0 - 1), PV.int .i64 x1, PV.int .i64 x2]) ([[(0, false, Blk.cols mp [Col.int .i64 tp]), (3, true, Blk.cols (List.length x3) [Col.int .i64 fun j => bif Nat.beq j (Int.toNat x0) then x1 else S.at' x3 j]), (2, true, Blk.cells [PV.tf false, PV.nils]), (1, true, Blk.cells [PV.bool n1, PV.loose (PA.mk (0) (1) ap (0)) np])]]) (4)) (False)) (False)) (False))
theorem t37_1 (test : TT) (Kst : KS) (Kret : KR) (n1 : Bool) (ap np mp : Nat) (tp : NI) (x0 x1 x2 : Int) (x3 : List Int) : run test Tryd.env true (xF4 test) true 400 ⟨37, hd Tryd.f37 1, zipT [1, 2, 4, 5, 6, 7] [PV.ptr (PA.mk (1) (0) (0) (0)),
 PV.ptr (PA.mk (2) (0) (0) (0)),
 PV.own (3) (1) (List.length x3), PV.int .i64 x0, PV.int .i64 x1,
 PV.int .i64 x2], [[(1, (true, Blk.cells [PV.bool n1, PV.loose (PA.mk (0) (1) ap (0)) np])), (2, (true, Blk.cells [PV.tf false, PV.nils])), (3, (true, Blk.cols (List.length x3) [Col.int .i64 fun j => S.at' x3 j]))], [(0, (false, .cols mp [.int .i64 tp]))]], 4⟩ (proj 1 [1, 2, 4, 5, 6, 7] Kst Kret) =
  T37_1 test Kst Kret n1 ap np mp tp x0 x1 x2 x3 := by kernel_rfl
noncomputable abbrev J37 (n1 : Bool) (ap np mp : Nat) (tp : NI) : Rt37 → Heap := fun r => [newL (1 + 1) ((N37 n1 ap np mp tp) r) ++ [(0, (false, .cols mp [.int .i64 tp]))]]
attribute [local irreducible] Int.subNatNat in
theorem be37 (n1 : Bool) (ap np mp : Nat) (tp : NI) (Kst : KS) (Kret : KR) (x : St37 ⊕ Rt37) (hS : HS 1 400 ((I37 n1 ap np mp tp)) Kst x) (hR : HR 1 400 ((V37 n1 ap np mp tp)) (J37 n1 ap np mp tp) Kret x) (h : p37 n1 ap np mp tp = some x) : Te37 cond Kst Kret n1 ap np mp tp := by
  unfold Te37
  unfold p37 at h
  refine bif_split h (fun c0 h => bif_split h (fun c1 h => bif_split h (fun c2 h => ret_at hR _ h (fun n => bif Nat.beq n 2 then 399 else n) rfl rfl rfl (rn_tup ⟨(rn_agg ⟨(rn_bool_tf rfl), (rn_own_nils rfl), trivial⟩), (rn_int rfl), trivial⟩) rfl (entl_fresh (use_own rfl) (fresh_ok rfl) (entl_bor (use_lo rfl) rfl rfl entl_nil))) (fun c2 h => bif_split h (fun c3 h => cond_no rfl (bif_split h (fun c4 h => bif_split h (fun c5 h => bif_split h (fun c6 h => stop_at hS _ h (fun n => bif Nat.beq n 1 then 1 else bif Nat.beq n 2 then 2 else bif Nat.beq n 3 then 4 else n) rfl rfl rfl ⟨(rn_ptr (use_own rfl) rfl rfl), ⟨(rn_ptr (use_own rfl) rfl rfl), ⟨(rn_own (use_own rfl) rfl mkl_len), ⟨(rn_int rfl), ⟨(rn_unk _), ⟨(rn_unk _), trivial⟩⟩⟩⟩⟩⟩ rfl (entl_b (use_own rfl) rfl (by simp) (rb_cells ⟨(rn_bool rfl), (rn_loose (use_lo rfl) rfl rfl rfl), trivial⟩) (entl_b (use_own rfl) rfl (by simp) (rb_cells ⟨(rn_tf rfl), rn_nils, trivial⟩) (entl_new (use_own rfl) rfl (Nat.le_of_eq mkl_len) (rcs_int (fun _ hj => col_mkl (fun (t : Int) => t) hj) rcs_nil) (entl_bor (use_lo rfl) rfl rfl entl_nil))))) (fun c6 h => no_some h)) (fun c5 h => no_some h)) (fun c4 h => no_some h))) (fun c3 h => no_some h))) (fun c1 h => ret_at hR _ h (fun n => bif Nat.beq n 2 then 399 else n) rfl rfl rfl (rn_tup ⟨(rn_agg ⟨(rn_bool_tf rfl), (rn_own_nils rfl), trivial⟩), (rn_int rfl), trivial⟩) rfl (entl_fresh (use_own rfl) (fresh_ok rfl) (entl_bor (use_lo rfl) rfl rfl entl_nil)))) (fun c0 h => no_some h)
attribute [local irreducible] Int.subNatNat in
theorem b37_0 (n1 : Bool) (ap np mp : Nat) (tp : NI) (Kst : KS) (Kret : KR) (x : St37 ⊕ Rt37) (hS : HS 1 400 ((I37 n1 ap np mp tp)) Kst x) (hR : HR 1 400 ((V37 n1 ap np mp tp)) (J37 n1 ap np mp tp) Kret x) (x0 : Int) (x1 : List Int) (h : q37 n1 ap np mp tp (.h0 x0 x1) = some x) : T37_0 cond Kst Kret n1 ap np mp tp x0 x1 := by
  unfold T37_0
  rw [q37] at h
  exact bif_split h (fun c0 h => stop_at hS _ h (fun n => bif Nat.beq n 1 then 1 else bif Nat.beq n 2 then 2 else bif Nat.beq n 3 then 3 else n) rfl rfl rfl ⟨(rn_ptr (use_own rfl) rfl rfl), ⟨(rn_ptr (use_own rfl) rfl rfl), ⟨(rn_own (use_own rfl) rfl rfl), ⟨(rn_int rfl), ⟨(rn_int rfl), ⟨(rn_int rfl), trivial⟩⟩⟩⟩⟩⟩ rfl (entl_b (use_own rfl) rfl (by simp) (rb_cells ⟨(rn_bool rfl), (rn_loose (use_lo rfl) rfl rfl rfl), trivial⟩) (entl_b (use_own rfl) rfl (by simp) (rb_cells ⟨(rn_tf rfl), rn_nils, trivial⟩) (entl_new (use_own rfl) rfl (Nat.le_of_eq rfl) (rcs_int (fun _ _ => rfl) rcs_nil) (entl_bor (use_lo rfl) rfl rfl entl_nil))))) (fun c0 h => bif_split h (fun c1 h => ret_at hR _ h (fun n => bif Nat.beq n 2 then 5 else n) rfl rfl rfl (rn_tup ⟨(rn_agg ⟨(rn_bool rfl), (rn_own (use_own rfl) rfl rfl), trivial⟩), (rn_int rfl), trivial⟩) rfl (entl_new (use_own rfl) rfl (Nat.le_of_eq rfl) (rcs_int (fun _ _ => rfl) rcs_nil) (entl_bor (use_lo rfl) rfl rfl entl_nil))) (fun c1 h => no_some h))
attribute [local irreducible] Int.subNatNat in
theorem b37_1 (n1 : Bool) (ap np mp : Nat) (tp : NI) (Kst : KS) (Kret : KR) (x : St37 ⊕ Rt37) (hS : HS 1 400 ((I37 n1 ap np mp tp)) Kst x) (hR : HR 1 400 ((V37 n1 ap np mp tp)) (J37 n1 ap np mp tp) Kret x) (x0 x1 x2 : Int) (x3 : List Int) (h : q37 n1 ap np mp tp (.h1 x0 x1 x2 x3) = some x) : T37_1 cond Kst Kret n1 ap np mp tp x0 x1 x2 x3 := by
  unfold T37_1
  rw [q37] at h
  exact bif_split h (fun c0 h => bif_split h (fun c1 h => bif_split h (fun c2 h => cond_no rfl (bif_split h (fun c3 h => bif_split h (fun c4 h => bif_split h (fun c5 h => bif_split h (fun c6 h => bif_split h (fun c7 h => bif_split h (fun c8 h => bif_split h (fun c9 h => cond_yes c4 (cond_yes c5 (stop_at hS _ h (fun n => bif Nat.beq n 1 then 1 else bif Nat.beq n 2 then 2 else bif Nat.beq n 3 then 3 else n) rfl rfl rfl ⟨(rn_ptr (use_own rfl) rfl rfl), ⟨(rn_ptr (use_own rfl) rfl rfl), ⟨(rn_own (use_own rfl) rfl mkl_len), ⟨(rn_int rfl), ⟨(rn_int rfl), ⟨(rn_int rfl), trivial⟩⟩⟩⟩⟩⟩ rfl (entl_b (use_own rfl) rfl (by simp) (rb_cells ⟨(rn_bool rfl), (rn_loose (use_lo rfl) rfl rfl rfl), trivial⟩) (entl_b (use_own rfl) rfl (by simp) (rb_cells ⟨(rn_tf rfl), rn_nils, trivial⟩) (entl_new (use_own rfl) rfl (Nat.le_of_eq mkl_len) (rcs_int (fun _ hj => col_mkl (fun (t : Int) => t) hj) rcs_nil) (entl_bor (use_lo rfl) rfl rfl entl_nil))))))) (fun c9 h => cond_yes c4 (cond_yes c5 (bif_split h (fun c10 h => stop_at hS _ h (fun n => bif Nat.beq n 1 then 1 else bif Nat.beq n 2 then 2 else bif Nat.beq n 3 then 3 else n) rfl rfl rfl ⟨(rn_ptr (use_own rfl) rfl rfl), ⟨(rn_ptr (use_own rfl) rfl rfl), ⟨(rn_own (use_own rfl) rfl mkl_len), ⟨(rn_int rfl), ⟨(rn_int rfl), ⟨(rn_int rfl), trivial⟩⟩⟩⟩⟩⟩ rfl (entl_b (use_own rfl) rfl (by simp) (rb_cells ⟨(rn_bool rfl), (rn_loose (use_lo rfl) rfl rfl rfl), trivial⟩) (entl_b (use_own rfl) rfl (by simp) (rb_cells ⟨(rn_tf rfl), rn_nils, trivial⟩) (entl_new (use_own rfl) rfl (Nat.le_of_eq mkl_len) (rcs_int (fun _ hj => col_mkl (fun (t : Int) => t) hj) rcs_nil) (entl_bor (use_lo rfl) rfl rfl entl_nil))))) (fun c10 h => no_some h))))) (fun c8 h => no_some h)) (fun c7 h => no_some h)) (fun c6 h => no_some h)) (fun c5 h => no_some h)) (fun c4 h => no_some h)) (fun c3 h => no_some h))) (fun c2 h => no_some h)) (fun c1 h => no_some h)) (fun c0 h => bif_split h (fun c1 h => bif_split h (fun c2 h => bif_split h (fun c3 h => stop_at hS _ h (fun n => bif Nat.beq n 1 then 1 else bif Nat.beq n 2 then 2 else bif Nat.beq n 3 then 3 else n) rfl rfl rfl ⟨(rn_ptr (use_own rfl) rfl rfl), ⟨(rn_ptr (use_own rfl) rfl rfl), ⟨(rn_own (use_own rfl) rfl mkl_len), ⟨(rn_int rfl), ⟨(rn_unk _), ⟨(rn_unk _), trivial⟩⟩⟩⟩⟩⟩ rfl (entl_b (use_own rfl) rfl (by simp) (rb_cells ⟨(rn_bool rfl), (rn_loose (use_lo rfl) rfl rfl rfl), trivial⟩) (entl_b (use_own rfl) rfl (by simp) (rb_cells ⟨(rn_tf rfl), rn_nils, trivial⟩) (entl_new (use_own rfl) rfl (Nat.le_of_eq mkl_len) (rcs_int (fun _ hj => col_mkl (fun (t : Int) => t) hj) rcs_nil) (entl_bor (use_lo rfl) rfl rfl entl_nil))))) (fun c3 h => no_some h)) (fun c2 h => no_some h)) (fun c1 h => no_some h))
theorem a37 (n1 : Bool) (ap np mp : Nat) (tp : NI) {r : Rt37} (h : Goes ((q37 n1 ap np mp tp)) ((p37 n1 ap np mp tp)) r) : CallR Tryd.prog 37 [.agg [.bool n1, .loose ⟨0, 1, ap, 0⟩ np]] [[(0, (false, .cols mp [.int .i64 tp]))]] 1 ((V37 n1 ap np mp tp) r) ((J37 n1 ap np mp tp) r) 400 ∧ ∃ F, Tryd.prog.funcs[37]? = some F ∧ F.body.isSome = true ∧ (F.name == "runtime.NumGoroutine") = false := by
  refine dec_calls (f := 37) (lo := 1) (hi := 400) Tryd.envOk Tryd.mixed xF4_ok ((I37 n1 ap np mp tp)) ((V37 n1 ap np mp tp)) (J37 n1 ap np mp tp) (fn := mkFn Tryd.f37) (ts := [1, 2, 4, 5, 6, 7]) (n := 400) rfl (by decide) (by simp) (names_of rfl) ?_ ?_ ?_ h
  · intro s; cases s <;> exact ⟨hd_ok _ _, by simp [I37], names_of rfl, Nat.le_of_ble_eq_true rfl⟩
  · intro Kst Kret x hS hR h
    exact Holds.eq (te37 cond Kst Kret n1 ap np mp tp) (be37 n1 ap np mp tp Kst Kret x hS hR h)
  · intro Kst Kret x hS hR s h
    cases s with
    | h0 x0 x1 => exact Holds.eq (t37_0 cond Kst Kret n1 ap np mp tp x0 x1) (b37_0 n1 ap np mp tp Kst Kret x hS hR x0 x1 h)
    | h1 x0 x1 x2 x3 => exact Holds.eq (t37_1 cond Kst Kret n1 ap np mp tp x0 x1 x2 x3) (b37_1 n1 ap np mp tp Kst Kret x hS hR x0 x1 x2 x3 h)
noncomputable abbrev w37 {α : Type} (g : Bool → Nat → Nat → Nat → (Nat → Int) → α) (x : (Bool × (Nat × Nat × Nat × (Nat → Int) × Unit) × Unit) × Unit) : α := g x.1.1 x.1.2.1.1 x.1.2.1.2.1 x.1.2.1.2.2.1 x.1.2.1.2.2.2.1
noncomputable def k37  : Con := ⟨37, [.agg [.plain (.bool), .list [.int .i64]]], w37 (fun n1 ap np mp tp => decide (ap + np ≤ mp ∧ np ≤ 1000000)), w37 (fun n1 ap np mp tp => (V37 n1 ap np mp tp) (S.sqrI n1 np (fun j => tp (j + ap)))), w37 (fun n1 ap np mp tp => (N37 n1 ap np mp tp) (S.sqrI n1 np (fun j => tp (j + ap)))), fun _ _ => .dead⟩
theorem s37i (n1 : Bool) (ap np mp : Nat) (tp : Nat → Int) {k i : Nat} (hp : ap + np ≤ mp ∧ np ≤ 1000000) (hk : k ≤ 400) (g1 : S.okG np (fun j => tp (j + ap)) = true) (hi : i < k) (D : Int)
    (outer : ∀ (L : List Int), L.length = k → (∀ j, j < k → 0 ≤ S.at' L j ∧ S.at' L j < 1000000) → (∀ j, j < i → S.at' L j = 0) → ∀ E, S.valF (S.at' L) i (k - i) = E → S.pw i * E * (S.pw i * E) ≤ (S.val np (fun j => tp (j + ap))) → (S.val np (fun j => tp (j + ap))) < S.pw i * (E + 1) * (S.pw i * (E + 1)) → Comes ((q37 n1 ap np mp tp)) (.h0 ((i : Int) - 1) L) (S.sqrI n1 np (fun j => tp (j + ap)))) :
    ∀ (w : Nat) (a c : Int) (L : List Int), (c - a).toNat ≤ w → 0 ≤ a → a ≤ c → c ≤ 999999 → L.length = k → (∀ j, j < k → 0 ≤ S.at' L j ∧ S.at' L j < 1000000) → (∀ j, j < i → S.at' L j = 0) → S.valF (S.at' L) (i + 1) (k - (i + 1)) = D → S.pw i * (1000000 * D + a) * (S.pw i * (1000000 * D + a)) ≤ (S.val np (fun j => tp (j + ap))) → (S.val np (fun j => tp (j + ap))) < S.pw i * (1000000 * D + (c + 1)) * (S.pw i * (1000000 * D + (c + 1))) → Comes ((q37 n1 ap np mp tp)) (.h1 (i : Int) a c L) (S.sqrI n1 np (fun j => tp (j + ap))) := by
  obtain ⟨hp1, hp2⟩ := hp
  have stop : ∀ (a : Int) (L : List Int), 0 ≤ a → a ≤ 999999 → L.length = k → (∀ j, j < k → 0 ≤ S.at' L j ∧ S.at' L j < 1000000) → (∀ j, j < i → S.at' L j = 0) → S.valF (S.at' L) (i + 1) (k - (i + 1)) = D → S.pw i * (1000000 * D + a) * (S.pw i * (1000000 * D + a)) ≤ (S.val np (fun j => tp (j + ap))) → (S.val np (fun j => tp (j + ap))) < S.pw i * (1000000 * D + (a + 1)) * (S.pw i * (1000000 * D + (a + 1))) → Comes ((q37 n1 ap np mp tp)) (.h1 (i : Int) a a L) (S.sqrI n1 np (fun j => tp (j + ap))) := by
    intro a L h2 h4 hl hd hz hD lo hh
    have hm := outer (S.mkl k fun j => bif Nat.beq j i then a else S.at' L j) mkl_len (fun j hj => by rw [put_at hj]; split; omega; exact hd j hj) (fun j hj => by rw [put_at (by omega), if_neg (by omega)]; exact hz j hj) (1000000 * D + a) (by rw [valF_put (t := S.at' L) hi fun j hj => put_at hj, hD]) lo (by rw [Int.add_assoc]; exact hh)
    apply Comes.of
    rw [q37]
    simp only [Int.toNat_natCast, hl]
    clear outer hd hz hD lo hh
    refine goes_no (decide_eq_false (by omega)) (goes_ok (decide_eq_true ⟨by omega, by omega⟩) (goes_ok (decide_eq_true (by omega)) (goes_ok (by rw [lim64]; apply decide_eq_true; omega) ?_)))
    exact hm
  intro w
  induction w with
  | zero =>
    intro a c L h1 h2 h3 h4 hl hd hz hD lo hh
    have e : c = a := by clear lo hh hD hz hd; omega
    subst e
    exact stop c L h2 h4 hl hd hz hD lo hh
  | succ w ih =>
    intro a c L h1 h2 h3 h4 hl hd hz hD lo hh
    by_cases hac : a < c
    · obtain ⟨d, hmid⟩ : ∃ d, Int.tdiv (a + c + 1) 2 = d := ⟨_, rfl⟩
      have hd0 : a < d ∧ d ≤ c := by
        clear lo hh hD hz hd
        rw [Int.tdiv_eq_ediv_of_nonneg (by omega)] at hmid
        omega
      have hu : ∀ j, j < k → 0 ≤ (fun j => bif Nat.beq j i then d else S.at' L j) j ∧ (fun j => bif Nat.beq j i then d else S.at' L j) j < 1000000 := fun j hj => by
        show 0 ≤ (bif Nat.beq j i then d else S.at' L j) ∧ (bif Nat.beq j i then d else S.at' L j) < 1000000
        rw [put_if]; clear lo hh hD hz; split; omega; exact hd j hj
      have okU := okD_iff.mpr hu
      obtain ⟨W, hW⟩ : ∃ W, S.pw i * (1000000 * D + d) = W := ⟨_, rfl⟩
      have vU : S.val k (fun j => bif Nat.beq j i then d else S.at' L j) = W := by
        rw [val_high (i := i) (by omega) (fun j hj => by show (bif Nat.beq j i then d else S.at' L j) = 0; rw [put_if, if_neg (by omega)]; exact hz j hj), valF_put (t := S.at' L) hi (fun j hj => put_if), hD, hW]
      have vT := (val_trimN okU).trans vU
      have lT := trimN_le (n := k) (t := (fun j => bif Nat.beq j i then d else S.at' L j))
      have oT := okD_trimN okU
      have W0 : 0 ≤ W := vU ▸ val_nn okU
      have W1 : W < S.pw k := vU ▸ val_lt okU (Nat.le_refl k)
      have WW := mul_lt ⟨W0, W1⟩ ⟨W0, W1⟩
      have lW := grp_le WW.2
      have vW := val_grpL WW.1
      have c1 : 0 + k ≤ k ∧ k ≤ 1000000 := ⟨by omega, by omega⟩
      have c2 : (0 + S.trimN k (fun j => bif Nat.beq j i then d else S.at' L j) ≤ k ∧ 0 + S.trimN k (fun j => bif Nat.beq j i then d else S.at' L j) ≤ k) ∧ (S.trimN k (fun j => bif Nat.beq j i then d else S.at' L j) ≤ 1000 ∧ S.trimN k (fun j => bif Nat.beq j i then d else S.at' L j) ≤ 1000) ∧ S.okD (S.trimN k (fun j => bif Nat.beq j i then d else S.at' L j)) (fun j => bif Nat.beq j i then d else S.at' L j) = true ∧ S.okD (S.trimN k (fun j => bif Nat.beq j i then d else S.at' L j)) (fun j => bif Nat.beq j i then d else S.at' L j) = true := ⟨⟨by omega, by omega⟩, ⟨by omega, by omega⟩, oT, oT⟩
      have c3 : 0 + (S.grp (W * W)).length ≤ (S.grp (W * W)).length ∧ (S.grp (W * W)).length ≤ 1000000 ∧ ap + np ≤ mp ∧ np ≤ 1000000 ∧ (S.okG (S.grp (W * W)).length fun j => S.at' (S.grp (W * W)) j) = true ∧ S.okG np (fun j => tp (j + ap)) = true := ⟨by omega, by omega, hp1, hp2, grp_ok, g1⟩
      have hp0 : ∀ j, j < k → 0 ≤ S.at' (S.mkl k (fun j => bif Nat.beq j i then d else S.at' L j)) j ∧ S.at' (S.mkl k (fun j => bif Nat.beq j i then d else S.at' L j)) j < 1000000 := fun j hj => by rw [at_mkl hj]; exact hu j hj
      have hz0 : ∀ j, j < i → S.at' (S.mkl k (fun j => bif Nat.beq j i then d else S.at' L j)) j = 0 := fun j hj => by rw [put_at (by omega), if_neg (by omega)]; exact hz j hj
      have hD0 : S.valF (S.at' (S.mkl k (fun j => bif Nat.beq j i then d else S.at' L j))) (i + 1) (k - (i + 1)) = D := by
        rw [← hD]
        exact valF_congr fun j h1 h2 => by rw [put_at (by omega), if_neg (by omega)]
      have f1 : decide (a < c) = true := decide_eq_true hac
      have f2 : lim .i64 (a + c) = true := by clear lo hh; rw [lim64]; apply decide_eq_true; omega
      have f3 : lim .i64 (a + c + 1) = true := by clear lo hh; rw [lim64]; apply decide_eq_true; omega
      have f4 : lim .i64 d = true := by clear lo hh; rw [lim64]; apply decide_eq_true; omega
      have f5 : lim .i64 (d - 1) = true := by clear lo hh; rw [lim64]; apply decide_eq_true; omega
      have f6 : (0 : Int) ≤ (i : Int) ∧ (i : Int) < (k : Int) := ⟨by omega, by omega⟩
      have k1 := ih d c (S.mkl k (fun j => bif Nat.beq j i then d else S.at' L j)) (by clear lo hh; omega) (by omega) (by omega) h4 mkl_len hp0 hz0 hD0
      have k2 := ih a (d - 1) (S.mkl k (fun j => bif Nat.beq j i then d else S.at' L j)) (by clear lo hh; omega) h2 (by omega) (by omega) mkl_len hp0 hz0 hD0 lo
      rw [hW] at k1
      rw [show d - 1 + 1 = d by omega, hW] at k2
      clear ih stop outer lo hz0 hD0 hp0 hu okU
      apply Comes.of
      rw [q37]
      simp only [Int.toNat_natCast, hmid, hl, f1, f2, f3, f4, f5, decide_eq_true f6, decide_eq_true hi, decide_eq_true c1, decide_eq_true c2, vT, decide_eq_true c3, vW, cond_true, Nat.beq_refl]
      by_cases hV : W * W ≤ (S.val np (fun j => tp (j + ap)))
      · refine goes_ok (decide_eq_true ?_) (k1 hV hh)
        unfold S.cmpS
        rw [if_neg (by omega : ¬ W * W > (S.val np (fun j => tp (j + ap))))]
        split <;> decide
      · refine goes_no (decide_eq_false ?_) (k2 (by omega))
        unfold S.cmpS
        rw [if_neg (by omega), if_pos (by omega)]
        decide
    · have e : c = a := by clear lo hh hD hz hd; omega
      subst e
      exact stop c L h2 h4 hl hd hz hD lo hh
theorem s37o (n1 : Bool) (ap np mp : Nat) (tp : Nat → Int) {k : Nat} (hp : ap + np ≤ mp ∧ np ≤ 1000000) (hk : k ≤ 400) (g0 : S.okI n1 np (fun j => tp (j + ap)) = true) (gn : n1 = false) : ∀ (i : Nat), i ≤ k → ∀ (L : List Int), L.length = k → (∀ j, j < k → 0 ≤ S.at' L j ∧ S.at' L j < 1000000) → (∀ j, j < i → S.at' L j = 0) → ∀ E, S.valF (S.at' L) i (k - i) = E → S.pw i * E * (S.pw i * E) ≤ (S.val np (fun j => tp (j + ap))) → (S.val np (fun j => tp (j + ap))) < S.pw i * (E + 1) * (S.pw i * (E + 1)) → Comes ((q37 n1 ap np mp tp)) (.h0 ((i : Int) - 1) L) (S.sqrI n1 np (fun j => tp (j + ap))) := by
  intro i
  obtain ⟨-, g1⟩ := okI_G g0
  induction i with
  | zero =>
    intro _ L hl hd _ E hE lo hh
    have e1 : S.pw 0 = 1 := rfl
    rw [e1, Int.one_mul] at lo hh
    have oD := okD_iff.mpr hd
    have eV : S.val k (S.at' L) = E := by rw [← hE]; rfl
    have E0 : 0 ≤ E := eV ▸ val_nn oD
    have c1 : 0 + k ≤ k ∧ k ≤ 1000000 ∧ (S.okD k fun j => S.at' L j) = true := ⟨by omega, by omega, oD⟩
    have hr : S.sqrI n1 np (fun j => tp (j + ap)) = (false, 0, S.grp E) := by
      unfold S.sqrI
      rw [if_pos g0, if_neg (by rw [gn]; decide), sqr_is E0 lo hh]
    rw [hr]
    clear lo hh
    apply Comes.of
    rw [q37]
    simp only [hl, show (S.val k fun j => S.at' L j) = E from eV, decide_eq_true c1, cond_true]
    exact goes_no (by decide) (goes_inr.mpr rfl)
  | succ i ih =>
    intro hik L hl hd hz E hE lo hh
    have hq : S.pw (i + 1) = 1000000 * S.pw i := rfl
    have e0 : ∀ x : Int, S.pw (i + 1) * x = S.pw i * (1000000 * x) := fun x => by rw [hq, Int.mul_assoc, Int.mul_left_comm]
    obtain ⟨c, hc⟩ : ∃ c : Int, c = 999999 := ⟨_, rfl⟩
    have hm := s37i n1 ap np mp tp hp hk g1 (by omega : i < k) E (ih (by omega)) (c - 0).toNat 0 c L (Nat.le_refl _) (by omega) (by omega) (by omega) hl hd (fun j hj => hz j (by omega)) hE (by rw [Int.add_zero, ← e0]; exact lo) (by rw [show 1000000 * E + (c + 1) = 1000000 * (E + 1) by omega, ← e0]; exact hh)
    rw [hc] at hm
    apply Comes.of
    rw [show (((i + 1 : Nat) : Int) - 1) = (i : Int) by omega]
    rw [q37]
    exact goes_ok (decide_eq_true (by omega)) hm
theorem s37 (n1 : Bool) (ap np mp : Nat) (tp : Nat → Int) (hp : ap + np ≤ mp ∧ np ≤ 1000000) : Goes ((q37 n1 ap np mp tp)) ((p37 n1 ap np mp tp)) (S.sqrI n1 np (fun j => tp (j + ap))) := by
  have hp' := hp
  obtain ⟨hp1, hp2⟩ := hp
  have d1 : ap + np ≤ mp ∧ np ≤ 1000000 := hp'
  by_cases g0 : S.okI n1 np (fun j => tp (j + ap)) = true
  · obtain ⟨l1, g1⟩ := okI_G g0
    cases n1
    · obtain ⟨k, hk⟩ : ∃ k, k = (np + 1) / 2 := ⟨_, rfl⟩
      have e1 : Int.tdiv ((np : Int) + 1) 2 = (k : Int) := by
        rw [Int.tdiv_eq_ediv_of_nonneg (by omega)]; omega
      have p2 := pw_split (a := k) (c := k)
      have pp := pw_pos (k := k)
      have up := val_nn (okG_D g1)
      have vl := val_lt (okG_D g1) (show np ≤ k + k by omega)
      have hm := s37o false ap np mp tp hp' (by omega : k ≤ 400) g0 rfl k (Nat.le_refl k) (S.mkl k fun _ => 0) mkl_len (fun j hj => by rw [at_mkl hj]; omega) (fun j hj => at_mkl hj) 0 (by rw [Nat.sub_self]; rfl) (by rw [Int.mul_zero, Int.zero_mul]; exact up) (by rw [Int.zero_add, Int.mul_one, ← p2]; exact vl)
      clear p2 vl up
      have lk : (0 : Int) ≤ (k : Int) ∧ (k : Int) ≤ 400 := by omega
      clear pp
      unfold p37
      with_reducible refine goes_ok (decide_eq_true d1) ?_
      with_reducible refine goes_ok g0 ?_
      with_reducible refine goes_no rfl ?_
      with_reducible refine goes_ok ?_ ?_
      · rw [lim64]; apply decide_eq_true; omega
      with_reducible refine goes_ok ?_ ?_
      · rw [e1, lim64]; apply decide_eq_true; omega
      with_reducible refine goes_ok ?_ ?_
      · refine decide_eq_true ?_
        rw [e1]; omega
      with_reducible refine goes_ok ?_ ?_
      · rw [e1, Int.toNat_natCast, lim64]; apply decide_eq_true; omega
      rw [e1, Int.toNat_natCast]
      exact hm
    · have hr : S.sqrI true np (fun j => tp (j + ap)) = (false, 6, []) := by
        unfold S.sqrI
        rw [if_pos g0, if_pos rfl]
      rw [hr]
      unfold p37
      simp only [g0, decide_eq_true d1, cond_true]
      exact goes_inr.mpr rfl
  · have hr : S.sqrI n1 np (fun j => tp (j + ap)) = (false, 1, []) := by
      unfold S.sqrI
      rw [if_neg g0]
    rw [hr]
    have g0 := Bool.not_eq_true _ ▸ g0
    unfold p37
    simp only [g0, decide_eq_true d1, cond_true, cond_false]
    exact goes_inr.mpr rfl
theorem k37_ok  : k37.ok Tryd.prog := by
  intro x hx
  obtain ⟨⟨n1, ⟨ap, np, mp, tp, _⟩, _⟩, _⟩ := x
  obtain ⟨h1, h2⟩ := a37 n1 ap np mp tp (s37 n1 ap np mp tp (of_dec hx rfl))
  exact ⟨⟨400, (by decide : 1 + 1 + 1 ≤ 400), h1⟩, h2⟩
abbrev St36  := Empty
abbrev Rt36  := Int × List Int
noncomputable def V36 (n1 : Bool) (ap np mp : Nat) (tp : NI) (r : Rt36) : PV := PV.tup [PV.agg [PV.tf false, PV.own (2) (1) (List.length r.2)], PV.int .i64 r.1]
noncomputable def N36 (n1 : Bool) (ap np mp : Nat) (tp : NI) (r : Rt36) : List Blk := [Blk.cols (List.length r.2) [Col.int .i64 fun j => S.at' r.2 j]]
noncomputable def I36 (n1 : Bool) (ap np mp : Nat) (tp : NI) : St36 → Hd := fun s => s.elim
noncomputable def q36 (n1 : Bool) (ap np mp : Nat) (tp : NI) : St36 → Option (St36 ⊕ Rt36) := fun s => s.elim
noncomputable def p36 (n1 : Bool) (ap np mp : Nat) (tp : NI) : Option (St36 ⊕ Rt36) := bif (decide (ap + np ≤ mp ∧ np ≤ 1000000)) then (bif (S.okI n1 np fun j => tp (j + ap)) then (bif (n1) then (some (.inr ((6 : Int), []))) else (bif (decide (ap + np ≤ mp ∧ np ≤ 800 ∧ (S.okG np fun j => tp (j + ap)) = true)) then (bif ((↑(List.length (S.grp (S.sqr (S.val np fun j => tp (j + ap))))) : Int) == 0) then (some (.inr ((0 : Int), []))) else (some (.inr ((0 : Int), S.grp (S.sqr (S.val np fun j => tp (j + ap))))))) else (none))) else (some (.inr ((1 : Int), [])))) else (none)
noncomputable def Te36 (test : TT) (Kst : KS) (Kret : KR) (n1 : Bool) (ap np mp : Nat) (tp : NI) : Prop := test (decide (ap + np ≤ mp ∧ np ≤ 1000000)) (test (S.okI n1 np fun j => tp (j + ap)) (test (n1) (Kret (PV.tup [PV.agg [PV.tf false, PV.nils], PV.int .i64 (6 : Int)]) ([[(0, false, Blk.cols mp [Col.int .i64 tp])]]) (4)) (test (decide (ap + np ≤ mp ∧ np ≤ 800 ∧ (S.okG np fun j => tp (j + ap)) = true)) (test ((↑(List.length (S.grp (S.sqr (S.val np fun j => tp (j + ap))))) : Int) == 0) (Kret (PV.tup [PV.agg [PV.tf false, PV.nils], PV.int .i64 (0 : Int)]) ([[(0, false, Blk.cols mp [Col.int .i64 tp])]]) (7)) (Kret (PV.tup [PV.agg [PV.tf false, PV.own (5) (1) (List.length (S.grp (S.sqr (S.val np fun j => tp (j + ap)))))], PV.int .i64 (0 : Int)]) ([[(0, false, Blk.cols mp [Col.int .i64 tp]), (5, true, Blk.cols (List.length (S.grp (S.sqr (S.val np fun j => tp (j + ap))))) [Col.int .i64 fun j => S.at' (S.grp (S.sqr (S.val np fun j => tp (j + ap)))) j])]]) (7))) (False))) (Kret (PV.tup [PV.agg [PV.tf false, PV.nils], PV.int .i64 (1 : Int)]) ([[(0, false, Blk.cols mp [Col.int .i64 tp])]]) (4))) (False)
theorem te36 (test : TT) (Kst : KS) (Kret : KR) (n1 : Bool) (ap np mp : Nat) (tp : NI) : run test Tryd.env true (xF5 test) true 400 ⟨36, [.cd (mkFn Tryd.f36).body], argT 0 [.agg [.bool n1, .loose ⟨0, 1, ap, 0⟩ np]], [[], [(0, (false, .cols mp [.int .i64 tp]))]], 1⟩ (proj 1 [] Kst Kret) =
  Te36 test Kst Kret n1 ap np mp tp := by kernel_rfl
noncomputable abbrev J36 (n1 : Bool) (ap np mp : Nat) (tp : NI) : Rt36 → Heap := fun r => [newL (1 + 1) ((N36 n1 ap np mp tp) r) ++ [(0, (false, .cols mp [.int .i64 tp]))]]
attribute [local irreducible] Int.subNatNat in
theorem be36 (n1 : Bool) (ap np mp : Nat) (tp : NI) (Kst : KS) (Kret : KR) (x : St36 ⊕ Rt36) (hS : HS 1 400 ((I36 n1 ap np mp tp)) Kst x) (hR : HR 1 400 ((V36 n1 ap np mp tp)) (J36 n1 ap np mp tp) Kret x) (h : p36 n1 ap np mp tp = some x) : Te36 cond Kst Kret n1 ap np mp tp := by
  unfold Te36
  unfold p36 at h
  refine bif_split h (fun c0 h => bif_split h (fun c1 h => bif_split h (fun c2 h => ?_) (fun c2 h => bif_split h (fun c3 h => bif_split h (fun c4 h => ?_) (fun c4 h => ret_at hR _ h (fun n => bif Nat.beq n 2 then 5 else n) rfl rfl rfl (rn_tup ⟨(rn_agg ⟨(rn_tf rfl), (rn_own (use_own rfl) rfl rfl), trivial⟩), (rn_int rfl), trivial⟩) rfl (entl_new (use_own rfl) rfl (Nat.le_of_eq rfl) (rcs_int (fun _ _ => rfl) rcs_nil) (entl_bor (use_lo rfl) rfl rfl entl_nil)))) (fun c3 h => ?_))) (fun c1 h => ?_)) (fun c0 h => ?_)
  all_goals first
    | exact ret_at hR _ h (fun n => bif Nat.beq n 2 then 399 else n) rfl rfl rfl (rn_tup ⟨(rn_agg ⟨(rn_tf rfl), (rn_own_nils rfl), trivial⟩), (rn_int rfl), trivial⟩) rfl (entl_fresh (use_own rfl) (fresh_ok rfl) (entl_bor (use_lo rfl) rfl rfl entl_nil))
    | exact no_some h
theorem a36 (n1 : Bool) (ap np mp : Nat) (tp : NI) {r : Rt36} (h : Goes ((q36 n1 ap np mp tp)) ((p36 n1 ap np mp tp)) r) : CallR Tryd.prog 36 [.agg [.bool n1, .loose ⟨0, 1, ap, 0⟩ np]] [[(0, (false, .cols mp [.int .i64 tp]))]] 1 ((V36 n1 ap np mp tp) r) ((J36 n1 ap np mp tp) r) 400 ∧ ∃ F, Tryd.prog.funcs[36]? = some F ∧ F.body.isSome = true ∧ (F.name == "runtime.NumGoroutine") = false := by
  refine dec_calls (f := 36) (lo := 1) (hi := 400) Tryd.envOk Tryd.mixed xF5_ok ((I36 n1 ap np mp tp)) ((V36 n1 ap np mp tp)) (J36 n1 ap np mp tp) (fn := mkFn Tryd.f36) (ts := []) (n := 400) rfl (by decide) (by simp) (names_of rfl) ?_ ?_ ?_ h
  · intro s; exact s.elim
  · intro Kst Kret x hS hR h
    exact Holds.eq (te36 cond Kst Kret n1 ap np mp tp) (be36 n1 ap np mp tp Kst Kret x hS hR h)
  · intro Kst Kret x hS hR s h; exact s.elim
noncomputable abbrev w36 {α : Type} (g : Bool → Nat → Nat → Nat → (Nat → Int) → α) (x : (Bool × (Nat × Nat × Nat × (Nat → Int) × Unit) × Unit) × Unit) : α := g x.1.1 x.1.2.1.1 x.1.2.1.2.1 x.1.2.1.2.2.1 x.1.2.1.2.2.2.1
noncomputable def k36  : Con := ⟨36, [.agg [.plain (.bool), .list [.int .i64]]], w36 (fun n1 ap np mp tp => decide (ap + np ≤ mp ∧ np ≤ 1000000)), w36 (fun n1 ap np mp tp => (V36 n1 ap np mp tp) (((S.sqrI n1 np (fun j => tp (j + ap))).2.1, (S.sqrI n1 np (fun j => tp (j + ap))).2.2))), w36 (fun n1 ap np mp tp => (N36 n1 ap np mp tp) (((S.sqrI n1 np (fun j => tp (j + ap))).2.1, (S.sqrI n1 np (fun j => tp (j + ap))).2.2))), fun _ _ => .dead⟩
theorem s36 (n1 : Bool) (ap np mp : Nat) (tp : Nat → Int) (hp : ap + np ≤ mp ∧ np ≤ 1000000) : Goes ((q36 n1 ap np mp tp)) ((p36 n1 ap np mp tp)) (((S.sqrI n1 np (fun j => tp (j + ap))).2.1, (S.sqrI n1 np (fun j => tp (j + ap))).2.2)) := by
  obtain ⟨hp1, hp2⟩ := hp
  have d1 : ap + np ≤ mp ∧ np ≤ 1000000 := ⟨hp1, hp2⟩
  unfold S.sqrI
  by_cases g0 : S.okI n1 np (fun j => tp (j + ap)) = true
  · obtain ⟨l1, g1⟩ := okI_G g0
    have d2 : ap + np ≤ mp ∧ np ≤ 800 ∧ S.okG np (fun j => tp (j + ap)) = true := ⟨hp1, by omega, g1⟩
    rw [if_pos g0]
    cases n1
    · rw [if_neg (by decide)]
      unfold p36
      simp only [g0, decide_eq_true d1, decide_eq_true d2, cond_true, cond_false]
      generalize S.grp (S.sqr (S.val np (fun j => tp (j + ap)))) = L
      by_cases h : L.length = 0
      · rw [List.length_eq_zero_iff.mp h]
        exact goes_ok (by decide) (goes_inr.mpr rfl)
      · exact goes_no (by rw [beq_eq_false_iff_ne]; omega) (goes_inr.mpr rfl)
    · rw [if_pos rfl]
      unfold p36
      simp only [g0, decide_eq_true d1, cond_true]
      exact goes_inr.mpr rfl
  · rw [if_neg g0]
    have g0 := Bool.not_eq_true _ ▸ g0
    unfold p36
    simp only [g0, decide_eq_true d1, cond_true, cond_false]
    exact goes_inr.mpr rfl
theorem k36_ok  : k36.ok Tryd.prog := by
  intro x hx
  obtain ⟨⟨n1, ⟨ap, np, mp, tp, _⟩, _⟩, _⟩ := x
  obtain ⟨h1, h2⟩ := a36 n1 ap np mp tp (s36 n1 ap np mp tp (of_dec hx rfl))
  exact ⟨⟨400, (by decide : 1 + 1 + 1 ≤ 400), h1⟩, h2⟩
noncomputable def xV (test : Bool → Prop → Prop → Prop) : Ext := consX test [k65, k65v, k61, k44, k46, k18, k19, k45]
theorem xV_ok  : ExtOk Tryd.prog (xV cond) := consX_ok ⟨k65_ok, k65v_ok, k61_ok, k44_ok, k46_ok, k18_ok, k19_ok, k45_ok, trivial⟩
abbrev St14  := Empty
abbrev Rt14  := Bool × List Int
noncomputable def V14 (v : Int) (r : Rt14) : PV := PV.agg [PV.bool r.1, PV.own (1) (1) (List.length r.2)]
noncomputable def N14 (v : Int) (r : Rt14) : List Blk := [Blk.cols (List.length r.2) [Col.int .i64 fun j => S.at' r.2 j]]
noncomputable def I14 (v : Int) : St14 → Hd := fun s => s.elim
noncomputable def q14 (v : Int) : St14 → Option (St14 ⊕ Rt14) := fun s => s.elim
noncomputable def p14 (v : Int) : Option (St14 ⊕ Rt14) := bif (decide (v < 0)) then (bif (decide ((0 : Int) ≤ IntKind.wrap .u64 (-IntKind.wrap .u64 v) ∧ IntKind.wrap .u64 (-IntKind.wrap .u64 v) ≤ 9223372036854775808)) then (bif ((↑(List.length (S.grp (IntKind.wrap .u64 (-IntKind.wrap .u64 v)))) : Int) == 0) then (some (.inr (false, []))) else (some (.inr (true, S.grp (IntKind.wrap .u64 (-IntKind.wrap .u64 v)))))) else (none)) else (bif (decide ((0 : Int) ≤ IntKind.wrap .u64 v ∧ IntKind.wrap .u64 v ≤ 9223372036854775808)) then (bif ((↑(List.length (S.grp (IntKind.wrap .u64 v))) : Int) == 0) then (some (.inr (false, []))) else (some (.inr (false, S.grp (IntKind.wrap .u64 v))))) else (none))
noncomputable def Te14 (test : TT) (Kst : KS) (Kret : KR) (v : Int) : Prop := test (decide (v < 0)) (test (decide (v < 0)) (test (decide ((0 : Int) ≤ IntKind.wrap .u64 (-IntKind.wrap .u64 v) ∧ IntKind.wrap .u64 (-IntKind.wrap .u64 v) ≤ 9223372036854775808)) (test ((↑(List.length (S.grp (IntKind.wrap .u64 (-IntKind.wrap .u64 v)))) : Int) == 0) (Kret (PV.agg [PV.tf false, PV.nils]) ([[]]) (4)) (Kret (PV.agg [PV.tf true, PV.own (2) (1) (List.length (S.grp (IntKind.wrap .u64 (-IntKind.wrap .u64 v))))]) ([[(2, true, Blk.cols (List.length (S.grp (IntKind.wrap .u64 (-IntKind.wrap .u64 v)))) [Col.int .i64 fun j => S.at' (S.grp (IntKind.wrap .u64 (-IntKind.wrap .u64 v))) j])]]) (4))) (False)) (test (decide ((0 : Int) ≤ IntKind.wrap .u64 (-IntKind.wrap .u64 v) ∧ IntKind.wrap .u64 (-IntKind.wrap .u64 v) ≤ 9223372036854775808)) (test ((↑(List.length (S.grp (IntKind.wrap .u64 (-IntKind.wrap .u64 v)))) : Int) == 0) (Kret (PV.agg [PV.tf false, PV.nils]) ([[]]) (4)) (Kret (PV.agg [PV.tf false, PV.own (2) (1) (List.length (S.grp (IntKind.wrap .u64 (-IntKind.wrap .u64 v))))]) ([[(2, true, Blk.cols (List.length (S.grp (IntKind.wrap .u64 (-IntKind.wrap .u64 v)))) [Col.int .i64 fun j => S.at' (S.grp (IntKind.wrap .u64 (-IntKind.wrap .u64 v))) j])]]) (4))) (False))) (test (decide (v < 0)) (test (decide ((0 : Int) ≤ IntKind.wrap .u64 v ∧ IntKind.wrap .u64 v ≤ 9223372036854775808)) (test ((↑(List.length (S.grp (IntKind.wrap .u64 v))) : Int) == 0) (Kret (PV.agg [PV.tf false, PV.nils]) ([[]]) (4)) (Kret (PV.agg [PV.tf true, PV.own (2) (1) (List.length (S.grp (IntKind.wrap .u64 v)))]) ([[(2, true, Blk.cols (List.length (S.grp (IntKind.wrap .u64 v))) [Col.int .i64 fun j => S.at' (S.grp (IntKind.wrap .u64 v)) j])]]) (4))) (False)) (test (decide ((0 : Int) ≤ IntKind.wrap .u64 v ∧ IntKind.wrap .u64 v ≤ 9223372036854775808)) (test ((↑(List.length (S.grp (IntKind.wrap .u64 v))) : Int) == 0) (Kret (PV.agg [PV.tf false, PV.nils]) ([[]]) (4)) (Kret (PV.agg [PV.tf false, PV.own (2) (1) (List.length (S.grp (IntKind.wrap .u64 v)))]) ([[(2, true, Blk.cols (List.length (S.grp (IntKind.wrap .u64 v))) [Col.int .i64 fun j => S.at' (S.grp (IntKind.wrap .u64 v)) j])]]) (4))) (False)))
theorem te14 (test : TT) (Kst : KS) (Kret : KR) (v : Int) : run test Tryd.env true (xV test) true 400 ⟨14, [.cd (mkFn Tryd.f14).body], argT 0 [.int .i64 v], [[], []], 0⟩ (proj 0 [] Kst Kret) =
  Te14 test Kst Kret v := by kernel_rfl
attribute [local irreducible] Int.subNatNat in
theorem be14 (v : Int) (Kst : KS) (Kret : KR) (x : St14 ⊕ Rt14) (hS : HS 0 400 ((I14 v)) Kst x) (hR : HR 0 400 ((V14 v)) (fun r => [newL (0 + 1) ((N14 v) r) ++ []]) Kret x) (h : p14 v = some x) : Te14 cond Kst Kret v := by
  unfold Te14
  unfold p14 at h
  refine bif_split h (fun c0 h => cond_yes c0 (bif_split h (fun c1 h => bif_split h (fun c2 h => ?_) (fun c2 h => ?_)) (fun c1 h => ?_))) (fun c0 h => cond_no c0 (bif_split h (fun c1 h => bif_split h (fun c2 h => ?_) (fun c2 h => ?_)) (fun c1 h => ?_)))
  all_goals first
    | exact ret_at hR _ h (fun n => bif Nat.beq n 1 then 399 else n) rfl rfl rfl (rn_agg ⟨(rn_bool_tf rfl), (rn_own_nils rfl), trivial⟩) rfl (entl_fresh (use_own rfl) (fresh_ok rfl) entl_nil)
    | exact ret_at hR _ h (fun n => bif Nat.beq n 1 then 2 else n) rfl rfl rfl (rn_agg ⟨(rn_bool_tf rfl), (rn_own (use_own rfl) rfl rfl), trivial⟩) rfl (entl_new (use_own rfl) rfl (Nat.le_of_eq rfl) (rcs_int (fun _ _ => rfl) rcs_nil) entl_nil)
    | exact no_some h
theorem a14 (v : Int) {r : Rt14} (h : Goes ((q14 v)) ((p14 v)) r) : CallR Tryd.prog 14 [.int .i64 v] [[]] 0 ((V14 v) r) ((fun r => [newL (0 + 1) ((N14 v) r) ++ []]) r) 400 ∧ ∃ F, Tryd.prog.funcs[14]? = some F ∧ F.body.isSome = true ∧ (F.name == "runtime.NumGoroutine") = false := by
  refine dec_calls (f := 14) (lo := 0) (hi := 400) Tryd.envOk Tryd.mixed xV_ok ((I14 v)) ((V14 v)) (fun r => [newL (0 + 1) ((N14 v) r) ++ []]) (fn := mkFn Tryd.f14) (ts := []) (n := 400) rfl (by decide) (by simp) (names_of rfl) ?_ ?_ ?_ h
  · intro s; exact s.elim
  · intro Kst Kret x hS hR h
    exact Holds.eq (te14 cond Kst Kret v) (be14 v Kst Kret x hS hR h)
  · intro Kst Kret x hS hR s h; exact s.elim
noncomputable abbrev w14 {α : Type} (g : Int → α) (x : Int × Unit) : α := g x.1
noncomputable def k14  : Con := ⟨14, [.one (.plain (.int .i64))], w14 (fun v => decide (-9223372036854775808 ≤ v ∧ v ≤ 9223372036854775807)), w14 (fun v => (V14 v) ((S.bigI v).1, (S.bigI v).2)), w14 (fun v => (N14 v) ((S.bigI v).1, (S.bigI v).2)), fun _ _ => .dead⟩
theorem s14 (v : Int) (hp : -9223372036854775808 ≤ v ∧ v ≤ 9223372036854775807) : Goes ((q14 v)) ((p14 v)) (((S.bigI v).1, (S.bigI v).2)) := by
  unfold S.bigI
  by_cases h : v < 0
  · have w : IntKind.u64.wrap (-IntKind.u64.wrap v) = -v := by rw [IntKind.wrap_u64, IntKind.wrap_u64]; omega
    have e : ((v.natAbs : Nat) : Int) = -v := by omega
    have l : ¬ (((S.grp (-v)).length : Int) == 0) = true := by
      have := len_pos (v := -v) (by omega)
      rw [beq_iff_eq]; omega
    unfold p14
    simp only [w, e, decide_eq_true h, cond_true, Bool.eq_false_iff.mpr l, cond_false]
    repeat' (first | with_reducible refine goes_if (fun h => ?_) (fun h => ?_) <;> (try simp only [SH] at h) | exact goes_none.mpr (by omega))
    all_goals first | (exfalso; omega) | exact goes_inr.mpr rfl
  · have w : IntKind.u64.wrap v = v := by rw [IntKind.wrap_u64]; omega
    have e : ((v.natAbs : Nat) : Int) = v := by omega
    unfold p14
    simp only [w, e, decide_eq_false h, cond_false]
    have hz := @len_zero v
    by_cases h0 : v = 0
    · subst h0
      simp only [grp_zero, List.length_nil]
      repeat' (first | with_reducible refine goes_if (fun h => ?_) (fun h => ?_) <;> (try simp only [SH] at h) | exact goes_none.mpr (by omega))
      all_goals first | (exfalso; omega) | exact goes_inr.mpr rfl
    · have l : ¬ (((S.grp v).length : Int) == 0) = true := by
        have := len_pos (v := v) (by omega)
        rw [beq_iff_eq]; omega
      simp only [Bool.eq_false_iff.mpr l, cond_false]
      repeat' (first | with_reducible refine goes_if (fun h => ?_) (fun h => ?_) <;> (try simp only [SH] at h) | exact goes_none.mpr (by omega))
      all_goals first | (exfalso; omega) | exact goes_inr.mpr rfl
theorem k14_ok  : k14.ok Tryd.prog := by
  intro x hx
  obtain ⟨v, _⟩ := x
  obtain ⟨h1, h2⟩ := a14 v (s14 v (of_dec hx rfl))
  exact ⟨⟨400, (by decide : 0 + 1 + 1 ≤ 400), h1⟩, h2⟩
theorem okI_congr  {ng : Bool} {n : Nat} {t u : Nat → Int} (h : ∀ j, j < n → t j = u j) : S.okI ng n t = S.okI ng n u := by
  unfold S.okI S.okG
  rw [all_congr (q := fun j => S.digB (u j)) fun j hj => by rw [h j hj]]
  cases n with
  | zero => rfl
  | succ n => rw [h (n + 1 - 1) (by omega)]
section
variable {n1 n2 : Bool} {n m : Nat} {t u : Nat → Int}
theorem samI_self  {L : List Int} {c : Bool} : S.samI c L.length (fun j => S.at' L j) c L.length (fun j => S.at' L j) = true := decide_eq_true ⟨rfl, rfl⟩
end
theorem fit_I  {r : Int} (hr : (r.natAbs : Int) < S.pw 80) : S.fitI r = (decide (r < 0), 0, S.grp (r.natAbs : Int)) := by
  unfold S.fitI
  rw [if_neg (by have := grp_le hr; omega)]
theorem gx  : (Classical.indefiniteDescription (fun (x : Int → List Int) => x = S.grpI) S.grp_ex).1 = S.grp := rfl
noncomputable def xS9 (test : Bool → Prop → Prop → Prop) : Ext := consX test [k12, k14, k36, k37, k22, k26, k31, k20, k16, k18, k19]
theorem xS9_ok  : ExtOk Tryd.prog (xS9 cond) := consX_ok ⟨k12_ok, k14_ok, k36_ok, k37_ok, k22_ok, k26_ok, k31_ok, k20_ok, k16_ok, k18_ok, k19_ok, trivial⟩
theorem sqrI_mk  {n1 : Bool} {n : Nat} {t : Nat → Int} : S.sqrI n1 n (fun j => S.at' (S.mkl n t) j) = S.sqrI n1 n t := by
  unfold S.sqrI
  rw [okI_congr (u := t) fun j hj => at_mkl hj, val_congr (u := t) fun j hj => at_mkl hj]
theorem okI_P  {r : Int} (h0 : 0 ≤ r) (h : r < S.pw 80) : S.okI false (S.grp r).length (fun j => S.at' (S.grp r) j) = true ∧ S.sv false (S.val (S.grp r).length fun j => S.at' (S.grp r) j) = r :=
  ⟨okI_iff.mpr ⟨grp_le h, grp_ok, .inr rfl⟩, val_grpL h0⟩
theorem fit_P  {r : Int} (h0 : 0 ≤ r) (h : r < S.pw 80) : S.fitI r = (false, 0, S.grp r) := by
  rw [fit_I (by omega), decide_eq_false (by omega), show ((r.natAbs : Nat) : Int) = r by omega]
theorem addS_P  {v w : Int} (hv : 0 ≤ v) (hw : 0 ≤ w) (lv : v < S.pw 80) (lw : w < S.pw 80) (l : v + w < S.pw 80) : S.addS false (S.grp v).length (fun j => S.at' (S.grp v) j) false (S.grp w).length (fun j => S.at' (S.grp w) j) = (false, 0, S.grp (v + w)) := by
  unfold S.addS
  rw [if_pos ⟨(okI_P hv lv).1, (okI_P hw lw).1⟩, (okI_P hv lv).2, (okI_P hw lw).2, fit_P (by omega) l]
theorem mulI_P  {v w : Int} (hv : 0 ≤ v) (hw : 0 ≤ w) (lv : v < S.pw 80) (lw : w < S.pw 80) (l : v * w < S.pw 80) : S.mulI false (S.grp v).length (fun j => S.at' (S.grp v) j) false (S.grp w).length (fun j => S.at' (S.grp w) j) = (false, 0, S.grp (v * w)) := by
  unfold S.mulI
  rw [if_pos ⟨(okI_P hv lv).1, (okI_P hw lw).1⟩, (okI_P hv lv).2, (okI_P hw lw).2, fit_P (Int.mul_nonneg hv hw) l]
theorem cmpI_P  {n : Nat} {t : Nat → Int} {v : Int} (hv : 0 ≤ v) (lv : v < S.pw 80) (g : S.okI false n t = true) : S.cmpI false (S.grp v).length (fun j => S.at' (S.grp v) j) false n t = S.cmpS v (S.val n t) := by
  unfold S.cmpI
  rw [if_pos ⟨(okI_P hv lv).1, g⟩, (okI_P hv lv).2]
  rfl
noncomputable abbrev c9_e_0 (n1 : Bool) (ap np : Nat) (tp : NI) := Prod.snd (Prod.snd (S.sqrI n1 (List.length (S.mkl np fun j => tp (j + ap))) fun j => S.at' (S.mkl np fun j => tp (j + ap)) j))
noncomputable abbrev c9_e_1 (n1 : Bool) (ap np : Nat) (tp : NI) := Prod.snd (Prod.snd (S.sqrI n1 (List.length (S.mkl np fun j => tp (j + ap))) fun j => S.at' (S.mkl np fun j => tp (j + ap)) j))
noncomputable abbrev c9_e_2  := (List.length (Prod.snd ((S.bigI (((1 : Int), ()).1)).1, (S.bigI (((1 : Int), ()).1)).2)))
noncomputable abbrev c9_e_3 (n1 : Bool) (ap np : Nat) (tp : NI) := S.mulI false (List.length (c9_e_0 n1 ap np tp)) (fun j => S.at' (c9_e_0 n1 ap np tp) j) false (List.length (c9_e_0 n1 ap np tp)) fun j => S.at' (c9_e_0 n1 ap np tp) j
noncomputable abbrev c9_e_4 (n1 : Bool) (ap np : Nat) (tp : NI) := decide ((0 + List.length (c9_e_0 n1 ap np tp) ≤ List.length (c9_e_0 n1 ap np tp) ∧ List.length (c9_e_0 n1 ap np tp) ≤ 1000000) ∧ 0 + List.length ((S.sqrI n1 np fun j => tp (j + ap)).2.2) ≤ List.length ((S.sqrI n1 np fun j => tp (j + ap)).2.2) ∧ List.length ((S.sqrI n1 np fun j => tp (j + ap)).2.2) ≤ 1000000)
noncomputable abbrev c9_e_5 (n1 : Bool) (ap np : Nat) (tp : NI) := S.samI false (List.length (c9_e_0 n1 ap np tp)) (fun j => S.at' (c9_e_0 n1 ap np tp) j) ((S.sqrI n1 np fun j => tp (j + ap)).1) (List.length ((S.sqrI n1 np fun j => tp (j + ap)).2.2)) fun j => S.at' ((S.sqrI n1 np fun j => tp (j + ap)).2.2) j
noncomputable abbrev c9_e_6 (n1 : Bool) (ap np : Nat) (tp : NI) := Prod.snd (S.sqrI n1 (List.length (S.mkl np fun j => tp (j + ap))) fun j => S.at' (S.mkl np fun j => tp (j + ap)) j)
noncomputable abbrev c9_e_7 (n1 : Bool) (ap np : Nat) (tp : NI) := (decide ((0 + List.length (c9_e_0 n1 ap np tp) ≤ List.length (c9_e_0 n1 ap np tp) ∧ List.length (c9_e_0 n1 ap np tp) ≤ 1000000) ∧ 0 + List.length (Prod.snd ((S.bigI (((1 : Int), ()).1)).1, (S.bigI (((1 : Int), ()).1)).2)) ≤ List.length (Prod.snd ((S.bigI (((1 : Int), ()).1)).1, (S.bigI (((1 : Int), ()).1)).2)) ∧ List.length (Prod.snd ((S.bigI (((1 : Int), ()).1)).1, (S.bigI (((1 : Int), ()).1)).2)) ≤ 1000000))
abbrev St9  := Empty
abbrev Rt9  := Bool
noncomputable def V9 (n1 : Bool) (ap np mp : Nat) (tp : NI) (r : Rt9) : PV := PV.bool r
noncomputable def N9 (n1 : Bool) (ap np mp : Nat) (tp : NI) (r : Rt9) : List Blk := []
noncomputable def I9 (n1 : Bool) (ap np mp : Nat) (tp : NI) : St9 → Hd := fun s => s.elim
noncomputable def q9 (n1 : Bool) (ap np mp : Nat) (tp : NI) : St9 → Option (St9 ⊕ Rt9) := fun s => s.elim
noncomputable def p9 (n1 : Bool) (ap np mp : Nat) (tp : NI) : Option (St9 ⊕ Rt9) := bif (lim .i64 ((0 : Int) + (↑np : Int))) then (bif (decide ((0 : Int) + (↑np : Int) ≤ 40)) then (bif (decide (ap + np ≤ mp ∧ np ≤ 1000000)) then (bif (decide (0 + List.length (S.mkl np fun j => tp (j + ap)) ≤ List.length (S.mkl np fun j => tp (j + ap)) ∧ List.length (S.mkl np fun j => tp (j + ap)) ≤ 1000000)) then (bif (Prod.fst (c9_e_6 n1 ap np tp) != (S.sqrI n1 np fun j => tp (j + ap)).2.1) then (bif (Prod.fst (c9_e_6 n1 ap np tp) == (S.sqrI n1 np fun j => tp (j + ap)).2.1) then (bif (c9_e_4 n1 ap np tp) then (bif (c9_e_5 n1 ap np tp) then (some (.inr (true))) else (some (.inr (false)))) else (none)) else (some (.inr (false)))) else (bif (c9_e_4 n1 ap np tp) then (bif (c9_e_5 n1 ap np tp) then (bif (Prod.fst (c9_e_6 n1 ap np tp) != 0) then (bif (Prod.fst (c9_e_6 n1 ap np tp) == (S.sqrI n1 np fun j => tp (j + ap)).2.1) then (some (.inr (true))) else (some (.inr (false)))) else (bif (c9_e_7 n1 ap np tp) then (bif (decide ((0 + List.length (c9_e_0 n1 ap np tp) ≤ List.length (c9_e_0 n1 ap np tp) ∧ List.length (c9_e_0 n1 ap np tp) ≤ 1000000) ∧ 0 + List.length (c9_e_0 n1 ap np tp) ≤ List.length (c9_e_0 n1 ap np tp) ∧ List.length (c9_e_0 n1 ap np tp) ≤ 1000000)) then (bif (decide ((0 + List.length (Prod.snd (Prod.snd (S.addS false (List.length (c9_e_0 n1 ap np tp)) (fun j => S.at' (c9_e_0 n1 ap np tp) j) false (c9_e_2) fun j => S.at' ((Classical.indefiniteDescription (fun (x : Int → List Int) => x = S.grpI) S.grp_ex).1 (↑(Int.natAbs (((1 : Int), ()).1)) : Int)) j))) ≤ List.length (Prod.snd (Prod.snd (S.addS false (List.length (c9_e_0 n1 ap np tp)) (fun j => S.at' (c9_e_0 n1 ap np tp) j) false (c9_e_2) fun j => S.at' ((Classical.indefiniteDescription (fun (x : Int → List Int) => x = S.grpI) S.grp_ex).1 (↑(Int.natAbs (((1 : Int), ()).1)) : Int)) j))) ∧ List.length (Prod.snd (Prod.snd (S.addS false (List.length (c9_e_0 n1 ap np tp)) (fun j => S.at' (c9_e_0 n1 ap np tp) j) false (c9_e_2) fun j => S.at' ((Classical.indefiniteDescription (fun (x : Int → List Int) => x = S.grpI) S.grp_ex).1 (↑(Int.natAbs (((1 : Int), ()).1)) : Int)) j))) ≤ 1000000) ∧ 0 + List.length (Prod.snd (Prod.snd (S.addS false (List.length (c9_e_0 n1 ap np tp)) (fun j => S.at' (c9_e_0 n1 ap np tp) j) false (c9_e_2) fun j => S.at' ((Classical.indefiniteDescription (fun (x : Int → List Int) => x = S.grpI) S.grp_ex).1 (↑(Int.natAbs (((1 : Int), ()).1)) : Int)) j))) ≤ List.length (Prod.snd (Prod.snd (S.addS false (List.length (c9_e_0 n1 ap np tp)) (fun j => S.at' (c9_e_0 n1 ap np tp) j) false (c9_e_2) fun j => S.at' ((Classical.indefiniteDescription (fun (x : Int → List Int) => x = S.grpI) S.grp_ex).1 (↑(Int.natAbs (((1 : Int), ()).1)) : Int)) j))) ∧ List.length (Prod.snd (Prod.snd (S.addS false (List.length (c9_e_0 n1 ap np tp)) (fun j => S.at' (c9_e_0 n1 ap np tp) j) false (c9_e_2) fun j => S.at' ((Classical.indefiniteDescription (fun (x : Int → List Int) => x = S.grpI) S.grp_ex).1 (↑(Int.natAbs (((1 : Int), ()).1)) : Int)) j))) ≤ 1000000)) then (bif (Prod.fst (Prod.snd (S.addS false (List.length (c9_e_0 n1 ap np tp)) (fun j => S.at' (c9_e_0 n1 ap np tp) j) false (List.length (Prod.snd ((S.bigI (((1 : Int), ()).1)).1, (S.bigI (((1 : Int), ()).1)).2))) fun j => S.at' ((Classical.indefiniteDescription (fun (x : Int → List Int) => x = S.grpI) S.grp_ex).1 (↑(Int.natAbs (((1 : Int), ()).1)) : Int)) j)) == 0) then (bif (Prod.fst (Prod.snd (c9_e_3 n1 ap np tp)) == 0) then (bif (Prod.fst (Prod.snd (S.mulI (Prod.fst (S.addS false (List.length (c9_e_0 n1 ap np tp)) (fun j => S.at' (c9_e_0 n1 ap np tp) j) false (c9_e_2) fun j => S.at' ((Classical.indefiniteDescription (fun (x : Int → List Int) => x = S.grpI) S.grp_ex).1 (↑(Int.natAbs (((1 : Int), ()).1)) : Int)) j)) (List.length (Prod.snd (Prod.snd (S.addS false (List.length (c9_e_0 n1 ap np tp)) (fun j => S.at' (c9_e_0 n1 ap np tp) j) false (c9_e_2) fun j => S.at' ((Classical.indefiniteDescription (fun (x : Int → List Int) => x = S.grpI) S.grp_ex).1 (↑(Int.natAbs (((1 : Int), ()).1)) : Int)) j)))) (fun j => S.at' (Prod.snd (Prod.snd (S.addS false (List.length (c9_e_0 n1 ap np tp)) (fun j => S.at' (c9_e_0 n1 ap np tp) j) false (c9_e_2) fun j => S.at' ((Classical.indefiniteDescription (fun (x : Int → List Int) => x = S.grpI) S.grp_ex).1 (↑(Int.natAbs (((1 : Int), ()).1)) : Int)) j))) j) (Prod.fst (S.addS false (List.length (c9_e_0 n1 ap np tp)) (fun j => S.at' (c9_e_0 n1 ap np tp) j) false (c9_e_2) fun j => S.at' ((Classical.indefiniteDescription (fun (x : Int → List Int) => x = S.grpI) S.grp_ex).1 (↑(Int.natAbs (((1 : Int), ()).1)) : Int)) j)) (List.length (Prod.snd (Prod.snd (S.addS false (List.length (c9_e_0 n1 ap np tp)) (fun j => S.at' (c9_e_0 n1 ap np tp) j) false (c9_e_2) fun j => S.at' ((Classical.indefiniteDescription (fun (x : Int → List Int) => x = S.grpI) S.grp_ex).1 (↑(Int.natAbs (((1 : Int), ()).1)) : Int)) j)))) fun j => S.at' (Prod.snd (Prod.snd (S.addS false (List.length (c9_e_0 n1 ap np tp)) (fun j => S.at' (c9_e_0 n1 ap np tp) j) false (c9_e_2) fun j => S.at' ((Classical.indefiniteDescription (fun (x : Int → List Int) => x = S.grpI) S.grp_ex).1 (↑(Int.natAbs (((1 : Int), ()).1)) : Int)) j))) j)) == 0) then (bif (decide ((0 + List.length (Prod.snd (Prod.snd (c9_e_3 n1 ap np tp))) ≤ List.length (Prod.snd (Prod.snd (c9_e_3 n1 ap np tp))) ∧ List.length (Prod.snd (Prod.snd (c9_e_3 n1 ap np tp))) ≤ 1000000) ∧ ap + np ≤ mp ∧ np ≤ 1000000)) then (bif (decide ((S.cmpI (Prod.fst (c9_e_3 n1 ap np tp)) (List.length (Prod.snd (Prod.snd (c9_e_3 n1 ap np tp)))) (fun j => S.at' (Prod.snd (Prod.snd (c9_e_3 n1 ap np tp))) j) n1 np fun j => tp (j + ap)) ≤ 0)) then (bif (decide ((0 + List.length (Prod.snd (Prod.snd (S.mulI (Prod.fst (S.addS false (List.length (c9_e_1 n1 ap np tp)) (fun j => S.at' (c9_e_1 n1 ap np tp) j) false (c9_e_2) fun j => S.at' ((Classical.indefiniteDescription (fun (x : Int → List Int) => x = S.grpI) S.grp_ex).1 (↑(Int.natAbs (((1 : Int), ()).1)) : Int)) j)) (List.length (Prod.snd (Prod.snd (S.addS false (List.length (c9_e_1 n1 ap np tp)) (fun j => S.at' (c9_e_1 n1 ap np tp) j) false (c9_e_2) fun j => S.at' ((Classical.indefiniteDescription (fun (x : Int → List Int) => x = S.grpI) S.grp_ex).1 (↑(Int.natAbs (((1 : Int), ()).1)) : Int)) j)))) (fun j => S.at' (Prod.snd (Prod.snd (S.addS false (List.length (c9_e_1 n1 ap np tp)) (fun j => S.at' (c9_e_1 n1 ap np tp) j) false (c9_e_2) fun j => S.at' ((Classical.indefiniteDescription (fun (x : Int → List Int) => x = S.grpI) S.grp_ex).1 (↑(Int.natAbs (((1 : Int), ()).1)) : Int)) j))) j) (Prod.fst (S.addS false (List.length (c9_e_1 n1 ap np tp)) (fun j => S.at' (c9_e_1 n1 ap np tp) j) false (c9_e_2) fun j => S.at' ((Classical.indefiniteDescription (fun (x : Int → List Int) => x = S.grpI) S.grp_ex).1 (↑(Int.natAbs (((1 : Int), ()).1)) : Int)) j)) (List.length (Prod.snd (Prod.snd (S.addS false (List.length (c9_e_1 n1 ap np tp)) (fun j => S.at' (c9_e_1 n1 ap np tp) j) false (c9_e_2) fun j => S.at' ((Classical.indefiniteDescription (fun (x : Int → List Int) => x = S.grpI) S.grp_ex).1 (↑(Int.natAbs (((1 : Int), ()).1)) : Int)) j)))) fun j => S.at' (Prod.snd (Prod.snd (S.addS false (List.length (c9_e_1 n1 ap np tp)) (fun j => S.at' (c9_e_1 n1 ap np tp) j) false (c9_e_2) fun j => S.at' ((Classical.indefiniteDescription (fun (x : Int → List Int) => x = S.grpI) S.grp_ex).1 (↑(Int.natAbs (((1 : Int), ()).1)) : Int)) j))) j))) ≤ List.length (Prod.snd (Prod.snd (S.mulI (Prod.fst (S.addS false (List.length (c9_e_0 n1 ap np tp)) (fun j => S.at' (c9_e_1 n1 ap np tp) j) false (c9_e_2) fun j => S.at' ((Classical.indefiniteDescription (fun (x : Int → List Int) => x = S.grpI) S.grp_ex).1 (↑(Int.natAbs (((1 : Int), ()).1)) : Int)) j)) (List.length (Prod.snd (Prod.snd (S.addS false (List.length (c9_e_1 n1 ap np tp)) (fun j => S.at' (c9_e_1 n1 ap np tp) j) false (c9_e_2) fun j => S.at' ((Classical.indefiniteDescription (fun (x : Int → List Int) => x = S.grpI) S.grp_ex).1 (↑(Int.natAbs (((1 : Int), ()).1)) : Int)) j)))) (fun j => S.at' (Prod.snd (Prod.snd (S.addS false (List.length (c9_e_1 n1 ap np tp)) (fun j => S.at' (c9_e_1 n1 ap np tp) j) false (c9_e_2) fun j => S.at' ((Classical.indefiniteDescription (fun (x : Int → List Int) => x = S.grpI) S.grp_ex).1 (↑(Int.natAbs (((1 : Int), ()).1)) : Int)) j))) j) (Prod.fst (S.addS false (List.length (c9_e_0 n1 ap np tp)) (fun j => S.at' (c9_e_1 n1 ap np tp) j) false (c9_e_2) fun j => S.at' ((Classical.indefiniteDescription (fun (x : Int → List Int) => x = S.grpI) S.grp_ex).1 (↑(Int.natAbs (((1 : Int), ()).1)) : Int)) j)) (List.length (Prod.snd (Prod.snd (S.addS false (List.length (c9_e_1 n1 ap np tp)) (fun j => S.at' (c9_e_1 n1 ap np tp) j) false (c9_e_2) fun j => S.at' ((Classical.indefiniteDescription (fun (x : Int → List Int) => x = S.grpI) S.grp_ex).1 (↑(Int.natAbs (((1 : Int), ()).1)) : Int)) j)))) fun j => S.at' (Prod.snd (Prod.snd (S.addS false (List.length (c9_e_1 n1 ap np tp)) (fun j => S.at' (c9_e_1 n1 ap np tp) j) false (c9_e_2) fun j => S.at' ((Classical.indefiniteDescription (fun (x : Int → List Int) => x = S.grpI) S.grp_ex).1 (↑(Int.natAbs (((1 : Int), ()).1)) : Int)) j))) j))) ∧ List.length (Prod.snd (Prod.snd (S.mulI (Prod.fst (S.addS false (List.length (c9_e_0 n1 ap np tp)) (fun j => S.at' (c9_e_1 n1 ap np tp) j) false (c9_e_2) fun j => S.at' ((Classical.indefiniteDescription (fun (x : Int → List Int) => x = S.grpI) S.grp_ex).1 (↑(Int.natAbs (((1 : Int), ()).1)) : Int)) j)) (List.length (Prod.snd (Prod.snd (S.addS false (List.length (c9_e_1 n1 ap np tp)) (fun j => S.at' (c9_e_1 n1 ap np tp) j) false (c9_e_2) fun j => S.at' ((Classical.indefiniteDescription (fun (x : Int → List Int) => x = S.grpI) S.grp_ex).1 (↑(Int.natAbs (((1 : Int), ()).1)) : Int)) j)))) (fun j => S.at' (Prod.snd (Prod.snd (S.addS false (List.length (c9_e_1 n1 ap np tp)) (fun j => S.at' (c9_e_1 n1 ap np tp) j) false (c9_e_2) fun j => S.at' ((Classical.indefiniteDescription (fun (x : Int → List Int) => x = S.grpI) S.grp_ex).1 (↑(Int.natAbs (((1 : Int), ()).1)) : Int)) j))) j) (Prod.fst (S.addS false (List.length (c9_e_0 n1 ap np tp)) (fun j => S.at' (c9_e_1 n1 ap np tp) j) false (c9_e_2) fun j => S.at' ((Classical.indefiniteDescription (fun (x : Int → List Int) => x = S.grpI) S.grp_ex).1 (↑(Int.natAbs (((1 : Int), ()).1)) : Int)) j)) (List.length (Prod.snd (Prod.snd (S.addS false (List.length (c9_e_1 n1 ap np tp)) (fun j => S.at' (c9_e_1 n1 ap np tp) j) false (c9_e_2) fun j => S.at' ((Classical.indefiniteDescription (fun (x : Int → List Int) => x = S.grpI) S.grp_ex).1 (↑(Int.natAbs (((1 : Int), ()).1)) : Int)) j)))) fun j => S.at' (Prod.snd (Prod.snd (S.addS false (List.length (c9_e_1 n1 ap np tp)) (fun j => S.at' (c9_e_1 n1 ap np tp) j) false (c9_e_2) fun j => S.at' ((Classical.indefiniteDescription (fun (x : Int → List Int) => x = S.grpI) S.grp_ex).1 (↑(Int.natAbs (((1 : Int), ()).1)) : Int)) j))) j))) ≤ 1000000) ∧ ap + np ≤ mp ∧ np ≤ 1000000)) then (bif (decide ((S.cmpI (Prod.fst (S.mulI (Prod.fst (S.addS false (List.length (c9_e_0 n1 ap np tp)) (fun j => S.at' (c9_e_0 n1 ap np tp) j) false (c9_e_2) fun j => S.at' ((Classical.indefiniteDescription (fun (x : Int → List Int) => x = S.grpI) S.grp_ex).1 (↑(Int.natAbs (((1 : Int), ()).1)) : Int)) j)) (List.length (Prod.snd (Prod.snd (S.addS false (List.length (c9_e_0 n1 ap np tp)) (fun j => S.at' (c9_e_0 n1 ap np tp) j) false (c9_e_2) fun j => S.at' ((Classical.indefiniteDescription (fun (x : Int → List Int) => x = S.grpI) S.grp_ex).1 (↑(Int.natAbs (((1 : Int), ()).1)) : Int)) j)))) (fun j => S.at' (Prod.snd (Prod.snd (S.addS false (List.length (c9_e_0 n1 ap np tp)) (fun j => S.at' (c9_e_1 n1 ap np tp) j) false (c9_e_2) fun j => S.at' ((Classical.indefiniteDescription (fun (x : Int → List Int) => x = S.grpI) S.grp_ex).1 (↑(Int.natAbs (((1 : Int), ()).1)) : Int)) j))) j) (Prod.fst (S.addS false (List.length (c9_e_0 n1 ap np tp)) (fun j => S.at' (c9_e_0 n1 ap np tp) j) false (c9_e_2) fun j => S.at' ((Classical.indefiniteDescription (fun (x : Int → List Int) => x = S.grpI) S.grp_ex).1 (↑(Int.natAbs (((1 : Int), ()).1)) : Int)) j)) (List.length (Prod.snd (Prod.snd (S.addS false (List.length (c9_e_0 n1 ap np tp)) (fun j => S.at' (c9_e_0 n1 ap np tp) j) false (c9_e_2) fun j => S.at' ((Classical.indefiniteDescription (fun (x : Int → List Int) => x = S.grpI) S.grp_ex).1 (↑(Int.natAbs (((1 : Int), ()).1)) : Int)) j)))) fun j => S.at' (Prod.snd (Prod.snd (S.addS false (List.length (c9_e_0 n1 ap np tp)) (fun j => S.at' (c9_e_0 n1 ap np tp) j) false (c9_e_2) fun j => S.at' ((Classical.indefiniteDescription (fun (x : Int → List Int) => x = S.grpI) S.grp_ex).1 (↑(Int.natAbs (((1 : Int), ()).1)) : Int)) j))) j)) (List.length (Prod.snd (Prod.snd (S.mulI (Prod.fst (S.addS false (List.length (c9_e_0 n1 ap np tp)) (fun j => S.at' (c9_e_0 n1 ap np tp) j) false (c9_e_2) fun j => S.at' ((Classical.indefiniteDescription (fun (x : Int → List Int) => x = S.grpI) S.grp_ex).1 (↑(Int.natAbs (((1 : Int), ()).1)) : Int)) j)) (List.length (Prod.snd (Prod.snd (S.addS false (List.length (c9_e_1 n1 ap np tp)) (fun j => S.at' (c9_e_1 n1 ap np tp) j) false (c9_e_2) fun j => S.at' ((Classical.indefiniteDescription (fun (x : Int → List Int) => x = S.grpI) S.grp_ex).1 (↑(Int.natAbs (((1 : Int), ()).1)) : Int)) j)))) (fun j => S.at' (Prod.snd (Prod.snd (S.addS false (List.length (c9_e_1 n1 ap np tp)) (fun j => S.at' (c9_e_1 n1 ap np tp) j) false (c9_e_2) fun j => S.at' ((Classical.indefiniteDescription (fun (x : Int → List Int) => x = S.grpI) S.grp_ex).1 (↑(Int.natAbs (((1 : Int), ()).1)) : Int)) j))) j) (Prod.fst (S.addS false (List.length (c9_e_0 n1 ap np tp)) (fun j => S.at' (c9_e_0 n1 ap np tp) j) false (c9_e_2) fun j => S.at' ((Classical.indefiniteDescription (fun (x : Int → List Int) => x = S.grpI) S.grp_ex).1 (↑(Int.natAbs (((1 : Int), ()).1)) : Int)) j)) (List.length (Prod.snd (Prod.snd (S.addS false (List.length (c9_e_1 n1 ap np tp)) (fun j => S.at' (c9_e_1 n1 ap np tp) j) false (c9_e_2) fun j => S.at' ((Classical.indefiniteDescription (fun (x : Int → List Int) => x = S.grpI) S.grp_ex).1 (↑(Int.natAbs (((1 : Int), ()).1)) : Int)) j)))) fun j => S.at' (Prod.snd (Prod.snd (S.addS false (List.length (c9_e_1 n1 ap np tp)) (fun j => S.at' (c9_e_1 n1 ap np tp) j) false (c9_e_2) fun j => S.at' ((Classical.indefiniteDescription (fun (x : Int → List Int) => x = S.grpI) S.grp_ex).1 (↑(Int.natAbs (((1 : Int), ()).1)) : Int)) j))) j)))) (fun j => S.at' (Prod.snd (Prod.snd (S.mulI (Prod.fst (S.addS false (List.length (c9_e_0 n1 ap np tp)) (fun j => S.at' (c9_e_1 n1 ap np tp) j) false (c9_e_2) fun j => S.at' ((Classical.indefiniteDescription (fun (x : Int → List Int) => x = S.grpI) S.grp_ex).1 (↑(Int.natAbs (((1 : Int), ()).1)) : Int)) j)) (List.length (Prod.snd (Prod.snd (S.addS false (List.length (c9_e_1 n1 ap np tp)) (fun j => S.at' (c9_e_1 n1 ap np tp) j) false (c9_e_2) fun j => S.at' ((Classical.indefiniteDescription (fun (x : Int → List Int) => x = S.grpI) S.grp_ex).1 (↑(Int.natAbs (((1 : Int), ()).1)) : Int)) j)))) (fun j => S.at' (Prod.snd (Prod.snd (S.addS false (List.length (c9_e_1 n1 ap np tp)) (fun j => S.at' (c9_e_1 n1 ap np tp) j) false (c9_e_2) fun j => S.at' ((Classical.indefiniteDescription (fun (x : Int → List Int) => x = S.grpI) S.grp_ex).1 (↑(Int.natAbs (((1 : Int), ()).1)) : Int)) j))) j) (Prod.fst (S.addS false (List.length (c9_e_0 n1 ap np tp)) (fun j => S.at' (c9_e_1 n1 ap np tp) j) false (c9_e_2) fun j => S.at' ((Classical.indefiniteDescription (fun (x : Int → List Int) => x = S.grpI) S.grp_ex).1 (↑(Int.natAbs (((1 : Int), ()).1)) : Int)) j)) (List.length (Prod.snd (Prod.snd (S.addS false (List.length (c9_e_1 n1 ap np tp)) (fun j => S.at' (c9_e_1 n1 ap np tp) j) false (c9_e_2) fun j => S.at' ((Classical.indefiniteDescription (fun (x : Int → List Int) => x = S.grpI) S.grp_ex).1 (↑(Int.natAbs (((1 : Int), ()).1)) : Int)) j)))) fun j => S.at' (Prod.snd (Prod.snd (S.addS false (List.length (c9_e_1 n1 ap np tp)) (fun j => S.at' (c9_e_1 n1 ap np tp) j) false (c9_e_2) fun j => S.at' ((Classical.indefiniteDescription (fun (x : Int → List Int) => x = S.grpI) S.grp_ex).1 (↑(Int.natAbs (((1 : Int), ()).1)) : Int)) j))) j))) j) n1 np fun j => tp (j + ap)) > 0)) then (some (.inr (true))) else (some (.inr (false)))) else (none)) else (some (.inr (false)))) else (none)) else (some (.inr (false)))) else (some (.inr (false)))) else (some (.inr (false)))) else (none)) else (none)) else (none))) else (bif (Prod.fst (c9_e_6 n1 ap np tp) == (S.sqrI n1 np fun j => tp (j + ap)).2.1) then (some (.inr (false))) else (some (.inr (false))))) else (none))) else (none)) else (none)) else (some (.inr (true)))) else (none)
noncomputable abbrev g9_0 (test : TT) (Kst : KS) (Kret : KR) (n1 : Bool) (ap np mp : Nat) (tp : NI) : Prop := (test (decide (ap + np ≤ mp ∧ np ≤ 1000000)) (test (decide (0 + List.length (S.mkl np fun j => tp (j + ap)) ≤ List.length (S.mkl np fun j => tp (j + ap)) ∧ List.length (S.mkl np fun j => tp (j + ap)) ≤ 1000000)) (test (decide (ap + np ≤ mp ∧ np ≤ 1000000)) (test (Prod.fst (c9_e_6 n1 ap np tp) != (S.sqrI n1 np fun j => tp (j + ap)).2.1) (test (Prod.fst (c9_e_6 n1 ap np tp) == (S.sqrI n1 np fun j => tp (j + ap)).2.1) (test (c9_e_4 n1 ap np tp) (test (c9_e_5 n1 ap np tp) (Kret (PV.tf true) ([[(0, false, Blk.cols mp [Col.int .i64 tp])]]) (13)) (Kret (PV.tf false) ([[(0, false, Blk.cols mp [Col.int .i64 tp])]]) (13))) (False)) (Kret (PV.tf false) ([[(0, false, Blk.cols mp [Col.int .i64 tp])]]) (12))) (test (c9_e_4 n1 ap np tp) (test (c9_e_5 n1 ap np tp) (test (Prod.fst (c9_e_6 n1 ap np tp) != 0) (test (Prod.fst (c9_e_6 n1 ap np tp) == (S.sqrI n1 np fun j => tp (j + ap)).2.1) (test (c9_e_4 n1 ap np tp) (test (c9_e_5 n1 ap np tp) (Kret (PV.tf true) ([[(0, false, Blk.cols mp [Col.int .i64 tp])]]) (14)) (Kret (PV.tf false) ([[(0, false, Blk.cols mp [Col.int .i64 tp])]]) (14))) (False)) (Kret (PV.tf false) ([[(0, false, Blk.cols mp [Col.int .i64 tp])]]) (13))) (test (true) (test (c9_e_7 n1 ap np tp) (test (decide ((0 + List.length (c9_e_0 n1 ap np tp) ≤ List.length (c9_e_0 n1 ap np tp) ∧ List.length (c9_e_0 n1 ap np tp) ≤ 1000000) ∧ 0 + List.length (c9_e_0 n1 ap np tp) ≤ List.length (c9_e_0 n1 ap np tp) ∧ List.length (c9_e_0 n1 ap np tp) ≤ 1000000)) (test (decide ((0 + List.length (Prod.snd (Prod.snd (S.addS false (List.length (c9_e_0 n1 ap np tp)) (fun j => S.at' (c9_e_0 n1 ap np tp) j) false (c9_e_2) fun j => S.at' ((Classical.indefiniteDescription (fun (x : Int → List Int) => x = S.grpI) S.grp_ex).1 (↑(Int.natAbs (((1 : Int), ()).1)) : Int)) j))) ≤ List.length (Prod.snd (Prod.snd (S.addS false (List.length (c9_e_0 n1 ap np tp)) (fun j => S.at' (c9_e_0 n1 ap np tp) j) false (c9_e_2) fun j => S.at' ((Classical.indefiniteDescription (fun (x : Int → List Int) => x = S.grpI) S.grp_ex).1 (↑(Int.natAbs (((1 : Int), ()).1)) : Int)) j))) ∧ List.length (Prod.snd (Prod.snd (S.addS false (List.length (c9_e_0 n1 ap np tp)) (fun j => S.at' (c9_e_0 n1 ap np tp) j) false (c9_e_2) fun j => S.at' ((Classical.indefiniteDescription (fun (x : Int → List Int) => x = S.grpI) S.grp_ex).1 (↑(Int.natAbs (((1 : Int), ()).1)) : Int)) j))) ≤ 1000000) ∧ 0 + List.length (Prod.snd (Prod.snd (S.addS false (List.length (c9_e_0 n1 ap np tp)) (fun j => S.at' (c9_e_0 n1 ap np tp) j) false (c9_e_2) fun j => S.at' ((Classical.indefiniteDescription (fun (x : Int → List Int) => x = S.grpI) S.grp_ex).1 (↑(Int.natAbs (((1 : Int), ()).1)) : Int)) j))) ≤ List.length (Prod.snd (Prod.snd (S.addS false (List.length (c9_e_0 n1 ap np tp)) (fun j => S.at' (c9_e_0 n1 ap np tp) j) false (c9_e_2) fun j => S.at' ((Classical.indefiniteDescription (fun (x : Int → List Int) => x = S.grpI) S.grp_ex).1 (↑(Int.natAbs (((1 : Int), ()).1)) : Int)) j))) ∧ List.length (Prod.snd (Prod.snd (S.addS false (List.length (c9_e_0 n1 ap np tp)) (fun j => S.at' (c9_e_0 n1 ap np tp) j) false (c9_e_2) fun j => S.at' ((Classical.indefiniteDescription (fun (x : Int → List Int) => x = S.grpI) S.grp_ex).1 (↑(Int.natAbs (((1 : Int), ()).1)) : Int)) j))) ≤ 1000000)) (test (Prod.fst (Prod.snd (S.addS false (List.length (c9_e_0 n1 ap np tp)) (fun j => S.at' (c9_e_0 n1 ap np tp) j) false (List.length (Prod.snd ((S.bigI (((1 : Int), ()).1)).1, (S.bigI (((1 : Int), ()).1)).2))) fun j => S.at' ((Classical.indefiniteDescription (fun (x : Int → List Int) => x = S.grpI) S.grp_ex).1 (↑(Int.natAbs (((1 : Int), ()).1)) : Int)) j)) == 0) (test (Prod.fst (Prod.snd (c9_e_3 n1 ap np tp)) == 0) (test (Prod.fst (Prod.snd (S.mulI (Prod.fst (S.addS false (List.length (c9_e_0 n1 ap np tp)) (fun j => S.at' (c9_e_0 n1 ap np tp) j) false (c9_e_2) fun j => S.at' ((Classical.indefiniteDescription (fun (x : Int → List Int) => x = S.grpI) S.grp_ex).1 (↑(Int.natAbs (((1 : Int), ()).1)) : Int)) j)) (List.length (Prod.snd (Prod.snd (S.addS false (List.length (c9_e_0 n1 ap np tp)) (fun j => S.at' (c9_e_0 n1 ap np tp) j) false (c9_e_2) fun j => S.at' ((Classical.indefiniteDescription (fun (x : Int → List Int) => x = S.grpI) S.grp_ex).1 (↑(Int.natAbs (((1 : Int), ()).1)) : Int)) j)))) (fun j => S.at' (Prod.snd (Prod.snd (S.addS false (List.length (c9_e_0 n1 ap np tp)) (fun j => S.at' (c9_e_0 n1 ap np tp) j) false (c9_e_2) fun j => S.at' ((Classical.indefiniteDescription (fun (x : Int → List Int) => x = S.grpI) S.grp_ex).1 (↑(Int.natAbs (((1 : Int), ()).1)) : Int)) j))) j) (Prod.fst (S.addS false (List.length (c9_e_0 n1 ap np tp)) (fun j => S.at' (c9_e_0 n1 ap np tp) j) false (c9_e_2) fun j => S.at' ((Classical.indefiniteDescription (fun (x : Int → List Int) => x = S.grpI) S.grp_ex).1 (↑(Int.natAbs (((1 : Int), ()).1)) : Int)) j)) (List.length (Prod.snd (Prod.snd (S.addS false (List.length (c9_e_0 n1 ap np tp)) (fun j => S.at' (c9_e_0 n1 ap np tp) j) false (c9_e_2) fun j => S.at' ((Classical.indefiniteDescription (fun (x : Int → List Int) => x = S.grpI) S.grp_ex).1 (↑(Int.natAbs (((1 : Int), ()).1)) : Int)) j)))) fun j => S.at' (Prod.snd (Prod.snd (S.addS false (List.length (c9_e_0 n1 ap np tp)) (fun j => S.at' (c9_e_0 n1 ap np tp) j) false (c9_e_2) fun j => S.at' ((Classical.indefiniteDescription (fun (x : Int → List Int) => x = S.grpI) S.grp_ex).1 (↑(Int.natAbs (((1 : Int), ()).1)) : Int)) j))) j)) == 0) (test (decide ((0 + List.length (Prod.snd (Prod.snd (c9_e_3 n1 ap np tp))) ≤ List.length (Prod.snd (Prod.snd (c9_e_3 n1 ap np tp))) ∧ List.length (Prod.snd (Prod.snd (c9_e_3 n1 ap np tp))) ≤ 1000000) ∧ ap + np ≤ mp ∧ np ≤ 1000000)) (test (decide ((S.cmpI (Prod.fst (c9_e_3 n1 ap np tp)) (List.length (Prod.snd (Prod.snd (c9_e_3 n1 ap np tp)))) (fun j => S.at' (Prod.snd (Prod.snd (c9_e_3 n1 ap np tp))) j) n1 np fun j => tp (j + ap)) ≤ 0)) (test (decide ((0 + List.length (Prod.snd (Prod.snd (S.mulI (Prod.fst (S.addS false (List.length (c9_e_1 n1 ap np tp)) (fun j => S.at' (c9_e_1 n1 ap np tp) j) false (c9_e_2) fun j => S.at' ((Classical.indefiniteDescription (fun (x : Int → List Int) => x = S.grpI) S.grp_ex).1 (↑(Int.natAbs (((1 : Int), ()).1)) : Int)) j)) (List.length (Prod.snd (Prod.snd (S.addS false (List.length (c9_e_1 n1 ap np tp)) (fun j => S.at' (c9_e_1 n1 ap np tp) j) false (c9_e_2) fun j => S.at' ((Classical.indefiniteDescription (fun (x : Int → List Int) => x = S.grpI) S.grp_ex).1 (↑(Int.natAbs (((1 : Int), ()).1)) : Int)) j)))) (fun j => S.at' (Prod.snd (Prod.snd (S.addS false (List.length (c9_e_1 n1 ap np tp)) (fun j => S.at' (c9_e_1 n1 ap np tp) j) false (c9_e_2) fun j => S.at' ((Classical.indefiniteDescription (fun (x : Int → List Int) => x = S.grpI) S.grp_ex).1 (↑(Int.natAbs (((1 : Int), ()).1)) : Int)) j))) j) (Prod.fst (S.addS false (List.length (c9_e_1 n1 ap np tp)) (fun j => S.at' (c9_e_1 n1 ap np tp) j) false (c9_e_2) fun j => S.at' ((Classical.indefiniteDescription (fun (x : Int → List Int) => x = S.grpI) S.grp_ex).1 (↑(Int.natAbs (((1 : Int), ()).1)) : Int)) j)) (List.length (Prod.snd (Prod.snd (S.addS false (List.length (c9_e_1 n1 ap np tp)) (fun j => S.at' (c9_e_1 n1 ap np tp) j) false (c9_e_2) fun j => S.at' ((Classical.indefiniteDescription (fun (x : Int → List Int) => x = S.grpI) S.grp_ex).1 (↑(Int.natAbs (((1 : Int), ()).1)) : Int)) j)))) fun j => S.at' (Prod.snd (Prod.snd (S.addS false (List.length (c9_e_1 n1 ap np tp)) (fun j => S.at' (c9_e_1 n1 ap np tp) j) false (c9_e_2) fun j => S.at' ((Classical.indefiniteDescription (fun (x : Int → List Int) => x = S.grpI) S.grp_ex).1 (↑(Int.natAbs (((1 : Int), ()).1)) : Int)) j))) j))) ≤ List.length (Prod.snd (Prod.snd (S.mulI (Prod.fst (S.addS false (List.length (c9_e_0 n1 ap np tp)) (fun j => S.at' (c9_e_1 n1 ap np tp) j) false (c9_e_2) fun j => S.at' ((Classical.indefiniteDescription (fun (x : Int → List Int) => x = S.grpI) S.grp_ex).1 (↑(Int.natAbs (((1 : Int), ()).1)) : Int)) j)) (List.length (Prod.snd (Prod.snd (S.addS false (List.length (c9_e_1 n1 ap np tp)) (fun j => S.at' (c9_e_1 n1 ap np tp) j) false (c9_e_2) fun j => S.at' ((Classical.indefiniteDescription (fun (x : Int → List Int) => x = S.grpI) S.grp_ex).1 (↑(Int.natAbs (((1 : Int), ()).1)) : Int)) j)))) (fun j => S.at' (Prod.snd (Prod.snd (S.addS false (List.length (c9_e_1 n1 ap np tp)) (fun j => S.at' (c9_e_1 n1 ap np tp) j) false (c9_e_2) fun j => S.at' ((Classical.indefiniteDescription (fun (x : Int → List Int) => x = S.grpI) S.grp_ex).1 (↑(Int.natAbs (((1 : Int), ()).1)) : Int)) j))) j) (Prod.fst (S.addS false (List.length (c9_e_0 n1 ap np tp)) (fun j => S.at' (c9_e_1 n1 ap np tp) j) false (c9_e_2) fun j => S.at' ((Classical.indefiniteDescription (fun (x : Int → List Int) => x = S.grpI) S.grp_ex).1 (↑(Int.natAbs (((1 : Int), ()).1)) : Int)) j)) (List.length (Prod.snd (Prod.snd (S.addS false (List.length (c9_e_1 n1 ap np tp)) (fun j => S.at' (c9_e_1 n1 ap np tp) j) false (c9_e_2) fun j => S.at' ((Classical.indefiniteDescription (fun (x : Int → List Int) => x = S.grpI) S.grp_ex).1 (↑(Int.natAbs (((1 : Int), ()).1)) : Int)) j)))) fun j => S.at' (Prod.snd (Prod.snd (S.addS false (List.length (c9_e_1 n1 ap np tp)) (fun j => S.at' (c9_e_1 n1 ap np tp) j) false (c9_e_2) fun j => S.at' ((Classical.indefiniteDescription (fun (x : Int → List Int) => x = S.grpI) S.grp_ex).1 (↑(Int.natAbs (((1 : Int), ()).1)) : Int)) j))) j))) ∧ List.length (Prod.snd (Prod.snd (S.mulI (Prod.fst (S.addS false (List.length (c9_e_0 n1 ap np tp)) (fun j => S.at' (c9_e_1 n1 ap np tp) j) false (c9_e_2) fun j => S.at' ((Classical.indefiniteDescription (fun (x : Int → List Int) => x = S.grpI) S.grp_ex).1 (↑(Int.natAbs (((1 : Int), ()).1)) : Int)) j)) (List.length (Prod.snd (Prod.snd (S.addS false (List.length (c9_e_1 n1 ap np tp)) (fun j => S.at' (c9_e_1 n1 ap np tp) j) false (c9_e_2) fun j => S.at' ((Classical.indefiniteDescription (fun (x : Int → List Int) => x = S.grpI) S.grp_ex).1 (↑(Int.natAbs (((1 : Int), ()).1)) : Int)) j)))) (fun j => S.at' (Prod.snd (Prod.snd (S.addS false (List.length (c9_e_1 n1 ap np tp)) (fun j => S.at' (c9_e_1 n1 ap np tp) j) false (c9_e_2) fun j => S.at' ((Classical.indefiniteDescription (fun (x : Int → List Int) => x = S.grpI) S.grp_ex).1 (↑(Int.natAbs (((1 : Int), ()).1)) : Int)) j))) j) (Prod.fst (S.addS false (List.length (c9_e_0 n1 ap np tp)) (fun j => S.at' (c9_e_1 n1 ap np tp) j) false (c9_e_2) fun j => S.at' ((Classical.indefiniteDescription (fun (x : Int → List Int) => x = S.grpI) S.grp_ex).1 (↑(Int.natAbs (((1 : Int), ()).1)) : Int)) j)) (List.length (Prod.snd (Prod.snd (S.addS false (List.length (c9_e_1 n1 ap np tp)) (fun j => S.at' (c9_e_1 n1 ap np tp) j) false (c9_e_2) fun j => S.at' ((Classical.indefiniteDescription (fun (x : Int → List Int) => x = S.grpI) S.grp_ex).1 (↑(Int.natAbs (((1 : Int), ()).1)) : Int)) j)))) fun j => S.at' (Prod.snd (Prod.snd (S.addS false (List.length (c9_e_1 n1 ap np tp)) (fun j => S.at' (c9_e_1 n1 ap np tp) j) false (c9_e_2) fun j => S.at' ((Classical.indefiniteDescription (fun (x : Int → List Int) => x = S.grpI) S.grp_ex).1 (↑(Int.natAbs (((1 : Int), ()).1)) : Int)) j))) j))) ≤ 1000000) ∧ ap + np ≤ mp ∧ np ≤ 1000000)) (test (decide ((S.cmpI (Prod.fst (S.mulI (Prod.fst (S.addS false (List.length (c9_e_0 n1 ap np tp)) (fun j => S.at' (c9_e_0 n1 ap np tp) j) false (c9_e_2) fun j => S.at' ((Classical.indefiniteDescription (fun (x : Int → List Int) => x = S.grpI) S.grp_ex).1 (↑(Int.natAbs (((1 : Int), ()).1)) : Int)) j)) (List.length (Prod.snd (Prod.snd (S.addS false (List.length (c9_e_0 n1 ap np tp)) (fun j => S.at' (c9_e_0 n1 ap np tp) j) false (c9_e_2) fun j => S.at' ((Classical.indefiniteDescription (fun (x : Int → List Int) => x = S.grpI) S.grp_ex).1 (↑(Int.natAbs (((1 : Int), ()).1)) : Int)) j)))) (fun j => S.at' (Prod.snd (Prod.snd (S.addS false (List.length (c9_e_0 n1 ap np tp)) (fun j => S.at' (c9_e_1 n1 ap np tp) j) false (c9_e_2) fun j => S.at' ((Classical.indefiniteDescription (fun (x : Int → List Int) => x = S.grpI) S.grp_ex).1 (↑(Int.natAbs (((1 : Int), ()).1)) : Int)) j))) j) (Prod.fst (S.addS false (List.length (c9_e_0 n1 ap np tp)) (fun j => S.at' (c9_e_0 n1 ap np tp) j) false (c9_e_2) fun j => S.at' ((Classical.indefiniteDescription (fun (x : Int → List Int) => x = S.grpI) S.grp_ex).1 (↑(Int.natAbs (((1 : Int), ()).1)) : Int)) j)) (List.length (Prod.snd (Prod.snd (S.addS false (List.length (c9_e_0 n1 ap np tp)) (fun j => S.at' (c9_e_0 n1 ap np tp) j) false (c9_e_2) fun j => S.at' ((Classical.indefiniteDescription (fun (x : Int → List Int) => x = S.grpI) S.grp_ex).1 (↑(Int.natAbs (((1 : Int), ()).1)) : Int)) j)))) fun j => S.at' (Prod.snd (Prod.snd (S.addS false (List.length (c9_e_0 n1 ap np tp)) (fun j => S.at' (c9_e_0 n1 ap np tp) j) false (c9_e_2) fun j => S.at' ((Classical.indefiniteDescription (fun (x : Int → List Int) => x = S.grpI) S.grp_ex).1 (↑(Int.natAbs (((1 : Int), ()).1)) : Int)) j))) j)) (List.length (Prod.snd (Prod.snd (S.mulI (Prod.fst (S.addS false (List.length (c9_e_0 n1 ap np tp)) (fun j => S.at' (c9_e_0 n1 ap np tp) j) false (c9_e_2) fun j => S.at' ((Classical.indefiniteDescription (fun (x : Int → List Int) => x = S.grpI) S.grp_ex).1 (↑(Int.natAbs (((1 : Int), ()).1)) : Int)) j)) (List.length (Prod.snd (Prod.snd (S.addS false (List.length (c9_e_1 n1 ap np tp)) (fun j => S.at' (c9_e_1 n1 ap np tp) j) false (c9_e_2) fun j => S.at' ((Classical.indefiniteDescription (fun (x : Int → List Int) => x = S.grpI) S.grp_ex).1 (↑(Int.natAbs (((1 : Int), ()).1)) : Int)) j)))) (fun j => S.at' (Prod.snd (Prod.snd (S.addS false (List.length (c9_e_1 n1 ap np tp)) (fun j => S.at' (c9_e_1 n1 ap np tp) j) false (c9_e_2) fun j => S.at' ((Classical.indefiniteDescription (fun (x : Int → List Int) => x = S.grpI) S.grp_ex).1 (↑(Int.natAbs (((1 : Int), ()).1)) : Int)) j))) j) (Prod.fst (S.addS false (List.length (c9_e_0 n1 ap np tp)) (fun j => S.at' (c9_e_0 n1 ap np tp) j) false (c9_e_2) fun j => S.at' ((Classical.indefiniteDescription (fun (x : Int → List Int) => x = S.grpI) S.grp_ex).1 (↑(Int.natAbs (((1 : Int), ()).1)) : Int)) j)) (List.length (Prod.snd (Prod.snd (S.addS false (List.length (c9_e_1 n1 ap np tp)) (fun j => S.at' (c9_e_1 n1 ap np tp) j) false (c9_e_2) fun j => S.at' ((Classical.indefiniteDescription (fun (x : Int → List Int) => x = S.grpI) S.grp_ex).1 (↑(Int.natAbs (((1 : Int), ()).1)) : Int)) j)))) fun j => S.at' (Prod.snd (Prod.snd (S.addS false (List.length (c9_e_1 n1 ap np tp)) (fun j => S.at' (c9_e_1 n1 ap np tp) j) false (c9_e_2) fun j => S.at' ((Classical.indefiniteDescription (fun (x : Int → List Int) => x = S.grpI) S.grp_ex).1 (↑(Int.natAbs (((1 : Int), ()).1)) : Int)) j))) j)))) (fun j => S.at' (Prod.snd (Prod.snd (S.mulI (Prod.fst (S.addS false (List.length (c9_e_0 n1 ap np tp)) (fun j => S.at' (c9_e_1 n1 ap np tp) j) false (c9_e_2) fun j => S.at' ((Classical.indefiniteDescription (fun (x : Int → List Int) => x = S.grpI) S.grp_ex).1 (↑(Int.natAbs (((1 : Int), ()).1)) : Int)) j)) (List.length (Prod.snd (Prod.snd (S.addS false (List.length (c9_e_1 n1 ap np tp)) (fun j => S.at' (c9_e_1 n1 ap np tp) j) false (c9_e_2) fun j => S.at' ((Classical.indefiniteDescription (fun (x : Int → List Int) => x = S.grpI) S.grp_ex).1 (↑(Int.natAbs (((1 : Int), ()).1)) : Int)) j)))) (fun j => S.at' (Prod.snd (Prod.snd (S.addS false (List.length (c9_e_1 n1 ap np tp)) (fun j => S.at' (c9_e_1 n1 ap np tp) j) false (c9_e_2) fun j => S.at' ((Classical.indefiniteDescription (fun (x : Int → List Int) => x = S.grpI) S.grp_ex).1 (↑(Int.natAbs (((1 : Int), ()).1)) : Int)) j))) j) (Prod.fst (S.addS false (List.length (c9_e_0 n1 ap np tp)) (fun j => S.at' (c9_e_1 n1 ap np tp) j) false (c9_e_2) fun j => S.at' ((Classical.indefiniteDescription (fun (x : Int → List Int) => x = S.grpI) S.grp_ex).1 (↑(Int.natAbs (((1 : Int), ()).1)) : Int)) j)) (List.length (Prod.snd (Prod.snd (S.addS false (List.length (c9_e_1 n1 ap np tp)) (fun j => S.at' (c9_e_1 n1 ap np tp) j) false (c9_e_2) fun j => S.at' ((Classical.indefiniteDescription (fun (x : Int → List Int) => x = S.grpI) S.grp_ex).1 (↑(Int.natAbs (((1 : Int), ()).1)) : Int)) j)))) fun j => S.at' (Prod.snd (Prod.snd (S.addS false (List.length (c9_e_1 n1 ap np tp)) (fun j => S.at' (c9_e_1 n1 ap np tp) j) false (c9_e_2) fun j => S.at' ((Classical.indefiniteDescription (fun (x : Int → List Int) => x = S.grpI) S.grp_ex).1 (↑(Int.natAbs (((1 : Int), ()).1)) : Int)) j))) j))) j) n1 np fun j => tp (j + ap)) > 0)) (Kret (PV.tf true) ([[(0, false, Blk.cols mp [Col.int .i64 tp])]]) (26)) (Kret (PV.tf false) ([[(0, false, Blk.cols mp [Col.int .i64 tp])]]) (26))) (False)) (Kret (PV.tf false) ([[(0, false, Blk.cols mp [Col.int .i64 tp])]]) (25))) (False)) (Kret (PV.tf false) ([[(0, false, Blk.cols mp [Col.int .i64 tp])]]) (24))) (Kret (PV.tf false) ([[(0, false, Blk.cols mp [Col.int .i64 tp])]]) (24))) (Kret (PV.tf false) ([[(0, false, Blk.cols mp [Col.int .i64 tp])]]) (24))) (False)) (False)) (False)) (False))) (test (Prod.fst (c9_e_6 n1 ap np tp) == (S.sqrI n1 np fun j => tp (j + ap)).2.1) (test (c9_e_4 n1 ap np tp) (test (c9_e_5 n1 ap np tp) (Kret (PV.tf true) ([[(0, false, Blk.cols mp [Col.int .i64 tp])]]) (14)) (Kret (PV.tf false) ([[(0, false, Blk.cols mp [Col.int .i64 tp])]]) (14))) (False)) (Kret (PV.tf false) ([[(0, false, Blk.cols mp [Col.int .i64 tp])]]) (13)))) (False))) (False)) (False)) (False))
noncomputable def Te9 (test : TT) (Kst : KS) (Kret : KR) (n1 : Bool) (ap np mp : Nat) (tp : NI) : Prop := test (true) (test (true) (test (true) (test (true) (test (lim .i64 ((0 : Int) + (↑np : Int))) (test (true) (test (false) (test (false) (False) (False)) (test (decide ((0 : Int) + (↑np : Int) ≤ 40)) (g9_0 test Kst Kret n1 ap np mp tp) (test (true) (test (true) (Kret (PV.tf true) ([[(0, false, Blk.cols mp [Col.int .i64 tp])]]) (5)) (Kret (PV.tf false) ([[(0, false, Blk.cols mp [Col.int .i64 tp])]]) (5))) (False)))) (False)) (False)) (False)) (test (true) (g9_0 test Kst Kret n1 ap np mp tp) (test (true) (test (true) (Kret (PV.tf true) ([[(0, false, Blk.cols mp [Col.int .i64 tp])]]) (5)) (Kret (PV.tf false) ([[(0, false, Blk.cols mp [Col.int .i64 tp])]]) (5))) (False)))) (test (true) (test (true) (Kret (PV.tf true) ([[(0, false, Blk.cols mp [Col.int .i64 tp])]]) (4)) (Kret (PV.tf false) ([[(0, false, Blk.cols mp [Col.int .i64 tp])]]) (4))) (False))) (False)
theorem te9 (test : TT) (Kst : KS) (Kret : KR) (n1 : Bool) (ap np mp : Nat) (tp : NI) : run test Tryd.env true (xS9 test) true 400 ⟨9, [.cd (mkFn Tryd.f9).body], argT 0 [.agg [.bool n1, .loose ⟨0, 1, ap, 0⟩ np]], [[], [(0, (false, .cols mp [.int .i64 tp]))]], 1⟩ (proj 1 [] Kst Kret) =
  Te9 test Kst Kret n1 ap np mp tp := by kernel_rfl
noncomputable abbrev J9 (n1 : Bool) (ap np mp : Nat) (tp : NI) : Rt9 → Heap := fun r => [newL (1 + 1) ((N9 n1 ap np mp tp) r) ++ [(0, (false, .cols mp [.int .i64 tp]))]]
attribute [local irreducible] Int.subNatNat in
theorem be9 (n1 : Bool) (ap np mp : Nat) (tp : NI) (Kst : KS) (Kret : KR) (x : St9 ⊕ Rt9) (hS : HS 1 400 ((I9 n1 ap np mp tp)) Kst x) (hR : HR 1 400 ((V9 n1 ap np mp tp)) (J9 n1 ap np mp tp) Kret x) (h : p9 n1 ap np mp tp = some x) : Te9 cond Kst Kret n1 ap np mp tp := by
  unfold Te9
  unfold p9 at h
  exact cond_yes rfl (cond_yes rfl (cond_yes rfl (cond_yes rfl (bif_split h (fun c0 h => cond_yes rfl (cond_no rfl (bif_split h (fun c1 h => bif_split h (fun c2 h => bif_split h (fun c3 h => cond_yes c2 (bif_split h (fun c4 h => bif_split h (fun c5 h => bif_split h (fun c6 h => bif_split h (fun c7 h => ret_at hR _ h (fun n => n) rfl rfl rfl (rn_bool_tf rfl) rfl (entl_bor (use_lo rfl) rfl rfl entl_nil)) (fun c7 h => ret_at hR _ h (fun n => n) rfl rfl rfl (rn_bool_tf rfl) rfl (entl_bor (use_lo rfl) rfl rfl entl_nil))) (fun c6 h => no_some h)) (fun c5 h => ret_at hR _ h (fun n => n) rfl rfl rfl (rn_bool_tf rfl) rfl (entl_bor (use_lo rfl) rfl rfl entl_nil))) (fun c4 h => bif_split h (fun c5 h => bif_split h (fun c6 h => bif_split h (fun c7 h => bif_split h (fun c8 h => cond_yes c5 (cond_yes c6 (ret_at hR _ h (fun n => n) rfl rfl rfl (rn_bool_tf rfl) rfl (entl_bor (use_lo rfl) rfl rfl entl_nil)))) (fun c8 h => ret_at hR _ h (fun n => n) rfl rfl rfl (rn_bool_tf rfl) rfl (entl_bor (use_lo rfl) rfl rfl entl_nil))) (fun c7 h => cond_yes rfl (bif_split h (fun c8 h => bif_split h (fun c9 h => bif_split h (fun c10 h => bif_split h (fun c11 h => bif_split h (fun c12 h => bif_split h (fun c13 h => bif_split h (fun c14 h => bif_split h (fun c15 h => bif_split h (fun c16 h => bif_split h (fun c17 h => ret_at hR _ h (fun n => n) rfl rfl rfl (rn_bool_tf rfl) rfl (entl_bor (use_lo rfl) rfl rfl entl_nil)) (fun c17 h => ret_at hR _ h (fun n => n) rfl rfl rfl (rn_bool_tf rfl) rfl (entl_bor (use_lo rfl) rfl rfl entl_nil))) (fun c16 h => no_some h)) (fun c15 h => ret_at hR _ h (fun n => n) rfl rfl rfl (rn_bool_tf rfl) rfl (entl_bor (use_lo rfl) rfl rfl entl_nil))) (fun c14 h => no_some h)) (fun c13 h => ret_at hR _ h (fun n => n) rfl rfl rfl (rn_bool_tf rfl) rfl (entl_bor (use_lo rfl) rfl rfl entl_nil))) (fun c12 h => ret_at hR _ h (fun n => n) rfl rfl rfl (rn_bool_tf rfl) rfl (entl_bor (use_lo rfl) rfl rfl entl_nil))) (fun c11 h => ret_at hR _ h (fun n => n) rfl rfl rfl (rn_bool_tf rfl) rfl (entl_bor (use_lo rfl) rfl rfl entl_nil))) (fun c10 h => no_some h)) (fun c9 h => no_some h)) (fun c8 h => no_some h)))) (fun c6 h => bif_split h (fun c7 h => cond_yes c5 (cond_no c6 (ret_at hR _ h (fun n => n) rfl rfl rfl (rn_bool_tf rfl) rfl (entl_bor (use_lo rfl) rfl rfl entl_nil)))) (fun c7 h => ret_at hR _ h (fun n => n) rfl rfl rfl (rn_bool_tf rfl) rfl (entl_bor (use_lo rfl) rfl rfl entl_nil)))) (fun c5 h => no_some h)))) (fun c3 h => no_some h)) (fun c2 h => no_some h)) (fun c1 h => cond_yes rfl (cond_yes rfl (ret_at hR _ h (fun n => n) rfl rfl rfl (rn_bool_tf rfl) rfl (entl_bor (use_lo rfl) rfl rfl entl_nil))))))) (fun c0 h => no_some h)))))
theorem a9 (n1 : Bool) (ap np mp : Nat) (tp : NI) {r : Rt9} (h : Goes ((q9 n1 ap np mp tp)) ((p9 n1 ap np mp tp)) r) : CallR Tryd.prog 9 [.agg [.bool n1, .loose ⟨0, 1, ap, 0⟩ np]] [[(0, (false, .cols mp [.int .i64 tp]))]] 1 ((V9 n1 ap np mp tp) r) ((J9 n1 ap np mp tp) r) 400 ∧ ∃ F, Tryd.prog.funcs[9]? = some F ∧ F.body.isSome = true ∧ (F.name == "runtime.NumGoroutine") = false := by
  refine dec_calls (f := 9) (lo := 1) (hi := 400) Tryd.envOk Tryd.mixed xS9_ok ((I9 n1 ap np mp tp)) ((V9 n1 ap np mp tp)) (J9 n1 ap np mp tp) (fn := mkFn Tryd.f9) (ts := []) (n := 400) rfl (by decide) (by simp) (names_of rfl) ?_ ?_ ?_ h
  · intro s; exact s.elim
  · intro Kst Kret x hS hR h
    exact Holds.eq (te9 cond Kst Kret n1 ap np mp tp) (be9 n1 ap np mp tp Kst Kret x hS hR h)
  · intro Kst Kret x hS hR s h; exact s.elim
noncomputable abbrev w9 {α : Type} (g : Bool → Nat → Nat → Nat → (Nat → Int) → α) (x : (Bool × (Nat × Nat × Nat × (Nat → Int) × Unit) × Unit) × Unit) : α := g x.1.1 x.1.2.1.1 x.1.2.1.2.1 x.1.2.1.2.2.1 x.1.2.1.2.2.2.1
noncomputable def k9  : Con := ⟨9, [.agg [.plain (.bool), .list [.int .i64]]], w9 (fun n1 ap np mp tp => decide (ap + np ≤ mp ∧ np ≤ reachBytes)), w9 (fun n1 ap np mp tp => (V9 n1 ap np mp tp) (true)), w9 (fun n1 ap np mp tp => (N9 n1 ap np mp tp) (true)), fun _ _ => .dead⟩
theorem s9 (n1 : Bool) (ap np mp : Nat) (tp : Nat → Int) (hp : ap + np ≤ mp ∧ np ≤ reachBytes) : Goes ((q9 n1 ap np mp tp)) ((p9 n1 ap np mp tp)) (true) := by
  obtain ⟨hp1, hp2⟩ := hp
  unfold reachBytes at hp2
  by_cases h0 : (0 : Int) + np ≤ 40
  rotate_left
  · unfold p9
    repeat' (first | with_reducible refine goes_if (fun h => ?_) (fun h => ?_) <;> (try simp only [SH] at h) | exact goes_none.mpr (by omega))
    all_goals first | (exfalso; omega) | exact goes_inr.mpr rfl
  have err : ∀ e : Int, e ≠ 0 → S.sqrI n1 np (fun j => tp (j + ap)) = (false, e, []) → Goes (q9 n1 ap np mp tp) (p9 n1 ap np mp tp) true := by
    intro e he hr
    unfold p9
    simp only [-eq_self, c9_e_0, c9_e_1, c9_e_2, c9_e_3, c9_e_4, c9_e_5, c9_e_6, c9_e_7, mkl_len, sqrI_mk, hr]
    repeat' first
      | with_reducible exact goes_inr.mpr rfl
      | (refine goes_ok ?_ ?_; focus (first | with_reducible exact beq_self_eq_true _ | (simp only [Bool.and_eq_true, decide_eq_true_eq, and_self, eq_self]; done) | with_reducible exact decide_eq_true trivial | with_reducible exact decide_eq_true rfl | (simp only [eq_self, decide_true, Bool.and_self, Bool.and_true, Bool.true_and]; done) | (apply decide_eq_true; omega) | (rw [lim64]; apply decide_eq_true; omega) | (apply decide_eq_true; simp only [mkl_len, mkl_zero, List.length_nil, true_and, and_true, and_self, Nat.zero_add, Nat.add_zero, Nat.le_refl]; done) | (apply decide_eq_true; simp only [mkl_len, mkl_zero, List.length_nil, true_and, and_true, and_self, Nat.zero_add, Nat.add_zero, Nat.le_refl]; omega) | decide | exact samI_self | exact bne_iff_ne.mpr he | exact decide_eq_true ⟨⟨by decide, by decide⟩, by decide, by decide⟩ | exact decide_eq_true ⟨hp1, by omega⟩ | exact decide_eq_true ⟨by omega, by omega⟩))
      | (refine goes_no ?_ ?_; focus (first | with_reducible exact bne_self_eq_false _ | (apply decide_eq_false; omega) | decide | exact bne_self_eq_false _))
  by_cases g : S.okI n1 np (fun j => tp (j + ap)) = true
  · cases n1
    · obtain ⟨l1, g1⟩ := okI_G g
      have v0 := val_nn (okG_D g1)
      have vl := val_lt (okG_D g1) (show np ≤ 40 by omega)
      obtain ⟨r0, r1, r2⟩ := sqr_of v0
      have hr : S.sqrI false np (fun j => tp (j + ap)) = (false, 0, S.grp (S.sqr (S.val np (fun j => tp (j + ap))))) := by
        unfold S.sqrI
        rw [if_pos g, if_neg (by decide)]
      have hv : S.val np (fun j => tp (j + ap)) = (S.val np (fun j => tp (j + ap))) := rfl
      generalize hR : S.sqr (S.val np (fun j => tp (j + ap))) = r at *
      have p40 : S.pw 40 = S.pw 20 * S.pw 20 := pw_split (a := 20) (c := 20)
      have rl : r < S.pw 20 := by
        refine Int.not_le.mp fun h => ?_
        have := Int.mul_le_mul h h (Int.le_of_lt pw_pos) r0
        omega
      have m1 := (mul_lt (a := 20) (b := 20) ⟨r0, rl⟩ ⟨r0, rl⟩)
      have q20 : S.pw 21 = 1000000 * S.pw 20 := rfl
      have pp := pw_pos (k := 20)
      have s1 : 0 ≤ r + 1 ∧ r + 1 < S.pw 21 := by omega
      have m2 := (mul_lt (a := 21) (b := 21) s1 s1)
      have u1 := pw_mono (k := 20) (m := 80) (by decide)
      have u2 := pw_mono (k := 21) (m := 80) (by decide)
      have u3 := pw_mono (k := 20 + 20) (m := 80) (by decide)
      have u4 := pw_mono (k := 21 + 21) (m := 80) (by decide)
      have u5 : (1 : Int) < S.pw 80 := by omega
      have eA := addS_P (v := r) (w := 1) r0 (by decide) (by omega) u5 (by omega)
      have eM := mulI_P (v := r) (w := r) r0 r0 (by omega) (by omega) (by omega)
      have eN := mulI_P (v := r + 1) (w := r + 1) (by omega) (by omega) (by omega) (by omega) (by omega)
      have cM := cmpI_P (v := r * r) m1.1 (by omega) g
      have cN := cmpI_P (v := (r + 1) * (r + 1)) m2.1 (by omega) g
      have k1 := grp_le (v := r) (n := 80) (by omega)
      have k2 := grp_le (v := r + 1) (n := 80) (by omega)
      have k3 := grp_le (v := r * r) (n := 80) (by omega)
      have k4 := grp_le (v := (r + 1) * (r + 1)) (n := 80) (by omega)
      have k5 := grp_le (v := 1) (n := 80) u5
      have z1 : decide (S.cmpS (r * r) (S.val np (fun j => tp (j + ap))) ≤ 0) = true := decide_eq_true (by
        unfold S.cmpS
        rw [if_neg (by omega : ¬ r * r > (S.val np (fun j => tp (j + ap))))]
        split <;> decide)
      have z2 : decide (S.cmpS ((r + 1) * (r + 1)) (S.val np (fun j => tp (j + ap))) > 0) = true := decide_eq_true (by
        unfold S.cmpS
        rw [if_neg (by omega), if_pos (by omega)]
        decide)
      have on : (((1 : Int).natAbs : Nat) : Int) = 1 := rfl
      have on2 : ((1 : Nat) : Int) = 1 := rfl
      clear m1 m2 s1 p40 q20 u1 u2 u3 u4 u5 pp rl r1 r2 r0 vl
      unfold p9
      simp only [-eq_self, c9_e_0, c9_e_1, c9_e_2, c9_e_3, c9_e_4, c9_e_5, c9_e_6, c9_e_7, mkl_len, sqrI_mk, hr, gx, S.bigI, on, on2, eA, eM, eN, cM, cN]
      repeat' first
        | with_reducible exact goes_inr.mpr rfl
        | (refine goes_ok ?_ ?_; focus (first | with_reducible exact beq_self_eq_true _ | (simp only [Bool.and_eq_true, decide_eq_true_eq, and_self, eq_self]; done) | with_reducible exact decide_eq_true trivial | with_reducible exact decide_eq_true rfl | (simp only [eq_self, decide_true, Bool.and_self, Bool.and_true, Bool.true_and]; done) | (apply decide_eq_true; omega) | (rw [lim64]; apply decide_eq_true; omega) | (apply decide_eq_true; simp only [mkl_len, mkl_zero, List.length_nil, true_and, and_true, and_self, Nat.zero_add, Nat.add_zero, Nat.le_refl]; done) | (apply decide_eq_true; simp only [mkl_len, mkl_zero, List.length_nil, true_and, and_true, and_self, Nat.zero_add, Nat.add_zero, Nat.le_refl]; omega) | decide | exact samI_self | exact z1 | exact z2 | exact decide_eq_true ⟨⟨by omega, by omega⟩, by omega, by omega⟩ | exact decide_eq_true ⟨hp1, by omega⟩ | exact decide_eq_true ⟨by omega, by omega⟩))
        | (refine goes_no ?_ ?_; focus (first | with_reducible exact bne_self_eq_false _ | (apply decide_eq_false; omega) | decide | exact bne_self_eq_false _))
    · exact err 6 (by decide) (by unfold S.sqrI; rw [if_pos g, if_pos rfl])
  · exact err 1 (by decide) (by unfold S.sqrI; rw [if_neg g])
theorem k9_ok  : k9.ok Tryd.prog := by
  intro x hx
  obtain ⟨⟨n1, ⟨ap, np, mp, tp, _⟩, _⟩, _⟩ := x
  obtain ⟨h1, h2⟩ := a9 n1 ap np mp tp (s9 n1 ap np mp tp (of_dec hx rfl))
  exact ⟨⟨400, (by decide : 1 + 1 + 0 ≤ 400), h1⟩, h2⟩
theorem pre9  {x : SsI k9.ss} (hx : ssFits k9.ss x) (hz : ssSmall reachBytes k9.ss x) : k9.pre (ssj k9.ss x) = true := by
  obtain ⟨⟨b0, ⟨n, t, u'⟩, u1⟩, u''⟩ := x
  obtain ⟨⟨-, hn, -⟩, -⟩ := hz
  exact decide_eq_true ⟨Nat.le_of_eq (Nat.zero_add _), hn⟩
end Go.Ev
