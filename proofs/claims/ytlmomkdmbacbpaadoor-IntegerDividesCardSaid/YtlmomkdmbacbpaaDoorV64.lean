/-
  The parts that the statement needs, 4 of 4.
-/
import Derived.Test.YtlmomkdmbacbpaaDoorV63
namespace Go.Ev
open Go.Proofs
set_option linter.unusedVariables false
set_option linter.unusedSimpArgs false
set_option maxRecDepth 100000
noncomputable abbrev w30 {α : Type} (g : Bool → Nat → Nat → Nat → (Nat → Int) → Bool → Nat → Nat → Nat → (Nat → Int) → α) (x : (Bool × (Nat × Nat × Nat × (Nat → Int) × Unit) × Unit) × (Bool × (Nat × Nat × Nat × (Nat → Int) × Unit) × Unit) × Unit) : α := g x.1.1 x.1.2.1.1 x.1.2.1.2.1 x.1.2.1.2.2.1 x.1.2.1.2.2.2.1 x.2.1.1 x.2.1.2.1.1 x.2.1.2.1.2.1 x.2.1.2.1.2.2.1 x.2.1.2.1.2.2.2.1
noncomputable def k30  : Con := ⟨30, [.agg [.plain (.bool), .list [.int .i64]], .agg [.plain (.bool), .list [.int .i64]]], w30 (fun n1 ap np mp tp n2 aq nq mq tq => decide ((ap + np ≤ mp ∧ np ≤ 1000000) ∧ aq + nq ≤ mq ∧ nq ≤ 1000000)), w30 (fun n1 ap np mp tp n2 aq nq mq tq => (V30 n1 ap np mp tp n2 aq nq mq tq) ((S.divI n1 np (fun j => tp (j + ap)) n2 nq (fun j => tq (j + aq))).1, false, (S.divI n1 np (fun j => tp (j + ap)) n2 nq (fun j => tq (j + aq))).2.1, (S.divI n1 np (fun j => tp (j + ap)) n2 nq (fun j => tq (j + aq))).2.2.1, (S.divI n1 np (fun j => tp (j + ap)) n2 nq (fun j => tq (j + aq))).2.2.2)), w30 (fun n1 ap np mp tp n2 aq nq mq tq => (N30 n1 ap np mp tp n2 aq nq mq tq) ((S.divI n1 np (fun j => tp (j + ap)) n2 nq (fun j => tq (j + aq))).1, false, (S.divI n1 np (fun j => tp (j + ap)) n2 nq (fun j => tq (j + aq))).2.1, (S.divI n1 np (fun j => tp (j + ap)) n2 nq (fun j => tq (j + aq))).2.2.1, (S.divI n1 np (fun j => tp (j + ap)) n2 nq (fun j => tq (j + aq))).2.2.2)), fun _ _ => .dead⟩
theorem s30 (n1 : Bool) (ap np mp : Nat) (tp : Nat → Int) (n2 : Bool) (aq nq mq : Nat) (tq : Nat → Int) (hp : (ap + np ≤ mp ∧ np ≤ 1000000) ∧ aq + nq ≤ mq ∧ nq ≤ 1000000) : Goes ((q30 n1 ap np mp tp n2 aq nq mq tq)) ((p30 n1 ap np mp tp n2 aq nq mq tq)) (((S.divI n1 np (fun j => tp (j + ap)) n2 nq (fun j => tq (j + aq))).1, false, (S.divI n1 np (fun j => tp (j + ap)) n2 nq (fun j => tq (j + aq))).2.1, (S.divI n1 np (fun j => tp (j + ap)) n2 nq (fun j => tq (j + aq))).2.2.1, (S.divI n1 np (fun j => tp (j + ap)) n2 nq (fun j => tq (j + aq))).2.2.2)) := by
  obtain ⟨⟨hp1, hp2⟩, hp3, hp4⟩ := hp
  have d1 : ap + np ≤ mp ∧ np ≤ 1000000 := ⟨hp1, hp2⟩
  have d2 : aq + nq ≤ mq ∧ nq ≤ 1000000 := ⟨hp3, hp4⟩
  unfold S.divI
  by_cases g1 : S.okI n1 np (fun j => tp (j + ap)) = true
  · obtain ⟨l1, k1⟩ := okI_G g1
    by_cases g2 : S.okI n2 nq (fun j => tq (j + aq)) = true
    · obtain ⟨l2, k2⟩ := okI_G g2
      rw [if_pos ⟨g1, g2⟩]
      by_cases h0 : nq = 0
      · rw [if_pos h0]
        unfold p30
        simp only [g1, g2, decide_eq_true d1, decide_eq_true d2, cond_true]
        exact goes_ok (by rw [h0]; rfl) (goes_inr.mpr rfl)
      · rw [if_neg h0]
        have up := val_nn (okG_D k1)
        have vp := val_pos k2 (by omega)
        have ul := val_lt (okG_D k1) (Nat.le_refl np)
        have vl := val_lt (okG_D k2) (Nat.le_refl nq)
        rw [divV_sv up vp]
        have hq : (ap + np ≤ mp ∧ aq + nq ≤ mq) ∧ (np ≤ 900 ∧ nq ≤ 900) ∧ S.okG np (fun j => tp (j + ap)) = true ∧ S.okG nq (fun j => tq (j + aq)) = true ∧ 0 < nq := ⟨⟨hp1, hp3⟩, ⟨by omega, by omega⟩, k1, k2, by omega⟩
        have e0 : ((nq : Int) == 0) = false := by rw [beq_eq_false_iff_ne]; omega
        have m0 := Int.emod_nonneg (S.val np (fun j => tp (j + ap))) (show (S.val nq (fun j => tq (j + aq))) ≠ 0 by omega)
        have m1 := Int.emod_lt_of_pos (S.val np (fun j => tp (j + ap))) vp
        have q0 := Int.ediv_nonneg up (show 0 ≤ (S.val nq (fun j => tq (j + aq))) by omega)
        have q1 := Int.ediv_le_self (S.val nq (fun j => tq (j + aq))) up
        have hw := pw_mono (k := np) (m := 80) l1
        obtain ⟨Q, hQ⟩ : ∃ Q, (S.val np (fun j => tp (j + ap))) / (S.val nq (fun j => tq (j + aq))) = Q := ⟨_, rfl⟩
        obtain ⟨R, hR⟩ : ∃ R, (S.val np (fun j => tp (j + ap))) % (S.val nq (fun j => tq (j + aq))) = R := ⟨_, rfl⟩
        rw [hQ] at q0 q1
        rw [hR] at m0 m1
        have lq := grp_le (v := Q) (n := 80) (by omega)
        have lq1 := grp_le (v := Q + 1) (n := 81) (by have : S.pw 81 = 1000000 * S.pw 80 := rfl; have := pw_pos (k := 80); omega)
        have lr := grp_le (v := R) (n := nq) (by omega)
        have lr1 := grp_le (v := (S.val nq (fun j => tq (j + aq))) - R) (n := nq + 1) (by have : S.pw (nq + 1) = 1000000 * S.pw nq := rfl; omega)
        have vQ := val_grpL q0
        have vR := val_grpL m0
        have vQ1 := val_grpL (v := Q + 1) (by omega)
        have vR1 := val_grpL (v := (S.val nq (fun j => tq (j + aq))) - R) (by omega)
        have a1 : (0 + (S.grp Q).length ≤ (S.grp Q).length ∧ 1 ≤ 1) ∧ ((S.grp Q).length ≤ 1000 ∧ 1 ≤ 1000) ∧ (S.okG (S.grp Q).length fun j => S.at' (S.grp Q) j) = true ∧ true = true := ⟨⟨by omega, by omega⟩, ⟨by omega, by omega⟩, grp_ok, rfl⟩
        have a2 : (aq + nq ≤ mq ∧ 0 + (S.grp R).length ≤ (S.grp R).length) ∧ (nq ≤ 1000 ∧ (S.grp R).length ≤ 1000) ∧ S.okG nq (fun j => tq (j + aq)) = true ∧ (S.okG (S.grp R).length fun j => S.at' (S.grp R) j) = true ∧ R ≤ (S.val nq (fun j => tq (j + aq))) := ⟨⟨hp3, by omega⟩, ⟨by omega, by omega⟩, k2, grp_ok, by omega⟩
        have b1 : 0 + (S.grp Q).length ≤ (S.grp Q).length ∧ (S.grp Q).length ≤ 1000000 ∧ (S.okD (S.grp Q).length fun j => S.at' (S.grp Q) j) = true := ⟨by omega, by omega, okG_D grp_ok⟩
        have b2 : 0 + (S.grp R).length ≤ (S.grp R).length ∧ (S.grp R).length ≤ 1000000 ∧ (S.okD (S.grp R).length fun j => S.at' (S.grp R) j) = true := ⟨by omega, by omega, okG_D grp_ok⟩
        have b3 : 0 + (S.grp (Q + 1)).length ≤ (S.grp (Q + 1)).length ∧ (S.grp (Q + 1)).length ≤ 1000000 ∧ (S.okD (S.grp (Q + 1)).length fun j => S.at' (S.grp (Q + 1)) j) = true := ⟨by omega, by omega, okG_D grp_ok⟩
        have b4 : 0 + (S.grp ((S.val nq (fun j => tq (j + aq))) - R)).length ≤ (S.grp ((S.val nq (fun j => tq (j + aq))) - R)).length ∧ (S.grp ((S.val nq (fun j => tq (j + aq))) - R)).length ≤ 1000000 ∧ (S.okD (S.grp ((S.val nq (fun j => tq (j + aq))) - R)).length fun j => S.at' (S.grp ((S.val nq (fun j => tq (j + aq))) - R)) j) = true := ⟨by omega, by omega, okG_D grp_ok⟩
        unfold p30
        simp only [-eq_self, g1, g2, decide_eq_true d1, decide_eq_true d2, cond_true, cond_false, e0, decide_eq_true hq, c30_e_0, c30_e_1, c30_e_2, c30_e_3, c30_e_4, c30_e_5, c30_e_6, c30_e_7, c30_e_8, c30_e_9, c30_e_10, c30_e_11, c30_e_12, c30_e_13, c30_e_14, c30_e_15, c30_e_16, c30_e_17, c30_e_18, c30_e_19, c30_e_20, c30_e_21, c30_e_22, c30_e_23, S.grpP, hQ, hR, vQ, vR, decide_eq_true a1, decide_eq_true a2, vQ1, vR1, decide_eq_true b1, decide_eq_true b2, decide_eq_true b3, decide_eq_true b4]
        have hR0 : ((S.grp R).length : Int) > 0 ↔ R > 0 := by
          have := @len_zero R
          omega
        have key : ∀ (c : Bool) (q r : Int), 0 ≤ q → (S.dq n1 (S.val np (fun j => tp (j + ap))) (S.val nq (fun j => tq (j + aq))) = q) → S.dr n1 (S.val np (fun j => tp (j + ap))) (S.val nq (fun j => tq (j + aq))) = r → (n1 != n2) = c → ((if (S.grp (S.dq n1 (S.val np (fun j => tp (j + ap))) (S.val nq (fun j => tq (j + aq))))).length > 80 then ((false, 3, [], []) : Bool × Int × List Int × List Int) else (S.sgB (n1 != n2) (S.dq n1 (S.val np (fun j => tp (j + ap))) (S.val nq (fun j => tq (j + aq)))), 0, S.grp (S.dr n1 (S.val np (fun j => tp (j + ap))) (S.val nq (fun j => tq (j + aq)))), S.grp (S.dq n1 (S.val np (fun j => tp (j + ap))) (S.val nq (fun j => tq (j + aq))))))) = if (S.grp q).length > 80 then (false, 3, [], []) else (S.sgB c q, 0, S.grp r, S.grp q) := fun c q r h0 h1 h2 h3 => by rw [h1, h2, h3]
        clear hq a1 a2 b1 b2 b3 b4 vQ vR vQ1 vR1 up vp ul vl k1 k2 g1 g2 hw
        cases n1
        · have e1 : S.dq false (S.val np (fun j => tp (j + ap))) (S.val nq (fun j => tq (j + aq))) = Q ∧ S.dr false (S.val np (fun j => tp (j + ap))) (S.val nq (fun j => tq (j + aq))) = R := by
            unfold S.dq S.dr
            simp only [Bool.false_eq_true, false_and, if_false]
            exact ⟨hQ, hR⟩
          cases n2 <;>
          (rw [key _ (Q) (R) (by omega) e1.1 e1.2 rfl]
           simp only [cond_true, cond_false]
           repeat' first
             | with_reducible refine goes_if (fun h => ?_) (fun h => ?_) <;> (try simp only [SH] at h)
           all_goals first
             | (exfalso; omega)
             | (rw [if_pos (by omega)]; exact goes_inr.mpr rfl)
             | (rw [if_neg (by omega)]
                refine goes_inr.mpr ?_
                first
                  | rfl
                  | exact congrArg G0 (finA (q := Q) (r := R) (by omega) (by assumption) (by assumption)).symm
                  | exact congrArg G0 (finB (q := Q) (r := R) (by omega) (by assumption)).symm
                  | exact congrArg G0 (finC (q := Q) (r := R) (by assumption) (by assumption)).symm
                  | exact congrArg G0 (finD (q := Q) (r := R) (by assumption)).symm))
        · by_cases hr : R > 0
          · have e1 : S.dq true (S.val np (fun j => tp (j + ap))) (S.val nq (fun j => tq (j + aq))) = Q + 1 ∧ S.dr true (S.val np (fun j => tp (j + ap))) (S.val nq (fun j => tq (j + aq))) = (S.val nq (fun j => tq (j + aq))) - R := by
              unfold S.dq S.dr
              rw [hR, if_pos ⟨rfl, hr⟩, if_pos ⟨rfl, hr⟩]
              exact ⟨by rw [hQ], rfl⟩
            cases n2 <;>
            (rw [key _ (Q + 1) ((S.val nq (fun j => tq (j + aq))) - R) (by omega) e1.1 e1.2 rfl]
             simp only [cond_true, cond_false, decide_eq_true (hR0.mpr hr)]
             repeat' first
               | with_reducible refine goes_if (fun h => ?_) (fun h => ?_) <;> (try simp only [SH] at h)
             all_goals first
               | (exfalso; omega)
               | (rw [if_pos (by omega)]; exact goes_inr.mpr rfl)
               | (rw [if_neg (by omega)]
                  refine goes_inr.mpr ?_
                  first
                    | rfl
                    | exact congrArg G0 (finA (q := Q + 1) (r := (S.val nq (fun j => tq (j + aq))) - R) (by omega) (by assumption) (by assumption)).symm
                    | exact congrArg G0 (finB (q := Q + 1) (r := (S.val nq (fun j => tq (j + aq))) - R) (by omega) (by assumption)).symm
                    | exact congrArg G0 (finC (q := Q + 1) (r := (S.val nq (fun j => tq (j + aq))) - R) (by assumption) (by assumption)).symm
                    | exact congrArg G0 (finD (q := Q + 1) (r := (S.val nq (fun j => tq (j + aq))) - R) (by assumption)).symm))
          · have e1 : S.dq true (S.val np (fun j => tp (j + ap))) (S.val nq (fun j => tq (j + aq))) = Q ∧ S.dr true (S.val np (fun j => tp (j + ap))) (S.val nq (fun j => tq (j + aq))) = R := by
              unfold S.dq S.dr
              rw [hR, if_neg (fun h => hr h.2), if_neg (fun h => hr h.2)]
              exact ⟨hQ, rfl⟩
            cases n2 <;>
            (rw [key _ (Q) (R) (by omega) e1.1 e1.2 rfl]
             simp only [cond_true, cond_false, decide_eq_false (fun h => hr (hR0.mp h))]
             repeat' first
               | with_reducible refine goes_if (fun h => ?_) (fun h => ?_) <;> (try simp only [SH] at h)
             all_goals first
               | (exfalso; omega)
               | (rw [if_pos (by omega)]; exact goes_inr.mpr rfl)
               | (rw [if_neg (by omega)]
                  refine goes_inr.mpr ?_
                  first
                    | rfl
                    | exact congrArg G0 (finA (q := Q) (r := R) (by omega) (by assumption) (by assumption)).symm
                    | exact congrArg G0 (finB (q := Q) (r := R) (by omega) (by assumption)).symm
                    | exact congrArg G0 (finC (q := Q) (r := R) (by assumption) (by assumption)).symm
                    | exact congrArg G0 (finD (q := Q) (r := R) (by assumption)).symm))
    · rw [if_neg (fun h => g2 h.2)]
      have g2 := Bool.not_eq_true _ ▸ g2
      unfold p30
      simp only [cond_true, cond_false, g1, g2, decide_eq_true d1, decide_eq_true d2]
      exact goes_inr.mpr rfl
  · rw [if_neg (fun h => g1 h.1)]
    have g1 := Bool.not_eq_true _ ▸ g1
    unfold p30
    simp only [cond_true, cond_false, g1, decide_eq_true d1]
    exact goes_inr.mpr rfl
theorem k30_ok  : k30.ok Tryd.prog := by
  intro x hx
  obtain ⟨⟨n1, ⟨ap, np, mp, tp, _⟩, _⟩, ⟨n2, ⟨aq, nq, mq, tq, _⟩, _⟩, _⟩ := x
  obtain ⟨h1, h2⟩ := a30 n1 ap np mp tp n2 aq nq mq tq (s30 n1 ap np mp tp n2 aq nq mq tq (of_dec hx rfl))
  exact ⟨⟨400, (by decide : 2 + 1 + 2 ≤ 400), h1⟩, h2⟩
theorem cmpS_sv  {n1 n2 : Bool} {V W : Int} (hV : 0 ≤ V) (hW : 0 ≤ W) (h1 : 0 < V ∨ n1 = false) (h2 : 0 < W ∨ n2 = false) : S.cmpS (S.sv n1 V) (S.sv n2 W) = bif n1 then (bif n2 then S.cmpS W V else -1) else (bif n2 then 1 else S.cmpS V W) := by
  unfold S.cmpS S.sv
  cases n1 <;> cases n2 <;> simp only [cond_true, cond_false, Bool.true_eq_false, or_false] at * <;> (repeat' split) <;> omega
abbrev St31  := Empty
abbrev Rt31  := Int
noncomputable def V31 (n1 : Bool) (ap np mp : Nat) (tp : NI) (n2 : Bool) (aq nq mq : Nat) (tq : NI) (r : Rt31) : PV := PV.int .i64 r
noncomputable def N31 (n1 : Bool) (ap np mp : Nat) (tp : NI) (n2 : Bool) (aq nq mq : Nat) (tq : NI) (r : Rt31) : List Blk := []
noncomputable def I31 (n1 : Bool) (ap np mp : Nat) (tp : NI) (n2 : Bool) (aq nq mq : Nat) (tq : NI) : St31 → Hd := fun s => s.elim
noncomputable def q31 (n1 : Bool) (ap np mp : Nat) (tp : NI) (n2 : Bool) (aq nq mq : Nat) (tq : NI) : St31 → Option (St31 ⊕ Rt31) := fun s => s.elim
noncomputable def p31 (n1 : Bool) (ap np mp : Nat) (tp : NI) (n2 : Bool) (aq nq mq : Nat) (tq : NI) : Option (St31 ⊕ Rt31) := bif (decide (ap + np ≤ mp ∧ np ≤ 1000000)) then (bif (S.okI n1 np fun j => tp (j + ap)) then (bif (decide (aq + nq ≤ mq ∧ nq ≤ 1000000)) then (bif (S.okI n2 nq fun j => tq (j + aq)) then (bif (n1) then (bif (n2) then (bif (decide (aq + nq ≤ mq ∧ nq ≤ 1000000 ∧ ap + np ≤ mp ∧ np ≤ 1000000 ∧ (S.okG nq fun j => tq (j + aq)) = true ∧ (S.okG np fun j => tp (j + ap)) = true)) then (some (.inr (S.cmpS (S.val nq fun j => tq (j + aq)) (S.val np fun j => tp (j + ap))))) else (none)) else (some (.inr ((-1 : Int))))) else (bif (n2) then (some (.inr ((1 : Int)))) else (bif (decide (ap + np ≤ mp ∧ np ≤ 1000000 ∧ aq + nq ≤ mq ∧ nq ≤ 1000000 ∧ (S.okG np fun j => tp (j + ap)) = true ∧ (S.okG nq fun j => tq (j + aq)) = true)) then (some (.inr (S.cmpS (S.val np fun j => tp (j + ap)) (S.val nq fun j => tq (j + aq))))) else (none)))) else (some (.inr ((0 : Int))))) else (none)) else (some (.inr ((0 : Int))))) else (none)
noncomputable def Te31 (test : TT) (Kst : KS) (Kret : KR) (n1 : Bool) (ap np mp : Nat) (tp : NI) (n2 : Bool) (aq nq mq : Nat) (tq : NI) : Prop := test (decide (ap + np ≤ mp ∧ np ≤ 1000000)) (test (S.okI n1 np fun j => tp (j + ap)) (test (decide (aq + nq ≤ mq ∧ nq ≤ 1000000)) (test (S.okI n2 nq fun j => tq (j + aq)) (test (n1) (test (n2) (test (n1) (test (n1) (test (decide (aq + nq ≤ mq ∧ nq ≤ 1000000 ∧ ap + np ≤ mp ∧ np ≤ 1000000 ∧ (S.okG nq fun j => tq (j + aq)) = true ∧ (S.okG np fun j => tp (j + ap)) = true)) (Kret (PV.int .i64 (S.cmpS (S.val nq fun j => tq (j + aq)) (S.val np fun j => tp (j + ap)))) ([[(1, false, Blk.cols mq [Col.int .i64 tq]), (0, false, Blk.cols mp [Col.int .i64 tp])]]) (7)) (False)) (test (decide (ap + np ≤ mp ∧ np ≤ 1000000 ∧ aq + nq ≤ mq ∧ nq ≤ 1000000 ∧ (S.okG np fun j => tp (j + ap)) = true ∧ (S.okG nq fun j => tq (j + aq)) = true)) (Kret (PV.int .i64 (S.cmpS (S.val np fun j => tp (j + ap)) (S.val nq fun j => tq (j + aq)))) ([[(1, false, Blk.cols mq [Col.int .i64 tq]), (0, false, Blk.cols mp [Col.int .i64 tp])]]) (7)) (False))) (test (n2) (Kret (PV.int .i64 (1 : Int)) ([[(1, false, Blk.cols mq [Col.int .i64 tq]), (0, false, Blk.cols mp [Col.int .i64 tp])]]) (6)) (test (n1) (test (decide (aq + nq ≤ mq ∧ nq ≤ 1000000 ∧ ap + np ≤ mp ∧ np ≤ 1000000 ∧ (S.okG nq fun j => tq (j + aq)) = true ∧ (S.okG np fun j => tp (j + ap)) = true)) (Kret (PV.int .i64 (S.cmpS (S.val nq fun j => tq (j + aq)) (S.val np fun j => tp (j + ap)))) ([[(1, false, Blk.cols mq [Col.int .i64 tq]), (0, false, Blk.cols mp [Col.int .i64 tp])]]) (7)) (False)) (test (decide (ap + np ≤ mp ∧ np ≤ 1000000 ∧ aq + nq ≤ mq ∧ nq ≤ 1000000 ∧ (S.okG np fun j => tp (j + ap)) = true ∧ (S.okG nq fun j => tq (j + aq)) = true)) (Kret (PV.int .i64 (S.cmpS (S.val np fun j => tp (j + ap)) (S.val nq fun j => tq (j + aq)))) ([[(1, false, Blk.cols mq [Col.int .i64 tq]), (0, false, Blk.cols mp [Col.int .i64 tp])]]) (7)) (False))))) (Kret (PV.int .i64 (-1 : Int)) ([[(1, false, Blk.cols mq [Col.int .i64 tq]), (0, false, Blk.cols mp [Col.int .i64 tp])]]) (6))) (test (n1) (test (n1) (test (decide (aq + nq ≤ mq ∧ nq ≤ 1000000 ∧ ap + np ≤ mp ∧ np ≤ 1000000 ∧ (S.okG nq fun j => tq (j + aq)) = true ∧ (S.okG np fun j => tp (j + ap)) = true)) (Kret (PV.int .i64 (S.cmpS (S.val nq fun j => tq (j + aq)) (S.val np fun j => tp (j + ap)))) ([[(1, false, Blk.cols mq [Col.int .i64 tq]), (0, false, Blk.cols mp [Col.int .i64 tp])]]) (7)) (False)) (test (decide (ap + np ≤ mp ∧ np ≤ 1000000 ∧ aq + nq ≤ mq ∧ nq ≤ 1000000 ∧ (S.okG np fun j => tp (j + ap)) = true ∧ (S.okG nq fun j => tq (j + aq)) = true)) (Kret (PV.int .i64 (S.cmpS (S.val np fun j => tp (j + ap)) (S.val nq fun j => tq (j + aq)))) ([[(1, false, Blk.cols mq [Col.int .i64 tq]), (0, false, Blk.cols mp [Col.int .i64 tp])]]) (7)) (False))) (test (n2) (Kret (PV.int .i64 (1 : Int)) ([[(1, false, Blk.cols mq [Col.int .i64 tq]), (0, false, Blk.cols mp [Col.int .i64 tp])]]) (6)) (test (n1) (test (decide (aq + nq ≤ mq ∧ nq ≤ 1000000 ∧ ap + np ≤ mp ∧ np ≤ 1000000 ∧ (S.okG nq fun j => tq (j + aq)) = true ∧ (S.okG np fun j => tp (j + ap)) = true)) (Kret (PV.int .i64 (S.cmpS (S.val nq fun j => tq (j + aq)) (S.val np fun j => tp (j + ap)))) ([[(1, false, Blk.cols mq [Col.int .i64 tq]), (0, false, Blk.cols mp [Col.int .i64 tp])]]) (7)) (False)) (test (decide (ap + np ≤ mp ∧ np ≤ 1000000 ∧ aq + nq ≤ mq ∧ nq ≤ 1000000 ∧ (S.okG np fun j => tp (j + ap)) = true ∧ (S.okG nq fun j => tq (j + aq)) = true)) (Kret (PV.int .i64 (S.cmpS (S.val np fun j => tp (j + ap)) (S.val nq fun j => tq (j + aq)))) ([[(1, false, Blk.cols mq [Col.int .i64 tq]), (0, false, Blk.cols mp [Col.int .i64 tp])]]) (7)) (False)))))) (Kret (PV.int .i64 (0 : Int)) ([[(1, false, Blk.cols mq [Col.int .i64 tq]), (0, false, Blk.cols mp [Col.int .i64 tp])]]) (6))) (False)) (Kret (PV.int .i64 (0 : Int)) ([[(1, false, Blk.cols mq [Col.int .i64 tq]), (0, false, Blk.cols mp [Col.int .i64 tp])]]) (5))) (False)
theorem te31 (test : TT) (Kst : KS) (Kret : KR) (n1 : Bool) (ap np mp : Nat) (tp : NI) (n2 : Bool) (aq nq mq : Nat) (tq : NI) : run test Tryd.env true (xG2 test) true 400 ⟨31, [.cd (mkFn Tryd.f31).body], argT 0 [.agg [.bool n1, .loose ⟨0, 1, ap, 0⟩ np], .agg [.bool n2, .loose ⟨1, 1, aq, 0⟩ nq]], [[], [(0, (false, .cols mp [.int .i64 tp])), (1, (false, .cols mq [.int .i64 tq]))]], 2⟩ (proj 2 [] Kst Kret) =
  Te31 test Kst Kret n1 ap np mp tp n2 aq nq mq tq := by kernel_rfl
noncomputable abbrev J31 (n1 : Bool) (ap np mp : Nat) (tp : NI) (n2 : Bool) (aq nq mq : Nat) (tq : NI) : Rt31 → Heap := fun r => [newL (2 + 1) ((N31 n1 ap np mp tp n2 aq nq mq tq) r) ++ [(0, (false, .cols mp [.int .i64 tp])), (1, (false, .cols mq [.int .i64 tq]))]]
attribute [local irreducible] Int.subNatNat in
theorem be31 (n1 : Bool) (ap np mp : Nat) (tp : NI) (n2 : Bool) (aq nq mq : Nat) (tq : NI) (Kst : KS) (Kret : KR) (x : St31 ⊕ Rt31) (hS : HS 2 400 ((I31 n1 ap np mp tp n2 aq nq mq tq)) Kst x) (hR : HR 2 400 ((V31 n1 ap np mp tp n2 aq nq mq tq)) (J31 n1 ap np mp tp n2 aq nq mq tq) Kret x) (h : p31 n1 ap np mp tp n2 aq nq mq tq = some x) : Te31 cond Kst Kret n1 ap np mp tp n2 aq nq mq tq := by
  unfold Te31
  unfold p31 at h
  refine bif_split h (fun c0 h => bif_split h (fun c1 h => bif_split h (fun c2 h => bif_split h (fun c3 h => bif_split h (fun c4 h => bif_split h (fun c5 h => cond_yes c4 (cond_yes c4 (bif_split h (fun c6 h => ?_) (fun c6 h => ?_)))) (fun c5 h => ?_)) (fun c4 h => cond_no c4 (bif_split h (fun c5 h => ?_) (fun c5 h => cond_no c4 (bif_split h (fun c6 h => ?_) (fun c6 h => ?_)))))) (fun c3 h => ?_)) (fun c2 h => ?_)) (fun c1 h => ?_)) (fun c0 h => ?_)
  all_goals first
    | exact ret_at hR _ h (fun n => n) rfl rfl rfl (rn_int rfl) rfl (entl_bor (use_lo rfl) rfl rfl (entl_bor (use_lo rfl) rfl rfl entl_nil))
    | exact no_some h
theorem a31 (n1 : Bool) (ap np mp : Nat) (tp : NI) (n2 : Bool) (aq nq mq : Nat) (tq : NI) {r : Rt31} (h : Goes ((q31 n1 ap np mp tp n2 aq nq mq tq)) ((p31 n1 ap np mp tp n2 aq nq mq tq)) r) : CallR Tryd.prog 31 [.agg [.bool n1, .loose ⟨0, 1, ap, 0⟩ np], .agg [.bool n2, .loose ⟨1, 1, aq, 0⟩ nq]] [[(0, (false, .cols mp [.int .i64 tp])), (1, (false, .cols mq [.int .i64 tq]))]] 2 ((V31 n1 ap np mp tp n2 aq nq mq tq) r) ((J31 n1 ap np mp tp n2 aq nq mq tq) r) 400 ∧ ∃ F, Tryd.prog.funcs[31]? = some F ∧ F.body.isSome = true ∧ (F.name == "runtime.NumGoroutine") = false := by
  refine dec_calls (f := 31) (lo := 2) (hi := 400) Tryd.envOk Tryd.mixed xG2_ok ((I31 n1 ap np mp tp n2 aq nq mq tq)) ((V31 n1 ap np mp tp n2 aq nq mq tq)) (J31 n1 ap np mp tp n2 aq nq mq tq) (fn := mkFn Tryd.f31) (ts := []) (n := 400) rfl (by decide) (by simp) (names_of rfl) ?_ ?_ ?_ h
  · intro s; exact s.elim
  · intro Kst Kret x hS hR h
    exact Holds.eq (te31 cond Kst Kret n1 ap np mp tp n2 aq nq mq tq) (be31 n1 ap np mp tp n2 aq nq mq tq Kst Kret x hS hR h)
  · intro Kst Kret x hS hR s h; exact s.elim
noncomputable abbrev w31 {α : Type} (g : Bool → Nat → Nat → Nat → (Nat → Int) → Bool → Nat → Nat → Nat → (Nat → Int) → α) (x : (Bool × (Nat × Nat × Nat × (Nat → Int) × Unit) × Unit) × (Bool × (Nat × Nat × Nat × (Nat → Int) × Unit) × Unit) × Unit) : α := g x.1.1 x.1.2.1.1 x.1.2.1.2.1 x.1.2.1.2.2.1 x.1.2.1.2.2.2.1 x.2.1.1 x.2.1.2.1.1 x.2.1.2.1.2.1 x.2.1.2.1.2.2.1 x.2.1.2.1.2.2.2.1
noncomputable def k31  : Con := ⟨31, [.agg [.plain (.bool), .list [.int .i64]], .agg [.plain (.bool), .list [.int .i64]]], w31 (fun n1 ap np mp tp n2 aq nq mq tq => decide ((ap + np ≤ mp ∧ np ≤ 1000000) ∧ aq + nq ≤ mq ∧ nq ≤ 1000000)), w31 (fun n1 ap np mp tp n2 aq nq mq tq => (V31 n1 ap np mp tp n2 aq nq mq tq) (S.cmpI n1 np (fun j => tp (j + ap)) n2 nq (fun j => tq (j + aq)))), w31 (fun n1 ap np mp tp n2 aq nq mq tq => (N31 n1 ap np mp tp n2 aq nq mq tq) (S.cmpI n1 np (fun j => tp (j + ap)) n2 nq (fun j => tq (j + aq)))), fun _ _ => .dead⟩
theorem s31 (n1 : Bool) (ap np mp : Nat) (tp : Nat → Int) (n2 : Bool) (aq nq mq : Nat) (tq : Nat → Int) (hp : (ap + np ≤ mp ∧ np ≤ 1000000) ∧ aq + nq ≤ mq ∧ nq ≤ 1000000) : Goes ((q31 n1 ap np mp tp n2 aq nq mq tq)) ((p31 n1 ap np mp tp n2 aq nq mq tq)) (S.cmpI n1 np (fun j => tp (j + ap)) n2 nq (fun j => tq (j + aq))) := by
  obtain ⟨⟨hp1, hp2⟩, hp3, hp4⟩ := hp
  have d1 : ap + np ≤ mp ∧ np ≤ 1000000 := ⟨hp1, hp2⟩
  have d2 : aq + nq ≤ mq ∧ nq ≤ 1000000 := ⟨hp3, hp4⟩
  unfold S.cmpI
  by_cases g1 : S.okI n1 np (fun j => tp (j + ap)) = true
  · by_cases g2 : S.okI n2 nq (fun j => tq (j + aq)) = true
    · rw [if_pos ⟨g1, g2⟩]
      obtain ⟨l1, k1, z1⟩ := okI_iff.mp g1
      obtain ⟨l2, k2, z2⟩ := okI_iff.mp g2
      have v1 := val_nn (okG_D k1)
      have v2 := val_nn (okG_D k2)
      rw [cmpS_sv v1 v2 (by rcases z1 with h | h; exact .inl (val_pos k1 h); exact .inr h) (by rcases z2 with h | h; exact .inl (val_pos k2 h); exact .inr h)]
      have c1 : aq + nq ≤ mq ∧ nq ≤ 1000000 ∧ ap + np ≤ mp ∧ np ≤ 1000000 ∧ S.okG nq (fun j => tq (j + aq)) = true ∧ S.okG np (fun j => tp (j + ap)) = true := ⟨hp3, hp4, hp1, hp2, k2, k1⟩
      have c2 : ap + np ≤ mp ∧ np ≤ 1000000 ∧ aq + nq ≤ mq ∧ nq ≤ 1000000 ∧ S.okG np (fun j => tp (j + ap)) = true ∧ S.okG nq (fun j => tq (j + aq)) = true := ⟨hp1, hp2, hp3, hp4, k1, k2⟩
      unfold p31
      cases n1 <;> cases n2 <;> simp only [g1, g2, decide_eq_true d1, decide_eq_true d2, cond_true, cond_false, decide_eq_true c1, decide_eq_true c2] <;> exact goes_inr.mpr rfl
    · rw [if_neg (fun h => g2 h.2)]
      have g2 := Bool.not_eq_true _ ▸ g2
      unfold p31
      simp only [cond_true, cond_false, g1, g2, decide_eq_true d1, decide_eq_true d2]
      exact goes_inr.mpr rfl
  · rw [if_neg (fun h => g1 h.1)]
    have g1 := Bool.not_eq_true _ ▸ g1
    unfold p31
    simp only [cond_true, cond_false, g1, decide_eq_true d1]
    exact goes_inr.mpr rfl
theorem k31_ok  : k31.ok Tryd.prog := by
  intro x hx
  obtain ⟨⟨n1, ⟨ap, np, mp, tp, _⟩, _⟩, ⟨n2, ⟨aq, nq, mq, tq, _⟩, _⟩, _⟩ := x
  obtain ⟨h1, h2⟩ := a31 n1 ap np mp tp n2 aq nq mq tq (s31 n1 ap np mp tp n2 aq nq mq tq (of_dec hx rfl))
  exact ⟨⟨400, (by decide : 2 + 1 + 0 ≤ 400), h1⟩, h2⟩
abbrev St32  := Empty
abbrev Rt32  := Int
noncomputable def V32 (n1 : Bool) (ap np mp : Nat) (tp : NI) (n2 : Bool) (aq nq mq : Nat) (tq : NI) (r : Rt32) : PV := PV.int .i64 r
noncomputable def N32 (n1 : Bool) (ap np mp : Nat) (tp : NI) (n2 : Bool) (aq nq mq : Nat) (tq : NI) (r : Rt32) : List Blk := []
noncomputable def I32 (n1 : Bool) (ap np mp : Nat) (tp : NI) (n2 : Bool) (aq nq mq : Nat) (tq : NI) : St32 → Hd := fun s => s.elim
noncomputable def q32 (n1 : Bool) (ap np mp : Nat) (tp : NI) (n2 : Bool) (aq nq mq : Nat) (tq : NI) : St32 → Option (St32 ⊕ Rt32) := fun s => s.elim
noncomputable def p32 (n1 : Bool) (ap np mp : Nat) (tp : NI) (n2 : Bool) (aq nq mq : Nat) (tq : NI) : Option (St32 ⊕ Rt32) := bif (n1) then (bif (n2) then (bif (decide (aq + nq ≤ mq ∧ nq ≤ 1000000 ∧ ap + np ≤ mp ∧ np ≤ 1000000 ∧ (S.okG nq fun j => tq (j + aq)) = true ∧ (S.okG np fun j => tp (j + ap)) = true)) then (some (.inr (S.cmpS (S.val nq fun j => tq (j + aq)) (S.val np fun j => tp (j + ap))))) else (none)) else (some (.inr ((-1 : Int))))) else (bif (n2) then (some (.inr ((1 : Int)))) else (bif (decide (ap + np ≤ mp ∧ np ≤ 1000000 ∧ aq + nq ≤ mq ∧ nq ≤ 1000000 ∧ (S.okG np fun j => tp (j + ap)) = true ∧ (S.okG nq fun j => tq (j + aq)) = true)) then (some (.inr (S.cmpS (S.val np fun j => tp (j + ap)) (S.val nq fun j => tq (j + aq))))) else (none)))
noncomputable def Te32 (test : TT) (Kst : KS) (Kret : KR) (n1 : Bool) (ap np mp : Nat) (tp : NI) (n2 : Bool) (aq nq mq : Nat) (tq : NI) : Prop := test (n1) (test (n2) (test (n2) (test (n1) (test (n1) (test (decide (aq + nq ≤ mq ∧ nq ≤ 1000000 ∧ ap + np ≤ mp ∧ np ≤ 1000000 ∧ (S.okG nq fun j => tq (j + aq)) = true ∧ (S.okG np fun j => tp (j + ap)) = true)) (Kret (PV.int .i64 (S.cmpS (S.val nq fun j => tq (j + aq)) (S.val np fun j => tp (j + ap)))) ([[(1, false, Blk.cols mq [Col.int .i64 tq]), (0, false, Blk.cols mp [Col.int .i64 tp])]]) (5)) (False)) (test (decide (ap + np ≤ mp ∧ np ≤ 1000000 ∧ aq + nq ≤ mq ∧ nq ≤ 1000000 ∧ (S.okG np fun j => tp (j + ap)) = true ∧ (S.okG nq fun j => tq (j + aq)) = true)) (Kret (PV.int .i64 (S.cmpS (S.val np fun j => tp (j + ap)) (S.val nq fun j => tq (j + aq)))) ([[(1, false, Blk.cols mq [Col.int .i64 tq]), (0, false, Blk.cols mp [Col.int .i64 tp])]]) (5)) (False))) (Kret (PV.int .i64 (1 : Int)) ([[(1, false, Blk.cols mq [Col.int .i64 tq]), (0, false, Blk.cols mp [Col.int .i64 tp])]]) (4))) (test (n1) (test (decide (aq + nq ≤ mq ∧ nq ≤ 1000000 ∧ ap + np ≤ mp ∧ np ≤ 1000000 ∧ (S.okG nq fun j => tq (j + aq)) = true ∧ (S.okG np fun j => tp (j + ap)) = true)) (Kret (PV.int .i64 (S.cmpS (S.val nq fun j => tq (j + aq)) (S.val np fun j => tp (j + ap)))) ([[(1, false, Blk.cols mq [Col.int .i64 tq]), (0, false, Blk.cols mp [Col.int .i64 tp])]]) (5)) (False)) (test (decide (ap + np ≤ mp ∧ np ≤ 1000000 ∧ aq + nq ≤ mq ∧ nq ≤ 1000000 ∧ (S.okG np fun j => tp (j + ap)) = true ∧ (S.okG nq fun j => tq (j + aq)) = true)) (Kret (PV.int .i64 (S.cmpS (S.val np fun j => tp (j + ap)) (S.val nq fun j => tq (j + aq)))) ([[(1, false, Blk.cols mq [Col.int .i64 tq]), (0, false, Blk.cols mp [Col.int .i64 tp])]]) (5)) (False)))) (Kret (PV.int .i64 (-1 : Int)) ([[(1, false, Blk.cols mq [Col.int .i64 tq]), (0, false, Blk.cols mp [Col.int .i64 tp])]]) (4))) (test (n2) (test (n1) (test (n1) (test (decide (aq + nq ≤ mq ∧ nq ≤ 1000000 ∧ ap + np ≤ mp ∧ np ≤ 1000000 ∧ (S.okG nq fun j => tq (j + aq)) = true ∧ (S.okG np fun j => tp (j + ap)) = true)) (Kret (PV.int .i64 (S.cmpS (S.val nq fun j => tq (j + aq)) (S.val np fun j => tp (j + ap)))) ([[(1, false, Blk.cols mq [Col.int .i64 tq]), (0, false, Blk.cols mp [Col.int .i64 tp])]]) (5)) (False)) (test (decide (ap + np ≤ mp ∧ np ≤ 1000000 ∧ aq + nq ≤ mq ∧ nq ≤ 1000000 ∧ (S.okG np fun j => tp (j + ap)) = true ∧ (S.okG nq fun j => tq (j + aq)) = true)) (Kret (PV.int .i64 (S.cmpS (S.val np fun j => tp (j + ap)) (S.val nq fun j => tq (j + aq)))) ([[(1, false, Blk.cols mq [Col.int .i64 tq]), (0, false, Blk.cols mp [Col.int .i64 tp])]]) (5)) (False))) (Kret (PV.int .i64 (1 : Int)) ([[(1, false, Blk.cols mq [Col.int .i64 tq]), (0, false, Blk.cols mp [Col.int .i64 tp])]]) (4))) (test (n1) (test (decide (aq + nq ≤ mq ∧ nq ≤ 1000000 ∧ ap + np ≤ mp ∧ np ≤ 1000000 ∧ (S.okG nq fun j => tq (j + aq)) = true ∧ (S.okG np fun j => tp (j + ap)) = true)) (Kret (PV.int .i64 (S.cmpS (S.val nq fun j => tq (j + aq)) (S.val np fun j => tp (j + ap)))) ([[(1, false, Blk.cols mq [Col.int .i64 tq]), (0, false, Blk.cols mp [Col.int .i64 tp])]]) (5)) (False)) (test (decide (ap + np ≤ mp ∧ np ≤ 1000000 ∧ aq + nq ≤ mq ∧ nq ≤ 1000000 ∧ (S.okG np fun j => tp (j + ap)) = true ∧ (S.okG nq fun j => tq (j + aq)) = true)) (Kret (PV.int .i64 (S.cmpS (S.val np fun j => tp (j + ap)) (S.val nq fun j => tq (j + aq)))) ([[(1, false, Blk.cols mq [Col.int .i64 tq]), (0, false, Blk.cols mp [Col.int .i64 tp])]]) (5)) (False))))
theorem te32 (test : TT) (Kst : KS) (Kret : KR) (n1 : Bool) (ap np mp : Nat) (tp : NI) (n2 : Bool) (aq nq mq : Nat) (tq : NI) : run test Tryd.env true (xG2 test) true 400 ⟨32, [.cd (mkFn Tryd.f32).body], argT 0 [.agg [.bool n1, .loose ⟨0, 1, ap, 0⟩ np], .agg [.bool n2, .loose ⟨1, 1, aq, 0⟩ nq]], [[], [(0, (false, .cols mp [.int .i64 tp])), (1, (false, .cols mq [.int .i64 tq]))]], 2⟩ (proj 2 [] Kst Kret) =
  Te32 test Kst Kret n1 ap np mp tp n2 aq nq mq tq := by kernel_rfl
noncomputable abbrev J32 (n1 : Bool) (ap np mp : Nat) (tp : NI) (n2 : Bool) (aq nq mq : Nat) (tq : NI) : Rt32 → Heap := fun r => [newL (2 + 1) ((N32 n1 ap np mp tp n2 aq nq mq tq) r) ++ [(0, (false, .cols mp [.int .i64 tp])), (1, (false, .cols mq [.int .i64 tq]))]]
attribute [local irreducible] Int.subNatNat in
theorem be32 (n1 : Bool) (ap np mp : Nat) (tp : NI) (n2 : Bool) (aq nq mq : Nat) (tq : NI) (Kst : KS) (Kret : KR) (x : St32 ⊕ Rt32) (hS : HS 2 400 ((I32 n1 ap np mp tp n2 aq nq mq tq)) Kst x) (hR : HR 2 400 ((V32 n1 ap np mp tp n2 aq nq mq tq)) (J32 n1 ap np mp tp n2 aq nq mq tq) Kret x) (h : p32 n1 ap np mp tp n2 aq nq mq tq = some x) : Te32 cond Kst Kret n1 ap np mp tp n2 aq nq mq tq := by
  unfold Te32
  unfold p32 at h
  refine bif_split h (fun c0 h => bif_split h (fun c1 h => cond_yes c1 (cond_yes c0 (cond_yes c0 (bif_split h (fun c2 h => ret_at hR _ h (fun n => n) rfl rfl rfl (rn_int rfl) rfl (entl_bor (use_lo rfl) rfl rfl (entl_bor (use_lo rfl) rfl rfl entl_nil))) (fun c2 h => no_some h))))) (fun c1 h => ret_at hR _ h (fun n => n) rfl rfl rfl (rn_int rfl) rfl (entl_bor (use_lo rfl) rfl rfl (entl_bor (use_lo rfl) rfl rfl entl_nil)))) (fun c0 h => bif_split h (fun c1 h => cond_no c0 (ret_at hR _ h (fun n => n) rfl rfl rfl (rn_int rfl) rfl (entl_bor (use_lo rfl) rfl rfl (entl_bor (use_lo rfl) rfl rfl entl_nil)))) (fun c1 h => cond_no c0 (bif_split h (fun c2 h => ret_at hR _ h (fun n => n) rfl rfl rfl (rn_int rfl) rfl (entl_bor (use_lo rfl) rfl rfl (entl_bor (use_lo rfl) rfl rfl entl_nil))) (fun c2 h => no_some h))))
theorem a32 (n1 : Bool) (ap np mp : Nat) (tp : NI) (n2 : Bool) (aq nq mq : Nat) (tq : NI) {r : Rt32} (h : Goes ((q32 n1 ap np mp tp n2 aq nq mq tq)) ((p32 n1 ap np mp tp n2 aq nq mq tq)) r) : CallR Tryd.prog 32 [.agg [.bool n1, .loose ⟨0, 1, ap, 0⟩ np], .agg [.bool n2, .loose ⟨1, 1, aq, 0⟩ nq]] [[(0, (false, .cols mp [.int .i64 tp])), (1, (false, .cols mq [.int .i64 tq]))]] 2 ((V32 n1 ap np mp tp n2 aq nq mq tq) r) ((J32 n1 ap np mp tp n2 aq nq mq tq) r) 400 ∧ ∃ F, Tryd.prog.funcs[32]? = some F ∧ F.body.isSome = true ∧ (F.name == "runtime.NumGoroutine") = false := by
  refine dec_calls (f := 32) (lo := 2) (hi := 400) Tryd.envOk Tryd.mixed xG2_ok ((I32 n1 ap np mp tp n2 aq nq mq tq)) ((V32 n1 ap np mp tp n2 aq nq mq tq)) (J32 n1 ap np mp tp n2 aq nq mq tq) (fn := mkFn Tryd.f32) (ts := []) (n := 400) rfl (by decide) (by simp) (names_of rfl) ?_ ?_ ?_ h
  · intro s; exact s.elim
  · intro Kst Kret x hS hR h
    exact Holds.eq (te32 cond Kst Kret n1 ap np mp tp n2 aq nq mq tq) (be32 n1 ap np mp tp n2 aq nq mq tq Kst Kret x hS hR h)
  · intro Kst Kret x hS hR s h; exact s.elim
noncomputable abbrev w32 {α : Type} (g : Bool → Nat → Nat → Nat → (Nat → Int) → Bool → Nat → Nat → Nat → (Nat → Int) → α) (x : (Bool × (Nat × Nat × Nat × (Nat → Int) × Unit) × Unit) × (Bool × (Nat × Nat × Nat × (Nat → Int) × Unit) × Unit) × Unit) : α := g x.1.1 x.1.2.1.1 x.1.2.1.2.1 x.1.2.1.2.2.1 x.1.2.1.2.2.2.1 x.2.1.1 x.2.1.2.1.1 x.2.1.2.1.2.1 x.2.1.2.1.2.2.1 x.2.1.2.1.2.2.2.1
noncomputable def k32  : Con := ⟨32, [.agg [.plain (.bool), .list [.int .i64]], .agg [.plain (.bool), .list [.int .i64]]], w32 (fun n1 ap np mp tp n2 aq nq mq tq => decide ((ap + np ≤ mp ∧ np ≤ 1000000) ∧ aq + nq ≤ mq ∧ nq ≤ 1000000 ∧ S.okI n1 np (fun j => tp (j + ap)) = true ∧ S.okI n2 nq (fun j => tq (j + aq)) = true)), w32 (fun n1 ap np mp tp n2 aq nq mq tq => (V32 n1 ap np mp tp n2 aq nq mq tq) (S.cmpI n1 np (fun j => tp (j + ap)) n2 nq (fun j => tq (j + aq)))), w32 (fun n1 ap np mp tp n2 aq nq mq tq => (N32 n1 ap np mp tp n2 aq nq mq tq) (S.cmpI n1 np (fun j => tp (j + ap)) n2 nq (fun j => tq (j + aq)))), fun _ _ => .dead⟩
theorem s32 (n1 : Bool) (ap np mp : Nat) (tp : Nat → Int) (n2 : Bool) (aq nq mq : Nat) (tq : Nat → Int) (hp : (ap + np ≤ mp ∧ np ≤ 1000000) ∧ aq + nq ≤ mq ∧ nq ≤ 1000000 ∧ S.okI n1 np (fun j => tp (j + ap)) = true ∧ S.okI n2 nq (fun j => tq (j + aq)) = true) : Goes ((q32 n1 ap np mp tp n2 aq nq mq tq)) ((p32 n1 ap np mp tp n2 aq nq mq tq)) (S.cmpI n1 np (fun j => tp (j + ap)) n2 nq (fun j => tq (j + aq))) := by
  obtain ⟨⟨hp1, hp2⟩, hp3, hp4, g1, g2⟩ := hp
  have d1 : ap + np ≤ mp ∧ np ≤ 1000000 := ⟨hp1, hp2⟩
  have d2 : aq + nq ≤ mq ∧ nq ≤ 1000000 := ⟨hp3, hp4⟩
  unfold S.cmpI
  · · rw [if_pos ⟨g1, g2⟩]
      obtain ⟨l1, k1, z1⟩ := okI_iff.mp g1
      obtain ⟨l2, k2, z2⟩ := okI_iff.mp g2
      have v1 := val_nn (okG_D k1)
      have v2 := val_nn (okG_D k2)
      rw [cmpS_sv v1 v2 (by rcases z1 with h | h; exact .inl (val_pos k1 h); exact .inr h) (by rcases z2 with h | h; exact .inl (val_pos k2 h); exact .inr h)]
      have c1 : aq + nq ≤ mq ∧ nq ≤ 1000000 ∧ ap + np ≤ mp ∧ np ≤ 1000000 ∧ S.okG nq (fun j => tq (j + aq)) = true ∧ S.okG np (fun j => tp (j + ap)) = true := ⟨hp3, hp4, hp1, hp2, k2, k1⟩
      have c2 : ap + np ≤ mp ∧ np ≤ 1000000 ∧ aq + nq ≤ mq ∧ nq ≤ 1000000 ∧ S.okG np (fun j => tp (j + ap)) = true ∧ S.okG nq (fun j => tq (j + aq)) = true := ⟨hp1, hp2, hp3, hp4, k1, k2⟩
      unfold p32
      cases n1 <;> cases n2 <;> simp only [g1, g2, decide_eq_true d1, decide_eq_true d2, cond_true, cond_false, decide_eq_true c1, decide_eq_true c2] <;> exact goes_inr.mpr rfl
theorem k32_ok  : k32.ok Tryd.prog := by
  intro x hx
  obtain ⟨⟨n1, ⟨ap, np, mp, tp, _⟩, _⟩, ⟨n2, ⟨aq, nq, mq, tq, _⟩, _⟩, _⟩ := x
  obtain ⟨h1, h2⟩ := a32 n1 ap np mp tp n2 aq nq mq tq (s32 n1 ap np mp tp n2 aq nq mq tq (of_dec hx rfl))
  exact ⟨⟨400, (by decide : 2 + 1 + 0 ≤ 400), h1⟩, h2⟩
noncomputable def xS6 (test : Bool → Prop → Prop → Prop) : Ext := consX test [k12, k29, k30, k22, k26, k31, k32, k20, k16, k18, k19]
theorem xS6_ok  : ExtOk Tryd.prog (xS6 cond) := consX_ok ⟨k12_ok, k29_ok, k30_ok, k22_ok, k26_ok, k31_ok, k32_ok, k20_ok, k16_ok, k18_ok, k19_ok, trivial⟩
theorem okI_congr  {ng : Bool} {n : Nat} {t u : Nat → Int} (h : ∀ j, j < n → t j = u j) : S.okI ng n t = S.okI ng n u := by
  unfold S.okI S.okG
  rw [all_congr (q := fun j => S.digB (u j)) fun j hj => by rw [h j hj]]
  cases n with
  | zero => rfl
  | succ n => rw [h (n + 1 - 1) (by omega)]
section
variable {n1 n2 : Bool} {n m : Nat} {t u : Nat → Int}
theorem samI_self  {L : List Int} {c : Bool} : S.samI c L.length (fun j => S.at' L j) c L.length (fun j => S.at' L j) = true := decide_eq_true ⟨rfl, rfl⟩
theorem fit_len (v : Int) : (S.fitI v).2.2.length ≤ 80 := by
  unfold S.fitI
  split
  · exact Nat.zero_le _
  · show (S.grp _).length ≤ 80; omega
theorem fit_sv  {ng : Bool} (h : S.okI ng n t = true) : S.fitI (S.sv ng (S.val n t)) = (ng, 0, S.mkl n t) := by
  obtain ⟨h1, h2, h3⟩ := okI_iff.mp h
  have hv := val_nn (okG_D h2)
  rw [fit_of, big_of hv, ← ok_grp h2, mkl_len, if_neg (by omega)]
  rcases h3 with h3 | h3
  · rw [decide_eq_true (val_pos h2 h3), Bool.and_true]
  · rw [h3, Bool.false_and]
end
theorem okI_I  {v : Int} (hv : (v.natAbs : Int) < S.pw 80) : S.okI (decide (v < 0)) (S.grp (v.natAbs : Int)).length (fun j => S.at' (S.grp (v.natAbs : Int)) j) = true ∧ S.sv (decide (v < 0)) (S.val (S.grp (v.natAbs : Int)).length fun j => S.at' (S.grp (v.natAbs : Int)) j) = v := by
  have hl := grp_le hv
  constructor
  · rw [okI_iff]
    refine ⟨hl, grp_ok, ?_⟩
    by_cases h : v < 0
    · left; exact len_pos (by omega)
    · right; exact decide_eq_false h
  · rw [val_grpL (by omega)]
    unfold S.sv
    by_cases h : v < 0
    · rw [decide_eq_true h, cond_true]; omega
    · rw [decide_eq_false h, cond_false]; omega
theorem fit_I  {r : Int} (hr : (r.natAbs : Int) < S.pw 80) : S.fitI r = (decide (r < 0), 0, S.grp (r.natAbs : Int)) := by
  unfold S.fitI
  rw [if_neg (by have := grp_le hr; omega)]
section
variable {n1 n2 : Bool} {n m : Nat} {t u : Nat → Int}
theorem divI_mk  : S.divI n1 n (fun j => S.at' (S.mkl n t) j) n2 m (fun j => S.at' (S.mkl m u) j) = S.divI n1 n t n2 m u := by
  unfold S.divI
  rw [okI_congr (u := t) fun j hj => at_mkl hj, okI_congr (u := u) fun j hj => at_mkl hj, val_congr (u := t) fun j hj => at_mkl hj, val_congr (u := u) fun j hj => at_mkl hj]
theorem cmpI_neg  : S.cmpI n2 m u n1 n t = - S.cmpI n1 n t n2 m u := by
  unfold S.cmpI
  by_cases h : S.okI n1 n t = true ∧ S.okI n2 m u = true
  · rw [if_pos h, if_pos ⟨h.2, h.1⟩]
    unfold S.cmpS
    (repeat' split) <;> omega
  · rw [if_neg h, if_neg fun h2 => h ⟨h2.2, h2.1⟩]
    rfl
theorem cmpI_b  : -1 ≤ S.cmpI n1 n t n2 m u ∧ S.cmpI n1 n t n2 m u ≤ 1 := by
  unfold S.cmpI S.cmpS
  (repeat' split) <;> omega
theorem sv_lt  {ng : Bool} (h : S.okI ng n t = true) : ((S.sv ng (S.val n t)).natAbs : Int) < S.pw n := by
  have h1 := val_nn (okG_D (okI_G h).2)
  have h2 := val_lt (okG_D (okI_G h).2) (Nat.le_refl n)
  cases ng <;> simp only [S.sv, cond_true, cond_false] <;> omega
theorem sv_ne  {ng : Bool} (h : S.okI ng n t = true) (hn : n ≠ 0) : S.sv ng (S.val n t) ≠ 0 := by
  have h1 := val_pos (okI_G h).2 (by omega)
  cases ng <;> simp only [S.sv, cond_true, cond_false] <;> omega
theorem abs_div  {v w : Int} (hw : w ≠ 0) : ((v / w).natAbs : Int) ≤ v.natAbs ∧ 0 ≤ v % w ∧ v % w < (w.natAbs : Int) := by
  refine ⟨?_, Int.emod_nonneg _ hw, Int.emod_lt _ hw⟩
  have h := Int.natAbs_ediv_le_natAbs v w
  omega
theorem mulI_len  : (S.mulI n1 n t n2 m u).2.2.length ≤ 80 := by
  unfold S.mulI
  split
  · exact fit_len _
  · exact Nat.zero_le _
theorem divI_len  : (S.divI n1 n t n2 m u).2.2.2.length ≤ 80 ∧ (S.divI n1 n t n2 m u).2.2.1.length ≤ 80 := by
  unfold S.divI
  split
  · rename_i h
    split
    · exact ⟨Nat.zero_le _, Nat.zero_le _⟩
    · rename_i hm
      unfold S.divV
      split
      · exact ⟨Nat.zero_le _, Nat.zero_le _⟩
      · refine ⟨by dsimp only; omega, ?_⟩
        obtain ⟨-, h1, h2⟩ := abs_div (v := S.sv n1 (S.val n t)) (sv_ne h.2 hm)
        have h3 := sv_lt h.2
        have := grp_le (v := S.sv n1 (S.val n t) % S.sv n2 (S.val m u)) (n := m) (by omega)
        have := (okI_G h.2).1
        dsimp only
        omega
  · exact ⟨Nat.zero_le _, Nat.zero_le _⟩
theorem divI_ok (g1 : S.okI n1 n t = true) (g2 : S.okI n2 m u = true) (hm : m ≠ 0) : S.divI n1 n t n2 m u = (decide (S.sv n1 (S.val n t) / S.sv n2 (S.val m u) < 0), 0, S.grp (S.sv n1 (S.val n t) % S.sv n2 (S.val m u)), S.grp ((S.sv n1 (S.val n t) / S.sv n2 (S.val m u)).natAbs : Int)) := by
  unfold S.divI
  rw [if_pos ⟨g1, g2⟩, if_neg hm]
  unfold S.divV
  rw [if_neg]
  have h1 := abs_div (v := S.sv n1 (S.val n t)) (sv_ne g2 hm)
  have h2 := sv_lt g1
  have := grp_le (v := ((S.sv n1 (S.val n t) / S.sv n2 (S.val m u)).natAbs : Int)) (n := n) (by omega)
  have := (okI_G g1).1
  omega
theorem div_back (g1 : S.okI n1 n t = true) (g2 : S.okI n2 m u = true) (hm : m ≠ 0) (hs : n + m ≤ 80) {D : Bool × Int × List Int × List Int} (hD : S.divI n1 n t n2 m u = D) {M : Bool × Int × List Int} (hM : S.mulI D.1 D.2.2.2.length (fun j => S.at' D.2.2.2 j) n2 m u = M) : D.2.1 = 0 ∧ M.2.1 = 0 ∧ S.addS M.1 M.2.2.length (fun j => S.at' M.2.2 j) false D.2.2.1.length (fun j => S.at' D.2.2.1 j) = (n1, 0, S.mkl n t) := by
  have hv := sv_lt g1
  have hw := sv_lt g2
  have h0 := sv_ne g2 hm
  have hr := divI_ok g1 g2 hm
  have hf := fit_sv g1
  rw [hD] at hr
  subst hr
  dsimp only at hM ⊢
  have ab := abs_div (v := S.sv n1 (S.val n t)) h0
  have e := Int.mul_ediv_add_emod (S.sv n1 (S.val n t)) (S.sv n2 (S.val m u))
  have hw2 : (S.okI n2 m u) = true := g2
  unfold S.mulI at hM
  generalize hvv : S.sv n1 (S.val n t) = v at *
  generalize hww : S.sv n2 (S.val m u) = w at *
  have p79 := pw_mono (k := m) (m := 79)
  have q79 := pw_mono (k := n) (m := 79)
  have p80 : S.pw 80 = 1000000 * S.pw 79 := rfl
  have pp := pw_pos (k := 79)
  have n0 : n = 0 → v = 0 := fun h => by have : S.pw 0 = 1 := rfl; subst h; omega
  have q80 : ((v / w).natAbs : Int) < S.pw 80 := by
    have := pw_mono (k := n) (m := 80) (by omega)
    omega
  have okq := okI_I q80
  rw [if_pos ⟨okq.1, g2⟩, okq.2] at hM
  have r80 : ((v / w * w).natAbs : Int) < S.pw 80 := by
    rw [Int.mul_comm] at e
    by_cases hn : n = 0
    · have hz := n0 hn
      subst hz
      rw [Int.zero_ediv, Int.zero_mul]
      have := pw_pos (k := 80)
      exact this
    · have := p79 (by omega)
      have := q79 (by omega)
      omega
  rw [fit_I r80] at hM
  subst hM
  refine ⟨rfl, rfl, ?_⟩
  dsimp only
  have okr := okI_I r80
  have okm := okI_I (v := v % w) (by
    have := pw_mono (k := m) (m := 80) (by omega)
    omega)
  have en : ((v % w).natAbs : Int) = v % w := Int.natAbs_of_nonneg ab.2.1
  rw [en, decide_eq_false (by omega : ¬ v % w < 0)] at okm
  unfold S.addS
  rw [if_pos ⟨okr.1, okm.1⟩, okr.2, okm.2, Int.mul_comm, e]
  exact hf
end
noncomputable abbrev c6_e_0 (n1 : Bool) (ap np : Nat) (tp : NI) (n2 : Bool) (aq nq : Nat) (tq : NI) := S.mulI (Prod.fst (S.divI n1 (List.length (S.mkl np fun j => tp (j + ap))) (fun j => S.at' (S.mkl np fun j => tp (j + ap)) j) n2 (List.length (S.mkl nq fun j => tq (j + aq))) fun j => S.at' (S.mkl nq fun j => tq (j + aq)) j)) (List.length (Prod.snd (Prod.snd (Prod.snd (S.divI n1 (List.length (S.mkl np fun j => tp (j + ap))) (fun j => S.at' (S.mkl np fun j => tp (j + ap)) j) n2 (List.length (S.mkl nq fun j => tq (j + aq))) fun j => S.at' (S.mkl nq fun j => tq (j + aq)) j))))) (fun j => S.at' (Prod.snd (Prod.snd (Prod.snd (S.divI n1 (List.length (S.mkl np fun j => tp (j + ap))) (fun j => S.at' (S.mkl np fun j => tp (j + ap)) j) n2 (List.length (S.mkl nq fun j => tq (j + aq))) fun j => S.at' (S.mkl nq fun j => tq (j + aq)) j)))) j) n2 nq fun j => tq (j + aq)
noncomputable abbrev c6_e_1 (n1 : Bool) (ap np : Nat) (tp : NI) (n2 : Bool) (aq nq : Nat) (tq : NI) := Prod.snd (S.divI n1 (List.length (S.mkl np fun j => tp (j + ap))) (fun j => S.at' (S.mkl np fun j => tp (j + ap)) j) n2 (List.length (S.mkl nq fun j => tq (j + aq))) fun j => S.at' (S.mkl nq fun j => tq (j + aq)) j)
noncomputable abbrev c6_e_2 (n1 : Bool) (ap np : Nat) (tp : NI) (n2 : Bool) (aq nq : Nat) (tq : NI) := S.addS (Prod.fst (c6_e_0 n1 ap np tp n2 aq nq tq)) (List.length (Prod.snd (Prod.snd (c6_e_0 n1 ap np tp n2 aq nq tq)))) (fun j => S.at' (Prod.snd (Prod.snd (c6_e_0 n1 ap np tp n2 aq nq tq))) j) false (List.length (Prod.fst (Prod.snd (c6_e_1 n1 ap np tp n2 aq nq tq)))) fun j => S.at' (Prod.fst (Prod.snd (c6_e_1 n1 ap np tp n2 aq nq tq))) j
noncomputable abbrev c6_e_3 (n1 : Bool) (ap np mp : Nat) (tp : NI) (n2 : Bool) (aq nq : Nat) (tq : NI) := decide ((0 + List.length (Prod.snd (Prod.snd (S.addS (Prod.fst (c6_e_0 n1 ap np tp n2 aq nq tq)) (List.length (Prod.snd (Prod.snd (c6_e_0 n1 ap np tp n2 aq nq tq)))) (fun j => S.at' (Prod.snd (Prod.snd (S.mulI (Prod.fst (S.divI n1 (List.length (S.mkl np fun j => tp (j + ap))) (fun j => S.at' (S.mkl np fun j => tp (j + ap)) j) n2 (List.length (S.mkl nq fun j => tq (j + aq))) fun j => S.at' (S.mkl nq fun j => tq (j + aq)) j)) (List.length (Prod.snd (Prod.snd (c6_e_1 n1 ap np tp n2 aq nq tq)))) (fun j => S.at' (Prod.snd (Prod.snd (Prod.snd (S.divI n1 (List.length (S.mkl np fun j => tp (j + ap))) (fun j => S.at' (S.mkl np fun j => tp (j + ap)) j) n2 (List.length (S.mkl nq fun j => tq (j + aq))) fun j => S.at' (S.mkl nq fun j => tq (j + aq)) j)))) j) n2 nq fun j => tq (j + aq)))) j) false (List.length (Prod.fst (Prod.snd (c6_e_1 n1 ap np tp n2 aq nq tq)))) fun j => S.at' (Prod.fst (Prod.snd (c6_e_1 n1 ap np tp n2 aq nq tq))) j))) ≤ List.length (Prod.snd (Prod.snd (c6_e_2 n1 ap np tp n2 aq nq tq))) ∧ List.length (Prod.snd (Prod.snd (c6_e_2 n1 ap np tp n2 aq nq tq))) ≤ 1000000) ∧ ap + np ≤ mp ∧ np ≤ 1000000)
noncomputable abbrev c6_e_4 (n1 : Bool) (ap np : Nat) (tp : NI) (n2 : Bool) (aq nq : Nat) (tq : NI) := decide ((0 + List.length (Prod.snd (Prod.snd (c6_e_0 n1 ap np tp n2 aq nq tq))) ≤ List.length (Prod.snd (Prod.snd (c6_e_0 n1 ap np tp n2 aq nq tq))) ∧ List.length (Prod.snd (Prod.snd (c6_e_0 n1 ap np tp n2 aq nq tq))) ≤ 1000000) ∧ 0 + List.length (Prod.fst (Prod.snd (c6_e_1 n1 ap np tp n2 aq nq tq))) ≤ List.length (Prod.fst (Prod.snd (c6_e_1 n1 ap np tp n2 aq nq tq))) ∧ List.length (Prod.fst (Prod.snd (c6_e_1 n1 ap np tp n2 aq nq tq))) ≤ 1000000)
noncomputable abbrev c6_e_5 (mp : Nat) (tp : NI) (mq : Nat) (tq : NI) := ([[(1, false, Blk.cols mq [Col.int .i64 tq]), (0, false, Blk.cols mp [Col.int .i64 tp])]])
noncomputable abbrev c6_e_6 (n1 : Bool) (ap np : Nat) (tp : NI) (n2 : Bool) (aq nq : Nat) (tq : NI) := 0 + List.length (Prod.snd (Prod.snd (c6_e_1 n1 ap np tp n2 aq nq tq))) ≤ List.length (Prod.snd (Prod.snd (c6_e_1 n1 ap np tp n2 aq nq tq))) ∧ List.length (Prod.snd (Prod.snd (c6_e_1 n1 ap np tp n2 aq nq tq))) ≤ 1000000
noncomputable abbrev c6_e_7 (n1 : Bool) (ap np : Nat) (tp : NI) (n2 : Bool) (aq nq : Nat) (tq : NI) := S.samI (Prod.fst (c6_e_2 n1 ap np tp n2 aq nq tq)) (List.length (Prod.snd (Prod.snd (c6_e_2 n1 ap np tp n2 aq nq tq)))) (fun j => S.at' (Prod.snd (Prod.snd (c6_e_2 n1 ap np tp n2 aq nq tq))) j) n1 np fun j => tp (j + ap)
noncomputable abbrev c6_e_8 (n1 : Bool) (ap np : Nat) (tp : NI) (n2 : Bool) (aq nq : Nat) (tq : NI) := S.samI (Prod.fst (S.divI n1 (List.length (S.mkl np fun j => tp (j + ap))) (fun j => S.at' (S.mkl np fun j => tp (j + ap)) j) n2 (List.length (S.mkl nq fun j => tq (j + aq))) fun j => S.at' (S.mkl nq fun j => tq (j + aq)) j)) (List.length (Prod.snd (Prod.snd (c6_e_1 n1 ap np tp n2 aq nq tq)))) (fun j => S.at' (Prod.snd (Prod.snd (c6_e_1 n1 ap np tp n2 aq nq tq))) j) ((S.divI n1 np (fun j => tp (j + ap)) n2 nq fun j => tq (j + aq)).1) (List.length (Prod.snd ((S.divI n1 np (fun j => tp (j + ap)) n2 nq fun j => tq (j + aq)).2.2))) fun j => S.at' (Prod.snd ((S.divI n1 np (fun j => tp (j + ap)) n2 nq fun j => tq (j + aq)).2.2)) j
noncomputable abbrev c6_e_9 (n1 : Bool) (ap np : Nat) (tp : NI) (n2 : Bool) (aq nq : Nat) (tq : NI) := decide ((0 + List.length (Prod.fst (Prod.snd (c6_e_1 n1 ap np tp n2 aq nq tq))) ≤ List.length (Prod.fst (Prod.snd (c6_e_1 n1 ap np tp n2 aq nq tq))) ∧ List.length (Prod.fst (Prod.snd (c6_e_1 n1 ap np tp n2 aq nq tq))) ≤ 1000000) ∧ 0 + List.length (Prod.fst (Prod.snd ((S.divI n1 np (fun j => tp (j + ap)) n2 nq fun j => tq (j + aq)).2))) ≤ List.length (Prod.fst (Prod.snd ((S.divI n1 np (fun j => tp (j + ap)) n2 nq fun j => tq (j + aq)).2))) ∧ List.length (Prod.fst (Prod.snd ((S.divI n1 np (fun j => tp (j + ap)) n2 nq fun j => tq (j + aq)).2))) ≤ 1000000)
noncomputable abbrev c6_e_10 (n1 : Bool) (ap np : Nat) (tp : NI) (n2 : Bool) (aq nq : Nat) (tq : NI) := decide ((c6_e_6 n1 ap np tp n2 aq nq tq) ∧ 0 + List.length (Prod.snd (Prod.snd ((S.divI n1 np (fun j => tp (j + ap)) n2 nq fun j => tq (j + aq)).2))) ≤ List.length (Prod.snd (Prod.snd ((S.divI n1 np (fun j => tp (j + ap)) n2 nq fun j => tq (j + aq)).2))) ∧ List.length (Prod.snd (Prod.snd ((S.divI n1 np (fun j => tp (j + ap)) n2 nq fun j => tq (j + aq)).2))) ≤ 1000000)
noncomputable abbrev c6_e_11 (n1 : Bool) (ap np : Nat) (tp : NI) (n2 : Bool) (aq nq : Nat) (tq : NI) := S.samI false (List.length (Prod.fst (Prod.snd (c6_e_1 n1 ap np tp n2 aq nq tq)))) (fun j => S.at' (Prod.fst (Prod.snd (c6_e_1 n1 ap np tp n2 aq nq tq))) j) false (List.length (Prod.fst ((S.divI n1 np (fun j => tp (j + ap)) n2 nq fun j => tq (j + aq)).2.2))) fun j => S.at' (Prod.fst ((S.divI n1 np (fun j => tp (j + ap)) n2 nq fun j => tq (j + aq)).2.2)) j
noncomputable abbrev c6_e_12 (ap np : Nat) (tp : NI) (aq nq : Nat) (tq : NI) := decide ((0 + List.length (S.mkl np fun j => tp (j + ap)) ≤ List.length (S.mkl np fun j => tp (j + ap)) ∧ List.length (S.mkl np fun j => tp (j + ap)) ≤ 1000000) ∧ 0 + List.length (S.mkl nq fun j => tq (j + aq)) ≤ List.length (S.mkl nq fun j => tq (j + aq)) ∧ List.length (S.mkl nq fun j => tq (j + aq)) ≤ 1000000)
noncomputable abbrev c6_e_13 (n1 : Bool) (ap np mp : Nat) (tp : NI) (n2 : Bool) (aq nq mq : Nat) (tq : NI) := decide ((ap + np ≤ mp ∧ np ≤ 1000000) ∧ aq + nq ≤ mq ∧ nq ≤ 1000000 ∧ (S.okI n1 np fun j => tp (j + ap)) = true ∧ (S.okI n2 nq fun j => tq (j + aq)) = true)
abbrev St6  := Empty
abbrev Rt6  := Bool
noncomputable def V6 (n1 : Bool) (ap np mp : Nat) (tp : NI) (n2 : Bool) (aq nq mq : Nat) (tq : NI) (r : Rt6) : PV := PV.bool r
noncomputable def N6 (n1 : Bool) (ap np mp : Nat) (tp : NI) (n2 : Bool) (aq nq mq : Nat) (tq : NI) (r : Rt6) : List Blk := []
noncomputable def I6 (n1 : Bool) (ap np mp : Nat) (tp : NI) (n2 : Bool) (aq nq mq : Nat) (tq : NI) : St6 → Hd := fun s => s.elim
noncomputable def q6 (n1 : Bool) (ap np mp : Nat) (tp : NI) (n2 : Bool) (aq nq mq : Nat) (tq : NI) : St6 → Option (St6 ⊕ Rt6) := fun s => s.elim
noncomputable abbrev d6_0 (n1 : Bool) (ap np mp : Nat) (tp : NI) (n2 : Bool) (aq nq mq : Nat) (tq : NI) : Option (St6 ⊕ Rt6) := (bif (Prod.fst (c6_e_1 n1 ap np tp n2 aq nq tq) != 0) then (some (.inr (true))) else (bif (decide ((c6_e_6 n1 ap np tp n2 aq nq tq) ∧ aq + nq ≤ mq ∧ nq ≤ 1000000)) then (bif (c6_e_4 n1 ap np tp n2 aq nq tq) then (bif (Prod.fst (Prod.snd (c6_e_0 n1 ap np tp n2 aq nq tq)) == 0) then (bif (Prod.fst (Prod.snd (c6_e_2 n1 ap np tp n2 aq nq tq)) == 0) then (bif (c6_e_3 n1 ap np mp tp n2 aq nq tq) then (bif (c6_e_7 n1 ap np tp n2 aq nq tq) then (some (.inr (true))) else (some (.inr (false)))) else (none)) else (some (.inr (false)))) else (some (.inr (false)))) else (none)) else (none)))
noncomputable def p6 (n1 : Bool) (ap np mp : Nat) (tp : NI) (n2 : Bool) (aq nq mq : Nat) (tq : NI) : Option (St6 ⊕ Rt6) := bif (lim .i64 ((0 : Int) + (↑np : Int))) then (bif (lim .i64 ((0 : Int) + (↑np : Int) + (↑nq : Int))) then (bif (decide ((0 : Int) + (↑np : Int) + (↑nq : Int) ≤ 80)) then (bif (decide (ap + np ≤ mp ∧ np ≤ 1000000)) then (bif (decide (aq + nq ≤ mq ∧ nq ≤ 1000000)) then (bif (c6_e_12 ap np tp aq nq tq) then (bif (decide ((ap + np ≤ mp ∧ np ≤ 1000000) ∧ aq + nq ≤ mq ∧ nq ≤ 1000000)) then (bif (Prod.fst (c6_e_1 n1 ap np tp n2 aq nq tq) != (S.divI n1 np (fun j => tp (j + ap)) n2 nq fun j => tq (j + aq)).2.1) then (some (.inr (false))) else (bif (c6_e_10 n1 ap np tp n2 aq nq tq) then (bif (c6_e_8 n1 ap np tp n2 aq nq tq) then (bif (c6_e_9 n1 ap np tp n2 aq nq tq) then (bif (c6_e_11 n1 ap np tp n2 aq nq tq) then (bif (S.okI n1 np fun j => tp (j + ap)) then (bif (S.okI n2 nq fun j => tq (j + aq)) then (bif (c6_e_13 n1 ap np mp tp n2 aq nq mq tq) then (bif ((S.cmpI n1 np (fun j => tp (j + ap)) n2 nq fun j => tq (j + aq)) != S.cmpI n1 np (fun j => tp (j + ap)) n2 nq fun j => tq (j + aq)) then (some (.inr (false))) else (bif (decide ((aq + nq ≤ mq ∧ nq ≤ 1000000) ∧ ap + np ≤ mp ∧ np ≤ 1000000)) then (bif (lim .i64 (-S.cmpI n1 np (fun j => tp (j + ap)) n2 nq fun j => tq (j + aq))) then (bif ((S.cmpI n2 nq (fun j => tq (j + aq)) n1 np fun j => tp (j + ap)) != -S.cmpI n1 np (fun j => tp (j + ap)) n2 nq fun j => tq (j + aq)) then (some (.inr (false))) else (d6_0 n1 ap np mp tp n2 aq nq mq tq)) else (none)) else (none))) else (none)) else (d6_0 n1 ap np mp tp n2 aq nq mq tq)) else (d6_0 n1 ap np mp tp n2 aq nq mq tq)) else (some (.inr (false)))) else (none)) else (some (.inr (false)))) else (none))) else (none)) else (none)) else (none)) else (none)) else (some (.inr (true)))) else (none)) else (none)
noncomputable abbrev g6_0 (test : TT) (Kst : KS) (Kret : KR) (n1 : Bool) (ap np mp : Nat) (tp : NI) (n2 : Bool) (aq nq mq : Nat) (tq : NI) : Prop := (test (decide (ap + np ≤ mp ∧ np ≤ 1000000)) (test (decide (aq + nq ≤ mq ∧ nq ≤ 1000000)) (test (c6_e_12 ap np tp aq nq tq) (test (decide ((ap + np ≤ mp ∧ np ≤ 1000000) ∧ aq + nq ≤ mq ∧ nq ≤ 1000000)) (test (Prod.fst (c6_e_1 n1 ap np tp n2 aq nq tq) != (S.divI n1 np (fun j => tp (j + ap)) n2 nq fun j => tq (j + aq)).2.1) (Kret (PV.tf false) (c6_e_5 mp tp mq tq) (20)) (test (c6_e_10 n1 ap np tp n2 aq nq tq) (test (c6_e_8 n1 ap np tp n2 aq nq tq) (test (c6_e_9 n1 ap np tp n2 aq nq tq) (test (c6_e_11 n1 ap np tp n2 aq nq tq) (test (decide (ap + np ≤ mp ∧ np ≤ 1000000)) (test (S.okI n1 np fun j => tp (j + ap)) (test (decide (aq + nq ≤ mq ∧ nq ≤ 1000000)) (test (S.okI n2 nq fun j => tq (j + aq)) (test (decide ((ap + np ≤ mp ∧ np ≤ 1000000) ∧ aq + nq ≤ mq ∧ nq ≤ 1000000)) (test (c6_e_13 n1 ap np mp tp n2 aq nq mq tq) (test ((S.cmpI n1 np (fun j => tp (j + ap)) n2 nq fun j => tq (j + aq)) != S.cmpI n1 np (fun j => tp (j + ap)) n2 nq fun j => tq (j + aq)) (Kret (PV.tf false) (c6_e_5 mp tp mq tq) (26)) (test (decide ((aq + nq ≤ mq ∧ nq ≤ 1000000) ∧ ap + np ≤ mp ∧ np ≤ 1000000)) (test (c6_e_13 n1 ap np mp tp n2 aq nq mq tq) (test (lim .i64 (-S.cmpI n1 np (fun j => tp (j + ap)) n2 nq fun j => tq (j + aq))) (test ((S.cmpI n2 nq (fun j => tq (j + aq)) n1 np fun j => tp (j + ap)) != -S.cmpI n1 np (fun j => tp (j + ap)) n2 nq fun j => tq (j + aq)) (Kret (PV.tf false) (c6_e_5 mp tp mq tq) (28)) (test (Prod.fst (c6_e_1 n1 ap np tp n2 aq nq tq) != 0) (Kret (PV.tf true) (c6_e_5 mp tp mq tq) (28)) (test (decide ((c6_e_6 n1 ap np tp n2 aq nq tq) ∧ aq + nq ≤ mq ∧ nq ≤ 1000000)) (test (c6_e_4 n1 ap np tp n2 aq nq tq) (test (Prod.fst (Prod.snd (c6_e_0 n1 ap np tp n2 aq nq tq)) == 0) (test (Prod.fst (Prod.snd (c6_e_2 n1 ap np tp n2 aq nq tq)) == 0) (test (c6_e_3 n1 ap np mp tp n2 aq nq tq) (test (c6_e_7 n1 ap np tp n2 aq nq tq) (Kret (PV.tf true) (c6_e_5 mp tp mq tq) (35)) (Kret (PV.tf false) (c6_e_5 mp tp mq tq) (35))) (False)) (Kret (PV.tf false) (c6_e_5 mp tp mq tq) (34))) (Kret (PV.tf false) (c6_e_5 mp tp mq tq) (34))) (False)) (False)))) (False)) (False)) (False))) (False)) (False)) (test (Prod.fst (c6_e_1 n1 ap np tp n2 aq nq tq) != 0) (Kret (PV.tf true) (c6_e_5 mp tp mq tq) (24)) (test (decide ((c6_e_6 n1 ap np tp n2 aq nq tq) ∧ aq + nq ≤ mq ∧ nq ≤ 1000000)) (test (c6_e_4 n1 ap np tp n2 aq nq tq) (test (Prod.fst (Prod.snd (c6_e_0 n1 ap np tp n2 aq nq tq)) == 0) (test (Prod.fst (Prod.snd (c6_e_2 n1 ap np tp n2 aq nq tq)) == 0) (test (c6_e_3 n1 ap np mp tp n2 aq nq tq) (test (c6_e_7 n1 ap np tp n2 aq nq tq) (Kret (PV.tf true) (c6_e_5 mp tp mq tq) (31)) (Kret (PV.tf false) (c6_e_5 mp tp mq tq) (31))) (False)) (Kret (PV.tf false) (c6_e_5 mp tp mq tq) (30))) (Kret (PV.tf false) (c6_e_5 mp tp mq tq) (30))) (False)) (False)))) (False)) (test (Prod.fst (c6_e_1 n1 ap np tp n2 aq nq tq) != 0) (Kret (PV.tf true) (c6_e_5 mp tp mq tq) (23)) (test (decide ((c6_e_6 n1 ap np tp n2 aq nq tq) ∧ aq + nq ≤ mq ∧ nq ≤ 1000000)) (test (c6_e_4 n1 ap np tp n2 aq nq tq) (test (Prod.fst (Prod.snd (c6_e_0 n1 ap np tp n2 aq nq tq)) == 0) (test (Prod.fst (Prod.snd (c6_e_2 n1 ap np tp n2 aq nq tq)) == 0) (test (c6_e_3 n1 ap np mp tp n2 aq nq tq) (test (c6_e_7 n1 ap np tp n2 aq nq tq) (Kret (PV.tf true) (c6_e_5 mp tp mq tq) (30)) (Kret (PV.tf false) (c6_e_5 mp tp mq tq) (30))) (False)) (Kret (PV.tf false) (c6_e_5 mp tp mq tq) (29))) (Kret (PV.tf false) (c6_e_5 mp tp mq tq) (29))) (False)) (False)))) (False)) (Kret (PV.tf false) (c6_e_5 mp tp mq tq) (22))) (False)) (Kret (PV.tf false) (c6_e_5 mp tp mq tq) (21))) (False))) (False)) (False)) (False)) (False))
noncomputable def Te6 (test : TT) (Kst : KS) (Kret : KR) (n1 : Bool) (ap np mp : Nat) (tp : NI) (n2 : Bool) (aq nq mq : Nat) (tq : NI) : Prop := test (true) (test (true) (test (true) (test (true) (test (lim .i64 ((0 : Int) + (↑np : Int))) (test (true) (test (true) (test (true) (test (lim .i64 ((0 : Int) + (↑np : Int) + (↑nq : Int))) (test (true) (test (false) (test (false) (False) (False)) (test (decide ((0 : Int) + (↑np : Int) + (↑nq : Int) ≤ 80)) (g6_0 test Kst Kret n1 ap np mp tp n2 aq nq mq tq) (test (true) (test (true) (Kret (PV.tf true) (c6_e_5 mp tp mq tq) (7)) (Kret (PV.tf false) (c6_e_5 mp tp mq tq) (7))) (False)))) (False)) (False)) (False)) (test (decide ((0 : Int) + (↑np : Int) ≤ 80)) (g6_0 test Kst Kret n1 ap np mp tp n2 aq nq mq tq) (test (true) (test (true) (Kret (PV.tf true) (c6_e_5 mp tp mq tq) (7)) (Kret (PV.tf false) (c6_e_5 mp tp mq tq) (7))) (False)))) (False)) (False)) (False)) (test (true) (g6_0 test Kst Kret n1 ap np mp tp n2 aq nq mq tq) (test (true) (test (true) (Kret (PV.tf true) (c6_e_5 mp tp mq tq) (7)) (Kret (PV.tf false) (c6_e_5 mp tp mq tq) (7))) (False)))) (test (true) (test (true) (Kret (PV.tf true) (c6_e_5 mp tp mq tq) (6)) (Kret (PV.tf false) (c6_e_5 mp tp mq tq) (6))) (False))) (False)
theorem te6 (test : TT) (Kst : KS) (Kret : KR) (n1 : Bool) (ap np mp : Nat) (tp : NI) (n2 : Bool) (aq nq mq : Nat) (tq : NI) : run test Tryd.env true (xS6 test) true 400 ⟨6, [.cd (mkFn Tryd.f6).body], argT 0 [.agg [.bool n1, .loose ⟨0, 1, ap, 0⟩ np], .agg [.bool n2, .loose ⟨1, 1, aq, 0⟩ nq]], [[], [(0, (false, .cols mp [.int .i64 tp])), (1, (false, .cols mq [.int .i64 tq]))]], 2⟩ (proj 2 [] Kst Kret) =
  Te6 test Kst Kret n1 ap np mp tp n2 aq nq mq tq := by kernel_rfl
noncomputable abbrev J6 (n1 : Bool) (ap np mp : Nat) (tp : NI) (n2 : Bool) (aq nq mq : Nat) (tq : NI) : Rt6 → Heap := fun r => [newL (2 + 1) ((N6 n1 ap np mp tp n2 aq nq mq tq) r) ++ [(0, (false, .cols mp [.int .i64 tp])), (1, (false, .cols mq [.int .i64 tq]))]]
attribute [local irreducible] Int.subNatNat in
theorem be6 (n1 : Bool) (ap np mp : Nat) (tp : NI) (n2 : Bool) (aq nq mq : Nat) (tq : NI) (Kst : KS) (Kret : KR) (x : St6 ⊕ Rt6) (hS : HS 2 400 ((I6 n1 ap np mp tp n2 aq nq mq tq)) Kst x) (hR : HR 2 400 ((V6 n1 ap np mp tp n2 aq nq mq tq)) (J6 n1 ap np mp tp n2 aq nq mq tq) Kret x) (h : p6 n1 ap np mp tp n2 aq nq mq tq = some x) : Te6 cond Kst Kret n1 ap np mp tp n2 aq nq mq tq := by
  unfold Te6
  unfold p6 at h
  exact cond_yes rfl (cond_yes rfl (cond_yes rfl (cond_yes rfl (bif_split h (fun c0 h => cond_yes rfl (cond_yes rfl (cond_yes rfl (bif_split h (fun c1 h => cond_yes rfl (cond_no rfl (bif_split h (fun c2 h => bif_split h (fun c3 h => bif_split h (fun c4 h => bif_split h (fun c5 h => bif_split h (fun c6 h => bif_split h (fun c7 h => ret_at hR _ h (fun n => n) rfl rfl rfl (rn_bool_tf rfl) rfl (entl_bor (use_lo rfl) rfl rfl (entl_bor (use_lo rfl) rfl rfl entl_nil))) (fun c7 h => bif_split h (fun c8 h => bif_split h (fun c9 h => bif_split h (fun c10 h => bif_split h (fun c11 h => cond_yes c3 (bif_split h (fun c12 h => cond_yes c4 (bif_split h (fun c13 h => cond_yes c6 (bif_split h (fun c14 h => bif_split h (fun c15 h => ret_at hR _ h (fun n => n) rfl rfl rfl (rn_bool_tf rfl) rfl (entl_bor (use_lo rfl) rfl rfl (entl_bor (use_lo rfl) rfl rfl entl_nil))) (fun c15 h => bif_split h (fun c16 h => cond_yes c14 (bif_split h (fun c17 h => bif_split h (fun c18 h => ret_at hR _ h (fun n => n) rfl rfl rfl (rn_bool_tf rfl) rfl (entl_bor (use_lo rfl) rfl rfl (entl_bor (use_lo rfl) rfl rfl entl_nil))) (fun c18 h => bif_split h (fun c19 h => ret_at hR _ h (fun n => n) rfl rfl rfl (rn_bool_tf rfl) rfl (entl_bor (use_lo rfl) rfl rfl (entl_bor (use_lo rfl) rfl rfl entl_nil))) (fun c19 h => bif_split h (fun c20 h => bif_split h (fun c21 h => bif_split h (fun c22 h => bif_split h (fun c23 h => bif_split h (fun c24 h => bif_split h (fun c25 h => ret_at hR _ h (fun n => n) rfl rfl rfl (rn_bool_tf rfl) rfl (entl_bor (use_lo rfl) rfl rfl (entl_bor (use_lo rfl) rfl rfl entl_nil))) (fun c25 h => ret_at hR _ h (fun n => n) rfl rfl rfl (rn_bool_tf rfl) rfl (entl_bor (use_lo rfl) rfl rfl (entl_bor (use_lo rfl) rfl rfl entl_nil)))) (fun c24 h => no_some h)) (fun c23 h => ret_at hR _ h (fun n => n) rfl rfl rfl (rn_bool_tf rfl) rfl (entl_bor (use_lo rfl) rfl rfl (entl_bor (use_lo rfl) rfl rfl entl_nil)))) (fun c22 h => ret_at hR _ h (fun n => n) rfl rfl rfl (rn_bool_tf rfl) rfl (entl_bor (use_lo rfl) rfl rfl (entl_bor (use_lo rfl) rfl rfl entl_nil)))) (fun c21 h => no_some h)) (fun c20 h => no_some h)))) (fun c17 h => no_some h))) (fun c16 h => no_some h))) (fun c14 h => no_some h))) (fun c13 h => bif_split h (fun c14 h => ret_at hR _ h (fun n => n) rfl rfl rfl (rn_bool_tf rfl) rfl (entl_bor (use_lo rfl) rfl rfl (entl_bor (use_lo rfl) rfl rfl entl_nil))) (fun c14 h => bif_split h (fun c15 h => bif_split h (fun c16 h => bif_split h (fun c17 h => bif_split h (fun c18 h => bif_split h (fun c19 h => bif_split h (fun c20 h => ret_at hR _ h (fun n => n) rfl rfl rfl (rn_bool_tf rfl) rfl (entl_bor (use_lo rfl) rfl rfl (entl_bor (use_lo rfl) rfl rfl entl_nil))) (fun c20 h => ret_at hR _ h (fun n => n) rfl rfl rfl (rn_bool_tf rfl) rfl (entl_bor (use_lo rfl) rfl rfl (entl_bor (use_lo rfl) rfl rfl entl_nil)))) (fun c19 h => no_some h)) (fun c18 h => ret_at hR _ h (fun n => n) rfl rfl rfl (rn_bool_tf rfl) rfl (entl_bor (use_lo rfl) rfl rfl (entl_bor (use_lo rfl) rfl rfl entl_nil)))) (fun c17 h => ret_at hR _ h (fun n => n) rfl rfl rfl (rn_bool_tf rfl) rfl (entl_bor (use_lo rfl) rfl rfl (entl_bor (use_lo rfl) rfl rfl entl_nil)))) (fun c16 h => no_some h)) (fun c15 h => no_some h))))) (fun c12 h => bif_split h (fun c13 h => ret_at hR _ h (fun n => n) rfl rfl rfl (rn_bool_tf rfl) rfl (entl_bor (use_lo rfl) rfl rfl (entl_bor (use_lo rfl) rfl rfl entl_nil))) (fun c13 h => bif_split h (fun c14 h => bif_split h (fun c15 h => bif_split h (fun c16 h => bif_split h (fun c17 h => bif_split h (fun c18 h => bif_split h (fun c19 h => ret_at hR _ h (fun n => n) rfl rfl rfl (rn_bool_tf rfl) rfl (entl_bor (use_lo rfl) rfl rfl (entl_bor (use_lo rfl) rfl rfl entl_nil))) (fun c19 h => ret_at hR _ h (fun n => n) rfl rfl rfl (rn_bool_tf rfl) rfl (entl_bor (use_lo rfl) rfl rfl (entl_bor (use_lo rfl) rfl rfl entl_nil)))) (fun c18 h => no_some h)) (fun c17 h => ret_at hR _ h (fun n => n) rfl rfl rfl (rn_bool_tf rfl) rfl (entl_bor (use_lo rfl) rfl rfl (entl_bor (use_lo rfl) rfl rfl entl_nil)))) (fun c16 h => ret_at hR _ h (fun n => n) rfl rfl rfl (rn_bool_tf rfl) rfl (entl_bor (use_lo rfl) rfl rfl (entl_bor (use_lo rfl) rfl rfl entl_nil)))) (fun c15 h => no_some h)) (fun c14 h => no_some h))))) (fun c11 h => ret_at hR _ h (fun n => n) rfl rfl rfl (rn_bool_tf rfl) rfl (entl_bor (use_lo rfl) rfl rfl (entl_bor (use_lo rfl) rfl rfl entl_nil)))) (fun c10 h => no_some h)) (fun c9 h => ret_at hR _ h (fun n => n) rfl rfl rfl (rn_bool_tf rfl) rfl (entl_bor (use_lo rfl) rfl rfl (entl_bor (use_lo rfl) rfl rfl entl_nil)))) (fun c8 h => no_some h))) (fun c6 h => no_some h)) (fun c5 h => no_some h)) (fun c4 h => no_some h)) (fun c3 h => no_some h)) (fun c2 h => cond_yes rfl (cond_yes rfl (ret_at hR _ h (fun n => n) rfl rfl rfl (rn_bool_tf rfl) rfl (entl_bor (use_lo rfl) rfl rfl (entl_bor (use_lo rfl) rfl rfl entl_nil)))))))) (fun c1 h => no_some h))))) (fun c0 h => no_some h)))))
theorem a6 (n1 : Bool) (ap np mp : Nat) (tp : NI) (n2 : Bool) (aq nq mq : Nat) (tq : NI) {r : Rt6} (h : Goes ((q6 n1 ap np mp tp n2 aq nq mq tq)) ((p6 n1 ap np mp tp n2 aq nq mq tq)) r) : CallR Tryd.prog 6 [.agg [.bool n1, .loose ⟨0, 1, ap, 0⟩ np], .agg [.bool n2, .loose ⟨1, 1, aq, 0⟩ nq]] [[(0, (false, .cols mp [.int .i64 tp])), (1, (false, .cols mq [.int .i64 tq]))]] 2 ((V6 n1 ap np mp tp n2 aq nq mq tq) r) ((J6 n1 ap np mp tp n2 aq nq mq tq) r) 400 ∧ ∃ F, Tryd.prog.funcs[6]? = some F ∧ F.body.isSome = true ∧ (F.name == "runtime.NumGoroutine") = false := by
  refine dec_calls (f := 6) (lo := 2) (hi := 400) Tryd.envOk Tryd.mixed xS6_ok ((I6 n1 ap np mp tp n2 aq nq mq tq)) ((V6 n1 ap np mp tp n2 aq nq mq tq)) (J6 n1 ap np mp tp n2 aq nq mq tq) (fn := mkFn Tryd.f6) (ts := []) (n := 400) rfl (by decide) (by simp) (names_of rfl) ?_ ?_ ?_ h
  · intro s; exact s.elim
  · intro Kst Kret x hS hR h
    exact Holds.eq (te6 cond Kst Kret n1 ap np mp tp n2 aq nq mq tq) (be6 n1 ap np mp tp n2 aq nq mq tq Kst Kret x hS hR h)
  · intro Kst Kret x hS hR s h; exact s.elim
noncomputable abbrev w6 {α : Type} (g : Bool → Nat → Nat → Nat → (Nat → Int) → Bool → Nat → Nat → Nat → (Nat → Int) → α) (x : (Bool × (Nat × Nat × Nat × (Nat → Int) × Unit) × Unit) × (Bool × (Nat × Nat × Nat × (Nat → Int) × Unit) × Unit) × Unit) : α := g x.1.1 x.1.2.1.1 x.1.2.1.2.1 x.1.2.1.2.2.1 x.1.2.1.2.2.2.1 x.2.1.1 x.2.1.2.1.1 x.2.1.2.1.2.1 x.2.1.2.1.2.2.1 x.2.1.2.1.2.2.2.1
noncomputable def k6  : Con := ⟨6, [.agg [.plain (.bool), .list [.int .i64]], .agg [.plain (.bool), .list [.int .i64]]], w6 (fun n1 ap np mp tp n2 aq nq mq tq => decide (ap + np ≤ mp ∧ aq + nq ≤ mq ∧ np ≤ reachBytes ∧ nq ≤ reachBytes)), w6 (fun n1 ap np mp tp n2 aq nq mq tq => (V6 n1 ap np mp tp n2 aq nq mq tq) (true)), w6 (fun n1 ap np mp tp n2 aq nq mq tq => (N6 n1 ap np mp tp n2 aq nq mq tq) (true)), fun _ _ => .dead⟩
theorem s6 (n1 : Bool) (ap np mp : Nat) (tp : Nat → Int) (n2 : Bool) (aq nq mq : Nat) (tq : Nat → Int) (hp : ap + np ≤ mp ∧ aq + nq ≤ mq ∧ np ≤ reachBytes ∧ nq ≤ reachBytes) : Goes ((q6 n1 ap np mp tp n2 aq nq mq tq)) ((p6 n1 ap np mp tp n2 aq nq mq tq)) (true) := by
  obtain ⟨hp1, hp2, hp3, hp4⟩ := hp
  unfold reachBytes at hp3 hp4
  by_cases h0 : (0 : Int) + np + nq ≤ 80
  · have hS : S.samI n1 np (fun j => S.at' (S.mkl np (fun j => tp (j + ap))) j) n1 np (fun j => tp (j + ap)) = true := decide_eq_true ⟨rfl, mkl_congr fun j hj => at_mkl hj⟩
    have hb := @cmpI_b n1 n2 np nq (fun j => tp (j + ap)) (fun j => tq (j + aq))
    obtain ⟨hl1, hl2⟩ := @divI_len n1 n2 np nq (fun j => tp (j + ap)) (fun j => tq (j + aq))
    have key : (S.divI n1 np (fun j => tp (j + ap)) n2 nq (fun j => tq (j + aq))).2.1 ≠ 0 ∨ (S.okI n1 np (fun j => tp (j + ap)) = true ∧ S.okI n2 nq (fun j => tq (j + aq)) = true ∧ nq ≠ 0) := by
      by_cases g1 : S.okI n1 np (fun j => tp (j + ap)) = true
      · by_cases g2 : S.okI n2 nq (fun j => tq (j + aq)) = true
        · by_cases hm : nq = 0
          · left; unfold S.divI; rw [if_pos ⟨g1, g2⟩, if_pos hm]; decide
          · right; exact ⟨g1, g2, hm⟩
        · left; unfold S.divI; rw [if_neg fun h => g2 h.2]; decide
      · left; unfold S.divI; rw [if_neg fun h => g1 h.1]; decide
    rcases key with hne | ⟨g1, g2, hm⟩
    · have hne' : ((S.divI n1 np (fun j => tp (j + ap)) n2 nq (fun j => tq (j + aq))).2.1 != 0) = true := by simpa using hne
      by_cases g1 : S.okI n1 np (fun j => tp (j + ap)) = true
      · by_cases g2 : S.okI n2 nq (fun j => tq (j + aq)) = true
        · unfold p6
          simp only [-eq_self, c6_e_0, c6_e_1, c6_e_2, c6_e_3, c6_e_4, c6_e_5, c6_e_6, c6_e_7, c6_e_8, c6_e_9, c6_e_10, c6_e_11, c6_e_12, c6_e_13, d6_0, mkl_len, divI_mk, cmpI_neg (n1 := n1) (n := np) (t := (fun j => tp (j + ap))), g1, g2, hne', cond_true, cond_false]
          generalize (S.divI n1 np (fun j => tp (j + ap)) n2 nq (fun j => tq (j + aq))) = D at *
          generalize S.cmpI n1 np (fun j => tp (j + ap)) n2 nq (fun j => tq (j + aq)) = C at *
          repeat' first
            | with_reducible exact goes_inr.mpr rfl
            | (refine goes_ok ?_ ?_; focus (first | with_reducible exact beq_self_eq_true _ | (simp only [Bool.and_eq_true, decide_eq_true_eq, and_self, eq_self]; done) | with_reducible exact decide_eq_true trivial | with_reducible exact decide_eq_true rfl | (simp only [eq_self, decide_true, Bool.and_self, Bool.and_true, Bool.true_and]; done) | (apply decide_eq_true; omega) | (rw [lim64]; apply decide_eq_true; omega) | (apply decide_eq_true; simp only [mkl_len, mkl_zero, List.length_nil, true_and, and_true, and_self, Nat.zero_add, Nat.add_zero, Nat.le_refl]; done) | (apply decide_eq_true; simp only [mkl_len, mkl_zero, List.length_nil, true_and, and_true, and_self, Nat.zero_add, Nat.add_zero, Nat.le_refl]; omega) | decide | exact samI_self | exact hS | assumption | exact beq_self_eq_true _ | (rw [hD0]; rfl) | (exact decide_eq_true ⟨⟨hp1, by omega⟩, hp2, by omega, g1, g2⟩)))
            | (refine goes_no ?_ ?_; focus (first | with_reducible exact bne_self_eq_false _ | (apply decide_eq_false; omega) | decide | exact bne_self_eq_false _ | (rw [hD0]; rfl)))

        · have g2 := Bool.not_eq_true _ ▸ g2
          unfold p6
          simp only [-eq_self, c6_e_0, c6_e_1, c6_e_2, c6_e_3, c6_e_4, c6_e_5, c6_e_6, c6_e_7, c6_e_8, c6_e_9, c6_e_10, c6_e_11, c6_e_12, c6_e_13, d6_0, mkl_len, divI_mk, g1, g2, hne', cond_true, cond_false]
          generalize (S.divI n1 np (fun j => tp (j + ap)) n2 nq (fun j => tq (j + aq))) = D at *
          repeat' first
            | with_reducible exact goes_inr.mpr rfl
            | (refine goes_ok ?_ ?_; focus (first | with_reducible exact beq_self_eq_true _ | (simp only [Bool.and_eq_true, decide_eq_true_eq, and_self, eq_self]; done) | with_reducible exact decide_eq_true trivial | with_reducible exact decide_eq_true rfl | (simp only [eq_self, decide_true, Bool.and_self, Bool.and_true, Bool.true_and]; done) | (apply decide_eq_true; omega) | (rw [lim64]; apply decide_eq_true; omega) | (apply decide_eq_true; simp only [mkl_len, mkl_zero, List.length_nil, true_and, and_true, and_self, Nat.zero_add, Nat.add_zero, Nat.le_refl]; done) | (apply decide_eq_true; simp only [mkl_len, mkl_zero, List.length_nil, true_and, and_true, and_self, Nat.zero_add, Nat.add_zero, Nat.le_refl]; omega) | decide | exact samI_self | exact hS | assumption | exact beq_self_eq_true _ | (rw [hD0]; rfl) | (exact decide_eq_true ⟨⟨hp1, by omega⟩, hp2, by omega, g1, g2⟩)))
            | (refine goes_no ?_ ?_; focus (first | with_reducible exact bne_self_eq_false _ | (apply decide_eq_false; omega) | decide | exact bne_self_eq_false _ | (rw [hD0]; rfl)))

      · have g1 := Bool.not_eq_true _ ▸ g1
        unfold p6
        simp only [-eq_self, c6_e_0, c6_e_1, c6_e_2, c6_e_3, c6_e_4, c6_e_5, c6_e_6, c6_e_7, c6_e_8, c6_e_9, c6_e_10, c6_e_11, c6_e_12, c6_e_13, d6_0, mkl_len, divI_mk, g1, hne', cond_true, cond_false]
        generalize (S.divI n1 np (fun j => tp (j + ap)) n2 nq (fun j => tq (j + aq))) = D at *
        repeat' first
          | with_reducible exact goes_inr.mpr rfl
          | (refine goes_ok ?_ ?_; focus (first | with_reducible exact beq_self_eq_true _ | (simp only [Bool.and_eq_true, decide_eq_true_eq, and_self, eq_self]; done) | with_reducible exact decide_eq_true trivial | with_reducible exact decide_eq_true rfl | (simp only [eq_self, decide_true, Bool.and_self, Bool.and_true, Bool.true_and]; done) | (apply decide_eq_true; omega) | (rw [lim64]; apply decide_eq_true; omega) | (apply decide_eq_true; simp only [mkl_len, mkl_zero, List.length_nil, true_and, and_true, and_self, Nat.zero_add, Nat.add_zero, Nat.le_refl]; done) | (apply decide_eq_true; simp only [mkl_len, mkl_zero, List.length_nil, true_and, and_true, and_self, Nat.zero_add, Nat.add_zero, Nat.le_refl]; omega) | decide | exact samI_self | exact hS | assumption | exact beq_self_eq_true _ | (rw [hD0]; rfl) | (exact decide_eq_true ⟨⟨hp1, by omega⟩, hp2, by omega, g1, g2⟩)))
          | (refine goes_no ?_ ?_; focus (first | with_reducible exact bne_self_eq_false _ | (apply decide_eq_false; omega) | decide | exact bne_self_eq_false _ | (rw [hD0]; rfl)))

    · obtain ⟨M, hM⟩ : ∃ M, S.mulI (S.divI n1 np (fun j => tp (j + ap)) n2 nq (fun j => tq (j + aq))).1 (S.divI n1 np (fun j => tp (j + ap)) n2 nq (fun j => tq (j + aq))).2.2.2.length (fun j => S.at' (S.divI n1 np (fun j => tp (j + ap)) n2 nq (fun j => tq (j + aq))).2.2.2 j) n2 nq (fun j => tq (j + aq)) = M := ⟨_, rfl⟩
      have hk := div_back g1 g2 hm (by omega) (D := (S.divI n1 np (fun j => tp (j + ap)) n2 nq (fun j => tq (j + aq)))) rfl hM
      have lM : M.2.2.length ≤ 80 := by rw [← hM]; exact mulI_len
      obtain ⟨hD0, hM0, hA⟩ := hk
      have hS2 : S.samI n1 (S.mkl np (fun j => tp (j + ap))).length (fun j => S.at' (S.mkl np (fun j => tp (j + ap))) j) n1 np (fun j => tp (j + ap)) = true := by rw [mkl_len]; exact hS
      unfold p6
      simp only [-eq_self, c6_e_0, c6_e_1, c6_e_2, c6_e_3, c6_e_4, c6_e_5, c6_e_6, c6_e_7, c6_e_8, c6_e_9, c6_e_10, c6_e_11, c6_e_12, c6_e_13, d6_0, mkl_len, divI_mk, cmpI_neg (n1 := n1) (n := np) (t := (fun j => tp (j + ap))), g1, g2, cond_true, cond_false, hM, hA]
      simp only [mkl_len] at hS2
      generalize (S.divI n1 np (fun j => tp (j + ap)) n2 nq (fun j => tq (j + aq))) = D at *
      generalize S.cmpI n1 np (fun j => tp (j + ap)) n2 nq (fun j => tq (j + aq)) = C at *
      repeat' first
        | with_reducible exact goes_inr.mpr rfl
        | (refine goes_ok ?_ ?_; focus (first | with_reducible exact beq_self_eq_true _ | (simp only [Bool.and_eq_true, decide_eq_true_eq, and_self, eq_self]; done) | with_reducible exact decide_eq_true trivial | with_reducible exact decide_eq_true rfl | (simp only [eq_self, decide_true, Bool.and_self, Bool.and_true, Bool.true_and]; done) | (apply decide_eq_true; omega) | (rw [lim64]; apply decide_eq_true; omega) | (apply decide_eq_true; simp only [mkl_len, mkl_zero, List.length_nil, true_and, and_true, and_self, Nat.zero_add, Nat.add_zero, Nat.le_refl]; done) | (apply decide_eq_true; simp only [mkl_len, mkl_zero, List.length_nil, true_and, and_true, and_self, Nat.zero_add, Nat.add_zero, Nat.le_refl]; omega) | decide | exact samI_self | exact hS | assumption | (rw [hM0]; rfl) | exact beq_self_eq_true _ | (rw [hD0]; rfl) | (exact decide_eq_true ⟨⟨hp1, by omega⟩, hp2, by omega, g1, g2⟩)))
        | (refine goes_no ?_ ?_; focus (first | with_reducible exact bne_self_eq_false _ | (apply decide_eq_false; omega) | decide | exact bne_self_eq_false _ | (rw [hD0]; rfl)))

  · unfold p6
    repeat' (first | with_reducible refine goes_if (fun h => ?_) (fun h => ?_) <;> (try simp only [SH] at h) | exact goes_none.mpr (by omega))
    all_goals first | (exfalso; omega) | exact goes_inr.mpr rfl
theorem k6_ok  : k6.ok Tryd.prog := by
  intro x hx
  obtain ⟨⟨n1, ⟨ap, np, mp, tp, _⟩, _⟩, ⟨n2, ⟨aq, nq, mq, tq, _⟩, _⟩, _⟩ := x
  obtain ⟨h1, h2⟩ := a6 n1 ap np mp tp n2 aq nq mq tq (s6 n1 ap np mp tp n2 aq nq mq tq (of_dec hx rfl))
  exact ⟨⟨400, (by decide : 2 + 1 + 0 ≤ 400), h1⟩, h2⟩
theorem pre6  {x : SsI k6.ss} (hx : ssFits k6.ss x) (hz : ssSmall reachBytes k6.ss x) : k6.pre (ssj k6.ss x) = true := by
  obtain ⟨⟨b0, ⟨n, t, u'⟩, u1⟩, ⟨b1, ⟨m, t2, u2⟩, u3⟩, u''⟩ := x
  obtain ⟨⟨-, hn, -⟩, ⟨-, hm, -⟩, -⟩ := hz
  exact decide_eq_true ⟨Nat.le_of_eq (Nat.zero_add _), Nat.le_of_eq (Nat.zero_add _), hn, hm⟩
end Go.Ev
