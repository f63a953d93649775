/-
  Injections.
-/
import Derived.Test.YtejcmbcmhfejkaaC2
namespace Go.Ev
open Go.Proofs
set_option linter.unusedVariables false
set_option linter.unusedSimpArgs false
set_option maxRecDepth 100000

namespace S
def injK (pl : Nat → Int) : Nat → Nat → List Bool → Int × Int × List Int
  | _, 0, L => ((L.length : Int), 0, posP (at' L) L.length)
  | i, k + 1, L => if at' L (pl i).toNat = true then (0, 12, []) else injK pl (i + 1) k (mkl L.length fun j => bif j.beq (pl i).toNat then true else at' L j)
def injP (h a z : Int) (k : Nat) : Int := Int.tmod (a + (k : Int) * z) h
def injS (h : Int) (n : Nat) (t : Nat → Int) (a m z : Int) : Int × Int × List Int := if filE h n t = 0 then (if (0 ≤ a ∧ a < h) ∧ (1 ≤ m ∧ m ≤ h) ∧ 1 ≤ z ∧ z ≤ h then injK (injP h a z) 0 m.toNat (mkl h.toNat fun j => inB t n j) else (0, 6, [])) else (0, filE h n t, [])
end S
theorem posP_set {B : Nat → Bool} {x : Nat} (hx : B x = false) : ∀ {n : Nat}, x < n → (S.posP (fun j => bif j.beq x then true else B j) n).length = (S.posP B n).length + 1
  | 0, h => absurd h (Nat.not_lt_zero x)
  | n + 1, h => by
    by_cases hn : n = x
    · subst hn
      have e1 : S.posP (fun j => bif j.beq n then true else B j) (n + 1) = S.snoc (S.posP (fun j => bif j.beq n then true else B j) n) (n : Int) := if_pos (by show (bif n.beq n then true else B n) = true; rw [Nat.beq_refl]; rfl)
      have e2 : S.posP B (n + 1) = S.posP B n := if_neg (by rw [hx]; exact Bool.false_ne_true)
      rw [e1, e2, snoc_len, posP_congr (q := B) fun j hj => by rw [nbeq_no (by omega)]; rfl]
    · have ih := posP_set hx (n := n) (by omega)
      have e0 : (bif n.beq x then true else B n) = B n := by rw [nbeq_no hn]; rfl
      by_cases hB : B n = true
      · have e1 : S.posP (fun j => bif j.beq x then true else B j) (n + 1) = S.snoc (S.posP (fun j => bif j.beq x then true else B j) n) (n : Int) := if_pos (e0.trans hB)
        have e2 : S.posP B (n + 1) = S.snoc (S.posP B n) (n : Int) := if_pos hB
        rw [e1, e2, snoc_len, snoc_len, ih]
      · have e1 : S.posP (fun j => bif j.beq x then true else B j) (n + 1) = S.posP (fun j => bif j.beq x then true else B j) n := if_neg (fun e => hB (e0.symm.trans e))
        have e2 : S.posP B (n + 1) = S.posP B n := if_neg hB
        rw [e1, e2, ih]
theorem injK_ok {pl : Nat → Int} : ∀ {k i : Nat} {L : List Bool}, (∀ j, 0 ≤ pl j ∧ pl j < L.length) → (S.injK pl i k L).2.1 ≠ 0 ∧ (S.injK pl i k L).2.2 = [] ∨ ∃ B : Nat → Bool, S.injK pl i k L = ((L.length : Int), 0, S.posP B L.length) ∧ (∀ j, j < L.length → S.at' L j = true → B j = true) ∧ (S.posP B L.length).length = (S.posP (S.at' L) L.length).length + k
  | 0, i, L, _ => Or.inr ⟨S.at' L, rfl, fun _ _ h => h, rfl⟩
  | k + 1, i, L, hp => by
    have e : S.injK pl i (k + 1) L = if S.at' L (pl i).toNat = true then (0, 12, []) else S.injK pl (i + 1) k (S.mkl L.length fun j => bif j.beq (pl i).toNat then true else S.at' L j) := rfl
    by_cases h1 : S.at' L (pl i).toNat = true
    · rw [e, if_pos h1]; exact Or.inl ⟨by decide, rfl⟩
    · rw [e, if_neg h1]
      rw [Bool.not_eq_true] at h1
      have hl : (S.mkl L.length fun j => bif j.beq (pl i).toNat then true else S.at' L j).length = L.length := mkl_len
      rcases injK_ok (pl := pl) (k := k) (i := i + 1) (L := S.mkl L.length fun j => bif j.beq (pl i).toNat then true else S.at' L j) (by rw [hl]; exact hp) with h2 | ⟨B, h2, h3, h4⟩
      · exact Or.inl h2
      · rw [hl] at h2 h3 h4
        refine Or.inr ⟨B, h2, fun j hj h5 => h3 j hj ?_, ?_⟩
        · rw [at_mkl hj, h5]
          cases j.beq (pl i).toNat <;> rfl
        · have hb := hp i
          rw [h4, posP_congr (q := fun j => bif j.beq (pl i).toNat then true else S.at' L j) fun j hj => at_mkl hj, posP_set h1 (by omega)]
          omega
theorem inj_law {h a m z : Int} {n : Nat} {t : Nat → Int} : (S.injS h n t a m z).2.2.length ≤ 2000 ∧ ((S.injS h n t a m z).2.1 ≠ 0 ∨ ((S.injS h n t a m z).2.1 = 0 ∧ S.filE (S.injS h n t a m z).1 (S.injS h n t a m z).2.2.length (fun j => S.at' (S.injS h n t a m z).2.2 j) = 0 ∧ ((S.injS h n t a m z).2.2.length : Int) = n + m ∧ (1 ≤ m ∧ m ≤ 2000) ∧ ∀ i, i < n → S.any (fun j => decide (S.at' (S.injS h n t a m z).2.2 j = t i)) (S.injS h n t a m z).2.2.length = true)) := by
  by_cases h0 : S.filE h n t = 0
  · by_cases hv : (0 ≤ a ∧ a < h) ∧ (1 ≤ m ∧ m ≤ h) ∧ 1 ≤ z ∧ z ≤ h
    · have e : S.injS h n t a m z = S.injK (S.injP h a z) 0 m.toNat (S.mkl h.toNat fun j => S.inB t n j) := by unfold S.injS; rw [if_pos h0, if_pos hv]
      obtain ⟨v1, v2, v3, v4⟩ := fil_ok h0
      have hl : (S.mkl h.toNat fun j => S.inB t n j).length = h.toNat := mkl_len
      rw [e]
      rcases injK_ok (pl := S.injP h a z) (k := m.toNat) (i := 0) (L := S.mkl h.toNat fun j => S.inB t n j) (fun j => by
        have h3 : 0 ≤ (j : Int) * z := Int.mul_nonneg (by omega) (by omega)
        have h1 : 0 ≤ S.injP h a z j := tmod_ge (by omega)
        have h2 : S.injP h a z j < h := (tmod_lt (n := a + (j : Int) * z) (by omega)).2
        rw [hl]; omega) with ⟨h2, h3⟩ | ⟨B, h2, h3, h4⟩
      · rw [h3]; exact ⟨Nat.zero_le _, Or.inl h2⟩
      · rw [hl] at h2 h3 h4
        rw [posP_congr (p := S.at' (S.mkl h.toNat fun j => S.inB t n j)) (q := S.inB t n) fun j hj => at_mkl hj, posP_fil h0, mkl_len] at h4
        rw [show ((h.toNat : Nat) : Int) = h by omega] at h2
        rw [h2]
        refine ⟨Nat.le_trans posP_len (by omega), Or.inr ⟨rfl, fil_pos ⟨v1, v2⟩, ?_, by omega, fun i hi => ?_⟩⟩
        · show (((S.posP B h.toNat).length : Nat) : Int) = _
          rw [h4]; omega
        · have b1 := v3 i hi
          have h5 : B (t i).toNat = true := h3 _ (by omega) (by rw [at_mkl (by omega)]; exact inB_iff.mpr ⟨i, hi, by omega⟩)
          obtain ⟨q, q1, q2⟩ := posP_ex (n := h.toNat) (show (t i).toNat < h.toNat by omega) h5
          refine any_iff.mpr ⟨q, q1, decide_eq_true ?_⟩
          show S.at' (S.posP B h.toNat) q = t i
          rw [q2]; omega
    · have e : S.injS h n t a m z = (0, 6, []) := by unfold S.injS; rw [if_pos h0, if_neg hv]
      rw [e]; exact ⟨Nat.zero_le _, Or.inl (by decide)⟩
  · have e : S.injS h n t a m z = (0, S.filE h n t, []) := by unfold S.injS; rw [if_neg h0]
    rw [e]; exact ⟨Nat.zero_le _, Or.inl h0⟩

end Go.Ev
