/-
  Places.
-/
import Derived.Test.YtejcmbcmhfejkaaC2x
namespace Go.Ev
open Go.Proofs
set_option linter.unusedVariables false
set_option linter.unusedSimpArgs false
set_option maxRecDepth 100000

theorem posP_mem {B : Nat → Bool} : ∀ {n q : Nat}, q < (S.posP B n).length → ∃ x : Nat, x < n ∧ S.at' (S.posP B n) q = (x : Int) ∧ B x = true
  | 0, q, h => absurd h (Nat.not_lt_zero q)
  | n + 1, q, h => by
    by_cases hB : B n = true
    · have e : S.posP B (n + 1) = S.snoc (S.posP B n) (n : Int) := if_pos hB
      rw [e] at h ⊢
      rw [snoc_len] at h
      by_cases hq : q < (S.posP B n).length
      · obtain ⟨x, h1, h2, h3⟩ := posP_mem hq
        exact ⟨x, by omega, by rw [at_snoc_lt hq]; exact h2, h3⟩
      · obtain rfl : q = (S.posP B n).length := by omega
        exact ⟨n, by omega, at_snoc_eq, hB⟩
    · have e : S.posP B (n + 1) = S.posP B n := if_neg hB
      rw [e] at h ⊢
      obtain ⟨x, h1, h2, h3⟩ := posP_mem h
      exact ⟨x, by omega, h2, h3⟩
theorem posP_ex {B : Nat → Bool} : ∀ {n x : Nat}, x < n → B x = true → ∃ q, q < (S.posP B n).length ∧ S.at' (S.posP B n) q = (x : Int)
  | 0, x, h, _ => absurd h (Nat.not_lt_zero x)
  | n + 1, x, h, hx => by
    by_cases hB : B n = true
    · have e : S.posP B (n + 1) = S.snoc (S.posP B n) (n : Int) := if_pos hB
      rw [e, snoc_len]
      by_cases hn : x < n
      · obtain ⟨q, h1, h2⟩ := posP_ex hn hx
        exact ⟨q, by omega, by rw [at_snoc_lt h1]; exact h2⟩
      · obtain rfl : x = n := by omega
        exact ⟨(S.posP B x).length, by omega, at_snoc_eq⟩
    · have e : S.posP B (n + 1) = S.posP B n := if_neg hB
      rw [e]
      by_cases hn : x < n
      · exact posP_ex hn hx
      · obtain rfl : x = n := by omega
        exact absurd hx hB
theorem posP_asc {B : Nat → Bool} : ∀ {n q : Nat}, q < (S.posP B n).length → 0 < q → S.at' (S.posP B n) (q - 1) < S.at' (S.posP B n) q
  | 0, q, h, _ => absurd h (Nat.not_lt_zero q)
  | n + 1, q, h, h0 => by
    by_cases hB : B n = true
    · have e : S.posP B (n + 1) = S.snoc (S.posP B n) (n : Int) := if_pos hB
      rw [e] at h ⊢
      rw [snoc_len] at h
      by_cases hq : q < (S.posP B n).length
      · rw [at_snoc_lt hq, at_snoc_lt (by omega)]
        exact posP_asc hq h0
      · obtain rfl : q = (S.posP B n).length := by omega
        rw [at_snoc_eq, at_snoc_lt (by omega)]
        obtain ⟨x, h1, h2, _⟩ := posP_mem (show (S.posP B n).length - 1 < (S.posP B n).length by omega)
        rw [h2]; omega
    · have e : S.posP B (n + 1) = S.posP B n := if_neg hB
      rw [e] at h ⊢
      exact posP_asc h h0
theorem fil_of {h : Int} {n : Nat} {t : Nat → Int} (h1 : 1 ≤ h ∧ h ≤ 2000) (h2 : ∀ j, j < n → 0 ≤ t j ∧ t j < h) (h3 : ∀ j, j < n → 0 < j → t (j - 1) < t j) : S.filE h n t = 0 := by
  unfold S.filE
  rw [if_pos h1]
  exact fillE_ok.mpr fun j _ hj => ⟨h2 j (by omega), fun hc => by have := h3 j (by omega) hc.1; omega⟩
/-- What is made of places is valid. -/
theorem fil_pos {h : Int} {B : Nat → Bool} (h1 : 1 ≤ h ∧ h ≤ 2000) : S.filE h (S.posP B h.toNat).length (S.at' (S.posP B h.toNat)) = 0 := by
  refine fil_of h1 (fun j hj => ?_) (fun j hj h0 => posP_asc hj h0)
  obtain ⟨x, a, c, _⟩ := posP_mem hj
  rw [c]; omega
theorem asc_lt {n : Nat} {t : Nat → Int} (h : ∀ j, j < n → 0 < j → t (j - 1) < t j) {a : Nat} : ∀ {c : Nat}, a < c → c < n → t a < t c
  | 0, h1, _ => absurd h1 (Nat.not_lt_zero a)
  | c + 1, h1, h2 => by
    have h3 : t c < t (c + 1) := h (c + 1) h2 (by omega)
    by_cases hc : a = c
    · subst hc; exact h3
    · exact Int.lt_trans (asc_lt h (by omega) (by omega)) h3
theorem inB_iff {t : Nat → Int} {n j : Nat} : S.inB t n j = true ↔ ∃ q, q < n ∧ t q = (j : Int) := by
  unfold S.inB; rw [any_iff]; simp
/-- The places of an ascending list are the list. -/
theorem posP_self {n : Nat} {t : Nat → Int} (h0 : ∀ j, j < n → 0 ≤ t j) (h : ∀ j, j < n → 0 < j → t (j - 1) < t j) : ∀ k : Nat, ∃ c, c ≤ n ∧ S.posP (S.inB t n) k = S.mkl c t ∧ (∀ q, q < c → t q < k) ∧ ∀ q, c ≤ q → q < n → (k : Int) ≤ t q
  | 0 => ⟨0, Nat.zero_le _, rfl, fun q hq => absurd hq (Nat.not_lt_zero q), fun q _ hq => h0 q hq⟩
  | k + 1 => by
    obtain ⟨c, c1, c2, c3, c4⟩ := posP_self h0 h k
    by_cases hB : S.inB t n k = true
    · have e : S.posP (S.inB t n) (k + 1) = S.snoc (S.posP (S.inB t n) k) (k : Int) := if_pos hB
      obtain ⟨q, q1, q2⟩ := inB_iff.mp hB
      have hq : c ≤ q := by
        rcases Nat.lt_or_ge q c with h5 | h5
        · have := c3 q h5; omega
        · exact h5
      have hc : q = c := by
        rcases Nat.lt_or_eq_of_le hq with h5 | h5
        · have h6 := asc_lt h h5 q1
          have h7 := c4 c (Nat.le_refl _) (by omega)
          omega
        · exact h5.symm
      subst hc
      refine ⟨q + 1, by omega, by rw [e, c2, mkl_succ, q2], fun p hp => ?_, fun p h5 h6 => ?_⟩
      · rcases Nat.lt_or_eq_of_le (Nat.le_of_lt_succ hp) with h5 | h5
        · have := c3 p h5; omega
        · subst h5; omega
      · have := asc_lt h (show q < p by omega) h6; omega
    · have e : S.posP (S.inB t n) (k + 1) = S.posP (S.inB t n) k := if_neg hB
      refine ⟨c, c1, by rw [e, c2], fun p hp => by have := c3 p hp; omega, fun p h5 h6 => ?_⟩
      have h7 := c4 p h5 h6
      have h8 : t p ≠ (k : Int) := fun e => hB (inB_iff.mpr ⟨p, h6, e⟩)
      omega
theorem posP_fil {h : Int} {n : Nat} {t : Nat → Int} (e : S.filE h n t = 0) : S.posP (S.inB t n) h.toNat = S.mkl n t := by
  obtain ⟨v1, v2, v3, v4⟩ := fil_ok e
  obtain ⟨c, c1, c2, c3, c4⟩ := posP_self (fun j hj => (v3 j hj).1) v4 h.toNat
  rw [c2]
  obtain rfl : c = n := by
    rcases Nat.lt_or_eq_of_le c1 with h5 | h5
    · have h6 := c4 c (Nat.le_refl _) h5
      have h7 := (v3 c h5).2
      omega
    · exact h5
  rfl
theorem mdl_em {n h : Int} (hh : 0 < h) : S.mdl n h = n % h := by
  have h1 := tmod_lt (n := n) hh
  unfold S.mdl
  rw [Int.tmod_eq_emod_of_nonneg (by omega), Int.add_emod_right]
  have e : n = Int.tmod n h + h * Int.tdiv n h := by have := Int.mul_tdiv_add_tmod n h; omega
  conv => rhs; rw [e, Int.add_mul_emod_self_left]
theorem mdl_back {x v h : Int} (hx : 0 ≤ x ∧ x < h) : S.mdl (S.mdl (x + v) h + -v) h = x := by
  rw [mdl_em (by omega), mdl_em (by omega), Int.add_emod, Int.emod_emod, ← Int.add_emod, show x + v + -v = x by omega]
  exact Int.emod_eq_of_lt hx.1 hx.2
/-- Turned back it is the same. -/
theorem turn_back {h v : Int} {n : Nat} {t : Nat → Int} (e : S.filE h n t = 0) {L : List Int} (hL : L = S.posP (S.inB (S.turnT h v t) n) h.toNat) : S.posP (S.inB (S.turnT h (-v) (S.at' L)) L.length) h.toNat = S.mkl n t := by
  rw [← posP_fil e]
  obtain ⟨v1, v2, v3, v4⟩ := fil_ok e
  refine posP_congr fun j hj => ?_
  rw [Bool.eq_iff_iff, inB_iff, inB_iff]
  subst hL
  constructor
  · rintro ⟨q, h1, h2⟩
    obtain ⟨x, x1, x2, x3⟩ := posP_mem h1
    obtain ⟨p, p1, p2⟩ := inB_iff.mp x3
    refine ⟨p, p1, ?_⟩
    have h3 : S.mdl (S.at' (S.posP (S.inB (S.turnT h v t) n) h.toNat) q + -v) h = (j : Int) := h2
    have h4 : S.mdl (t p + v) h = (x : Int) := p2
    rw [x2, ← h4, mdl_back (v3 p p1)] at h3
    exact h3
  · rintro ⟨p, p1, p2⟩
    have h4 := mdl_ok (n := t p + v) (h := h) (by omega)
    obtain ⟨q, q1, q2⟩ := posP_ex (B := S.inB (S.turnT h v t) n) (n := h.toNat) (x := (S.mdl (t p + v) h).toNat) (by omega) (inB_iff.mpr ⟨p, p1, show S.mdl (t p + v) h = _ by omega⟩)
    refine ⟨q, q1, ?_⟩
    show S.mdl (S.at' _ q + -v) h = (j : Int)
    rw [q2, Int.toNat_of_nonneg h4.1, mdl_back (v3 p p1), p2]

end Go.Ev
