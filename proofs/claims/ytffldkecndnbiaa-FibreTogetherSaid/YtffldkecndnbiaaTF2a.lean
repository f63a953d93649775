/-
  Compensate: the specs.
-/
import Derived.Test.YtffldkecndnbiaaTF1
namespace Go.Ev
open Go.Proofs
set_option linter.unusedVariables false
set_option linter.unusedSimpArgs false
set_option maxRecDepth 100000

namespace S
def dnI (p d : Nat → Int) (E : List Int) (q : Nat) : Int := dl p d (at' E q).toNat
def aptE (p j : Nat → Int) (E : List Int) (a c : Nat) : Int := aptI p j (at' E a).toNat (at' E c).toNat
def maxZ (f : Nat → Int) : Nat → Int
  | 0 => 0
  | n + 1 => max (maxZ f n) (f n)
def pairM (g : Nat → Int) (r : Int) : Nat → Int
  | 0 => r
  | k + 1 => max (pairM g r k) (g k)
def remM (g : Nat → Nat → Int) : Nat → Int
  | 0 => 0
  | i + 1 => pairM (g i) (remM g i) i
def limK (f : Nat → Int) (lm : Int) : Nat → Nat → Bool
  | _, 0 => true
  | i, k + 1 => if f i ≤ lm then limK f lm (i + 1) k else false
def addI (p d : Nat → Int) (E : List Int) (q : Nat) : Int := maxZ (dnI p d E) E.length - dnI p d E q
def cmpE (p d j : Nat → Int) (E : List Int) (lm : Int) : Int × Int × List Int := if limK (addI p d E) lm 0 E.length = true then (remM (aptE p j E) E.length, 0, mkl E.length (addI p d E)) else (0, 6, [])
def cmpS (n : Nat) (p d u j : Nat → Int) (lm : Int) : Int × Int × List Int := if treE n p d u j = 0 then (if 0 ≤ lm ∧ lm ≤ 1000000000 then cmpE p d j (leaL p n) lm else (0, 6, [])) else (0, treE n p d u j, [])
end S
theorem limK_iff {f : Nat → Int} {lm : Int} : ∀ {k i : Nat}, S.limK f lm i k = true ↔ ∀ j, i ≤ j → j < i + k → f j ≤ lm
  | 0, i => ⟨fun _ j a c => by omega, fun _ => rfl⟩
  | k + 1, i => by
    simp only [S.limK]
    constructor
    · intro h0 j a c
      split at h0
      · by_cases hj : j = i
        · subst hj; assumption
        · exact limK_iff.mp h0 j (by omega) (by omega)
      · cases h0
    · intro h0
      rw [if_pos (h0 i (Nat.le_refl _) (by omega))]
      exact limK_iff.mpr fun j a c => h0 j (by omega) (by omega)
theorem limK_yes {f : Nat → Int} {lm : Int} {i k : Nat} (h : f i ≤ lm) : S.limK f lm i (k + 1) = S.limK f lm (i + 1) k := if_pos h
theorem limK_no {f : Nat → Int} {lm : Int} {i k : Nat} (h : ¬ f i ≤ lm) : S.limK f lm i (k + 1) = false := if_neg h
theorem maxZ_ge {f : Nat → Int} : ∀ {n j : Nat}, j < n → f j ≤ S.maxZ f n
  | 0, j, h => absurd h (Nat.not_lt_zero j)
  | n + 1, j, h => by
    simp only [S.maxZ]
    rcases Nat.lt_or_eq_of_le (Nat.le_of_lt_succ h) with h1 | h1
    · have := maxZ_ge (f := f) h1; omega
    · subst h1; omega
theorem maxZ_le {f : Nat → Int} {c : Int} (hc : 0 ≤ c) : ∀ {n : Nat}, (∀ j, j < n → f j ≤ c) → 0 ≤ S.maxZ f n ∧ S.maxZ f n ≤ c
  | 0, _ => ⟨Int.le_refl _, hc⟩
  | n + 1, h => by
    have ih := maxZ_le hc (n := n) fun j hj => h j (by omega)
    have := h n (by omega)
    simp only [S.maxZ]; omega
theorem maxN_Z {f : Nat → Int} : ∀ {n : Nat}, (∀ j, j < n + 1 → 0 ≤ f j) → S.maxN f n = S.maxZ f (n + 1)
  | 0, h => by have := h 0 (by omega); simp only [S.maxN, S.maxZ]; omega
  | n + 1, h => by
    have ih := maxN_Z (n := n) fun j hj => h j (by omega)
    simp only [S.maxN, S.maxZ] at ih ⊢
    rw [ih]
theorem maxZ_congr {f g : Nat → Int} : ∀ {n : Nat}, (∀ j, j < n → f j = g j) → S.maxZ f n = S.maxZ g n
  | 0, _ => rfl
  | n + 1, h => by simp only [S.maxZ]; rw [h n (Nat.lt_succ_self n), maxZ_congr fun j hj => h j (Nat.lt_succ_of_lt hj)]
theorem cmp_len {n : Nat} {p d u j : Nat → Int} {lm : Int} : (S.cmpS n p d u j lm).2.2.length ≤ n := by
  unfold S.cmpS S.cmpE
  split
  · split
    · split
      · exact Nat.le_trans (Nat.le_of_eq mkl_len) cho_len
      · exact Nat.zero_le _
    · exact Nat.zero_le _
  · exact Nat.zero_le _

end Go.Ev
