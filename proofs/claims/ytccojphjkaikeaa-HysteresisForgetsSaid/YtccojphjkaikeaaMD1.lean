/-
  The reduced history, in plain words.
-/
import Derived.Test.YtccojphjkaikeaaML0
namespace Go.Ev
open Go.Proofs
set_option linter.unusedVariables false
set_option linter.unusedSimpArgs false
set_option maxRecDepth 100000

theorem bif_t' {α : Type} {b : Bool} {x y z : α} (hb : b = true) (h : x = z) : cond b x y = z := by subst hb; exact h
namespace S
/-- Is an input kept: greater than all later ones, or less than all of them? -/
def keepB (t : Nat → Int) (n i : Nat) : Bool := decide ((∀ k, k < n - 1 - i → t (i + 1 + k) < t i) ∨ ∀ k, k < n - 1 - i → t i < t (i + 1 + k))
def redP (t : Nat → Int) (n : Nat) : Nat → List Int
  | 0 => []
  | i + 1 => if keepB t n i = true then snoc (redP t n i) (t i) else redP t n i
/-- From the i-th on. -/
def redF (t : Nat → Int) (n : Nat) : Nat → Nat → List Int
  | _, 0 => []
  | i, k + 1 => if keepB t n i = true then t i :: redF t n (i + 1) k else redF t n (i + 1) k
end S
theorem red_split {t : Nat → Int} {n : Nat} : ∀ {k i : Nat}, S.redP t n i ++ S.redF t n i k = S.redP t n (i + k)
  | 0, i => by simp [S.redF]
  | k + 1, i => by
    have ih := red_split (t := t) (n := n) (k := k) (i := i + 1)
    rw [show i + (k + 1) = i + 1 + k by omega, ← ih]
    simp only [S.redF, S.redP]
    split <;> simp [S.snoc]
theorem red_all {t : Nat → Int} {n : Nat} : S.redF t n 0 n = S.redP t n n := by
  have := red_split (t := t) (n := n) (k := n) (i := 0)
  simpa [S.redP] using this
theorem redP_len {t : Nat → Int} {n : Nat} : ∀ {i : Nat}, (S.redP t n i).length ≤ i
  | 0 => Nat.le_refl _
  | i + 1 => by
    have ih := redP_len (t := t) (n := n) (i := i)
    simp only [S.redP]
    split
    · rw [snoc_len]; omega
    · omega
theorem redF_len {t : Nat → Int} {n : Nat} : ∀ {k i : Nat}, (S.redF t n i k).length ≤ k
  | 0, _ => Nat.le_refl _
  | k + 1, i => by
    have ih := redF_len (t := t) (n := n) (k := k) (i := i + 1)
    simp only [S.redF]
    split
    · simp only [List.length_cons]; omega
    · omega
theorem rev_mkl {L : List Int} : (S.mkl L.length fun j => S.at' L (L.length - 1 - j)) = L.reverse := by
  apply List.ext_getElem
  · simp [S.mkl]
  · intro i h1 h2
    simp only [S.mkl, List.length_map, List.length_range] at h1
    have h3 : L.length - 1 - i < L.length := by omega
    simp [S.mkl, S.at', h3]
theorem keep_last {t : Nat → Int} {n i : Nat} (h : n - 1 - i = 0) : S.keepB t n i = true := decide_eq_true (.inl fun k hk => by omega)
theorem keep_max {t : Nat → Int} {n i : Nat} (h : 0 < n - 1 - i) : S.keepB t n i = true ↔ (t i > S.maxN (fun j => t (i + 1 + j)) (n - 1 - i - 1) ∨ t i < S.minN (fun j => t (i + 1 + j)) (n - 1 - i - 1)) := by
  unfold S.keepB
  rw [decide_eq_true_eq]
  have a : t i > S.maxN (fun j => t (i + 1 + j)) (n - 1 - i - 1) ↔ ∀ k, k < n - 1 - i → t (i + 1 + k) < t i := by
    rw [gt_iff_lt, ← Int.le_sub_one_iff, maxN_le]
    exact ⟨fun h k hk => by have := h k (by omega); omega, fun h k hk => by have := h k (by omega); omega⟩
  have c : t i < S.minN (fun j => t (i + 1 + j)) (n - 1 - i - 1) ↔ ∀ k, k < n - 1 - i → t i < t (i + 1 + k) := by
    rw [← Int.add_one_le_iff, le_minN]
    exact ⟨fun h k hk => by have := h k (by omega); omega, fun h k hk => by have := h k (by omega); omega⟩
  rw [a, c]

end Go.Ev
