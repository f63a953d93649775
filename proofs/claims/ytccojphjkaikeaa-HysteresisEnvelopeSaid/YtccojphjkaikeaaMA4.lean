/-
  Specs of the layer.
-/
import Derived.Test.YtccojphjkaikeaaMA3
import Derived.Test.YtccojphjkaikeaaML0
namespace Go.Ev
open Go.Proofs
set_option linter.unusedVariables false
set_option linter.unusedSimpArgs false
set_option maxRecDepth 100000

theorem rel_ok {e : Int} {u d w : Nat → Int} : ∀ {k i : Nat}, S.relE e u d w i k = 0 → (∀ j, i ≤ j → j < i + k → S.okR (u j) (d j) (w j) = true ∧ d j < u j) ∧ e = 0
  | 0, i, h => ⟨fun j h1 h2 => by omega, h⟩
  | k + 1, i, h => by
    simp only [S.relE] at h
    split at h
    · rename_i h1
      split at h
      · cases h
      · rename_i h2
        obtain ⟨h3, h4⟩ := rel_ok h
        refine ⟨fun j a b => ?_, h4⟩
        by_cases hj : j = i
        · subst hj; exact ⟨h1, by omega⟩
        · exact h3 j (by omega) (by omega)
    · cases h
/-- What a valid magnet is. -/
theorem mag_ok {n no : Nat} {u d w : Nat → Int} (h : S.magE n u d w no = 0) : 0 < n ∧ n ≤ 40 ∧ no = n ∧ ∀ j, j < n → -1099511627776 ≤ u j ∧ u j ≤ 1099511627776 ∧ -1099511627776 ≤ d j ∧ d j ≤ 1099511627776 ∧ 1 ≤ w j ∧ w j ≤ 1073741824 ∧ d j < u j := by
  unfold S.magE at h
  split at h
  · cases h
  split at h
  · cases h
  obtain ⟨h1, h2⟩ := rel_ok h
  refine ⟨by omega, by omega, ?_, fun j hj => ?_⟩
  · split at h2
    · assumption
    · cases h2
  · obtain ⟨h3, h4⟩ := h1 j (Nat.zero_le _) (by omega)
    simp only [S.okR, decide_eq_true_eq] at h3
    omega
theorem rel_congr {e : Int} {u d w u' d' w' : Nat → Int} : ∀ {k i : Nat}, (∀ j, i ≤ j → j < i + k → u j = u' j ∧ d j = d' j ∧ w j = w' j) → S.relE e u d w i k = S.relE e u' d' w' i k
  | 0, i, _ => rfl
  | k + 1, i, h => by
    obtain ⟨h1, h2, h3⟩ := h i (Nat.le_refl _) (by omega)
    simp only [S.relE, h1, h2, h3]
    rw [rel_congr fun j a b => h j (by omega) (by omega)]
theorem mag_congr {n no : Nat} {u d w u' d' w' : Nat → Int} (h : ∀ j, j < n → u j = u' j ∧ d j = d' j ∧ w j = w' j) : S.magE n u d w no = S.magE n u' d' w' no := by
  unfold S.magE
  rw [rel_congr fun j _ b => h j (by omega)]
theorem in_congr {t t' : Nat → Int} : ∀ {k i : Nat}, (∀ j, i ≤ j → j < i + k → t j = t' j) → S.inE t i k = S.inE t' i k
  | 0, i, _ => rfl
  | k + 1, i, h => by
    simp only [S.inE, h i (Nat.le_refl _) (by omega)]
    rw [in_congr fun j a b => h j (by omega) (by omega)]
theorem in_ok {t : Nat → Int} : ∀ {k i : Nat}, S.inE t i k = 0 → ∀ j, i ≤ j → j < i + k → -1099511627776 ≤ t j ∧ t j ≤ 1099511627776
  | 0, i, _, j, h1, h2 => by omega
  | k + 1, i, h, j, h1, h2 => by
    simp only [S.inE] at h
    split at h
    · by_cases hj : j = i
      · subst hj; assumption
      · exact in_ok h j (by omega) (by omega)
    · cases h
theorem hist_ok {n no nl : Nat} {u d w t : Nat → Int} (h : S.histE n u d w no nl t = 0) : S.magE n u d w no = 0 ∧ nl ≤ 1000 ∧ ∀ j, j < nl → -1099511627776 ≤ t j ∧ t j ≤ 1099511627776 := by
  unfold S.histE at h
  split at h
  · split at h
    · cases h
    · exact ⟨by assumption, by omega, fun j hj => in_ok h j (Nat.zero_le _) (by omega)⟩
  · contradiction
namespace S
/-- The field of the first relays. -/
def fldN (w : Nat → Int) (o : Nat → Bool) : Nat → Int
  | 0 => 0
  | i + 1 => bif o i then fldN w o i + w i else fldN w o i
def fieldS (n : Nat) (u d w : Nat → Int) (no : Nat) (o : Nat → Bool) : Int × Int := if magE n u d w no = 0 then (fldN w o n, 0) else (0, magE n u d w no)
def satS (n : Nat) (u d w : Nat → Int) (no : Nat) : Int × Int × Int := if magE n u d w no = 0 then (minN d (n - 1), maxN u (n - 1), 0) else (0, 0, magE n u d w no)
/-- A relay behind the first inputs. -/
def aftN (u d : Int) (t : Nat → Int) (o : Bool) : Nat → Bool
  | 0 => o
  | k + 1 => aft u d (aftN u d t o k) (t k)
def histS (n : Nat) (u d w : Nat → Int) (no : Nat) (o : Nat → Bool) (nl : Nat) (t : Nat → Int) : Int × List (Int × Int × Int) × List Bool :=
  if histE n u d w no nl t = 0 then (0, mkl n fun j => (u j, d j, w j), mkl no fun j => aftN (u j) (d j) t (o j) nl) else (histE n u d w no nl t, [], [])
def envS (n : Nat) (u d w : Nat → Int) (no : Nat) (x : Int) : Int × Int × Int :=
  if magE n u d w no = 0 then (if -1099511627776 ≤ x ∧ x ≤ 1099511627776 then (fldN w (fun j => decide (x ≥ u j)) n, fldN w (fun j => decide (x > d j)) n, 0) else (0, 0, 6)) else (0, 0, magE n u d w no)
/-- Is each relay from the i-th on led to one state? -/
def erB (u d : Nat → Int) (nl : Nat) (t : Nat → Int) : Nat → Nat → Bool
  | _, 0 => true
  | i, k + 1 => if any (fun j => decide (t j ≥ u i ∨ t j ≤ d i)) nl = true then erB u d nl t (i + 1) k else false
def erS (n : Nat) (u d w : Nat → Int) (no : Nat) (nl : Nat) (t : Nat → Int) : Bool × Int := if histE n u d w no nl t = 0 then (erB u d nl t 0 n, 0) else (false, histE n u d w no nl t)
end S
theorem fld_ge {w : Nat → Int} {o : Nat → Bool} {n : Nat} (h : ∀ j, j < n → 1 ≤ w j ∧ w j ≤ 1073741824) : ∀ k, k ≤ n → 0 ≤ S.fldN w o k ∧ S.fldN w o k ≤ k * 1073741824
  | 0, _ => ⟨Int.le_refl _, Int.le_refl _⟩
  | k + 1, hk => by
    have ih := fld_ge h (o := o) k (by omega)
    have := h k (by omega)
    simp only [S.fldN]
    cases o k <;> simp only [cond_true, cond_false] <;> omega


theorem min_step {t : Nat → Int} {i : Nat} : min (S.minN t (i - 1)) (t i) = S.minN t i := by
  cases i with
  | zero => simp [S.minN]
  | succ i => rfl
theorem max_step {t : Nat → Int} {i : Nat} : max (S.maxN t (i - 1)) (t i) = S.maxN t i := by
  cases i with
  | zero => simp [S.maxN]
  | succ i => rfl
theorem hist_one {n no : Nat} {u d w : Nat → Int} {x : Int} : S.histE n u d w no 1 (fun j => S.lit [x] 0 j) = if S.magE n u d w no = 0 then (if -1099511627776 ≤ x ∧ x ≤ 1099511627776 then 0 else 6) else S.magE n u d w no := rfl
theorem any_succ {p : Nat → Bool} {n : Nat} : S.any p (n + 1) = (S.any p n || p n) := by simp [S.any, List.range_succ]

end Go.Ev
