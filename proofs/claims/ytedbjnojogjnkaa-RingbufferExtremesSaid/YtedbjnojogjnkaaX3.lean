/-
  Extremes keep the least and the greatest value.
-/
import Derived.Test.YtedbjnojogjnkaaX2
import Derived.Test.YtedbjnojogjnkaaW2
import Derived.Test.YtedbjnojogjnkaaL6a
namespace Go.Ev
open Go.Proofs
set_option linter.unusedVariables false
set_option linter.unusedSimpArgs false

namespace S
def mnF (f : Nat → Int) : Nat → Nat → Int → Int
  | _, 0, m => m
  | i, k + 1, m => mnF f (i + 1) k (min m (f i))
def mxF (f : Nat → Int) : Nat → Nat → Int → Int
  | _, 0, m => m
  | i, k + 1, m => mxF f (i + 1) k (max m (f i))
end S
theorem mnF_spec {f : Nat → Int} : ∀ (k i : Nat) (m : Int), (S.mnF f i k m = m ∨ ∃ j, i ≤ j ∧ j < i + k ∧ S.mnF f i k m = f j) ∧ S.mnF f i k m ≤ m ∧ ∀ j, i ≤ j → j < i + k → S.mnF f i k m ≤ f j := by
  intro k
  induction k with
  | zero => intro i m; exact ⟨.inl rfl, Int.le_refl _, fun j h1 h2 => by omega⟩
  | succ k ih =>
    intro i m
    obtain ⟨h1, h2, h3⟩ := ih (i + 1) (min m (f i))
    simp only [S.mnF]
    refine ⟨?_, by omega, fun j h4 h5 => ?_⟩
    · rcases h1 with h1 | ⟨j, a, b, c⟩
      · by_cases h : m ≤ f i
        · exact .inl (by omega)
        · exact .inr ⟨i, Nat.le_refl _, by omega, by omega⟩
      · exact .inr ⟨j, by omega, by omega, c⟩
    · rcases Nat.lt_or_ge i j with h6 | h6
      · exact h3 j h6 (by omega)
      · obtain rfl : j = i := by omega
        omega
theorem mxF_spec {f : Nat → Int} : ∀ (k i : Nat) (m : Int), (S.mxF f i k m = m ∨ ∃ j, i ≤ j ∧ j < i + k ∧ S.mxF f i k m = f j) ∧ m ≤ S.mxF f i k m ∧ ∀ j, i ≤ j → j < i + k → f j ≤ S.mxF f i k m := by
  intro k
  induction k with
  | zero => intro i m; exact ⟨.inl rfl, Int.le_refl _, fun j h1 h2 => by omega⟩
  | succ k ih =>
    intro i m
    obtain ⟨h1, h2, h3⟩ := ih (i + 1) (max m (f i))
    simp only [S.mxF]
    refine ⟨?_, by omega, fun j h4 h5 => ?_⟩
    · rcases h1 with h1 | ⟨j, a, b, c⟩
      · by_cases h : f i ≤ m
        · exact .inl (by omega)
        · exact .inr ⟨i, Nat.le_refl _, by omega, by omega⟩
      · exact .inr ⟨j, by omega, by omega, c⟩
    · rcases Nat.lt_or_ge i j with h6 | h6
      · exact h3 j h6 (by omega)
      · obtain rfl : j = i := by omega
        omega
theorem ext_spec {v : Nat → Int} : ∀ (k i lo hi : Nat), ((S.ext v i k lo hi).1 = lo ∨ i ≤ (S.ext v i k lo hi).1 ∧ (S.ext v i k lo hi).1 < i + k) ∧ ((S.ext v i k lo hi).2 = hi ∨ i ≤ (S.ext v i k lo hi).2 ∧ (S.ext v i k lo hi).2 < i + k) ∧
    v (S.ext v i k lo hi).1 ≤ v lo ∧ v hi ≤ v (S.ext v i k lo hi).2 ∧ ∀ j, i ≤ j → j < i + k → v (S.ext v i k lo hi).1 ≤ v j ∧ v j ≤ v (S.ext v i k lo hi).2 := by
  intro k
  induction k with
  | zero => intro i lo hi; exact ⟨.inl rfl, .inl rfl, Int.le_refl _, Int.le_refl _, fun j h1 h2 => by omega⟩
  | succ k ih =>
    intro i lo hi
    simp only [S.ext]
    obtain ⟨a1, a2, a3, a4, a5⟩ := ih (i + 1) (if v i < v lo then i else lo) (if v i > v hi then i else hi)
    have b1 : v (if v i < v lo then i else lo) ≤ v lo ∧ v (if v i < v lo then i else lo) ≤ v i := by split <;> omega
    have b2 : v hi ≤ v (if v i > v hi then i else hi) ∧ v i ≤ v (if v i > v hi then i else hi) := by split <;> omega
    refine ⟨?_, ?_, Int.le_trans a3 b1.1, Int.le_trans b2.1 a4, fun j h1 h2 => ?_⟩
    · rcases a1 with h | h
      · rw [h]; split
        · exact .inr (by omega)
        · exact .inl rfl
      · exact .inr (by omega)
    · rcases a2 with h | h
      · rw [h]; split
        · exact .inr (by omega)
        · exact .inl rfl
      · exact .inr (by omega)
    · rcases Nat.lt_or_ge i j with h6 | h6
      · exact a5 j h6 (by omega)
      · obtain rfl : j = i := by omega
        exact ⟨Int.le_trans a3 b1.2, Int.le_trans b2.2 a4⟩
theorem addP_mem {row : Nat → Row} {L : List Row} {x : Nat × Nat} {r : Row} : r ∈ S.addP row L x ↔ r ∈ L ∨ r = row x.1 ∨ r = row x.2 := by
  unfold S.addP
  split
  · rename_i h; simp [S.snoc, ← h]
  · simp only [S.snoc, List.mem_append, List.mem_singleton]
    rcases Nat.le_total x.1 x.2 with h | h
    · rw [Nat.min_eq_left h, Nat.max_eq_right h, or_assoc]
    · rw [Nat.min_eq_right h, Nat.max_eq_left h, or_assoc, or_comm (a := r = row x.2)]
theorem extL_mem {row : Nat → Row} {n k : Nat} (hk : 1 ≤ k) : ∀ p, p ≤ k → (∀ r ∈ S.extL row n k p, ∃ j, j < S.cutP n k p ∧ r = row j) ∧ ∀ j, j < S.cutP n k p → (∃ r ∈ S.extL row n k p, r.2.1 ≤ (row j).2.1) ∧ ∃ r ∈ S.extL row n k p, (row j).2.1 ≤ r.2.1 := by
  intro p
  induction p with
  | zero => intro _; exact ⟨fun r hr => (by simp only [S.extL] at hr; cases hr), fun j hj => (by simp [S.cutP] at hj)⟩
  | succ p ih =>
    intro hp
    obtain ⟨h1, h2⟩ := ih (by omega)
    obtain ⟨f1, f2⟩ := cutP_facts (n := n) (k := k) (p := p) hp
    simp only [S.extL]
    by_cases hc : S.cutP n k p = S.cutP n k (p + 1)
    · rw [if_pos hc, ← hc]; exact ⟨h1, h2⟩
    · rw [if_neg hc]
      obtain ⟨a1, a2, a3, a4, a5⟩ := ext_spec (v := fun j => (row j).2.1) (S.cutP n k (p + 1) - S.cutP n k p) (S.cutP n k p) (S.cutP n k p) (S.cutP n k p)
      generalize S.ext (fun j => (row j).2.1) (S.cutP n k p) (S.cutP n k (p + 1) - S.cutP n k p) (S.cutP n k p) (S.cutP n k p) = x at *
      refine ⟨fun r hr => ?_, fun j hj => ?_⟩
      · rcases addP_mem.1 hr with h | h | h
        · obtain ⟨j, b1, b2⟩ := h1 r h; exact ⟨j, by omega, b2⟩
        · exact ⟨x.1, by omega, h⟩
        · exact ⟨x.2, by omega, h⟩
      · rcases Nat.lt_or_ge j (S.cutP n k p) with h | h
        · obtain ⟨⟨r, b1, b2⟩, ⟨r', b3, b4⟩⟩ := h2 j h
          exact ⟨⟨r, addP_mem.2 (.inl b1), b2⟩, ⟨r', addP_mem.2 (.inl b3), b4⟩⟩
        · obtain ⟨b1, b2⟩ := a5 j h (by omega)
          exact ⟨⟨_, addP_mem.2 (.inr (.inl rfl)), b1⟩, ⟨_, addP_mem.2 (.inr (.inr rfl)), b2⟩⟩
/-- The extremes of a list keep the least and the greatest value. -/
theorem ext_keeps {row : Nat → Row} {n : Nat} {A : List Row} (hn : 0 < n) (h1 : ∀ r ∈ A, ∃ j, j < n ∧ r = row j) (h2 : ∀ j, j < n → (∃ r ∈ A, r.2.1 ≤ (row j).2.1) ∧ ∃ r ∈ A, (row j).2.1 ≤ r.2.1) :
    0 < A.length ∧ S.mnF (fun j => (S.at' A j).2.1) 0 A.length (S.at' A 0).2.1 = S.mnF (fun j => (row j).2.1) 0 n (row 0).2.1 ∧ S.mxF (fun j => (S.at' A j).2.1) 0 A.length (S.at' A 0).2.1 = S.mxF (fun j => (row j).2.1) 0 n (row 0).2.1 := by
  have hA : 0 < A.length := by
    obtain ⟨⟨r, hr, _⟩, _⟩ := h2 0 hn
    exact List.length_pos_of_mem hr
  have g1 : ∀ j, j < A.length → ∃ i, i < n ∧ S.at' A j = row i := fun j hj => h1 _ (by rw [at_lt hj]; exact List.getElem_mem hj)
  have g2 : ∀ j, j < n → (∃ i, i < A.length ∧ (S.at' A i).2.1 ≤ (row j).2.1) ∧ ∃ i, i < A.length ∧ (row j).2.1 ≤ (S.at' A i).2.1 := fun j hj => by
    obtain ⟨⟨r, b1, b2⟩, ⟨r', b3, b4⟩⟩ := h2 j hj
    obtain ⟨i, c1, c2⟩ := List.mem_iff_getElem.1 b1
    obtain ⟨i', c3, c4⟩ := List.mem_iff_getElem.1 b3
    exact ⟨⟨i, c1, by rw [at_lt c1, c2]; exact b2⟩, ⟨i', c3, by rw [at_lt c3, c4]; exact b4⟩⟩
  refine ⟨hA, ?_, ?_⟩
  · obtain ⟨a1, a2, a3⟩ := mnF_spec (f := fun j => (S.at' A j).2.1) A.length 0 (S.at' A 0).2.1
    obtain ⟨b1, b2, b3⟩ := mnF_spec (f := fun j => (row j).2.1) n 0 (row 0).2.1
    apply Int.le_antisymm
    · have : ∃ j, j < n ∧ S.mnF (fun j => (row j).2.1) 0 n (row 0).2.1 = (row j).2.1 := by
        rcases b1 with h | ⟨j, _, h, e⟩
        · exact ⟨0, hn, h⟩
        · exact ⟨j, by omega, e⟩
      obtain ⟨j, hj, e⟩ := this
      obtain ⟨⟨i, hi, hle⟩, _⟩ := g2 j hj
      have := a3 i (Nat.zero_le _) (by omega)
      omega
    · have : ∃ j, j < A.length ∧ S.mnF (fun j => (S.at' A j).2.1) 0 A.length (S.at' A 0).2.1 = (S.at' A j).2.1 := by
        rcases a1 with h | ⟨j, _, h, e⟩
        · exact ⟨0, hA, h⟩
        · exact ⟨j, by omega, e⟩
      obtain ⟨j, hj, e⟩ := this
      obtain ⟨i, hi, he⟩ := g1 j hj
      have := b3 i (Nat.zero_le _) (by omega)
      rw [e, he]
      exact this
  · obtain ⟨a1, a2, a3⟩ := mxF_spec (f := fun j => (S.at' A j).2.1) A.length 0 (S.at' A 0).2.1
    obtain ⟨b1, b2, b3⟩ := mxF_spec (f := fun j => (row j).2.1) n 0 (row 0).2.1
    apply Int.le_antisymm
    · have : ∃ j, j < A.length ∧ S.mxF (fun j => (S.at' A j).2.1) 0 A.length (S.at' A 0).2.1 = (S.at' A j).2.1 := by
        rcases a1 with h | ⟨j, _, h, e⟩
        · exact ⟨0, hA, h⟩
        · exact ⟨j, by omega, e⟩
      obtain ⟨j, hj, e⟩ := this
      obtain ⟨i, hi, he⟩ := g1 j hj
      have := b3 i (Nat.zero_le _) (by omega)
      rw [e, he]
      exact this
    · have : ∃ j, j < n ∧ S.mxF (fun j => (row j).2.1) 0 n (row 0).2.1 = (row j).2.1 := by
        rcases b1 with h | ⟨j, _, h, e⟩
        · exact ⟨0, hn, h⟩
        · exact ⟨j, by omega, e⟩
      obtain ⟨j, hj, e⟩ := this
      obtain ⟨_, ⟨i, hi, hle⟩⟩ := g2 j hj
      have := a3 i (Nat.zero_le _) (by omega)
      omega

end Go.Ev
