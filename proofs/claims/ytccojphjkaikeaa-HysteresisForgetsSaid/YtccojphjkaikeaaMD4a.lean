/-
  Reduced histories lead to the same.
-/
import Derived.Test.YtccojphjkaikeaaMD1
import Derived.Test.YtccojphjkaikeaaMA4
namespace Go.Ev
open Go.Proofs
set_option linter.unusedVariables false
set_option linter.unusedSimpArgs false
set_option maxRecDepth 100000

namespace S
def keepL (x : Int) (l : List Int) : Bool := decide ((∀ y ∈ l, y < x) ∨ ∀ y ∈ l, x < y)
def redL : List Int → List Int
  | [] => []
  | x :: l => if keepL x l = true then x :: redL l else redL l
end S
theorem redL_sub : ∀ {l : List Int} {y : Int}, y ∈ S.redL l → y ∈ l
  | [], y, h => h
  | x :: l, y, h => by
    simp only [S.redL] at h
    split at h
    · rcases List.mem_cons.1 h with rfl | h
      · simp
      · exact List.mem_cons_of_mem _ (redL_sub h)
    · exact List.mem_cons_of_mem _ (redL_sub h)
theorem redL_idem : ∀ (l : List Int), S.redL (S.redL l) = S.redL l
  | [] => rfl
  | x :: l => by
    simp only [S.redL]
    split
    · rename_i h
      have : S.keepL x (S.redL l) = true := by
        unfold S.keepL at h ⊢
        rw [decide_eq_true_eq] at h ⊢
        exact h.imp (fun h y hy => h y (redL_sub hy)) (fun h y hy => h y (redL_sub hy))
      simp only [S.redL, this, if_true, redL_idem l]
    · exact redL_idem l
theorem redF_list {t : Nat → Int} {n : Nat} : ∀ {k i : Nat}, i + k = n → S.redF t n i k = S.redL ((List.range' i k).map t)
  | 0, i, _ => rfl
  | k + 1, i, h => by
    have ih := redF_list (t := t) (n := n) (k := k) (i := i + 1) (by omega)
    have e : S.keepL (t i) ((List.range' (i + 1) k).map t) = S.keepB t n i := by
      unfold S.keepL S.keepB
      rw [Bool.eq_iff_iff, decide_eq_true_eq, decide_eq_true_eq]
      have m : ∀ y, y ∈ (List.range' (i + 1) k).map t ↔ ∃ q, q < n - 1 - i ∧ t (i + 1 + q) = y := fun y => by
        simp only [List.mem_map, List.mem_range'_1]
        constructor
        · rintro ⟨a, ⟨h1, h2⟩, rfl⟩; exact ⟨a - (i + 1), by omega, by rw [show i + 1 + (a - (i + 1)) = a by omega]⟩
        · rintro ⟨q, hq, rfl⟩; exact ⟨i + 1 + q, ⟨by omega, by omega⟩, rfl⟩
      constructor
      · exact fun h => h.imp (fun h q hq => h _ ((m _).mpr ⟨q, hq, rfl⟩)) (fun h q hq => h _ ((m _).mpr ⟨q, hq, rfl⟩))
      · exact fun h => h.imp (fun h y hy => by obtain ⟨q, hq, rfl⟩ := (m y).mp hy; exact h q hq) (fun h y hy => by obtain ⟨q, hq, rfl⟩ := (m y).mp hy; exact h q hq)
    simp only [S.redF, List.range'_succ, List.map_cons, S.redL, e, ih]
theorem red_list {t : Nat → Int} {n : Nat} : S.redP t n n = S.redL (S.mkl n t) := by
  rw [← red_all, redF_list (by omega), S.mkl, List.range_eq_range']
theorem red_idem {t : Nat → Int} {n : Nat} : S.redP (fun j => S.at' (S.redP t n n) j) (S.redP t n n).length (S.redP t n n).length = S.redP t n n := by
  rw [red_list (n := (S.redP t n n).length), mkl1_at, red_list (t := t), redL_idem]
theorem aftN_fold {u d : Int} {t : Nat → Int} {o : Bool} : ∀ {n : Nat}, S.aftN u d t o n = (S.mkl n t).foldl (S.aft u d) o
  | 0 => rfl
  | n + 1 => by rw [mkl_succ, S.snoc, List.foldl_append, ← aftN_fold]; rfl
theorem fold_same {u d : Int} : ∀ {l : List Int}, (∃ y ∈ l, y ≥ u ∨ y ≤ d) → ∀ o o', l.foldl (S.aft u d) o = l.foldl (S.aft u d) o'
  | [], h, _, _ => by obtain ⟨y, hy, _⟩ := h; cases hy
  | x :: l, h, o, o' => by
    simp only [List.foldl_cons]
    by_cases hx : x ≥ u ∨ x ≤ d
    · have : S.aft u d o x = S.aft u d o' x := by
        simp only [S.aft, Bool.cond_eq_ite, decide_eq_true_eq]
        (repeat' split) <;> first | rfl | omega
      rw [this]
    · obtain ⟨y, hy, h2⟩ := h
      rcases List.mem_cons.1 hy with rfl | hy
      · exact absurd h2 hx
      · exact fold_same ⟨y, hy, h2⟩ _ _
theorem fold_none {u d : Int} : ∀ {l : List Int}, (¬ ∃ y ∈ l, y ≥ u ∨ y ≤ d) → ∀ o, l.foldl (S.aft u d) o = o
  | [], _, _ => rfl
  | x :: l, h, o => by
    simp only [List.foldl_cons]
    have : S.aft u d o x = o := by
      have hx : ¬ (x ≥ u ∨ x ≤ d) := fun hx => h ⟨x, by simp, hx⟩
      simp only [S.aft, Bool.cond_eq_ite, decide_eq_true_eq]
      (repeat' split) <;> first | rfl | omega
    rw [this]
    exact fold_none (fun ⟨y, hy, h2⟩ => h ⟨y, by simp [hy], h2⟩) o
/-- What is left out of a history changes nothing. -/
theorem fold_red {u d : Int} (hud : d < u) : ∀ {l : List Int} {o : Bool}, (S.redL l).foldl (S.aft u d) o = l.foldl (S.aft u d) o
  | [], _ => rfl
  | x :: l, o => by
    simp only [S.redL]
    split
    · simp only [List.foldl_cons]; exact fold_red hud
    · rename_i h
      rw [fold_red hud, List.foldl_cons]
      unfold S.keepL at h
      rw [decide_eq_true_eq, not_or] at h
      obtain ⟨h1, h2⟩ := h
      simp only [Classical.not_forall, Int.not_lt] at h1 h2
      obtain ⟨y, hy, hy2⟩ := h1
      obtain ⟨z, hz, hz2⟩ := h2
      by_cases hx : x ≥ u ∨ x ≤ d
      · rcases hx with hx | hx
        · exact fold_same ⟨y, hy, .inl (by omega)⟩ _ _
        · exact fold_same ⟨z, hz, .inr (by omega)⟩ _ _
      · congr 1
        simp only [S.aft, Bool.cond_eq_ite, decide_eq_true_eq]
        (repeat' split) <;> first | rfl | omega

end Go.Ev
