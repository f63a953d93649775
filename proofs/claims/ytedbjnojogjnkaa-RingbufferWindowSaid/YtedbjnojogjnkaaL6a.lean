/-
  Buffers that agree as far as they are asked for.
-/
import Derived.Test.YtedbjnojogjnkaaL4
namespace Go.Ev
open Go.Proofs
set_option linter.unusedVariables false
set_option linter.unusedSimpArgs false
set_option maxRecDepth 100000

theorem errS_congr {t v t' v' : Nat → Int} : ∀ (k i : Nat), (∀ j, i - 1 ≤ j → j < i + k → t j = t' j ∧ v j = v' j) → S.errS t v i k = S.errS t' v' i k := by
  intro k
  induction k with
  | zero => intro i h; rfl
  | succ k ih =>
    intro i h
    have h1 := h i (by omega) (by omega)
    have h2 := h (i - 1) (by omega) (by omega)
    simp only [S.errS]
    rw [h1.1, h1.2, h2.1, ih (i + 1) fun j a b => h j (by omega) (by omega)]
theorem vB_congr {ca af ov re : Int} {fz : Bool} {n : Nat} {t v t' v' : Nat → Int} (h : ∀ j, j < n → t j = t' j ∧ v j = v' j) : S.vB ca af n t v ov re fz = S.vB ca af n t' v' ov re fz := by
  simp only [S.vB, errS_congr n 0 fun j _ hj => h j (by omega)]
theorem putE_congr {ca af ov re st sv : Int} {fz : Bool} {n : Nat} {t v t' v' : Nat → Int} (h : ∀ j, j < n → t j = t' j ∧ v j = v' j) : S.putE ca af n t v ov re fz st sv = S.putE ca af n t' v' ov re fz st sv := by
  simp only [S.putE, vB_congr (ca := ca) (af := af) (ov := ov) (re := re) (fz := fz) h]
  by_cases h0 : 0 < n
  · rw [(h (n - 1) (by omega)).1]
  · simp only [h0, false_and]
theorem putS_congr {ca af ov re st sv : Int} {fz sg : Bool} {n : Nat} {t v t' v' : Nat → Int} {g g' : Nat → Bool} (h : ∀ j, j < n → t j = t' j ∧ v j = v' j ∧ g j = g' j) : S.putS ca af n t v g ov re fz st sv sg = S.putS ca af n t' v' g' ov re fz st sv sg := by
  simp only [S.putS, putE_congr (ca := ca) (af := af) (ov := ov) (re := re) (fz := fz) (st := st) (sv := sv) fun j hj => ⟨(h j hj).1, (h j hj).2.1⟩]
  rw [mkl_congr (n := n - 1) (f := fun j => (t (j + 1), v (j + 1), g (j + 1))) (g := fun j => (t' (j + 1), v' (j + 1), g' (j + 1))) fun j hj => by obtain ⟨a, b, c⟩ := h (j + 1) (by omega); simp only [a, b, c],
    mkl_congr (n := n) (f := fun j => (t j, v j, g j)) (g := fun j => (t' j, v' j, g' j)) fun j hj => by obtain ⟨a, b, c⟩ := h j hj; simp only [a, b, c]]
theorem frzS_congr {ca af ov re a : Int} {fz : Bool} {n : Nat} {t v t' v' : Nat → Int} {g g' : Nat → Bool} (h : ∀ j, j < n → t j = t' j ∧ v j = v' j ∧ g j = g' j) : S.frzS ca af n t v g ov re fz a = S.frzS ca af n t' v' g' ov re fz a := by
  simp only [S.frzS, vB_congr (ca := ca) (af := af) (ov := ov) (re := re) (fz := fz) fun j hj => ⟨(h j hj).1, (h j hj).2.1⟩]
  rw [mkl_congr (n := n) (f := fun j => (t j, v j, g j)) (g := fun j => (t' j, v' j, g' j)) fun j hj => by obtain ⟨a, b, c⟩ := h j hj; simp only [a, b, c]]
abbrev Row := Int × Int × Bool
section
variable {ca af ov re st sv a : Int} {fz sg : Bool} {n : Nat} {f : Nat → Row}
theorem vB_mkl : S.vB ca af (S.mkl n f).length (fun j => (S.at' (S.mkl n f) j).1) (fun j => (S.at' (S.mkl n f) j).2.1) ov re fz = S.vB ca af n (fun j => (f j).1) (fun j => (f j).2.1) ov re fz := by
  rw [mkl_len]; exact vB_congr fun j hj => by simp only [at_mkl hj, and_self]
theorem putS_mkl : S.putS ca af (S.mkl n f).length (fun j => (S.at' (S.mkl n f) j).1) (fun j => (S.at' (S.mkl n f) j).2.1) (fun j => (S.at' (S.mkl n f) j).2.2) ov re fz st sv sg = S.putS ca af n (fun j => (f j).1) (fun j => (f j).2.1) (fun j => (f j).2.2) ov re fz st sv sg := by
  rw [mkl_len]; exact putS_congr fun j hj => by simp only [at_mkl hj, and_self]
theorem frzS_mkl : S.frzS ca af (S.mkl n f).length (fun j => (S.at' (S.mkl n f) j).1) (fun j => (S.at' (S.mkl n f) j).2.1) (fun j => (S.at' (S.mkl n f) j).2.2) ov re fz a = S.frzS ca af n (fun j => (f j).1) (fun j => (f j).2.1) (fun j => (f j).2.2) ov re fz a := by
  rw [mkl_len]; exact frzS_congr fun j hj => by simp only [at_mkl hj, and_self]
theorem reaS_mkl : S.reaS ca af (S.mkl n f).length (fun j => (S.at' (S.mkl n f) j).1) (fun j => (S.at' (S.mkl n f) j).2.1) ov re fz = S.reaS ca af n (fun j => (f j).1) (fun j => (f j).2.1) ov re fz := by
  simp only [S.reaS, vB_mkl]
theorem putS_len {t v : Nat → Int} {g : Nat → Bool} : (S.putS ca af n t v g ov re fz st sv sg).2.2.2.2.2.2.length ≤ n + 1 := by
  unfold S.putS
  split
  · simp only [snoc_len]; split <;> simp only [mkl_len] <;> omega
  · exact Nat.zero_le _
theorem frzS_len {t v : Nat → Int} {g : Nat → Bool} : (S.frzS ca af n t v g ov re fz a).2.2.2.2.2.2.length ≤ n := by
  unfold S.frzS
  split
  · split
    · simp only [mkl_len]; omega
    · exact Nat.zero_le _
  · exact Nat.zero_le _
end

end Go.Ev
