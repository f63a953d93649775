/-
  The newest samples.
-/
import Derived.Test.YtedbjnojogjnkaaS4
namespace Go.Ev
open Go.Proofs
set_option linter.unusedVariables false
set_option linter.unusedSimpArgs false
noncomputable def xJ (test : Bool → Prop → Prop → Prop) : Ext := consX test [k11, k37, k12, k15, k17, k29]
theorem xJ_ok : ExtOk Try.prog (xJ cond) := consX_ok ⟨k11_ok, k37_ok, k12_ok, k15_ok, k17_ok, k29_ok, trivial⟩

namespace S
def ovN (nn i : Nat) : Int := if i ≤ nn then 0 else (i : Int) - nn
def lastN (row : Nat → Int × Int × Bool) (nn i : Nat) : List (Int × Int × Bool) := mkl (min i nn) fun j => row (j + (i - min i nn))
end S
theorem last_valid {nn : Nat} {row : Nat → Row} {i : Nat} (h1 : 1 ≤ nn) (h2 : nn ≤ 200) (hi : i ≤ 1000000) (hr : ∀ j, j < i → S.okS (row j).1 (row j).2.1 = true ∧ (0 < j → (row (j - 1)).1 ≤ (row j).1)) :
    S.vB nn 5 (S.lastN row nn i).length (fun j => (S.at' (S.lastN row nn i) j).1) (fun j => (S.at' (S.lastN row nn i) j).2.1) (S.ovN nn i) (-1) false = 0 := by
  unfold S.lastN
  rw [vB_mkl]
  have hE : S.errS (fun j => (row (j + (i - min i nn))).1) (fun j => (row (j + (i - min i nn))).2.1) 0 (min i nn) = 0 := (errS_ok _ 0).2 fun j _ hj => by
    obtain ⟨a, b⟩ := hr (j + (i - min i nn)) (by omega)
    refine ⟨a, fun h0 => ?_⟩
    have := b (by omega)
    rwa [show j + (i - min i nn) - 1 = j - 1 + (i - min i nn) by omega] at this
  have ho : S.ovN nn i = 0 ∧ i ≤ nn ∨ S.ovN nn i = (i : Int) - nn ∧ nn < i := by
    unfold S.ovN; split
    · exact .inl ⟨rfl, by assumption⟩
    · exact .inr ⟨rfl, by omega⟩
  unfold S.vB
  rw [if_pos (by omega), if_pos hE, if_pos (by omega), if_pos ⟨fun h => (by cases h), fun h => (by omega), by omega⟩]
theorem put_newest {nn : Nat} {row : Nat → Row} {i : Nat} (h1 : 1 ≤ nn) (h2 : nn ≤ 200) (hi : i ≤ 1000000) (hr : ∀ j, j ≤ i → S.okS (row j).1 (row j).2.1 = true ∧ (0 < j → (row (j - 1)).1 ≤ (row j).1)) :
    S.putS nn 5 (S.lastN row nn i).length (fun j => (S.at' (S.lastN row nn i) j).1) (fun j => (S.at' (S.lastN row nn i) j).2.1) (fun j => (S.at' (S.lastN row nn i) j).2.2) (S.ovN nn i) (-1) false (row i).1 (row i).2.1 (row i).2.2 = ((nn : Int), 5, S.ovN nn (i + 1), -1, false, 0, S.lastN row nn (i + 1)) := by
  unfold S.lastN
  rw [putS_mkl]
  have hE : S.errS (fun j => (row (j + (i - min i nn))).1) (fun j => (row (j + (i - min i nn))).2.1) 0 (min i nn) = 0 := (errS_ok _ 0).2 fun j _ hj => by
    obtain ⟨a, b⟩ := hr (j + (i - min i nn)) (by omega)
    refine ⟨a, fun h0 => ?_⟩
    have := b (by omega)
    rwa [show j + (i - min i nn) - 1 = j - 1 + (i - min i nn) by omega] at this
  have ho : S.ovN nn i = 0 ∧ i ≤ nn ∨ S.ovN nn i = (i : Int) - nn ∧ nn < i := by
    unfold S.ovN; split
    · exact .inl ⟨rfl, by assumption⟩
    · exact .inr ⟨rfl, by omega⟩
  have hV : S.vB nn 5 (min i nn) (fun j => (row (j + (i - min i nn))).1) (fun j => (row (j + (i - min i nn))).2.1) (S.ovN nn i) (-1) false = 0 := by
    unfold S.vB
    rw [if_pos (by omega), if_pos hE, if_pos (by omega), if_pos ⟨fun h => (by cases h), fun h => (by omega), by omega⟩]
  have hP : S.putE nn 5 (min i nn) (fun j => (row (j + (i - min i nn))).1) (fun j => (row (j + (i - min i nn))).2.1) (S.ovN nn i) (-1) false (row i).1 (row i).2.1 = 0 := by
    unfold S.putE
    rw [if_pos hV]
    simp only [Bool.false_eq_true, if_false]
    rw [if_pos (hr i (Nat.le_refl _)).1, if_neg (fun h => by
      have := (hr i (Nat.le_refl _)).2 (by omega)
      rw [show min i nn - 1 + (i - min i nn) = i - 1 by omega] at h
      omega), if_neg (by omega)]
  unfold S.putS
  rw [if_pos hP]
  simp only [show ¬ (0 : Int) < -1 by decide, show ¬ (-1 : Int) = 1 by decide, if_false]
  by_cases hc : i < nn
  · have e1 : min i nn = i := by omega
    have e2 : min (i + 1) nn = i + 1 := by omega
    simp only [e1, e2]
    rw [if_neg (by omega), if_neg (by omega), mkl_succ]
    simp only [Nat.sub_self, Nat.add_zero]
    unfold S.ovN
    rw [if_pos (by omega), if_pos (by omega)]
  · have e1 : min i nn = nn := by omega
    have e2 : min (i + 1) nn = nn := by omega
    simp only [e1, e2]
    rw [if_pos trivial, if_pos trivial]
    obtain ⟨m, rfl⟩ : ∃ m, nn = m + 1 := ⟨nn - 1, by omega⟩
    rw [mkl_succ]
    have e3 : ∀ j, j + 1 + (i - (m + 1)) = j + (i + 1 - (m + 1)) := fun j => by omega
    simp only [Nat.add_sub_cancel, e3, show m + (i - m) = i by omega]
    have e4 : S.ovN (m + 1) i + 1 = S.ovN (m + 1) (i + 1) := by
      unfold S.ovN
      rw [if_neg (show ¬ i + 1 ≤ m + 1 by omega)]
      split <;> omega
    rw [e4]
    simp only [show i + 1 - (m + 1) = i - m by omega, show m + (i - m) = i by omega]
theorem steps_rows {n : Nat} {t v : Nat → Int} (h : (∀ j, j < n → 0 ≤ t j ∧ t j ≤ 255) ∧ ∀ j, j < n → 0 ≤ v j ∧ v j ≤ 255) (hn : n ≤ 1000) : ∀ j, j < n → S.okS (S.sumT t (j + 1)) ((v j).tmod 32 - 16) = true ∧ (0 < j → S.sumT t j ≤ S.sumT t (j + 1)) := by
  intro j hj
  have h1 := sumT_ok (t := t) (n := j + 1) fun i hi => h.1 i (by omega)
  have h2 := byte_facts (h.2 j hj)
  have h3 := byte_facts (h.1 j hj)
  refine ⟨decide_eq_true (by omega), fun _ => ?_⟩
  simp only [S.sumT]
  omega

end Go.Ev
