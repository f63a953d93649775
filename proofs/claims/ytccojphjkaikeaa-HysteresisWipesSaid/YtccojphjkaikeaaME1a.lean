/-
  Magnets of drafts.
-/
import Derived.Test.YtccojphjkaikeaaMC0
import Derived.Test.YtccojphjkaikeaaMD4a
import Derived.Test.YtccojphjkaikeaaMD6
namespace Go.Ev
open Go.Proofs
set_option linter.unusedVariables false
set_option linter.unusedSimpArgs false
set_option maxRecDepth 100000

theorem mkl_mem {α : Type} {n : Nat} {f : Nat → α} {y : α} : y ∈ S.mkl n f ↔ ∃ j, j < n ∧ f j = y := by simp [S.mkl]
theorem inE_list {t : Nat → Int} : ∀ {k i : Nat}, (∀ j, i ≤ j → j < i + k → -1099511627776 ≤ t j ∧ t j ≤ 1099511627776) → S.inE t i k = 0
  | 0, i, _ => rfl
  | k + 1, i, h => by
    simp only [S.inE]
    rw [if_pos (h i (Nat.le_refl _) (by omega))]
    exact inE_list fun j a c => h j (by omega) (by omega)
section
variable {np : Nat} {t v : Nat → Int} (h1 : S.bytes np t = true) (h2 : S.bytes np v = true)
include h1 h2
theorem made_hist (L : List Int) (g : Nat → Bool) (hl : L.length ≤ 1000) (hx : ∀ y ∈ L, -1099511627776 ≤ y ∧ y ≤ 1099511627776) :
    S.histS (S.mkl (S.mdN np) fun j => S.mdR np t v j).length (fun j => (S.at' (S.mkl (S.mdN np) fun j => S.mdR np t v j) j).1) (fun j => (S.at' (S.mkl (S.mdN np) fun j => S.mdR np t v j) j).2.1) (fun j => (S.at' (S.mkl (S.mdN np) fun j => S.mdR np t v j) j).2.2) (S.mkl (S.mdN np) g).length (fun j => S.at' (S.mkl (S.mdN np) g) j) L.length (fun j => S.at' L j)
      = (0, S.mkl (S.mdN np) fun j => S.mdR np t v j, S.mkl (S.mdN np) fun j => L.foldl (S.aft (S.mdR np t v j).1 (S.mdR np t v j).2.1) (g j)) := by
  rw [hist_cl]
  have he : S.histE (S.mdN np) (fun j => (S.mdR np t v j).1) (fun j => (S.mdR np t v j).2.1) (fun j => (S.mdR np t v j).2.2) (S.mdN np) L.length (fun j => S.at' L j) = 0 := by
    unfold S.histE
    rw [if_pos (made_mag h1 h2), if_neg (by omega)]
    exact inE_list fun j _ hj => by rw [at_lt (by omega)]; exact hx _ (List.getElem_mem _)
  unfold S.histS
  rw [if_pos he]
  refine congrArg (Prod.mk 0) (congrArg (Prod.mk _) (mkl_congr fun j hj => ?_))
  rw [aftN_fold, mkl1_at]
theorem made_one (x : Int) (g : Nat → Bool) (hx : -1099511627776 ≤ x ∧ x ≤ 1099511627776) :
    S.histS (S.mkl (S.mdN np) fun j => S.mdR np t v j).length (fun j => (S.at' (S.mkl (S.mdN np) fun j => S.mdR np t v j) j).1) (fun j => (S.at' (S.mkl (S.mdN np) fun j => S.mdR np t v j) j).2.1) (fun j => (S.at' (S.mkl (S.mdN np) fun j => S.mdR np t v j) j).2.2) (S.mkl (S.mdN np) g).length (fun j => S.at' (S.mkl (S.mdN np) g) j) 1 (fun j => S.lit [x] 0 j)
      = (0, S.mkl (S.mdN np) fun j => S.mdR np t v j, S.mkl (S.mdN np) fun j => S.aft (S.mdR np t v j).1 (S.mdR np t v j).2.1 (g j) x) :=
  hist_cl.trans (hist1_yes (hist_one_ok (made_mag h1 h2) hx))
theorem made_lt : ∀ j, j < S.mdN np → (S.mdR np t v j).2.1 < (S.mdR np t v j).1 ∧ 0 ≤ (S.mdR np t v j).2.1 ∧ (S.mdR np t v j).1 ≤ 100 := fun j hj => by
  unfold S.mdR
  by_cases hi : j < np
  · rw [if_pos hi]
    have a := byte_div (of_decide_eq_true h1 j hi)
    have c := byte_div (of_decide_eq_true h2 j hi)
    simp only
    omega
  · rw [if_neg hi]; decide
theorem made_sat (g : Nat → Bool) : S.satS (S.mkl (S.mdN np) fun j => S.mdR np t v j).length (fun j => (S.at' (S.mkl (S.mdN np) fun j => S.mdR np t v j) j).1) (fun j => (S.at' (S.mkl (S.mdN np) fun j => S.mdR np t v j) j).2.1) (fun j => (S.at' (S.mkl (S.mdN np) fun j => S.mdR np t v j) j).2.2) (S.mkl (S.mdN np) g).length
    = (S.minN (fun j => (S.mdR np t v j).2.1) (S.mdN np - 1), S.maxN (fun j => (S.mdR np t v j).1) (S.mdN np - 1), 0) := by
  obtain ⟨n1, -⟩ := mdN_le (np := np)
  unfold S.satS
  rw [mkl_len, mkl_len, mag_congr (u' := fun j => (S.mdR np t v j).1) (d' := fun j => (S.mdR np t v j).2.1) (w' := fun j => (S.mdR np t v j).2.2) fun j hj => by rw [at_mkl hj]; exact ⟨rfl, rfl, rfl⟩]
  rw [if_pos (made_mag h1 h2)]
  rw [minN_congr (u := fun j => (S.mdR np t v j).2.1) fun j hj => by rw [at_mkl (by omega)], maxN_congr (u := fun j => (S.mdR np t v j).1) fun j hj => by rw [at_mkl (by omega)]]
end
theorem pre_two {np : Nat} {t v : Nat → Int} (ht : ∀ j, j < np → 0 ≤ t j ∧ t j ≤ 255) (hv : ∀ j, j < np → 0 ≤ v j ∧ v j ≤ 255) : S.bytes np t = true ∧ S.bytes np v = true := ⟨bytes_mk ht, bytes_mk hv⟩
theorem inp_range {x : Int} (h : 0 ≤ x ∧ x ≤ 255) : -4 ≤ S.inp x ∧ S.inp x ≤ 59 := by have := byte_div h; unfold S.inp; omega

end Go.Ev
