/-
  Lemmas for the laws.
-/
import Derived.Test.YtccojphjkaikeaaMB5
namespace Go.Ev
open Go.Proofs
set_option linter.unusedVariables false
set_option linter.unusedSimpArgs false
set_option maxRecDepth 100000

theorem hist_len {n no nl : Nat} {u d w : Nat → Int} {o : Nat → Bool} {t : Nat → Int} : (S.histS n u d w no o nl t).2.1.length ≤ n ∧ (S.histS n u d w no o nl t).2.2.length ≤ no := by
  unfold S.histS
  split
  · exact ⟨Nat.le_of_eq mkl_len, Nat.le_of_eq mkl_len⟩
  · exact ⟨Nat.zero_le _, Nat.zero_le _⟩

theorem fld_congr {w w' : Nat → Int} {o o' : Nat → Bool} : ∀ {n : Nat}, (∀ j, j < n → w j = w' j ∧ o j = o' j) → S.fldN w o n = S.fldN w' o' n
  | 0, _ => rfl
  | n + 1, h => by
    obtain ⟨h1, h2⟩ := h n (Nat.lt_succ_self _)
    simp only [S.fldN, h1, h2]
    rw [fld_congr fun j hj => h j (by omega)]
theorem fld_mono {w : Nat → Int} {o o' : Nat → Bool} : ∀ {n : Nat}, (∀ j, j < n → 1 ≤ w j) → (∀ j, j < n → o j = true → o' j = true) → S.fldN w o n ≤ S.fldN w o' n
  | 0, _, _ => Int.le_refl _
  | n + 1, h, h2 => by
    have ih := fld_mono (n := n) (fun j hj => h j (by omega)) (fun j hj => h2 j (by omega))
    have a := h n (Nat.lt_succ_self _)
    have c := h2 n (Nat.lt_succ_self _)
    simp only [S.fldN]
    cases h3 : o n <;> cases h4 : o' n <;> simp only [cond_true, cond_false] <;> first | omega | (rw [h3, h4] at c; exact absurd (c rfl) (by decide))
theorem field_cl {n no : Nat} {f : Nat → Int × Int × Int} {g : Nat → Bool} : S.fieldS (S.mkl n f).length (fun j => (S.at' (S.mkl n f) j).1) (fun j => (S.at' (S.mkl n f) j).2.1) (fun j => (S.at' (S.mkl n f) j).2.2) (S.mkl no g).length (fun j => S.at' (S.mkl no g) j) = S.fieldS n (fun j => (f j).1) (fun j => (f j).2.1) (fun j => (f j).2.2) no g := by
  rw [mkl_len, mkl_len]
  unfold S.fieldS
  have e : S.magE n (fun j => (S.at' (S.mkl n f) j).1) (fun j => (S.at' (S.mkl n f) j).2.1) (fun j => (S.at' (S.mkl n f) j).2.2) no = S.magE n (fun j => (f j).1) (fun j => (f j).2.1) (fun j => (f j).2.2) no := mag_congr fun j hj => by rw [at_mkl hj]; exact ⟨rfl, rfl, rfl⟩
  rw [e]
  by_cases h : S.magE n (fun j => (f j).1) (fun j => (f j).2.1) (fun j => (f j).2.2) no = 0
  · rw [if_pos h, if_pos h]
    obtain ⟨_, _, h3, _⟩ := mag_ok h
    subst h3
    rw [fld_congr fun j hj => by rw [at_mkl hj, at_mkl hj]; exact ⟨rfl, rfl⟩]
  · rw [if_neg h, if_neg h]
theorem histE_congr {n no nl : Nat} {u d w u' d' w' t t' : Nat → Int} (h : ∀ j, j < n → u j = u' j ∧ d j = d' j ∧ w j = w' j) (ht : ∀ j, j < nl → t j = t' j) : S.histE n u d w no nl t = S.histE n u' d' w' no nl t' := by
  unfold S.histE
  rw [mag_congr h, in_congr fun j _ hj => ht j (by omega)]
theorem aftN_congr {u d : Int} {t t' : Nat → Int} {o : Bool} : ∀ {k : Nat}, (∀ j, j < k → t j = t' j) → S.aftN u d t o k = S.aftN u d t' o k
  | 0, _ => rfl
  | k + 1, h => by simp only [S.aftN, h k (Nat.lt_succ_self _)]; rw [aftN_congr fun j hj => h j (by omega)]
theorem hist_congr {n no nl : Nat} {u d w u' d' w' t t' : Nat → Int} {o o' : Nat → Bool} (h : ∀ j, j < n → u j = u' j ∧ d j = d' j ∧ w j = w' j) (ho : ∀ j, j < no → o j = o' j) (ht : ∀ j, j < nl → t j = t' j) : S.histS n u d w no o nl t = S.histS n u' d' w' no o' nl t' := by
  unfold S.histS
  rw [histE_congr h ht]
  by_cases h0 : S.histE n u' d' w' no nl t' = 0
  · rw [if_pos h0, if_pos h0]
    obtain ⟨_, _, h3, _⟩ := mag_ok (hist_ok h0).1
    rw [mkl_congr fun j hj => by obtain ⟨a, b, c⟩ := h j hj; rw [a, b, c]]
    rw [show (S.mkl no fun j => S.aftN (u j) (d j) t (o j) nl) = S.mkl no fun j => S.aftN (u' j) (d' j) t' (o' j) nl from mkl_congr fun j hj => by obtain ⟨a, b, c⟩ := h j (by omega); rw [a, b, ho j hj, aftN_congr ht]]
  · rw [if_neg h0, if_neg h0]
theorem hist_cl {n no nl : Nat} {f : Nat → Int × Int × Int} {g : Nat → Bool} {t : Nat → Int} : S.histS (S.mkl n f).length (fun j => (S.at' (S.mkl n f) j).1) (fun j => (S.at' (S.mkl n f) j).2.1) (fun j => (S.at' (S.mkl n f) j).2.2) (S.mkl no g).length (fun j => S.at' (S.mkl no g) j) nl t = S.histS n (fun j => (f j).1) (fun j => (f j).2.1) (fun j => (f j).2.2) no g nl t := by
  rw [mkl_len, mkl_len]
  exact hist_congr (fun j hj => by rw [at_mkl hj]; exact ⟨rfl, rfl, rfl⟩) (fun j hj => at_mkl hj) fun _ _ => rfl
theorem hist_one_ok {n no : Nat} {u d w : Nat → Int} {x : Int} (hm : S.magE n u d w no = 0) (hx : -1099511627776 ≤ x ∧ x ≤ 1099511627776) : S.histE n u d w no 1 (fun j => S.lit [x] 0 j) = 0 := by rw [hist_one, if_pos hm, if_pos hx]
theorem env_in {n no : Nat} {u d w : Nat → Int} {o : Nat → Bool} {v : Int} (hm : S.magE n u d w no = 0) : S.fldN w (fun j => decide (v ≥ u j)) n ≤ S.fldN w (fun j => S.aft (u j) (d j) (o j) v) n ∧ S.fldN w (fun j => S.aft (u j) (d j) (o j) v) n ≤ S.fldN w (fun j => decide (v > d j)) n := by
  obtain ⟨v1, v2, v3, v4⟩ := mag_ok hm
  refine ⟨fld_mono (fun j hj => (v4 j hj).2.2.2.2.1) fun j hj h => ?_, fld_mono (fun j hj => (v4 j hj).2.2.2.2.1) fun j hj h => ?_⟩
  · simp only [S.aft, h, cond_true]
  · have := v4 j hj
    simp only [S.aft, Bool.cond_eq_ite, decide_eq_true_eq] at h ⊢
    split at h
    · omega
    · split at h
      · cases h
      · omega
theorem bif_t {α : Type} {b : Bool} {x y z : α} (hb : b = true) (h : x = z) : cond b x y = z := by subst hb; exact h
theorem bif_f {α : Type} {b : Bool} {x y z : α} (hb : b = false) (h : y = z) : cond b x y = z := by subst hb; exact h

end Go.Ev
