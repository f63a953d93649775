/-
  Where buckets meet: greatest common divisors and remainders.
-/
import Derived.Test.YtejcmbcmhfejkaaA7x
namespace Go.Ev
open Go.Proofs
set_option linter.unusedVariables false
set_option linter.unusedSimpArgs false
set_option maxRecDepth 100000
set_option linter.unusedSectionVars false
theorem bezout (a : Nat) : ∀ b : Nat, ∃ x y : Int, (a : Int) * x + (b : Int) * y = (Nat.gcd a b : Nat) := by
  induction a using Nat.strongRecOn with
  | _ a ih =>
    intro b
    by_cases h : a = 0
    · subst h; exact ⟨0, 1, by simp⟩
    · obtain ⟨x, y, e⟩ := ih (b % a) (Nat.mod_lt _ (by omega)) a
      rw [Nat.gcd_rec a b, ← e]
      have hb : (b : Int) = (a : Int) * ((b / a : Nat) : Int) + ((b % a : Nat) : Int) := by exact_mod_cast (Nat.div_add_mod b a).symm
      refine ⟨y - ((b / a : Nat) : Int) * x, x, ?_⟩
      generalize ((b % a : Nat) : Int) = r at hb ⊢
      generalize ((b / a : Nat) : Int) = q at hb ⊢
      rw [hb]
      simp only [Int.mul_sub, Int.add_mul, Int.mul_assoc]
      omega
theorem gcd_parts {h1 h2 : Int} (p1 : 0 < h1) (p2 : 0 < h2) : ∃ g u v x y : Int, g = (Int.gcd h1 h2 : Int) ∧ 0 < g ∧ 0 < u ∧ 0 < v ∧ h1 = g * u ∧ h2 = g * v ∧ u * x + v * y = 1 := by
  obtain ⟨a, rfl⟩ := Int.eq_ofNat_of_zero_le (Int.le_of_lt p1)
  obtain ⟨c, rfl⟩ := Int.eq_ofNat_of_zero_le (Int.le_of_lt p2)
  have hg : 0 < Nat.gcd a c := Nat.gcd_pos_of_pos_left _ (by omega)
  obtain ⟨u, hu⟩ := Nat.gcd_dvd_left a c
  obtain ⟨v, hv⟩ := Nat.gcd_dvd_right a c
  obtain ⟨x, y, e⟩ := bezout a c
  have eu : (a : Int) = (Nat.gcd a c : Nat) * (u : Int) := by exact_mod_cast hu
  have ev : (c : Int) = (Nat.gcd a c : Nat) * (v : Int) := by exact_mod_cast hv
  refine ⟨(Nat.gcd a c : Nat), u, v, x, y, rfl, by omega, ?_, ?_, eu, ev, ?_⟩
  · rcases Nat.eq_zero_or_pos u with h | h
    · subst h; rw [eu] at p1; simp at p1
    · omega
  · rcases Nat.eq_zero_or_pos v with h | h
    · subst h; rw [ev] at p2; simp at p2
    · omega
  · have h3 : ((Nat.gcd a c : Nat) : Int) * ((u : Int) * x + (v : Int) * y) = (Nat.gcd a c : Nat) * 1 := by
      rw [Int.mul_one, Int.mul_add, ← Int.mul_assoc, ← Int.mul_assoc, ← eu, ← ev]; exact e
    exact Int.eq_of_mul_eq_mul_left (by omega) h3
section
variable {g u v x y : Int} (hg : 0 < g) (hu : 0 < u) (hv : 0 < v) (hb : u * x + v * y = 1)
include hb hg in
theorem step_dvd {m : Int} : g * v ∣ m * (g * u) ↔ v ∣ m := by
  constructor
  · rintro ⟨c, hc⟩
    have h1 : g * (m * u) = g * (v * c) := by rw [Int.mul_left_comm, hc, Int.mul_assoc]
    have h2 : m * u = v * c := Int.eq_of_mul_eq_mul_left (by omega) h1
    refine ⟨c * x + m * y, ?_⟩
    have h3 : m * (u * x) + m * (v * y) = m := by rw [← Int.mul_add, hb, Int.mul_one]
    have h4 : m * (u * x) = v * (c * x) := by rw [← Int.mul_assoc, h2, Int.mul_assoc]
    have h5 : m * (v * y) = v * (m * y) := Int.mul_left_comm _ _ _
    rw [Int.mul_add]
    omega
  · rintro ⟨c, rfl⟩
    exact ⟨c * u, by simp only [Int.mul_assoc, Int.mul_comm, Int.mul_left_comm]⟩
include hb hv in
theorem step_ex {D : Int} (h : g ∣ D) : ∃ k : Int, 0 ≤ k ∧ k < v ∧ g * v ∣ D + k * (g * u) := by
  obtain ⟨c, rfl⟩ := h
  refine ⟨(-(c * x)) % v, Int.emod_nonneg _ (by omega), Int.emod_lt_of_pos _ hv, ?_⟩
  have e := Int.emod_add_mul_ediv (-(c * x)) v
  generalize (-(c * x)) % v = k at e ⊢
  generalize (-(c * x)) / v = q at e
  have e2 : k = -(c * x) - v * q := by omega
  have h3 : c * (u * x + v * y) = c := by rw [hb, Int.mul_one]
  refine ⟨c * y - q * u, ?_⟩
  have e3 : g * c = g * (c * (u * x + v * y)) := by rw [h3]
  rw [e3, e2]
  simp only [Int.mul_add, Int.mul_sub, Int.sub_mul, Int.neg_mul, Int.mul_neg]
  have a1 : g * (c * (u * x)) = c * x * (g * u) := by simp only [Int.mul_assoc, Int.mul_comm, Int.mul_left_comm]
  have a2 : g * (c * (v * y)) = g * v * (c * y) := by simp only [Int.mul_assoc, Int.mul_comm, Int.mul_left_comm]
  have a3 : v * q * (g * u) = g * v * (q * u) := by simp only [Int.mul_assoc, Int.mul_comm, Int.mul_left_comm]
  omega
end
theorem tmod_lt' {n h : Int} (hh : 0 < h) : -h < Int.tmod n h ∧ Int.tmod n h < h := ⟨Int.lt_tmod_of_pos n hh, Int.tmod_lt_of_pos n hh⟩
theorem mdl_emod {n h : Int} (hh : 0 < h) : S.mdl n h = n % h := by
  have h1 := tmod_lt' (n := n) hh
  unfold S.mdl
  rw [Int.tmod_eq_emod_of_nonneg (by omega), Int.add_emod_right]
  have e : n = Int.tmod n h + h * Int.tdiv n h := by have := Int.mul_tdiv_add_tmod n h; omega
  conv => rhs; rw [e, Int.add_mul_emod_self_left]
theorem emod_iff {a J h : Int} (hJ : 0 ≤ J ∧ J < h) : a % h = J ↔ h ∣ a - J := by
  constructor
  · intro e
    refine ⟨a / h, ?_⟩
    have := Int.emod_add_mul_ediv a h
    omega
  · rintro ⟨c, hc⟩
    rw [show a = J + h * c by omega, Int.add_mul_emod_self_left, Int.emod_eq_of_lt hJ.1 hJ.2]
theorem pas_dvd {h i t : Int} (hh : 0 < h) : h ∣ S.pas h i t - i := by
  refine ⟨-((i - t) / h), ?_⟩
  have := Int.emod_add_mul_ediv (i - t) h
  unfold S.pas
  rw [mdl_emod hh, Int.mul_neg]
  omega
theorem idx_spec {p : Nat → Bool} : ∀ {n i : Nat}, (S.idx p i n = -1 ∧ ∀ j, i ≤ j → j < i + n → p j = false) ∨ ∃ k : Nat, S.idx p i n = (k : Int) ∧ i ≤ k ∧ k < i + n ∧ p k = true ∧ ∀ j, i ≤ j → j < k → p j = false
  | 0, i => .inl ⟨rfl, fun j h1 h2 => by omega⟩
  | n + 1, i => by
    simp only [S.idx]
    by_cases h : p i = true
    · rw [if_pos h]; exact .inr ⟨i, rfl, Nat.le_refl _, by omega, h, fun j h1 h2 => by omega⟩
    · rw [if_neg h]
      have hf : p i = false := by simpa using h
      rcases idx_spec (p := p) (n := n) (i := i + 1) with ⟨e, hn⟩ | ⟨k, e, k1, k2, k3, k4⟩
      · exact .inl ⟨e, fun j h1 h2 => by by_cases hj : j = i; subst hj; exact hf; exact hn j (by omega) (by omega)⟩
      · exact .inr ⟨k, e, by omega, by omega, k3, fun j h1 h2 => by by_cases hj : j = i; subst hj; exact hf; exact k4 j (by omega) h2⟩
section
variable {g u v x y I J t : Int} (hg : 0 < g) (hu : 0 < u) (hv : 0 < v) (hb : u * x + v * y = 1) (hI : 0 ≤ I) (hJ : 0 ≤ J ∧ J < g * v) (ht : 0 ≤ t)
include hg hu hv hb hJ ht
theorem hit_iff {k : Nat} : S.hitB (g * u) I (g * v) J t k = true ↔ g * v ∣ S.pas (g * u) I t + (k : Int) * (g * u) - J := by
  have h1 : 0 < g * u := Int.mul_pos hg hu
  have hp : 0 ≤ S.pas (g * u) I t := by
    unfold S.pas; rw [mdl_emod h1]
    have := Int.emod_nonneg (I - t) (show g * u ≠ 0 by omega)
    omega
  have hk : 0 ≤ (k : Int) * (g * u) := Int.mul_nonneg (by omega) (by omega)
  unfold S.hitB
  rw [decide_eq_true_eq, Int.tmod_eq_emod_of_nonneg (by omega), emod_iff hJ]
/-- The first place at which two buckets meet, if there is one. -/
theorem meet_idx (n : Nat) (hn : v ≤ n) : (S.idx (S.hitB (g * u) I (g * v) J t) 0 n = -1 ∧ ¬ g ∣ I - J) ∨ ∃ k : Nat, S.idx (S.hitB (g * u) I (g * v) J t) 0 n = (k : Int) ∧ (k : Int) < v ∧ g ∣ I - J ∧ g * v ∣ S.pas (g * u) I t + (k : Int) * (g * u) - J ∧ ∀ j : Nat, j < k → ¬ g * v ∣ S.pas (g * u) I t + (j : Int) * (g * u) - J := by
  have h1 : 0 < g * u := Int.mul_pos hg hu
  obtain ⟨c, hc⟩ := pas_dvd (h := g * u) (i := I) (t := t) h1
  have hd : g ∣ S.pas (g * u) I t - J ↔ g ∣ I - J := by
    have e : S.pas (g * u) I t - J = (I - J) + g * (u * c) := by rw [← Int.mul_assoc]; omega
    rw [e]
    exact ⟨fun h => (Int.dvd_add_left ⟨_, rfl⟩).mp h, fun h => Int.dvd_add h ⟨_, rfl⟩⟩
  have hex : g ∣ I - J → ∃ k : Nat, (k : Int) < v ∧ S.hitB (g * u) I (g * v) J t k = true := fun h => by
    obtain ⟨k, k1, k2, k3⟩ := step_ex hv hb (hd.mpr h)
    obtain ⟨m, rfl⟩ := Int.eq_ofNat_of_zero_le k1
    exact ⟨m, k2, (hit_iff hg hu hv hb hJ ht).mpr (by rw [show S.pas (g * u) I t + (m : Int) * (g * u) - J = S.pas (g * u) I t - J + (m : Int) * (g * u) by omega]; exact k3)⟩
  rcases idx_spec (p := S.hitB (g * u) I (g * v) J t) (n := n) (i := 0) with ⟨e, hno⟩ | ⟨k, e, k1, k2, k3, k4⟩
  · refine .inl ⟨e, fun h => ?_⟩
    obtain ⟨m, m1, m2⟩ := hex h
    rw [hno m (Nat.zero_le _) (by omega)] at m2; cases m2
  · have k3' := (hit_iff hg hu hv hb hJ ht).mp k3
    have hgd : g ∣ I - J := by
      rw [← hd]
      have q1 : g ∣ S.pas (g * u) I t + (k : Int) * (g * u) - J := Int.dvd_trans ⟨v, rfl⟩ k3'
      have e2 : S.pas (g * u) I t + (k : Int) * (g * u) - J = (S.pas (g * u) I t - J) + g * ((k : Int) * u) := by rw [Int.mul_left_comm]; omega
      rw [e2] at q1
      exact (Int.dvd_add_left ⟨_, rfl⟩).mp q1
    refine .inr ⟨k, e, ?_, hgd, k3', fun j hj hd' => ?_⟩
    · obtain ⟨m, m1, m2⟩ := hex hgd
      rcases Nat.lt_or_ge m k with h | h
      · rw [k4 m (Nat.zero_le _) h] at m2; cases m2
      · omega
    · have := (hit_iff hg hu hv hb hJ ht).mpr hd'
      rw [k4 j (Nat.zero_le _) hj] at this; cases this
end

end Go.Ev
