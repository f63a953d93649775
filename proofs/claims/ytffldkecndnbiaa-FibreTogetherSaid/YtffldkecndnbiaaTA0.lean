/-
  Trees.
-/
import Derived.Test.YtffldkecndnbiaaTL0
namespace Go.Ev
open Go.Proofs
set_option linter.unusedVariables false
set_option linter.unusedSimpArgs false
set_option maxRecDepth 100000

namespace S
def okO (i : Nat) (p : Int) : Bool := decide ((i = 0 → p = -1) ∧ (0 < i → 0 ≤ p ∧ p < i))
def okB (i : Nat) (d u j : Int) : Bool := decide ((i = 0 → d = 0 ∧ u = 0) ∧ (0 ≤ d ∧ d ≤ 1000000) ∧ (0 ≤ u ∧ u ≤ 1000000) ∧ 0 ≤ j ∧ j ≤ d ∧ j ≤ u)
def nodE (p d u j : Nat → Int) : Nat → Nat → Int
  | _, 0 => 0
  | i, k + 1 => if okO i (p i) = true then (if okB i (d i) (u i) (j i) = true then nodE p d u j (i + 1) k else 6) else 15
/-- The error of a tree. -/
def treE (n : Nat) (p d u j : Nat → Int) : Int := if n = 0 then 7 else if 60 < n then 3 else nodE p d u j 0 n
end S
theorem nodE_ok {p d u j : Nat → Int} : ∀ {k i : Nat}, S.nodE p d u j i k = 0 → ∀ a, i ≤ a → a < i + k → S.okO a (p a) = true ∧ S.okB a (d a) (u a) (j a) = true
  | 0, i, _, a, h1, h2 => by omega
  | k + 1, i, h, a, h1, h2 => by
    simp only [S.nodE] at h
    split at h
    · split at h
      · by_cases ha : a = i
        · subst ha; exact ⟨by assumption, by assumption⟩
        · exact nodE_ok h a (by omega) (by omega)
      · cases h
    · cases h
/-- What a valid tree is. -/
theorem tre_ok {n : Nat} {p d u j : Nat → Int} (h : S.treE n p d u j = 0) : 1 ≤ n ∧ n ≤ 60 ∧ p 0 = -1 ∧ (∀ i, 0 < i → i < n → 0 ≤ p i ∧ p i < i) ∧ (∀ i, i < n → (0 ≤ d i ∧ d i ≤ 1000000) ∧ (0 ≤ u i ∧ u i ≤ 1000000) ∧ 0 ≤ j i ∧ j i ≤ d i ∧ j i ≤ u i) ∧ d 0 = 0 ∧ u 0 = 0 := by
  unfold S.treE at h
  split at h
  · cases h
  · split at h
    · cases h
    · have h3 : ∀ a, a < n → S.okO a (p a) = true ∧ S.okB a (d a) (u a) (j a) = true := fun a ha => nodE_ok h a (Nat.zero_le _) (by omega)
      have h0 := h3 0 (by omega)
      have e0 := of_decide_eq_true h0.1
      have f0 := of_decide_eq_true h0.2
      exact ⟨by omega, by omega, e0.1 rfl, fun i hi hn => (of_decide_eq_true (h3 i hn).1).2 hi, fun i hn => (of_decide_eq_true (h3 i hn).2).2, (f0.1 rfl).1, (f0.1 rfl).2⟩
namespace S
/-- A node's parent, as a number below it. -/
def par (p : Nat → Int) (x : Nat) : Nat := if (p x).toNat < x then (p x).toNat else 0
end S
theorem par_lt {p : Nat → Int} {x : Nat} (h : 0 < x) : S.par p x < x := by unfold S.par; split <;> omega
namespace S
/-- The way from a node up to the root, behind what is there already. -/
def pathL (p : Nat → Int) (x : Nat) (L : List Int) : List Int := if h : 0 < x then pathL p (par p x) (snoc L (x : Int)) else L
termination_by x
decreasing_by exact par_lt h
/-- A sum over the way up. -/
def dl (p d : Nat → Int) (x : Nat) : Int := if h : 0 < x then d x + dl p d (par p x) else 0
termination_by x
decreasing_by exact par_lt h
/-- Is a node another one, or above it? -/
def abv (p : Nat → Int) (a x : Nat) : Bool := if h : a < x then abv p a (par p x) else a == x
termination_by x
decreasing_by exact par_lt (Nat.lt_of_le_of_lt (Nat.zero_le a) h)
/-- The lowest node above two. -/
def com (p : Nat → Int) (a b : Nat) : Nat := if abv p a b = true then a else if h : 0 < a then com p (par p a) b else 0
termination_by a
decreasing_by exact par_lt h
def sumN (f : Nat → Int) : Nat → Int
  | 0 => 0
  | i + 1 => sumN f i + f i
def cho (l : Nat → Bool) : Nat → List Int
  | 0 => []
  | i + 1 => if l i = true then snoc (cho l i) (i : Int) else cho l i
def lefB (p : Nat → Int) (n i : Nat) : Bool := !(any (fun q => decide (p q = (i : Int))) n)
def leaL (p : Nat → Int) (n : Nat) : List Int := cho (lefB p n) n
def leaS (n : Nat) (p d u j : Nat → Int) : Int × List Int := if treE n p d u j = 0 then (0, leaL p n) else (treE n p d u j, [])
def dlyT (p d j : Nat → Int) (q : Nat) : Int × Int × Bool × Bool := (dl p d q - dl p j q, dl p d q + dl p j q, false, false)
def dlyS (n : Nat) (p d u j : Nat → Int) : Int × List (Int × Int × Bool × Bool) := if treE n p d u j = 0 then (0, mkl n (fun q => dlyT p d j q)) else (treE n p d u j, [])
def cutS (n : Nat) (p d u j : Nat → Int) (x : Int) : Int × List Int := if treE n p d u j = 0 then (if 1 ≤ x ∧ x < n then (0, cho (abv p x.toNat) n) else (6, [])) else (treE n p d u j, [])
def comS (n : Nat) (p d u j : Nat → Int) (x y : Int) : Int × Int := if treE n p d u j = 0 then (if (0 ≤ x ∧ x < n) ∧ 0 ≤ y ∧ y < n then ((com p x.toNat y.toNat : Int), 0) else (0, 6)) else (0, treE n p d u j)
end S
theorem nrec (p : Nat → Int) {P : Nat → Prop} (h0 : P 0) (hs : ∀ x, 0 < x → P (S.par p x) → P x) : ∀ x, P x := by
  intro x
  induction x using Nat.strongRecOn with
  | _ x ih =>
    by_cases h : 0 < x
    · exact hs x h (ih _ (par_lt h))
    · obtain rfl : x = 0 := by omega
      exact h0
theorem pathL_pos {p : Nat → Int} {x : Nat} {L : List Int} (h : 0 < x) : S.pathL p x L = S.pathL p (S.par p x) (S.snoc L (x : Int)) := by conv => lhs; rw [S.pathL, dif_pos h]
theorem pathL_z {p : Nat → Int} {L : List Int} : S.pathL p 0 L = L := by rw [S.pathL, dif_neg (Nat.lt_irrefl 0)]
theorem dl_pos {p d : Nat → Int} {x : Nat} (h : 0 < x) : S.dl p d x = d x + S.dl p d (S.par p x) := by conv => lhs; rw [S.dl, dif_pos h]
theorem dl_z {p d : Nat → Int} : S.dl p d 0 = 0 := by rw [S.dl, dif_neg (Nat.lt_irrefl 0)]
theorem abv_up {p : Nat → Int} {a x : Nat} (h : a < x) : S.abv p a x = S.abv p a (S.par p x) := by conv => lhs; rw [S.abv, dif_pos h]
theorem abv_eq {p : Nat → Int} {a : Nat} : S.abv p a a = true := by rw [S.abv, dif_neg (Nat.lt_irrefl a)]; exact beq_self_eq_true a
theorem abv_no {p : Nat → Int} {a x : Nat} (h : x < a) : S.abv p a x = false := by rw [S.abv, dif_neg (by omega)]; exact beq_eq_false_iff_ne.mpr (by omega)
theorem com_yes {p : Nat → Int} {a x : Nat} (h : S.abv p a x = true) : S.com p a x = a := by rw [S.com, if_pos h]
theorem abv_root {p : Nat → Int} : ∀ x, S.abv p 0 x = true := nrec p abv_eq (fun x h ih => by rw [abv_up h]; exact ih)
theorem com_up {p : Nat → Int} {a x : Nat} (h : S.abv p a x = false) : S.com p a x = S.com p (S.par p a) x := by
  have h0 : 0 < a := by
    rcases Nat.eq_zero_or_pos a with h1 | h1
    · subst h1; rw [abv_root] at h; cases h
    · exact h1
  conv => lhs; rw [S.com, if_neg (by rw [h]; exact Bool.false_ne_true), dif_pos h0]
theorem com_z {p : Nat → Int} {x : Nat} : S.com p 0 x = 0 := com_yes (abv_root x)
theorem par_is {p : Nat → Int} {n x : Nat} (v : ∀ i, 0 < i → i < n → 0 ≤ p i ∧ p i < i) (h0 : 0 < x) (hn : x < n) : p x = (S.par p x : Int) := by
  have := v x h0 hn
  unfold S.par
  rw [if_pos (by omega)]; omega
theorem sum_congr {f g : Nat → Int} : ∀ {n : Nat}, (∀ j, j < n → f j = g j) → S.sumN f n = S.sumN g n
  | 0, _ => rfl
  | n + 1, h => by simp only [S.sumN]; rw [h n (Nat.lt_succ_self n), sum_congr fun j hj => h j (Nat.lt_succ_of_lt hj)]
theorem path_len {p : Nat → Int} : ∀ (x : Nat) (L : List Int), (S.pathL p x L).length ≤ L.length + x := by
  refine nrec p (fun L => by rw [pathL_z]; omega) (fun x h ih L => ?_)
  rw [pathL_pos h]
  have := ih (S.snoc L (x : Int))
  rw [snoc_len] at this
  have := par_lt (p := p) h
  omega
theorem path_mem {p : Nat → Int} : ∀ (x : Nat) (L : List Int), (∀ q, q < (S.pathL p x L).length → (q < L.length ∧ S.at' (S.pathL p x L) q = S.at' L q) ∨ ∃ y : Nat, 0 < y ∧ y ≤ x ∧ S.at' (S.pathL p x L) q = (y : Int)) := by
  refine nrec p (fun L q hq => by rw [pathL_z] at hq ⊢; exact .inl ⟨hq, rfl⟩) (fun x h ih L q hq => ?_)
  rw [pathL_pos h] at hq ⊢
  rcases ih _ q hq with ⟨h1, h2⟩ | ⟨y, h1, h2, h3⟩
  · rw [snoc_len] at h1
    by_cases hl : q < L.length
    · exact .inl ⟨hl, by rw [h2, at_snoc_lt hl]⟩
    · obtain rfl : q = L.length := by omega
      exact .inr ⟨x, h, Nat.le_refl _, by rw [h2, at_snoc_eq]⟩
  · have := par_lt (p := p) h
    exact .inr ⟨y, h1, by omega, h3⟩
/-- The nodes on a way are nodes. -/
theorem path_in {p : Nat → Int} {x q : Nat} (hq : q < (S.pathL p x []).length) : 0 < S.at' (S.pathL p x []) q ∧ S.at' (S.pathL p x []) q ≤ x := by
  rcases path_mem x [] q hq with ⟨h1, _⟩ | ⟨y, h1, h2, h3⟩
  · exact absurd h1 (Nat.not_lt_zero q)
  · rw [h3]; omega
theorem path_sum {p : Nat → Int} {g : Nat → Int} : ∀ (x : Nat) (L : List Int), S.sumN (fun q => g (S.at' (S.pathL p x L) q).toNat) (S.pathL p x L).length = S.sumN (fun q => g (S.at' L q).toNat) L.length + S.dl p g x := by
  refine nrec p (fun L => by rw [pathL_z, dl_z]; omega) (fun x h ih L => ?_)
  rw [pathL_pos h, dl_pos h, ih, snoc_len]
  have e : S.sumN (fun q => g (S.at' (S.snoc L (x : Int)) q).toNat) (L.length + 1) = S.sumN (fun q => g (S.at' L q).toNat) L.length + g x := by
    show S.sumN _ L.length + _ = _
    simp only [at_snoc_eq, Int.toNat_natCast]
    rw [sum_congr (fun j hj => by rw [at_snoc_lt hj])]
  rw [e]; omega
theorem path_sum0 {p : Nat → Int} {g : Nat → Int} {x : Nat} : S.sumN (fun q => g (S.at' (S.pathL p x []) q).toNat) (S.pathL p x []).length = S.dl p g x := by
  rw [path_sum]; show 0 + _ = _; omega
theorem path_any {p : Nat → Int} {a : Nat} (ha : 0 < a) : ∀ (x : Nat) (L : List Int), S.any (fun q => decide (S.at' (S.pathL p x L) q = (a : Int))) (S.pathL p x L).length = (S.any (fun q => decide (S.at' L q = (a : Int))) L.length || S.abv p a x) := by
  refine nrec p (fun L => by rw [pathL_z, abv_no ha, Bool.or_false]) (fun x h ih L => ?_)
  rw [pathL_pos h, ih, snoc_len]
  have e : S.any (fun q => decide (S.at' (S.snoc L (x : Int)) q = (a : Int))) (L.length + 1) = (S.any (fun q => decide (S.at' L q = (a : Int))) L.length || decide ((x : Int) = (a : Int))) := by
    have e1 : S.any (fun q => decide (S.at' (S.snoc L (x : Int)) q = (a : Int))) (L.length + 1) = (S.any (fun q => decide (S.at' (S.snoc L (x : Int)) q = (a : Int))) L.length || decide (S.at' (S.snoc L (x : Int)) L.length = (a : Int))) := by simp [S.any, List.range_succ]
    rw [e1, at_snoc_eq, any_congr (fun j hj => by rw [at_snoc_lt hj])]
  rw [e, Bool.or_assoc]
  congr 1
  have hp := par_lt (p := p) h
  by_cases h1 : a < x
  · rw [abv_up h1, decide_eq_false (by omega), Bool.false_or]
  · by_cases h2 : a = x
    · subst h2; rw [abv_eq, decide_eq_true rfl, Bool.true_or]
    · rw [abv_no (show x < a by omega), abv_no (show S.par p x < a by omega), decide_eq_false (by omega), Bool.or_false]
theorem path_any0 {p : Nat → Int} {a x : Nat} (ha : 0 < a) : S.any (fun q => decide (S.at' (S.pathL p x []) q = (a : Int))) (S.pathL p x []).length = S.abv p a x := by
  rw [path_any ha]; rfl
theorem sum_bnd {f : Nat → Int} {c e : Int} : ∀ {n : Nat}, (∀ q, q < n → c ≤ f q ∧ f q ≤ e) → c * n ≤ S.sumN f n ∧ S.sumN f n ≤ e * n
  | 0, _ => by simp [S.sumN]
  | n + 1, h => by
    have ih := sum_bnd (n := n) (fun q hq => h q (by omega))
    have h1 := h n (by omega)
    simp only [S.sumN, Int.natCast_add, Int.natCast_one, Int.mul_add, Int.mul_one]
    omega
theorem dl_bnd {p g : Nat → Int} {n : Nat} {c : Int} (hc : 0 ≤ c) (hg : ∀ y, y < n → -c ≤ g y ∧ g y ≤ c) : ∀ x, x < n → -(c * x) ≤ S.dl p g x ∧ S.dl p g x ≤ c * x := by
  refine nrec p (fun _ => by rw [dl_z]; simp) (fun x h ih hx => ?_)
  have h1 := par_lt (p := p) h
  have ih := ih (by omega)
  have h2 := hg x hx
  rw [dl_pos h]
  have h3 : c * ((S.par p x + 1 : Nat) : Int) ≤ c * x := Int.mul_le_mul_of_nonneg_left (by omega) hc
  rw [Int.natCast_add, Int.mul_add] at h3
  simp only [Int.natCast_one, Int.mul_one] at h3
  omega
theorem dl_nn {p g : Nat → Int} {n : Nat} (hg : ∀ y, y < n → 0 ≤ g y) : ∀ x, x < n → 0 ≤ S.dl p g x := by
  refine nrec p (fun _ => by rw [dl_z]; omega) (fun x h ih hx => ?_)
  have h1 := par_lt (p := p) h
  have ih := ih (by omega)
  have h2 := hg x hx
  rw [dl_pos h]; omega
theorem com_sym {p : Nat → Int} : ∀ (s a x : Nat), a + x ≤ s → S.com p a x = S.com p x a := by
  intro s
  induction s with
  | zero => intro a x h; obtain rfl : a = 0 := by omega
            obtain rfl : x = 0 := by omega
            rfl
  | succ s ih =>
    intro a x h
    have key : ∀ a x : Nat, a + x ≤ s + 1 → a < x → S.com p a x = S.com p a (S.par p x) := by
      intro a x hs hl
      have hx := par_lt (p := p) (show 0 < x by omega)
      have : ∀ y, y < x → S.com p y x = S.com p y (S.par p x) := by
        refine nrec p (fun _ => by rw [com_z, com_z]) (fun y h0 ihy hy => ?_)
        have hpy := par_lt (p := p) h0
        have e := abv_up (p := p) hy
        by_cases hb : S.abv p y x = true
        · rw [com_yes hb, com_yes (by rw [← e]; exact hb)]
        · rw [Bool.not_eq_true] at hb
          have hb2 : S.abv p y (S.par p x) = false := by rw [← e]; exact hb
          rw [com_up hb, com_up hb2]
          exact ihy (by omega)
      exact this a hl
    rcases Nat.lt_trichotomy a x with hl | hl | hl
    · have hx := par_lt (p := p) (show 0 < x by omega)
      rw [key a x h hl, ih a _ (by omega), com_up (abv_no hl)]
    · subst hl; rfl
    · have hx := par_lt (p := p) (show 0 < a by omega)
      rw [key x a (by omega) hl, ih x _ (by omega), com_up (abv_no hl)]
theorem com_up' {p : Nat → Int} {a x : Nat} (h : a < x) : S.com p a x = S.com p a (S.par p x) := by
  rw [com_sym _ a x (Nat.le_refl _), com_up (abv_no h), com_sym _ a _ (Nat.le_refl _)]
theorem com_le {p : Nat → Int} {x : Nat} : ∀ a, S.com p a x ≤ a ∧ S.abv p (S.com p a x) x = true := by
  refine nrec p ⟨by rw [com_z]; omega, by rw [com_z]; exact abv_root x⟩ (fun a h ih => ?_)
  by_cases hb : S.abv p a x = true
  · rw [com_yes hb]; exact ⟨Nat.le_refl _, hb⟩
  · rw [Bool.not_eq_true] at hb
    rw [com_up hb]
    have := par_lt (p := p) h
    exact ⟨by omega, ih.2⟩
theorem cho_len {l : Nat → Bool} : ∀ {n : Nat}, (S.cho l n).length ≤ n
  | 0 => Nat.le_refl _
  | n + 1 => by
    have ih := cho_len (l := l) (n := n)
    simp only [S.cho]
    split
    · rw [snoc_len]; omega
    · omega
theorem cho_yes {l : Nat → Bool} {i : Nat} (h : l i = true) : S.cho l (i + 1) = S.snoc (S.cho l i) (i : Int) := if_pos h
theorem cho_no {l : Nat → Bool} {i : Nat} (h : l i = false) : S.cho l (i + 1) = S.cho l i := if_neg (by rw [h]; exact Bool.false_ne_true)
theorem cho_mem {l : Nat → Bool} : ∀ {n q : Nat}, q < (S.cho l n).length → ∃ x : Nat, x < n ∧ S.at' (S.cho l n) q = (x : Int) ∧ l x = true
  | 0, q, h => absurd h (Nat.not_lt_zero q)
  | n + 1, q, h => by
    by_cases hB : l n = true
    · rw [cho_yes hB] at h ⊢
      rw [snoc_len] at h
      by_cases hq : q < (S.cho l n).length
      · obtain ⟨x, h1, h2, h3⟩ := cho_mem hq
        exact ⟨x, by omega, by rw [at_snoc_lt hq]; exact h2, h3⟩
      · obtain rfl : q = (S.cho l n).length := by omega
        exact ⟨n, by omega, at_snoc_eq, hB⟩
    · rw [Bool.not_eq_true] at hB
      rw [cho_no hB] at h ⊢
      obtain ⟨x, h1, h2, h3⟩ := cho_mem h
      exact ⟨x, by omega, h2, h3⟩
theorem cho_ex {l : Nat → Bool} : ∀ {n x : Nat}, x < n → l x = true → ∃ q, q < (S.cho l n).length ∧ S.at' (S.cho l n) q = (x : Int)
  | 0, x, h, _ => absurd h (Nat.not_lt_zero x)
  | n + 1, x, h, hx => by
    by_cases hB : l n = true
    · rw [cho_yes hB, snoc_len]
      by_cases hn : x < n
      · obtain ⟨q, h1, h2⟩ := cho_ex hn hx
        exact ⟨q, by omega, by rw [at_snoc_lt h1]; exact h2⟩
      · obtain rfl : x = n := by omega
        exact ⟨(S.cho l x).length, by omega, at_snoc_eq⟩
    · rw [Bool.not_eq_true] at hB
      rw [cho_no hB]
      by_cases hn : x < n
      · exact cho_ex hn hx
      · obtain rfl : x = n := by omega
        rw [hB] at hx; cases hx
/-- The last node is a leaf. -/
theorem lef_last {p : Nat → Int} {n : Nat} (hn : 0 < n) (v0 : p 0 = -1) (v : ∀ i, 0 < i → i < n → 0 ≤ p i ∧ p i < i) : S.lefB p n (n - 1) = true := by
  unfold S.lefB
  rw [Bool.not_eq_true', any_no]
  intro q hq
  apply decide_eq_false
  rcases Nat.eq_zero_or_pos q with h | h
  · subst h; omega
  · have := v q h hq; omega
theorem leaL_len {p : Nat → Int} {n : Nat} (hn : 0 < n) (v0 : p 0 = -1) (v : ∀ i, 0 < i → i < n → 0 ≤ p i ∧ p i < i) : 0 < (S.leaL p n).length := by
  obtain ⟨q, h, _⟩ := cho_ex (show n - 1 < n by omega) (lef_last hn v0 v)
  exact Nat.lt_of_le_of_lt (Nat.zero_le _) h
theorem leaL_in {p : Nat → Int} {n q : Nat} (hq : q < (S.leaL p n).length) : 0 ≤ S.at' (S.leaL p n) q ∧ S.at' (S.leaL p n) q < n := by
  obtain ⟨x, h1, h2, _⟩ := cho_mem hq
  unfold S.leaL; rw [h2]; omega

end Go.Ev
