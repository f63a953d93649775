/-
  The remaining difference is attained.
-/
import Derived.Test.YtffldkecndnbiaaTG1
import Derived.Test.YtffldkecndnbiaaTE2
import Derived.Test.YtffldkecndnbiaaTA7
import Derived.Test.YtffldkecndnbiaaTF2
import Derived.Test.YtffldkecndnbiaaTC3
import Derived.Test.YtffldkecndnbiaaTAL
namespace Go.Ev
open Go.Proofs
set_option linter.unusedVariables false
set_option linter.unusedSimpArgs false
set_option maxRecDepth 100000

theorem byte_mk {x : Int} (h : 0 ≤ x ∧ x ≤ 255) : S.byte x = true := decide_eq_true h
theorem bytes_mk {n : Nat} {t : Nat → Int} (h : ∀ j, j < n → 0 ≤ t j ∧ t j ≤ 255) : S.bytes n t = true := decide_eq_true h
theorem u32s_mk {n : Nat} {t : Nat → Int} (h : ∀ j, j < n → 0 ≤ t j ∧ t j ≤ 4294967295) : S.u32s n t = true := decide_eq_true h
theorem dl_abs {p w g : Nat → Int} {n : Nat} (h : ∀ y, y < n → -w y ≤ g y ∧ g y ≤ w y) : ∀ x, x < n → -S.dl p w x ≤ S.dl p g x ∧ S.dl p g x ≤ S.dl p w x := by
  refine nrec p (fun _ => by rw [dl_z, dl_z]; omega) (fun x h0 ih hx => ?_)
  have h1 := par_lt (p := p) h0
  have ih := ih (by omega)
  have h2 := h x hx
  rw [dl_pos h0, dl_pos h0]; omega
theorem spr_ok {n m : Nat} {w y : Nat → Int} (hw : ∀ q, q < n → 0 ≤ w q) (hy : S.bytes m y = true) : (S.sprL n w m y).length = n ∧ ∀ q, q < n → -w q ≤ S.at' (S.sprL n w m y) q ∧ S.at' (S.sprL n w m y) q ≤ w q := by
  refine ⟨mkl_len, fun q hq => ?_⟩
  have e : S.at' (S.sprL n w m y) q = S.sprT w m y q := at_mkl hq
  rw [e]
  exact spr_bnd (hw q hq) fun h => (of_decide_eq_true hy q h).1
theorem lea_is {n : Nat} {p d u j : Nat → Int} (h : S.treE n p d u j = 0) : S.leaS n p d u j = (0, S.leaL p n) := by unfold S.leaS; rw [if_pos h]
theorem dly_is {n : Nat} {p d u j : Nat → Int} (h : S.treE n p d u j = 0) : S.dlyS n p d u j = (0, S.mkl n (S.dlyT p d j)) := by unfold S.dlyS; rw [if_pos h]
theorem act_is {n m c : Nat} {p d u j add g : Nat → Int} {ev : Int} (h : S.treE n p d u j = 0) (hm : m = (S.leaL p n).length) (hc : c = n) (he : 0 ≤ ev ∧ ev ≤ 1099511627776) (hw : ∀ q, q < m → 0 ≤ add q ∧ add q ≤ 1000000000) (hj : ∀ q, q < n → -j q ≤ g q ∧ g q ≤ j q) : S.actS n p d u j m add ev c g = (0, S.mkl (S.leaL p n).length (S.actT p d g add ev (S.leaL p n))) := by
  unfold S.actS
  rw [if_pos h, if_pos ⟨hm, hc, he, winT_iff.mpr (fun q _ hq => hw q (by omega)), jitK_iff.mpr (fun q _ hq => hj q (by omega))⟩]
namespace S
def wrL (p w : Nat → Int) (c z : Nat) (L : List Int) : List Int := if h : c < z then wrL p w c (par p z) (mkl L.length fun j => bif Nat.beq j z then w z else at' L j) else L
termination_by z
decreasing_by exact par_lt (Nat.lt_of_le_of_lt (Nat.zero_le c) h)
end S
theorem wrL_go {p w : Nat → Int} {c z : Nat} {L : List Int} (h : c < z) : S.wrL p w c z L = S.wrL p w c (S.par p z) (S.mkl L.length fun j => bif Nat.beq j z then w z else S.at' L j) := by conv => lhs; rw [S.wrL, dif_pos h]
theorem wrL_end {p w : Nat → Int} {c z : Nat} {L : List Int} (h : ¬ c < z) : S.wrL p w c z L = L := by rw [S.wrL, dif_neg h]
theorem abv_le {p : Nat → Int} {a x : Nat} (h : S.abv p a x = true) : a ≤ x := by
  rcases Nat.lt_or_ge x a with h1 | h1
  · rw [abv_no h1] at h; cases h
  · exact h1
theorem wrL_ok {p w : Nat → Int} {c : Nat} : ∀ (z : Nat) (L : List Int), (S.wrL p w c z L).length = L.length ∧ ∀ q, q < L.length → S.at' (S.wrL p w c z L) q = if c < q ∧ S.abv p q z = true then w q else S.at' L q := by
  refine nrec p (fun L => ?_) (fun z h0 ih L => ?_)
  · rw [wrL_end (Nat.not_lt_zero c)]
    exact ⟨rfl, fun q hq => by rw [if_neg (fun h => by have := abv_le h.2; omega)]⟩
  · by_cases hc : c < z
    · rw [wrL_go hc]
      obtain ⟨h1, h2⟩ := ih (S.mkl L.length fun j => bif Nat.beq j z then w z else S.at' L j)
      rw [mkl_len] at h1 h2
      refine ⟨h1, fun q hq => ?_⟩
      have hl := par_lt (p := p) h0
      rw [h2 q hq, at_mkl hq]
      rcases Nat.lt_trichotomy q z with h3 | h3 | h3
      · rw [nbeq_no (by omega), cond_false, abv_up h3]
      · subst h3
        rw [Nat.beq_refl, cond_true, if_neg (fun h => by have := abv_le h.2; omega), if_pos ⟨hc, abv_eq⟩]
      · rw [nbeq_no (by omega), cond_false, if_neg (fun h => by have := abv_le h.2; omega), if_neg (fun h => by have := abv_le h.2; omega)]
    · rw [wrL_end hc]
      exact ⟨rfl, fun q hq => by rw [if_neg (fun h => by have := abv_le h.2; omega)]⟩
theorem dl_seg {p w g : Nat → Int} {n c : Nat} (h : ∀ y, y < n → -w y ≤ g y ∧ g y ≤ w y) : ∀ x, x < n → S.abv p c x = true → -(S.dl p w x - S.dl p w c) ≤ S.dl p g x - S.dl p g c ∧ S.dl p g x - S.dl p g c ≤ S.dl p w x - S.dl p w c := by
  refine nrec p (fun _ ha => ?_) (fun x h0 ih hx ha => ?_)
  · have := abv_le ha
    obtain rfl : c = 0 := by omega
    omega
  · have h1 := par_lt (p := p) h0
    rcases Nat.lt_or_eq_of_le (abv_le ha) with h2 | h2
    · rw [abv_up h2] at ha
      have ih := ih (by omega) ha
      have h3 := h x hx
      rw [dl_pos h0, dl_pos h0]; omega
    · subst h2; omega
theorem com_l {p : Nat → Int} {a x : Nat} : S.abv p (S.com p a x) a = true := by
  rw [com_sym _ a x (Nat.le_refl _)]; exact (com_le x).2
theorem com_r {p : Nat → Int} {a x : Nat} : S.abv p (S.com p a x) x = true := (com_le a).2
theorem com_low {p : Nat → Int} {q x : Nat} : ∀ a, S.abv p q a = true → S.abv p q x = true → q ≤ S.com p a x := by
  refine nrec p (fun h _ => by have := abv_le h; omega) (fun a h0 ih h1 h2 => ?_)
  by_cases hb : S.abv p a x = true
  · rw [com_yes hb]; exact abv_le h1
  · rw [Bool.not_eq_true] at hb
    rw [com_up hb]
    rcases Nat.lt_or_eq_of_le (abv_le h1) with h3 | h3
    · rw [abv_up h3] at h1; exact ih h1 h2
    · subst h3; rw [h2] at hb; cases hb
theorem apt_ge {p w g : Nat → Int} {n x y : Nat} (h : ∀ y, y < n → -w y ≤ g y ∧ g y ≤ w y) (hx : x < n) (hy : y < n) : S.dl p g x - S.dl p g y ≤ S.aptI p w x y := by
  have h1 := dl_seg (p := p) h x hx (com_l (a := x) (x := y))
  have h2 := dl_seg (p := p) h y hy (com_r (a := x) (x := y))
  unfold S.aptI; omega
theorem apt_nn {p w : Nat → Int} {n x y : Nat} (hw : ∀ y, y < n → 0 ≤ w y) (hx : x < n) (hy : y < n) : 0 ≤ S.aptI p w x y := by
  have h1 := dl_seg (p := p) (w := w) (g := fun _ => 0) (fun y hy => by have := hw y hy; omega) x hx (com_l (a := x) (x := y))
  have h2 := dl_seg (p := p) (w := w) (g := fun _ => 0) (fun y hy => by have := hw y hy; omega) y hy (com_r (a := x) (x := y))
  unfold S.aptI; omega
theorem apt_sym {p w : Nat → Int} {x y : Nat} : S.aptI p w x y = S.aptI p w y x := by
  unfold S.aptI; rw [com_sym _ x y (Nat.le_refl _)]; omega
theorem dl_zero {p f : Nat → Int} : ∀ x, (∀ q, q ≤ x → f q = 0) → S.dl p f x = 0 := by
  refine nrec p (fun _ => dl_z) (fun x h0 ih h => ?_)
  have h1 := par_lt (p := p) h0
  rw [dl_pos h0, h x (Nat.le_refl _), ih fun q hq => h q (by omega)]; rfl
theorem dl_path {p f h : Nat → Int} {c : Nat} (hz : ∀ q, q ≤ c → f q = 0) : ∀ x, (∀ q, c < q → S.abv p q x = true → f q = h q) → S.abv p c x = true → S.dl p f x = S.dl p h x - S.dl p h c := by
  refine nrec p (fun _ ha => ?_) (fun x h0 ih hq ha => ?_)
  · have := abv_le ha
    obtain rfl : c = 0 := by omega
    rw [dl_z, dl_z]; rfl
  · have h1 := par_lt (p := p) h0
    rcases Nat.lt_or_eq_of_le (abv_le ha) with h2 | h2
    · rw [abv_up h2] at ha
      rw [dl_pos h0, dl_pos h0, hq x h2 abv_eq, ih (fun q a c => hq q a (by
        have := abv_le c
        rw [abv_up (by omega)]; exact c)) ha]
      omega
    · subst h2
      rw [dl_zero c hz]; omega
theorem dl_neg {p h : Nat → Int} : ∀ x, S.dl p (fun q => -h q) x = -S.dl p h x := by
  refine nrec p (by rw [dl_z, dl_z]; rfl) (fun x h0 ih => ?_)
  rw [dl_pos h0, dl_pos h0, ih]; omega
theorem pairM_ge {g : Nat → Int} {r : Int} : ∀ {k : Nat}, r ≤ S.pairM g r k ∧ ∀ j, j < k → g j ≤ S.pairM g r k
  | 0 => ⟨Int.le_refl _, fun j hj => absurd hj (Nat.not_lt_zero j)⟩
  | k + 1 => by
    obtain ⟨h1, h2⟩ := pairM_ge (g := g) (r := r) (k := k)
    simp only [S.pairM]
    refine ⟨by omega, fun j hj => ?_⟩
    rcases Nat.lt_or_eq_of_le (Nat.le_of_lt_succ hj) with h3 | h3
    · have := h2 j h3; omega
    · subst h3; omega
theorem pairM_ex {g : Nat → Int} {r : Int} : ∀ {k : Nat}, S.pairM g r k = r ∨ ∃ j, j < k ∧ S.pairM g r k = g j
  | 0 => .inl rfl
  | k + 1 => by
    simp only [S.pairM]
    rcases Int.le_total (S.pairM g r k) (g k) with h | h
    · exact .inr ⟨k, by omega, by omega⟩
    · rcases pairM_ex (g := g) (r := r) (k := k) with h1 | ⟨j, h1, h2⟩
      · exact .inl (by omega)
      · exact .inr ⟨j, by omega, by omega⟩
theorem remM_ge {g : Nat → Nat → Int} : ∀ {n : Nat}, 0 ≤ S.remM g n ∧ ∀ a, a < n → ∀ c, c < a → g a c ≤ S.remM g n
  | 0 => ⟨Int.le_refl _, fun a ha => absurd ha (Nat.not_lt_zero a)⟩
  | n + 1 => by
    obtain ⟨h1, h2⟩ := remM_ge (g := g) (n := n)
    obtain ⟨h3, h4⟩ := pairM_ge (g := g n) (r := S.remM g n) (k := n)
    simp only [S.remM]
    refine ⟨by omega, fun a ha c hc => ?_⟩
    rcases Nat.lt_or_eq_of_le (Nat.le_of_lt_succ ha) with h5 | h5
    · have := h2 a h5 c hc; omega
    · subst h5; exact h4 c hc
theorem remM_ex {g : Nat → Nat → Int} : ∀ {n : Nat}, S.remM g n = 0 ∨ ∃ a c, c < a ∧ a < n ∧ S.remM g n = g a c
  | 0 => .inl rfl
  | n + 1 => by
    simp only [S.remM]
    rcases pairM_ex (g := g n) (r := S.remM g n) (k := n) with h | ⟨j, h1, h2⟩
    · rw [h]
      rcases remM_ex (g := g) (n := n) with h3 | ⟨a, c, h3, h4, h5⟩
      · exact .inl h3
      · exact .inr ⟨a, c, h3, by omega, h5⟩
    · exact .inr ⟨n, j, h1, by omega, h2⟩
theorem minN_c {t : Nat → Int} {n : Nat} {v : Int} (h : ∀ j, j ≤ n → t j = v) : S.minN t n = v := by
  have h1 : v ≤ S.minN t n := le_minN.mpr fun j hj => by rw [h j hj]; exact Int.le_refl _
  have h2 := le_minN.mp (Int.le_refl (S.minN t n)) 0 (Nat.zero_le _)
  rw [h 0 (Nat.zero_le _)] at h2; omega
theorem maxN_c {t : Nat → Int} {n : Nat} {v : Int} (h : ∀ j, j ≤ n → t j = v) : S.maxN t n = v := by
  have h1 : S.maxN t n ≤ v := maxN_le.mpr fun j hj => by rw [h j hj]; exact Int.le_refl _
  have h2 := maxN_le.mp (Int.le_refl (S.maxN t n)) 0 (Nat.zero_le _)
  rw [h 0 (Nat.zero_le _)] at h2; omega
theorem maxmin {t : Nat → Int} {n : Nat} {r : Int} (h : ∀ a c, a ≤ n → c ≤ n → t a - t c ≤ r) : S.maxN t n - S.minN t n ≤ r := by
  have h1 : S.maxN t n ≤ S.minN t n + r := maxN_le.mpr fun a ha => by
    have h2 : t a - r ≤ S.minN t n := le_minN.mpr fun c hc => by have := h a c ha hc; omega
    omega
  omega
theorem any_succ {p : Nat → Bool} {n : Nat} : S.any p (n + 1) = (S.any p n || p n) := by simp [S.any, List.range_succ]
noncomputable def xQ (test : Bool → Prop → Prop → Prop) : Ext := consX test [k12, k34, k26, k28, k35, k14, k36, k37, k32]
theorem xQ_ok : ExtOk Try.prog (xQ cond) := consX_ok ⟨k12_ok, k34_ok, k26_ok, k28_ok, k35_ok, k14_ok, k36_ok, k37_ok, k32_ok, trivial⟩

end Go.Ev
