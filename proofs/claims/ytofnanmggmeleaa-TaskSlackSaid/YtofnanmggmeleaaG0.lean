/-
  Greater costs.
-/
import Derived.Test.YtofnanmggmeleaaLW3
import Derived.Test.YtofnanmggmeleaaE1
namespace Go.Ev
open Go.Proofs
set_option linter.unusedVariables false
set_option linter.unusedSimpArgs false
set_option maxRecDepth 100000

namespace S
/-- A cost that is greater. -/
def updC (c : Nat → Int) (i : Nat) (m : Int) : Nat → Int := fun j => bif Nat.beq j i then c i + m else c j
/-- Is the set not schedulable with so much more? -/
def slP (n : Nat) (p c d : Nat → Int) (i : Nat) (x : Int) : Bool := decide (misT n p (updC c i x) d ≥ 0)
def firF (f : Int → Bool) : Nat → Int → Int
  | 0, x => x
  | k + 1, x => if f x = true then x else firF f k (x + 1)
end S
theorem updC_same {c : Nat → Int} {i : Nat} {m : Int} : S.updC c i m i = c i + m := by unfold S.updC; rw [Nat.beq_refl]; rfl
theorem updC_ne {c : Nat → Int} {i j : Nat} {m : Int} (h : j ≠ i) : S.updC c i m j = c j := by unfold S.updC; rw [nbeq_no h]; rfl
theorem updC_le {c : Nat → Int} {i : Nat} {m m' : Int} (h : m ≤ m') (j : Nat) : S.updC c i m j ≤ S.updC c i m' j := by
  by_cases hj : j = i
  · subst hj; rw [updC_same, updC_same]; omega
  · rw [updC_ne hj, updC_ne hj]; exact Int.le_refl _
theorem okT_upd {n : Nat} {p c d : Nat → Int} {i : Nat} {m : Int} (h : S.okT n p c d = true) (h0 : 0 ≤ m) (h1 : i < n → c i + m ≤ d i) : S.okT n p (S.updC c i m) d = true := by
  obtain ⟨hn, hA⟩ := okT_at h
  refine decide_eq_true ⟨hn, fun j hj => ?_⟩
  have := hA j hj
  by_cases hji : j = i
  · subst hji
    have := h1 hj
    rw [updC_same]; omega
  · rw [updC_ne hji]; exact this
theorem dsum_cost {p c c' : Nat → Int} {t : Int} (h0 : 0 ≤ t) (hc : ∀ j, c j ≤ c' j) : ∀ {i : Nat}, (∀ j, j < i → 1 ≤ p j) → S.dsum p c t i ≤ S.dsum p c' t i
  | 0, _ => Int.le_refl _
  | i + 1, h => by
    have ih := dsum_cost (p := p) h0 hc (i := i) fun j hj => h j (by omega)
    have := Int.mul_le_mul_of_nonneg_right (hc i) (up_b (t := t) h0 (h i (by omega))).1
    simp only [S.dsum]
    omega
/-- No task loses its response time by less costs. -/
theorem res_less {n : Nat} {p c c' d : Nat → Int} (hT : S.okT n p c d = true) (hT' : S.okT n p c' d = true) (hc : ∀ j, c j ≤ c' j) {i : Nat} (hi : i < n) (h : (S.resT p c' d i).2 = true) : (S.resT p c d i).2 = true := by
  obtain ⟨q1, q2⟩ := res_ok hT hi
  obtain ⟨r1, r2, r3⟩ := (res_ok hT' hi).2 h
  refine (q1 _ r1 r2 ?_).1
  have hp := (okT_at hT).2
  have h1 := dsum_cost (p := p) (c := c) (c' := c') (t := (S.resT p c' d i).1) (by omega) hc (i := i) fun j hj => (hp j (by omega)).1
  have h2 := hc i
  unfold S.dem at r3 ⊢
  omega
theorem mis_no {n : Nat} {p c d : Nat → Int} : S.misT n p c d < 0 ↔ ∀ j, j < n → (S.resT p c d j).2 = true := by
  unfold S.misT
  constructor
  · intro h j hj
    rcases idx_ge (p := fun i => !(S.resT p c d i).2) (k := n) (i := 0) with h1 | h1
    · have := idx_no.1 h1 j (Nat.zero_le _) (by omega)
      simpa using this
    · omega
  · intro h
    have := idx_no (p := fun i => !(S.resT p c d i).2) (k := n) (i := 0)
    rw [this.2 fun j _ hj => by have := h j (by omega); simp [this]]
    omega
theorem slP_mono {n : Nat} {p c d : Nat → Int} {i : Nat} {x y : Int} (hT : S.okT n p c d = true) (hi : i < n) (h0 : 0 ≤ x) (hxy : x ≤ y) (hy : c i + y ≤ d i) (h : S.slP n p c d i x = true) : S.slP n p c d i y = true := by
  have hx := of_decide_eq_true h
  refine decide_eq_true (Int.not_lt.1 fun hlt => ?_)
  have := mis_no.1 hlt
  have h2 : S.misT n p (S.updC c i x) d < 0 := mis_no.2 fun j hj => res_less (okT_upd hT h0 fun _ => by omega) (okT_upd hT (by omega) fun _ => hy) (updC_le hxy) hj (this j hj)
  omega
/-- The first number at which something holds that holds from there on. -/
theorem firF_eq {f : Int → Bool} : ∀ {k : Nat} {x y : Int}, x ≤ y → y ≤ x + k → (∀ z, x ≤ z → z < y → f z = false) → (y < x + k → f y = true) → S.firF f k x = y
  | 0, x, y, h1, h2, _, _ => by
    have : x = y := by omega
    subst this
    rfl
  | k + 1, x, y, h1, h2, h3, h4 => by
    simp only [S.firF]
    by_cases hxy : x = y
    · subst hxy
      rw [if_pos (h4 (by omega))]
    · rw [if_neg (by rw [h3 x (Int.le_refl _) (by omega)]; exact Bool.false_ne_true)]
      exact firF_eq (by omega) (by omega) (fun z h5 h6 => h3 z (by omega) h6) fun h => h4 (by omega)
theorem firF_b {f : Int → Bool} : ∀ {k : Nat} {x : Int}, (x ≤ S.firF f k x ∧ S.firF f k x ≤ x + k) ∧ (∀ z, x ≤ z → z < S.firF f k x → f z = false) ∧ (S.firF f k x < x + k → f (S.firF f k x) = true)
  | 0, x => ⟨⟨Int.le_refl _, by show x ≤ x + ((0 : Nat) : Int); omega⟩, fun z h1 h2 => by have h2 : z < x := h2; omega, fun h => by have h : x < x + ((0 : Nat) : Int) := h; omega⟩
  | k + 1, x => by
    simp only [S.firF]
    by_cases hf : f x = true
    · rw [if_pos hf]
      exact ⟨⟨Int.le_refl _, by omega⟩, fun z h1 h2 => by omega, fun _ => hf⟩
    · rw [if_neg hf]
      obtain ⟨⟨h1, h2⟩, h3, h4⟩ := firF_b (f := f) (k := k) (x := x + 1)
      refine ⟨⟨by omega, by omega⟩, fun z h5 h6 => ?_, fun h => h4 (by omega)⟩
      by_cases hz : z = x
      · subst hz; simpa using hf
      · exact h3 z (by omega) h6
theorem half {a : Int} (h0 : 0 ≤ a) (h1 : a < 4611686018427387904) : IntKind.wrap .i64 (S.shrB .u64 (IntKind.wrap .u64 a) 1) = a / 2 := by
  have e1 : IntKind.wrap .u64 a = a := by simp [IntKind.wrap, IntKind.bits, IntKind.signed]; omega
  have e2 : S.shrB .u64 a 1 = a / 2 := by
    unfold S.shrB
    show Int.fdiv a 2 = a / 2
    rw [Int.fdiv_eq_ediv_of_nonneg _ (by omega)]
  rw [e1, e2]
  simp [IntKind.wrap, IntKind.bits, IntKind.signed]; omega
noncomputable def xS (test : Bool → Prop → Prop → Prop) : Ext := consX test [k15, k51, k50, k43]
theorem xS_ok : ExtOk Try.prog (xS cond) := consX_ok ⟨k15_ok, k51_ok, k50_ok, k43_ok, trivial⟩

end Go.Ev
