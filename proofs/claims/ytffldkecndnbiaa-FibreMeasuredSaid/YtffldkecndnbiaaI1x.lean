/-
  What is known.
-/
import Derived.Test.YtffldkecndnbiaaG0
import Derived.Test.YtffldkecndnbiaaA4
import Derived.Test.YtffldkecndnbiaaAL
import Derived.Test.YtffldkecndnbiaaD2
namespace Go.Ev
open Go.Proofs
set_option linter.unusedVariables false
set_option linter.unusedSimpArgs false
set_option maxRecDepth 100000
noncomputable def xT (test : Bool → Prop → Prop → Prop) : Ext := consX test [k12, k34, k17, k23, k38]
theorem xT_ok : ExtOk Try.prog (xT cond) := consX_ok ⟨k12_ok, k34_ok, k17_ok, k23_ok, k38_ok, trivial⟩

theorem byte_mk {x : Int} (h : 0 ≤ x ∧ x ≤ 255) : S.byte x = true := decide_eq_true h
theorem bytes_mk {n : Nat} {t : Nat → Int} (h : ∀ j, j < n → 0 ≤ t j ∧ t j ≤ 255) : S.bytes n t = true := decide_eq_true h
theorem u32s_mk {n : Nat} {t : Nat → Int} (h : ∀ j, j < n → 0 ≤ t j ∧ t j ≤ 4294967295) : S.u32s n t = true := decide_eq_true h
theorem dly_is {n : Nat} {p d u j : Nat → Int} (h : S.treE n p d u j = 0) : S.dlyS n p d u j = (0, S.mkl n (S.dlyT p d j)) := by unfold S.dlyS; rw [if_pos h]
namespace S
def rndT (p d u j y : Nat → Int) (m q : Nat) : Int := if q < m then max 0 (dl p d q + dl p u q + Int.tmod (y q) (2 * (2 * dl p j q) + 1) - 2 * dl p j q) else dl p d q + dl p u q
def asyN (p d u : Nat → Int) : Nat → Int
  | 0 => 0
  | i + 1 => max (max (asyN p d u i) (dl p d i - dl p u i)) (dl p u i - dl p d i)
end S
theorem upd_step2 {α : Type} [Inhabited α] {n i : Nat} {f g : Nat → α} {v w : α} (hv : v = g i) : (S.mkl n fun j => bif Nat.beq j i then v else bif Nat.beq j i then w else S.at' (S.mkl n fun j => if j < i then g j else f j) j) = S.mkl n fun j => if j < i + 1 then g j else f j := by
  rw [← upd_step hv]
  refine mkl_congr fun j hj => ?_
  cases Nat.beq j i <;> rfl
theorem dl_bd3 {n : Nat} {p d u j : Nat → Int} (h : S.treE n p d u j = 0) {x : Nat} (hx : x < n) : (0 ≤ S.dl p d x ∧ S.dl p d x ≤ 1000000 * (x : Int)) ∧ (0 ≤ S.dl p u x ∧ S.dl p u x ≤ 1000000 * (x : Int)) ∧ (0 ≤ S.dl p j x ∧ S.dl p j x ≤ 1000000 * (x : Int)) := by
  obtain ⟨v1, v2, v3, v4, v5, v6⟩ := tre_ok h
  have h1 := dl_bnd (p := p) (g := u) (n := n) (c := 1000000) (by decide) (fun y hy => by have := v5 y hy; omega) x hx
  have h3 := dl_nn (p := p) (g := u) (n := n) (fun y hy => by have := v5 y hy; omega) x hx
  have h4 := dl_bd h hx
  exact ⟨h4.1, ⟨h3, h1.2⟩, h4.2⟩
theorem asy_ok {n : Nat} {p d u j : Nat → Int} (h : S.treE n p d u j = 0) : ∀ {i : Nat}, i ≤ n → (0 ≤ S.asyN p d u i ∧ S.asyN p d u i ≤ 1000000 * (i : Int)) ∧ ∀ q, q < i → S.dl p d q - S.dl p u q ≤ S.asyN p d u i ∧ S.dl p u q - S.dl p d q ≤ S.asyN p d u i
  | 0, _ => ⟨by simp [S.asyN], fun q hq => absurd hq (Nat.not_lt_zero q)⟩
  | i + 1, hi => by
    obtain ⟨a, c⟩ := asy_ok h (i := i) (by omega)
    have hd := dl_bd3 h (x := i) (by omega)
    simp only [S.asyN]
    refine ⟨by omega, fun q hq => ?_⟩
    rcases Nat.lt_or_eq_of_le (Nat.le_of_lt_succ hq) with h1 | h1
    · have := c q h1; omega
    · subst h1; omega
theorem rnd_ok {p d u j y : Nat → Int} {n m q : Nat} (h : S.treE n p d u j = 0) (hq : q < n) (hy : q < m → 0 ≤ y q) : (0 ≤ S.rndT p d u j y m q) ∧ S.dl p d q + S.dl p u q - 2 * S.dl p j q ≤ S.rndT p d u j y m q ∧ S.rndT p d u j y m q ≤ S.dl p d q + S.dl p u q + 2 * S.dl p j q := by
  have hd := dl_bd3 h hq
  unfold S.rndT
  split
  · have := tmd (hy (by assumption)) (show 0 < 2 * (2 * S.dl p j q) + 1 by omega)
    omega
  · omega
theorem meaK_is {f : Nat → Int × Int × Bool × Bool} : ∀ {k i : Nat} {L : List (Int × Int × Bool × Bool)}, L.length = i → (∀ q, i ≤ q → q < i + k → (f q).1 ≤ (f q).2.1) → S.meaK f i k L = (0, S.mkl (i + k) fun q => if q < i then S.at' L q else f q)
  | 0, i, L, hL, _ => by
    show (0, L) = _
    rw [← mkl_at L, hL]
    refine congrArg (Prod.mk 0) (mkl_congr fun j hj => ?_)
    rw [if_pos hj, ← hL, mkl_at L]
  | k + 1, i, L, hL, h => by
    have e : S.meaK f i (k + 1) L = if (f i).1 > (f i).2.1 then (12, []) else S.meaK f (i + 1) k (S.snoc L (f i)) := rfl
    have h1 := h i (Nat.le_refl _) (by omega)
    rw [e, if_neg (by omega), meaK_is (by rw [snoc_len, hL]) (fun q a c => h q (by omega) (by omega)), show i + (k + 1) = i + 1 + k by omega]
    refine congrArg (Prod.mk 0) (mkl_congr fun j hj => ?_)
    by_cases hji : j < i
    · rw [if_pos (by omega), if_pos hji, at_snoc_lt (by omega)]
    · rw [if_neg hji]
      by_cases hje : j = i
      · subst hje; rw [if_pos (by omega), ← hL, at_snoc_eq, hL]
      · rw [if_neg (by omega)]
/-- Measured with errors within the bounds. -/
theorem mea_is {p d u j y r : Nat → Int} {n m : Nat} (h : S.treE n p d u j = 0) (hy : ∀ q, q < m → 0 ≤ y q) (hr : ∀ q, q < n → r q = S.rndT p d u j y m q) : S.meaS n p d u j n r (S.asyN p d u n) = (0, S.mkl n fun q => if q < 1 then (0, 0, false, false) else S.meaT p j r (S.asyN p d u n) q) ∧ ∀ q, q < n → 1 ≤ q → (S.meaT p j r (S.asyN p d u n) q).1 ≤ S.dl p d q ∧ S.dl p d q ≤ (S.meaT p j r (S.asyN p d u n) q).2.1 := by
  obtain ⟨v1, v2, v3, v4, v5, v6⟩ := tre_ok h
  obtain ⟨a1, a2⟩ := asy_ok h (Nat.le_refl n)
  have hin : ∀ q, q < n → 1 ≤ q → (S.meaT p j r (S.asyN p d u n) q).1 ≤ S.dl p d q ∧ S.dl p d q ≤ (S.meaT p j r (S.asyN p d u n) q).2.1 := by
    intro q hq _
    have h1 := rnd_ok (m := m) h hq (fun hm => hy q hm)
    have h2 := a2 q hq
    have h3 := dl_bd3 h hq
    rw [← hr q hq] at h1
    simp only [S.meaT]
    omega
  have r0 : r 0 = 0 := by
    rw [hr 0 (by omega)]; unfold S.rndT
    rw [dl_z, dl_z, dl_z]
    split
    · have : Int.tmod (y 0) (2 * (2 * 0) + 1) = 0 := Int.tmod_one _
      rw [this]; decide
    · rfl
  refine ⟨?_, hin⟩
  unfold S.meaS
  rw [if_pos h, if_pos ⟨rfl, r0, ⟨a1.1, by omega⟩, winT_iff.mpr (fun q _ hq => by
    have h1 := rnd_ok (m := m) h (show q < n by omega) (fun hm => hy q hm)
    have h3 := dl_bd3 h (show q < n by omega)
    rw [hr q (by omega)]; omega)⟩, meaK_is (f := S.meaT p j r (S.asyN p d u n)) (k := n - 1) (i := 1) (L := [(0, 0, false, false)]) rfl (fun q a c => by have := hin q (by omega) a; omega), show 1 + (n - 1) = n by omega]
  refine congrArg (Prod.mk 0) (mkl_congr fun q hq => ?_)
  split
  · obtain rfl : q = 0 := by omega
    rfl
  · rfl

end Go.Ev
