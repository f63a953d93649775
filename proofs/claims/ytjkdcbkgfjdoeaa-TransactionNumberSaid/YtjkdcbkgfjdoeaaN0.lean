/-
  Numbers: the specs.
-/
import Derived.Test.YtjkdcbkgfjdoeaaA1
namespace Go.Ev
open Go.Proofs
set_option linter.unusedVariables false
set_option linter.unusedSimpArgs false
set_option maxRecDepth 100000

namespace S
def dig (a i o : Int) : Int := a + 8 * i + 32 * o
def hor (f : Nat → Int) : Nat → Nat → Int
  | _, 0 => 0
  | q, k + 1 => f q + 160 * hor f (q + 1) k
def rst (r : Int) : Nat → Int
  | 0 => r
  | q + 1 => rst r q / 160
def pty (d : Int) : Int × Int × Int := (d % 8, d / 8 % 4, d / 32)
def horT (n : Nat) (a i o : Nat → Int) : Int := hor (fun q => dig (a q) (i q) (o q)) 0 n
def numV (ph : Int) (n : Nat) (a i o : Nat → Int) : Int := horT n a i o * 5 + ph
def numS (ph : Int) (ev : Bool) (n : Nat) (a i o : Nat → Int) : Int × Int := if traE ph ev n a i o = 0 then (numV ph n a i o, 0) else (0, traE ph ev n a i o)
def staS (n co : Int) : Int × Bool × Int × List (Int × Int × Int) := if (1 ≤ n ∧ n ≤ 8) ∧ 0 ≤ co then (if rst (co / 5) n.toNat = 0 then (co % 5, decide (co % 5 = 4), 0, mkl n.toNat (fun q => pty (rst (co / 5) q % 160))) else (0, false, 6, [])) else (0, false, 6, [])
def sameB (c0 : Int) (c1 : Bool) (c2 : Int) (c3 : Bool) (L M : List (Int × Int × Int)) : Bool := decide (c0 = c2 ∧ c1 = c3 ∧ L = M)
end S
theorem hor_b {f : Nat → Int} : ∀ {k q : Nat}, (∀ j, q ≤ j → j < q + k → 0 ≤ f j ∧ f j < 160) → 0 ≤ S.hor f q k ∧ S.hor f q k < ((160 ^ k : Nat) : Int)
  | 0, q, _ => ⟨Int.le_refl _, (by decide : (0 : Int) < ((160 ^ 0 : Nat) : Int))⟩
  | k + 1, q, h => by
    have ih := hor_b (f := f) (k := k) (q := q + 1) fun j a c => h j (by omega) (by omega)
    have h1 := h q (Nat.le_refl _) (by omega)
    have e : 160 ^ (k + 1) = 160 ^ k * 160 := Nat.pow_succ ..
    simp only [S.hor]
    omega
theorem pow8 {k : Nat} (h : k ≤ 8) : 160 ^ k ≤ 429496729600000000 := Nat.le_trans (Nat.pow_le_pow_right (by decide) h) (by decide)
theorem pow7 {k : Nat} (h : k ≤ 7) : 160 ^ k ≤ 2684354560000000 := Nat.le_trans (Nat.pow_le_pow_right (by decide) h) (by decide)
theorem rst_nn {r : Int} (h : 0 ≤ r) : ∀ q, 0 ≤ S.rst r q ∧ S.rst r q ≤ r
  | 0 => ⟨h, Int.le_refl _⟩
  | q + 1 => by have := rst_nn h q; simp only [S.rst]; omega
theorem hor_rst {r : Int} : ∀ {k q : Nat}, S.rst r (q + k) = 0 → S.hor (fun j => S.rst r j % 160) q k = S.rst r q
  | 0, q, h => h.symm
  | k + 1, q, h => by
    have ih := hor_rst (r := r) (k := k) (q := q + 1) (by rw [show q + 1 + k = q + (k + 1) by omega]; exact h)
    simp only [S.hor]
    rw [ih]
    simp only [S.rst]
    omega
theorem rst_hor {f : Nat → Int} {n : Nat} (h : ∀ j, j < n → 0 ≤ f j ∧ f j < 160) : ∀ q, q ≤ n → S.rst (S.hor f 0 n) q = S.hor f q (n - q)
  | 0, _ => rfl
  | q + 1, hq => by
    have ih := rst_hor h q (by omega)
    have h1 := h q (by omega)
    have e : S.hor f q (n - q) = f q + 160 * S.hor f (q + 1) (n - (q + 1)) := by rw [show n - q = (n - (q + 1)) + 1 by omega]; rfl
    simp only [S.rst]
    rw [ih, e]; omega
theorem hor_congr {f g : Nat → Int} : ∀ {k q : Nat}, (∀ j, q ≤ j → j < q + k → f j = g j) → S.hor f q k = S.hor g q k
  | 0, q, _ => rfl
  | k + 1, q, h => by simp only [S.hor]; rw [h q (Nat.le_refl _) (by omega), hor_congr fun j a c => h j (by omega) (by omega)]
theorem dig_b {a i o : Int} (ha : 0 ≤ a ∧ a ≤ 7) (hi : 0 ≤ i ∧ i ≤ 3) (ho : 0 ≤ o ∧ o ≤ 4) : (0 ≤ S.dig a i o ∧ S.dig a i o < 160) ∧ S.pty (S.dig a i o) = (a, i, o) := by
  unfold S.dig S.pty
  refine ⟨by omega, Prod.ext (by show _ % 8 = a; omega) (Prod.ext (by show _ / 8 % 4 = i; omega) (by show _ / 32 = o; omega))⟩
theorem num_b {ph : Int} {ev : Bool} {n : Nat} {a i o : Nat → Int} (h : S.traE ph ev n a i o = 0) : 0 ≤ S.horT n a i o ∧ S.horT n a i o < 429496729600000000 := by
  obtain ⟨⟨v1, v2⟩, v3, v4, v5⟩ := tra_ok h
  have h1 := hor_b (f := fun q => S.dig (a q) (i q) (o q)) (k := n) (q := 0) (fun j _ hj => (dig_b (v5 j (by omega)).1 (v5 j (by omega)).2.1 (v5 j (by omega)).2.2).1)
  have h2 := pow8 v2
  unfold S.horT; omega
/-- State leads back from Number. -/
theorem sta_num {ph : Int} {ev : Bool} {n : Nat} {a i o : Nat → Int} (h : S.traE ph ev n a i o = 0) : S.staS n (S.numV ph n a i o) = (ph, ev, 0, S.mkl n fun q => (a q, i q, o q)) := by
  obtain ⟨⟨v1, v2⟩, v3, v4, v5⟩ := tra_ok h
  obtain ⟨b1, b2⟩ := num_b h
  have hd : ∀ j, j < n → 0 ≤ S.dig (a j) (i j) (o j) ∧ S.dig (a j) (i j) (o j) < 160 := fun j hj => (dig_b (v5 j hj).1 (v5 j hj).2.1 (v5 j hj).2.2).1
  have e1 : S.numV ph n a i o / 5 = S.horT n a i o := by unfold S.numV; omega
  have e2 : S.numV ph n a i o % 5 = ph := by unfold S.numV; omega
  unfold S.staS
  rw [if_pos (by unfold S.numV; omega), e1, e2, Int.toNat_natCast]
  have hr := fun q hq => rst_hor (f := fun q => S.dig (a q) (i q) (o q)) (n := n) hd q hq
  have hr' : ∀ q, q ≤ n → S.rst (S.horT n a i o) q = S.hor (fun q => S.dig (a q) (i q) (o q)) q (n - q) := hr
  rw [hr' n (Nat.le_refl _), Nat.sub_self, if_pos (show S.hor _ n 0 = 0 from rfl), ← v4]
  refine Prod.ext rfl (Prod.ext rfl (Prod.ext rfl (mkl_congr fun q hq => ?_)))
  have e : S.hor (fun q => S.dig (a q) (i q) (o q)) q (n - q) = S.dig (a q) (i q) (o q) + 160 * S.hor (fun q => S.dig (a q) (i q) (o q)) (q + 1) (n - (q + 1)) := by rw [show n - q = (n - (q + 1)) + 1 by omega]; rfl
  have h3 := hd q hq
  rw [hr' q (by omega), e, show (S.dig (a q) (i q) (o q) + 160 * S.hor (fun q => S.dig (a q) (i q) (o q)) (q + 1) (n - (q + 1))) % 160 = S.dig (a q) (i q) (o q) by omega]
  exact (dig_b (v5 q hq).1 (v5 q hq).2.1 (v5 q hq).2.2).2
theorem ptyK_of {a i o : Nat → Int} : ∀ {k q : Nat}, (∀ j, q ≤ j → j < q + k → S.ptyB (a j) (i j) (o j) = true) → S.ptyK a i o q k = 0
  | 0, q, _ => rfl
  | k + 1, q, h => by
    simp only [S.ptyK]
    rw [if_pos (h q (Nat.le_refl _) (by omega))]
    exact ptyK_of fun j a c => h j (by omega) (by omega)
/-- Number leads back from State. -/
theorem num_sta {n co : Int} (h : (S.staS n co).2.2.1 = 0) : S.numS (S.staS n co).1 (S.staS n co).2.1 (S.staS n co).2.2.2.length (fun q => (S.at' (S.staS n co).2.2.2 q).1) (fun q => (S.at' (S.staS n co).2.2.2 q).2.1) (fun q => (S.at' (S.staS n co).2.2.2 q).2.2) = (co, 0) := by
  by_cases h1 : (1 ≤ n ∧ n ≤ 8) ∧ 0 ≤ co
  · by_cases h2 : S.rst (co / 5) n.toNat = 0
    · have e : S.staS n co = (co % 5, decide (co % 5 = 4), 0, S.mkl n.toNat (fun q => S.pty (S.rst (co / 5) q % 160))) := by unfold S.staS; rw [if_pos h1, if_pos h2]
      rw [e]
      dsimp only
      rw [mkl_len]
      have hat : ∀ q, q < n.toNat → S.at' (S.mkl n.toNat (fun q => S.pty (S.rst (co / 5) q % 160))) q = S.pty (S.rst (co / 5) q % 160) := fun q hq => at_mkl hq
      generalize S.mkl n.toNat (fun q => S.pty (S.rst (co / 5) q % 160)) = L at *
      have hv : S.traE (co % 5) (decide (co % 5 = 4)) n.toNat (fun q => (S.at' L q).1) (fun q => (S.at' L q).2.1) (fun q => (S.at' L q).2.2) = 0 := by
        unfold S.traE
        rw [if_pos (by omega), if_pos ⟨by omega, rfl⟩]
        refine ptyK_of fun j _ hj => decide_eq_true ?_
        rw [hat j (by omega)]
        simp only [S.pty]
        omega
      unfold S.numS
      rw [if_pos hv]
      refine Prod.ext ?_ rfl
      show S.numV _ _ _ _ _ = co
      unfold S.numV S.horT
      rw [hor_congr (g := fun j => S.rst (co / 5) j % 160) (fun j _ hj => by
        show S.dig (S.at' L j).1 (S.at' L j).2.1 (S.at' L j).2.2 = S.rst (co / 5) j % 160
        rw [hat j (by omega)]
        simp only [S.pty, S.dig]
        omega), hor_rst (by rw [Nat.zero_add]; exact h2)]
      simp only [S.rst]
      omega
    · have e : S.staS n co = (0, false, 6, []) := by unfold S.staS; rw [if_pos h1, if_neg h2]
      rw [e] at h; cases h
  · have e : S.staS n co = (0, false, 6, []) := by unfold S.staS; rw [if_neg h1]
    rw [e] at h; cases h

end Go.Ev
