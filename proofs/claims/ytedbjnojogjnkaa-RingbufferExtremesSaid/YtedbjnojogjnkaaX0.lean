/-
  Extremes.
-/
import Derived.Test.YtedbjnojogjnkaaW1
namespace Go.Ev
open Go.Proofs
set_option linter.unusedVariables false
set_option linter.unusedSimpArgs false
noncomputable def xK (test : Bool → Prop → Prop → Prop) : Ext := consX test [k11, k45, k46, k32, k22]
theorem xK_ok : ExtOk Try.prog (xK cond) := consX_ok ⟨k11_ok, k45_ok, k46_ok, k32_ok, k22_ok, trivial⟩

namespace S
/-- The first least and the first greatest of values, from the i-th on. -/
def ext (v : Nat → Int) : Nat → Nat → Nat → Nat → Nat × Nat
  | _, 0, lo, hi => (lo, hi)
  | i, k + 1, lo, hi => ext v (i + 1) k (if v i < v lo then i else lo) (if v i > v hi then i else hi)
/-- A part's rows behind a list. -/
def addP (row : Nat → Int × Int × Bool) (L : List (Int × Int × Bool)) (x : Nat × Nat) : List (Int × Int × Bool) :=
  if x.1 = x.2 then snoc L (row x.1) else snoc (snoc L (row (min x.1 x.2))) (row (max x.1 x.2))
def cutP (n k p : Nat) : Nat := p * n / k
def extL (row : Nat → Int × Int × Bool) (n k : Nat) : Nat → List (Int × Int × Bool)
  | 0 => []
  | p + 1 => if cutP n k p = cutP n k (p + 1) then extL row n k p else addP row (extL row n k p) (ext (fun j => (row j).2.1) (cutP n k p) (cutP n k (p + 1) - cutP n k p) (cutP n k p) (cutP n k p))
def extR (n : Nat) (t v : Nat → Int) (g : Nat → Bool) (k : Int) : Int × List (Int × Int × Bool) :=
  if 400 < n then (3, []) else if errS t v 0 n = 0 then (if 1 ≤ k ∧ k ≤ 200 then (0, extL (fun j => (t j, v j, g j)) n k.toNat k.toNat) else (6, [])) else (errS t v 0 n, [])
end S
theorem cutP_facts {n k p : Nat} (h : p + 1 ≤ k) : S.cutP n k p ≤ S.cutP n k (p + 1) ∧ S.cutP n k (p + 1) ≤ n := by
  unfold S.cutP
  exact ⟨Nat.div_le_div_right (Nat.mul_le_mul_right _ (Nat.le_succ _)), Nat.div_le_of_le_mul (Nat.mul_le_mul_right _ h)⟩
theorem cutP_int {n k p : Nat} : Int.tdiv ((p : Int) * n) k = (S.cutP n k p : Nat) := by
  unfold S.cutP
  rw [← Int.natCast_mul, Int.tdiv_eq_ediv_of_nonneg (Int.natCast_nonneg _), Int.natCast_ediv]
theorem cutP_int' {n k p : Nat} : Int.tdiv (((p : Int) + 1) * n) k = (S.cutP n k (p + 1) : Nat) := cutP_int (p := p + 1)
theorem mul_lim {n p : Nat} (hn : n ≤ 400) (hp : p ≤ 200) : 0 ≤ (p : Int) * n ∧ (p : Int) * n ≤ 80000 := by
  rw [← Int.natCast_mul]
  have := Nat.mul_le_mul hp hn
  omega
theorem mul_lim' {n p : Nat} (hn : n ≤ 400) (hp : p + 1 ≤ 200) : 0 ≤ ((p : Int) + 1) * n ∧ ((p : Int) + 1) * n ≤ 80000 := mul_lim (p := p + 1) hn hp
theorem addP_len {row : Nat → Int × Int × Bool} {L : List (Int × Int × Bool)} {x : Nat × Nat} : (S.addP row L x).length ≤ L.length + 2 := by
  unfold S.addP; split <;> simp only [snoc_len] <;> omega
theorem extL_len {row : Nat → Int × Int × Bool} {n k : Nat} : ∀ p, (S.extL row n k p).length ≤ 2 * p
  | 0 => Nat.le_refl _
  | p + 1 => by
    have := extL_len (row := row) (n := n) (k := k) p
    simp only [S.extL]
    split
    · omega
    · have h2 := addP_len (row := row) (L := S.extL row n k p) (x := S.ext (fun j => (row j).2.1) (S.cutP n k p) (S.cutP n k (p + 1) - S.cutP n k p) (S.cutP n k p) (S.cutP n k p))
      omega
theorem ext_lt {v : Nat → Int} : ∀ (k i lo hi : Nat), lo < i + k → hi < i + k → lo ≤ i → hi ≤ i → (S.ext v i k lo hi).1 < i + k ∧ (S.ext v i k lo hi).2 < i + k := by
  intro k
  induction k with
  | zero => intro i lo hi a b _ _; exact ⟨a, b⟩
  | succ k ih =>
    intro i lo hi a b c d
    rcases Nat.eq_zero_or_pos k with h0 | h0
    · subst h0
      simp only [S.ext]
      constructor <;> split <;> omega
    · have := ih (i + 1) (if v i < v lo then i else lo) (if v i > v hi then i else hi) (by split <;> omega) (by split <;> omega) (by split <;> omega) (by split <;> omega)
      simp only [S.ext]
      omega

end Go.Ev
