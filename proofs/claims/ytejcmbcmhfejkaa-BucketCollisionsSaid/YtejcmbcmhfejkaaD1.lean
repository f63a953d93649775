/-
  Collisions, counted.
-/
import Derived.Test.YtejcmbcmhfejkaaD1x
namespace Go.Ev
open Go.Proofs
set_option linter.unusedVariables false
set_option linter.unusedSimpArgs false
set_option maxRecDepth 100000

namespace S
/-- How often does it hold at the first n places? -/
def cnt (p : Nat → Bool) : Nat → Int
  | 0 => 0
  | i + 1 => if p i = true then cnt p i + 1 else cnt p i
def sumN (f : Nat → Int) : Nat → Int
  | 0 => 0
  | i + 1 => sumN f i + f i
def colB (h o : Int) (B : Nat → Bool) (x : Int) : Bool := B (mdl (o - x) h).toNat
def colS (h : Int) (n : Nat) (t : Nat → Int) (g : Int) (m : Nat) (u : Nat → Int) (o : Int) : Int × Int := if filE h n t = 0 then (if filE g m u = 0 then (if h = g ∧ 0 ≤ o ∧ o < h then (cnt (fun i => inB t n i && colB h o (inB u m) i) h.toNat, 0) else (0, 6)) else (0, filE g m u)) else (0, filE h n t)
end S
theorem cnt_yes {p : Nat → Bool} {n : Nat} (h : p n = true) : S.cnt p (n + 1) = S.cnt p n + 1 := if_pos h
theorem cnt_no {p : Nat → Bool} {n : Nat} (h : p n = false) : S.cnt p (n + 1) = S.cnt p n := if_neg (by rw [h]; exact Bool.false_ne_true)
theorem cnt_congr {p q : Nat → Bool} : ∀ {n : Nat}, (∀ j, j < n → p j = q j) → S.cnt p n = S.cnt q n
  | 0, _ => rfl
  | n + 1, h => by simp only [S.cnt]; rw [h n (Nat.lt_succ_self n), cnt_congr fun j hj => h j (Nat.lt_succ_of_lt hj)]
theorem cnt_bnd {p : Nat → Bool} : ∀ {n : Nat}, 0 ≤ S.cnt p n ∧ S.cnt p n ≤ n
  | 0 => ⟨Int.le_refl _, Int.le_refl _⟩
  | n + 1 => by
    have ih := cnt_bnd (p := p) (n := n)
    simp only [S.cnt]; split <;> omega
theorem cnt_pos {B : Nat → Bool} {G : Int → Bool} : ∀ {n : Nat}, S.cnt (fun q => G (S.at' (S.posP B n) q)) (S.posP B n).length = S.cnt (fun x => B x && G (x : Int)) n
  | 0 => rfl
  | n + 1 => by
    have ih := cnt_pos (B := B) (G := G) (n := n)
    by_cases hB : B n = true
    · have e : S.posP B (n + 1) = S.snoc (S.posP B n) (n : Int) := if_pos hB
      have e2 : S.cnt (fun q => G (S.at' (S.snoc (S.posP B n) (n : Int)) q)) (S.posP B n).length = S.cnt (fun q => G (S.at' (S.posP B n) q)) (S.posP B n).length := cnt_congr fun j hj => by rw [at_snoc_lt hj]
      rw [e, snoc_len]
      by_cases hG : G (n : Int) = true
      · rw [cnt_yes (by show G _ = true; rw [at_snoc_eq]; exact hG), cnt_yes (by show (B n && G (n : Int)) = true; rw [hB, hG]; rfl), e2, ih]
      · rw [Bool.not_eq_true] at hG
        rw [cnt_no (by show G _ = false; rw [at_snoc_eq]; exact hG), cnt_no (by show (B n && G (n : Int)) = false; rw [hB, hG]; rfl), e2, ih]
    · have e : S.posP B (n + 1) = S.posP B n := if_neg hB
      rw [Bool.not_eq_true] at hB
      rw [e, cnt_no (by show (B n && G (n : Int)) = false; rw [hB]; rfl), ih]
theorem cnt_fil {h : Int} {n : Nat} {t : Nat → Int} {G : Int → Bool} (e : S.filE h n t = 0) : S.cnt (fun q => G (t q)) n = S.cnt (fun x => S.inB t n x && G (x : Int)) h.toNat := by
  rw [← cnt_pos, posP_fil e, mkl_len]
  exact cnt_congr fun j hj => by rw [at_mkl hj]
theorem cnt_sum {p : Nat → Bool} : ∀ {n : Nat}, S.cnt p n = S.sumN (fun i => if p i = true then 1 else 0) n
  | 0 => rfl
  | n + 1 => by simp only [S.cnt, S.sumN]; rw [cnt_sum]; split <;> omega
theorem sum_congr {f g : Nat → Int} : ∀ {n : Nat}, (∀ j, j < n → f j = g j) → S.sumN f n = S.sumN g n
  | 0, _ => rfl
  | n + 1, h => by simp only [S.sumN]; rw [h n (Nat.lt_succ_self n), sum_congr fun j hj => h j (Nat.lt_succ_of_lt hj)]
theorem sum_zero {f : Nat → Int} {n : Nat} (h : ∀ j, j < n → f j = 0) : S.sumN f n = 0 := by
  induction n with
  | zero => rfl
  | succ n ih => simp only [S.sumN]; rw [ih fun j hj => h j (Nat.lt_succ_of_lt hj), h n (Nat.lt_succ_self n)]; rfl
theorem sum_add {f g : Nat → Int} : ∀ {n : Nat}, S.sumN (fun i => f i + g i) n = S.sumN f n + S.sumN g n
  | 0 => rfl
  | n + 1 => by simp only [S.sumN]; rw [sum_add]; omega
theorem sum_swap {f : Nat → Nat → Int} {m : Nat} : ∀ {n : Nat}, S.sumN (fun i => S.sumN (f i) m) n = S.sumN (fun j => S.sumN (fun i => f i j) n) m
  | 0 => (sum_zero fun _ _ => rfl).symm
  | n + 1 => by simp only [S.sumN]; rw [sum_swap, ← sum_add]
theorem sum_one {a : Int} {s : Nat} : ∀ {n : Nat}, s < n → S.sumN (fun j => if s = j then a else 0) n = a
  | 0, h => absurd h (Nat.not_lt_zero s)
  | n + 1, h => by
    simp only [S.sumN]
    by_cases hs : s = n
    · subst hs
      rw [sum_zero fun j hj => if_neg (by omega), if_pos rfl]; omega
    · rw [sum_one (by omega), if_neg hs]; omega
/-- Counting over a permutation that is its own inverse. -/
theorem cnt_inv {A B : Nat → Bool} {n : Nat} {σ : Nat → Nat} (h1 : ∀ i, i < n → σ i < n) (h2 : ∀ i, i < n → σ (σ i) = i) : S.cnt (fun i => A i && B (σ i)) n = S.cnt (fun i => B i && A (σ i)) n := by
  have e1 : ∀ X Y : Nat → Bool, S.cnt (fun i => X i && Y (σ i)) n = S.sumN (fun i => S.sumN (fun j => if σ i = j then (if (X i && Y j) = true then 1 else 0) else 0) n) n := by
    intro X Y
    rw [cnt_sum]
    refine sum_congr fun i hi => ?_
    rw [sum_congr (g := fun j => if σ i = j then (if (X i && Y (σ i)) = true then 1 else 0) else 0) fun j hj => ?_, sum_one (h1 i hi)]
    split
    · rename_i e; rw [e]
    · rfl
  rw [e1 A B, e1 B A, sum_swap]
  refine sum_congr fun j hj => sum_congr fun i hi => ?_
  by_cases e : σ i = j
  · have e3 : σ j = i := e ▸ h2 i hi
    rw [if_pos e, if_pos e3, Bool.and_comm]
  · rw [if_neg e, if_neg (fun e2 => e (by rw [← e2]; exact h2 j hj))]
theorem mdl_inv {o x h : Int} (hx : 0 ≤ x ∧ x < h) : S.mdl (o - S.mdl (o - x) h) h = x := by
  rw [mdl_em (by omega), mdl_em (by omega), Int.sub_emod, Int.emod_emod, ← Int.sub_emod, show o - (o - x) = x by omega]
  exact Int.emod_eq_of_lt hx.1 hx.2
theorem mdl_one {o x h : Int} (ho : 0 ≤ o ∧ o < h) (hx : 0 ≤ x ∧ x < h) : S.mdl (o - x) h = Int.tmod (o - x + h) h := by
  rw [mdl_em (by omega), Int.tmod_eq_emod_of_nonneg (by omega), Int.add_emod_right]
/-- Exchanged it is the same. -/
theorem col_symm {h o : Int} {A B : Nat → Bool} (hh : 1 ≤ h) : S.cnt (fun i => A i && S.colB h o B i) h.toNat = S.cnt (fun i => B i && S.colB h o A i) h.toNat := by
  refine cnt_inv (σ := fun i => (S.mdl (o - (i : Int)) h).toNat) (fun i hi => ?_) (fun i hi => ?_)
  · have := mdl_ok (n := o - (i : Int)) (h := h) (by omega)
    show (S.mdl _ _).toNat < _
    omega
  · have h1 := mdl_ok (n := o - (i : Int)) (h := h) (by omega)
    show (S.mdl (o - (((S.mdl (o - (i : Int)) h).toNat : Nat) : Int)) h).toNat = i
    rw [Int.toNat_of_nonneg h1.1, mdl_inv (by omega)]
    exact Int.toNat_natCast i

end Go.Ev
