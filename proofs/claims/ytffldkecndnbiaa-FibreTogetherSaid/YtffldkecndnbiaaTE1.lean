/-
  Acts: the specs.
-/
import Derived.Test.YtffldkecndnbiaaTD1
import Derived.Test.YtffldkecndnbiaaTA6
namespace Go.Ev
open Go.Proofs
set_option linter.unusedVariables false
set_option linter.unusedSimpArgs false
set_option maxRecDepth 100000
noncomputable def xM (test : Bool → Prop → Prop → Prop) : Ext := consX test [k19, k40, k50]
theorem xM_ok : ExtOk Try.prog (xM cond) := consX_ok ⟨k19_ok, k40_ok, k50_ok, trivial⟩

namespace S
def jitK (w g : Nat → Int) : Nat → Nat → Bool
  | _, 0 => true
  | i, k + 1 => if -w i ≤ g i ∧ g i ≤ w i then jitK w g (i + 1) k else false
def actT (p d g add : Nat → Int) (ev : Int) (E : List Int) (q : Nat) : Int := ev + add q + dl p (fun y => d y + g y) (at' E q).toNat
def actS (n : Nat) (p d u j : Nat → Int) (m : Nat) (add : Nat → Int) (ev : Int) (c : Nat) (g : Nat → Int) : Int × List Int := if treE n p d u j = 0 then (if m = (leaL p n).length ∧ c = n ∧ (0 ≤ ev ∧ ev ≤ 1099511627776) ∧ winT add 0 m = true ∧ jitK j g 0 n = true then (0, mkl (leaL p n).length fun q => actT p d g add ev (leaL p n) q) else (6, [])) else (treE n p d u j, [])
end S
theorem jitK_iff {w g : Nat → Int} : ∀ {k i : Nat}, S.jitK w g i k = true ↔ ∀ j, i ≤ j → j < i + k → -w j ≤ g j ∧ g j ≤ w j
  | 0, i => ⟨fun _ j a c => by omega, fun _ => rfl⟩
  | k + 1, i => by
    simp only [S.jitK]
    constructor
    · intro h0 j a c
      split at h0
      · by_cases hj : j = i
        · subst hj; assumption
        · exact jitK_iff.mp h0 j (by omega) (by omega)
      · cases h0
    · intro h0
      rw [if_pos (h0 i (Nat.le_refl _) (by omega))]
      exact jitK_iff.mpr fun j a c => h0 j (by omega) (by omega)
theorem jitK_yes {w g : Nat → Int} {i k : Nat} (h : -w i ≤ g i ∧ g i ≤ w i) : S.jitK w g i (k + 1) = S.jitK w g (i + 1) k := if_pos h
theorem jitK_no {w g : Nat → Int} {i k : Nat} (h : ¬ (-w i ≤ g i ∧ g i ≤ w i)) : S.jitK w g i (k + 1) = false := if_neg h
theorem dl_add {p d g : Nat → Int} : ∀ x, S.dl p (fun y => d y + g y) x = S.dl p d x + S.dl p g x := by
  refine nrec p (by rw [dl_z, dl_z, dl_z]; rfl) (fun x h ih => ?_)
  rw [dl_pos h, dl_pos h, dl_pos h, ih]; omega
theorem act_len {n m c : Nat} {p d u j add g : Nat → Int} {ev : Int} : (S.actS n p d u j m add ev c g).2.length ≤ n := by
  unfold S.actS
  split
  · split
    · exact Nat.le_trans (Nat.le_of_eq mkl_len) cho_len
    · exact Nat.zero_le _
  · exact Nat.zero_le _

end Go.Ev
