/-
  What is known.
-/
import Derived.Test.YtffldkecndnbiaaG2
import Derived.Test.YtffldkecndnbiaaE2
import Derived.Test.YtffldkecndnbiaaA7
namespace Go.Ev
open Go.Proofs
set_option linter.unusedVariables false
set_option linter.unusedSimpArgs false
set_option maxRecDepth 100000
noncomputable def xS (test : Bool → Prop → Prop → Prop) : Ext := consX test [k12, k34, k14, k17, k28, k35]
theorem xS_ok : ExtOk Try.prog (xS cond) := consX_ok ⟨k12_ok, k34_ok, k14_ok, k17_ok, k28_ok, k35_ok, trivial⟩

theorem dl_abs {p w g : Nat → Int} {n : Nat} (h : ∀ y, y < n → -w y ≤ g y ∧ g y ≤ w y) : ∀ x, x < n → -S.dl p w x ≤ S.dl p g x ∧ S.dl p g x ≤ S.dl p w x := by
  refine nrec p (fun _ => by rw [dl_z, dl_z]; omega) (fun x h0 ih hx => ?_)
  have h1 := par_lt (p := p) h0
  have ih := ih (by omega)
  have h2 := h x hx
  rw [dl_pos h0, dl_pos h0]; omega
theorem spr_ok {n m : Nat} {w y : Nat → Int} (hw : ∀ q, q < n → 0 ≤ w q) (hy : S.bytes m y = true) : (S.sprL n w m y).length = n ∧ ∀ q, q < n → -w q ≤ S.at' (S.sprL n w m y) q ∧ S.at' (S.sprL n w m y) q ≤ w q := by
  refine ⟨mkl_len, fun q hq => ?_⟩
  have e : S.at' (S.sprL n w m y) q = S.sprT w m y q := at_mkl hq
  rw [e]
  exact spr_bnd (hw q hq) fun h => (of_decide_eq_true hy q h).1
theorem lea_is {n : Nat} {p d u j : Nat → Int} (h : S.treE n p d u j = 0) : S.leaS n p d u j = (0, S.leaL p n) := by unfold S.leaS; rw [if_pos h]
theorem dly_is {n : Nat} {p d u j : Nat → Int} (h : S.treE n p d u j = 0) : S.dlyS n p d u j = (0, S.mkl n (S.dlyT p d j)) := by unfold S.dlyS; rw [if_pos h]
theorem act_is {n m c : Nat} {p d u j add g : Nat → Int} {ev : Int} (h : S.treE n p d u j = 0) (hm : m = (S.leaL p n).length) (hc : c = n) (he : 0 ≤ ev ∧ ev ≤ 1099511627776) (hw : ∀ q, q < m → 0 ≤ add q ∧ add q ≤ 1000000000) (hj : ∀ q, q < n → -j q ≤ g q ∧ g q ≤ j q) : S.actS n p d u j m add ev c g = (0, S.mkl (S.leaL p n).length (S.actT p d g add ev (S.leaL p n))) := by
  unfold S.actS
  rw [if_pos h, if_pos ⟨hm, hc, he, winT_iff.mpr (fun q _ hq => hw q (by omega)), jitK_iff.mpr (fun q _ hq => hj q (by omega))⟩]

end Go.Ev
