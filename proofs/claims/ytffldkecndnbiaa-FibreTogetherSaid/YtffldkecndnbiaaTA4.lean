/-
  Delays.
-/
import Derived.Test.YtffldkecndnbiaaTA3
namespace Go.Ev
open Go.Proofs
set_option linter.unusedVariables false
set_option linter.unusedSimpArgs false
set_option maxRecDepth 100000

theorem dl_bd {n : Nat} {p d u j : Nat → Int} (h : S.treE n p d u j = 0) {x : Nat} (hx : x < n) : (0 ≤ S.dl p d x ∧ S.dl p d x ≤ 1000000 * (x : Int)) ∧ (0 ≤ S.dl p j x ∧ S.dl p j x ≤ 1000000 * (x : Int)) := by
  obtain ⟨v1, v2, v3, v4, v5, v6⟩ := tre_ok h
  have h1 := dl_bnd (p := p) (g := d) (n := n) (c := 1000000) (by decide) (fun y hy => by have := v5 y hy; omega) x hx
  have h2 := dl_bnd (p := p) (g := j) (n := n) (c := 1000000) (by decide) (fun y hy => by have := v5 y hy; omega) x hx
  have h3 := dl_nn (p := p) (g := d) (n := n) (fun y hy => by have := v5 y hy; omega) x hx
  have h4 := dl_nn (p := p) (g := j) (n := n) (fun y hy => by have := v5 y hy; omega) x hx
  exact ⟨⟨h3, h1.2⟩, h4, h2.2⟩
end Go.Ev
