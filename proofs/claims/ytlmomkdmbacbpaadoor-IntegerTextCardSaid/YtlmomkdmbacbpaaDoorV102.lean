/-
  The parts that the statement needs, 2 of 2.
-/
import Derived.Test.YtlmomkdmbacbpaaDoorV101
namespace Go.Ev
open Go.Proofs
set_option linter.unusedVariables false
set_option linter.unusedSimpArgs false
set_option maxRecDepth 100000
theorem k10_ok  : k10.ok Tryd.prog := by
  intro x hx
  obtain ⟨⟨n1, ⟨ap, np, mp, tp, _⟩, _⟩, _⟩ := x
  obtain ⟨h1, h2⟩ := a10 n1 ap np mp tp (s10 n1 ap np mp tp (of_dec hx rfl))
  exact ⟨⟨400, (by decide : 1 + 1 + 0 ≤ 400), h1⟩, h2⟩
theorem pre10  {x : SsI k10.ss} (hx : ssFits k10.ss x) (hz : ssSmall reachBytes k10.ss x) : k10.pre (ssj k10.ss x) = true := by
  obtain ⟨⟨b0, ⟨n, t, u'⟩, u1⟩, u''⟩ := x
  obtain ⟨⟨-, hn, -⟩, -⟩ := hz
  exact decide_eq_true ⟨Nat.le_of_eq (Nat.zero_add _), hn⟩
end Go.Ev
