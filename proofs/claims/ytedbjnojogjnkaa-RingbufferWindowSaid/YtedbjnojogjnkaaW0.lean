/-
  Windows.
-/
import Derived.Test.YtedbjnojogjnkaaL6a
import Derived.Test.YtedbjnojogjnkaaLA
namespace Go.Ev
open Go.Proofs
set_option linter.unusedVariables false
set_option linter.unusedSimpArgs false
set_option maxRecDepth 100000

namespace S
def inW (a b : Int) (r : Int × Int × Bool) : Bool := decide (a ≤ r.1 ∧ r.1 < b)
def winR (ca af : Int) (n : Nat) (t v : Nat → Int) (g : Nat → Bool) (ov re : Int) (fz : Bool) (a b : Int) : Int × List (Int × Int × Bool) :=
  if vB ca af n t v ov re fz = 0 then (if 0 ≤ a ∧ a ≤ b ∧ b ≤ 1099511627776 then (0, (mkl n fun j => (t j, v j, g j)).filter (inW a b)) else (6, [])) else (vB ca af n t v ov re fz, [])
end S
theorem filter_snoc {α : Type} {p : α → Bool} {L : List α} {x : α} : (S.snoc L x).filter p = if p x = true then S.snoc (L.filter p) x else L.filter p := by
  simp only [S.snoc, List.filter_append, List.filter_cons, List.filter_nil]
  split <;> simp
noncomputable def xG (test : Bool → Prop → Prop → Prop) : Ext := consX test [k19, k20, k32]
theorem xG_ok : ExtOk Try.prog (xG cond) := consX_ok ⟨k19_ok, k20_ok, k32_ok, trivial⟩

end Go.Ev
