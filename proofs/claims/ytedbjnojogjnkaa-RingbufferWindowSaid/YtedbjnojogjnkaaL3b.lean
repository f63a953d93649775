/-
  What the buffer's functions answer.
-/
import Derived.Test.YtedbjnojogjnkaaL3a
namespace Go.Ev
open Go.Proofs
set_option linter.unusedVariables false
set_option linter.unusedSimpArgs false
set_option maxRecDepth 100000

theorem vB_ok {ca af : Int} {n : Nat} {t v : Nat → Int} {ov re : Int} {fz : Bool} (h : S.vB ca af n t v ov re fz = 0) : 1 ≤ ca ∧ ca ≤ 200 ∧ 0 ≤ af ∧ af ≤ 200 ∧ 0 ≤ ov ∧ ov ≤ 1099511627776 ∧ -1 ≤ re ∧ re ≤ af ∧ (n : Int) ≤ ca ∧ (fz = true → re = 0) ∧ (re = 0 → fz = true) ∧ ¬ (0 < ov ∧ (n : Int) < ca) ∧ S.errS t v 0 n = 0 := by
  unfold S.vB at h
  split at h
  · split at h
    · split at h
      · split at h
        · simp_all
        · cases h
      · cases h
    · contradiction
  · cases h
namespace S
abbrev Bu := Int × Int × Int × Int × Bool × Int × List (Int × Int × Bool)
def noB (e : Int) : Bu := (0, 0, 0, 0, false, e, [])
/-- The error of putting a sample. -/
def putE (ca af : Int) (n : Nat) (t v : Nat → Int) (ov re : Int) (fz : Bool) (st sv : Int) : Int :=
  if vB ca af n t v ov re fz = 0 then (if fz = true then 8 else if okS st sv = true then (if 0 < n ∧ st < t (n - 1) then 15 else if ov = 1099511627776 then 16 else 0) else 6) else vB ca af n t v ov re fz
/-- The buffer behind a sample. -/
def putS (ca af : Int) (n : Nat) (t v : Nat → Int) (g : Nat → Bool) (ov re : Int) (fz : Bool) (st sv : Int) (sg : Bool) : Bu :=
  if putE ca af n t v ov re fz st sv = 0 then
    (ca, af, (if (n : Int) = ca then ov + 1 else ov), (if 0 < re then re - 1 else re), (if re = 1 then true else false), 0, snoc (if (n : Int) = ca then mkl (n - 1) fun j => (t (j + 1), v (j + 1), g (j + 1)) else mkl n fun j => (t j, v j, g j)) (st, sv, sg))
  else noB (putE ca af n t v ov re fz st sv)
/-- The buffer behind a freeze request. -/
def frzS (ca af : Int) (n : Nat) (t v : Nat → Int) (g : Nat → Bool) (ov re : Int) (fz : Bool) (a : Int) : Bu :=
  if vB ca af n t v ov re fz = 0 then (if 0 ≤ a ∧ a ≤ 1099511627776 then
    (ca, af, ov, (if re = -1 then af else re), (if re = -1 then (if af = 0 then true else false) else fz), 0, mkl n fun j => (t j, v j, g j)) else noB 6) else noB (vB ca af n t v ov re fz)
/-- The buffer that runs again. -/
def reaS (ca af : Int) (n : Nat) (t v : Nat → Int) (ov re : Int) (fz : Bool) : Int × Int × Int × Int :=
  if vB ca af n t v ov re fz = 0 then (if fz = true then (ca, af, -1, 0) else (0, 0, 0, 8)) else (0, 0, 0, vB ca af n t v ov re fz)
def newS (ca af : Int) : Int × Int × Int × Int := if 1 ≤ ca ∧ ca ≤ 200 ∧ 0 ≤ af ∧ af ≤ 200 then (ca, af, -1, 0) else (0, 0, 0, 6)
end S

end Go.Ev
