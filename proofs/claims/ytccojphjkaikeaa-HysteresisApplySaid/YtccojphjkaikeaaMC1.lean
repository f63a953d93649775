/-
  The law of Apply.
-/
import Derived.Test.YtccojphjkaikeaaMC0
import Derived.Test.YtccojphjkaikeaaMA5
import Derived.Test.YtccojphjkaikeaaMA6
import Derived.Test.YtccojphjkaikeaaMA8
import Derived.Test.YtccojphjkaikeaaMB6
namespace Go.Ev
open Go.Proofs
set_option linter.unusedVariables false
set_option linter.unusedSimpArgs false
set_option maxRecDepth 100000
noncomputable def yC1 (test : Bool → Prop → Prop → Prop) : Ext := consX test [k12, k14, k16, k17, k18, k19, k20, k21, k22, k23, k37, k38]
theorem yC1_ok : ExtOk Try.prog (yC1 cond) := consX_ok (l := [k12, k14, k16, k17, k18, k19, k20, k21, k22, k23, k37, k38]) ⟨k12_ok, k14_ok, k16_ok, k17_ok, k18_ok, k19_ok, k20_ok, k21_ok, k22_ok, k23_ok, k37_ok, k38_ok, trivial⟩
abbrev St3 := Empty
abbrev Rt3 := Bool
noncomputable def V3 (ar nr mr : Nat) (tr : Nat → Int) (vr : Nat → Int) (gr : Nat → Int) (ao no mo : Nat) (to : Nat → Bool) (v : Int) (r : Rt3) : PV := PV.bool r
noncomputable def N3 (ar nr mr : Nat) (tr : Nat → Int) (vr : Nat → Int) (gr : Nat → Int) (ao no mo : Nat) (to : Nat → Bool) (v : Int) (r : Rt3) : List Blk := []
noncomputable def I3 (ar nr mr : Nat) (tr : Nat → Int) (vr : Nat → Int) (gr : Nat → Int) (ao no mo : Nat) (to : Nat → Bool) (v : Int) : St3 → Hd := fun s => s.elim
noncomputable def q3 (ar nr mr : Nat) (tr : Nat → Int) (vr : Nat → Int) (gr : Nat → Int) (ao no mo : Nat) (to : Nat → Bool) (v : Int) : St3 → Option (St3 ⊕ Rt3) := fun s => s.elim
noncomputable def p3 (ar nr mr : Nat) (tr : Nat → Int) (vr : Nat → Int) (gr : Nat → Int) (ao no mo : Nat) (to : Nat → Bool) (v : Int) : Option (St3 ⊕ Rt3) := bif (decide ((↑nr : Int) ≤ (45 : Int)))
 then (bif (decide ((↑no : Int) ≤ (50 : Int)))
 then (bif (decide (ar + nr ≤ mr ∧ nr ≤ 1000000))
 then (bif (decide (ao + no ≤ mo ∧ no ≤ 1000000))
 then (bif (decide (0 + nr ≤ nr ∧ nr ≤ 1000000 ∧ 0 + no ≤ no ∧ no ≤ 1000000))
 then (bif (decide (ar + nr ≤ mr ∧ nr ≤ 1000000 ∧ ao + no ≤ mo ∧ no ≤ 1000000))
 then (bif (decide (0 + nr ≤ nr ∧ nr ≤ 1000000))
 then (bif (S.magE nr (fun (j : Nat) => tr (j + ar)) (fun (j : Nat) => vr (j + ar)) (fun (j : Nat) => gr (j + ar)) no ==
 S.magE nr (fun (j : Nat) => tr (j + ar)) (fun (j : Nat) => vr (j + ar)) (fun (j : Nat) => gr (j + ar)) no)
 then (bif (Prod.fst
 (S.histS nr (fun (j : Nat) => tr (j + ar)) (fun (j : Nat) => vr (j + ar)) (fun (j : Nat) => gr (j + ar)) no
 (fun (j : Nat) => to (j + ao)) (1) fun (j : Nat) => S.lit [v] (0 : Int) j) ==
 Prod.fst
 (S.histS nr (fun (j : Nat) => tr (j + ar)) (fun (j : Nat) => vr (j + ar)) (fun (j : Nat) => gr (j + ar)) no
 (fun (j : Nat) => to (j + ao)) (1) fun (j : Nat) => S.lit [v] (0 : Int) j))
 then (bif (decide
 (0 +
 List.length
 (Prod.fst
 (Prod.snd
 (S.histS nr (fun (j : Nat) => tr (j + ar)) (fun (j : Nat) => vr (j + ar))
 (fun (j : Nat) => gr (j + ar)) no (fun (j : Nat) => to (j + ao)) (1) fun (j : Nat) =>
 S.lit [v] (0 : Int) j))) ≤
 List.length
 (Prod.fst
 (Prod.snd
 (S.histS nr (fun (j : Nat) => tr (j + ar)) (fun (j : Nat) => vr (j + ar))
 (fun (j : Nat) => gr (j + ar)) no (fun (j : Nat) => to (j + ao)) (1) fun (j : Nat) =>
 S.lit [v] (0 : Int) j))) ∧
 List.length
 (Prod.fst
 (Prod.snd
 (S.histS nr (fun (j : Nat) => tr (j + ar)) (fun (j : Nat) => vr (j + ar))
 (fun (j : Nat) => gr (j + ar)) no (fun (j : Nat) => to (j + ao)) (1) fun (j : Nat) =>
 S.lit [v] (0 : Int) j))) ≤
 1000000 ∧
 0 +
 List.length
 (Prod.snd
 (Prod.snd
 (S.histS nr (fun (j : Nat) => tr (j + ar)) (fun (j : Nat) => vr (j + ar))
 (fun (j : Nat) => gr (j + ar)) no (fun (j : Nat) => to (j + ao)) (1) fun (j : Nat) =>
 S.lit [v] (0 : Int) j))) ≤
 List.length
 (Prod.snd
 (Prod.snd
 (S.histS nr (fun (j : Nat) => tr (j + ar)) (fun (j : Nat) => vr (j + ar))
 (fun (j : Nat) => gr (j + ar)) no (fun (j : Nat) => to (j + ao)) (1) fun (j : Nat) =>
 S.lit [v] (0 : Int) j))) ∧
 List.length
 (Prod.snd
 (Prod.snd
 (S.histS nr (fun (j : Nat) => tr (j + ar)) (fun (j : Nat) => vr (j + ar))
 (fun (j : Nat) => gr (j + ar)) no (fun (j : Nat) => to (j + ao)) (1) fun (j : Nat) =>
 S.lit [v] (0 : Int) j))) ≤
 1000000 ∧
 0 +
 List.length
 (Prod.fst
 (Prod.snd
 (S.histS nr (fun (j : Nat) => tr (j + ar)) (fun (j : Nat) => vr (j + ar))
 (fun (j : Nat) => gr (j + ar)) no (fun (j : Nat) => to (j + ao)) (1) fun (j : Nat) =>
 S.lit [v] (0 : Int) j))) ≤
 List.length
 (Prod.fst
 (Prod.snd
 (S.histS nr (fun (j : Nat) => tr (j + ar)) (fun (j : Nat) => vr (j + ar))
 (fun (j : Nat) => gr (j + ar)) no (fun (j : Nat) => to (j + ao)) (1) fun (j : Nat) =>
 S.lit [v] (0 : Int) j))) ∧
 List.length
 (Prod.fst
 (Prod.snd
 (S.histS nr (fun (j : Nat) => tr (j + ar)) (fun (j : Nat) => vr (j + ar))
 (fun (j : Nat) => gr (j + ar)) no (fun (j : Nat) => to (j + ao)) (1) fun (j : Nat) =>
 S.lit [v] (0 : Int) j))) ≤
 1000000 ∧
 0 +
 List.length
 (Prod.snd
 (Prod.snd
 (S.histS nr (fun (j : Nat) => tr (j + ar)) (fun (j : Nat) => vr (j + ar))
 (fun (j : Nat) => gr (j + ar)) no (fun (j : Nat) => to (j + ao)) (1)
 fun (j : Nat) => S.lit [v] (0 : Int) j))) ≤
 List.length
 (Prod.snd
 (Prod.snd
 (S.histS nr (fun (j : Nat) => tr (j + ar)) (fun (j : Nat) => vr (j + ar))
 (fun (j : Nat) => gr (j + ar)) no (fun (j : Nat) => to (j + ao)) (1) fun (j : Nat) =>
 S.lit [v] (0 : Int) j))) ∧
 List.length
 (Prod.snd
 (Prod.snd
 (S.histS nr (fun (j : Nat) => tr (j + ar)) (fun (j : Nat) => vr (j + ar))
 (fun (j : Nat) => gr (j + ar)) no (fun (j : Nat) => to (j + ao)) (1) fun (j : Nat) =>
 S.lit [v] (0 : Int) j))) ≤
 1000000))
 then (bif (decide
 ((S.mkl
 (List.length
 (Prod.fst
 (Prod.snd
 (S.histS nr (fun (j : Nat) => tr (j + ar)) (fun (j : Nat) => vr (j + ar))
 (fun (j : Nat) => gr (j + ar)) no (fun (j : Nat) => to (j + ao)) (1) fun (j : Nat) =>
 S.lit [v] (0 : Int) j))))
 fun (j : Nat) =>
 (Prod.fst
 (S.at'
 (Prod.fst
 (Prod.snd
 (S.histS nr (fun (j : Nat) => tr (j + ar)) (fun (j : Nat) => vr (j + ar))
 (fun (j : Nat) => gr (j + ar)) no (fun (j : Nat) => to (j + ao)) (1) fun (j : Nat) =>
 S.lit [v] (0 : Int) j)))
 j),
 Prod.fst
 (Prod.snd
 (S.at'
 (Prod.fst
 (Prod.snd
 (S.histS nr (fun (j : Nat) => tr (j + ar)) (fun (j : Nat) => vr (j + ar))
 (fun (j : Nat) => gr (j + ar)) no (fun (j : Nat) => to (j + ao)) (1) fun (j : Nat) =>
 S.lit [v] (0 : Int) j)))
 j)),
 Prod.snd
 (Prod.snd
 (S.at'
 (Prod.fst
 (Prod.snd
 (S.histS nr (fun (j : Nat) => tr (j + ar)) (fun (j : Nat) => vr (j + ar))
 (fun (j : Nat) => gr (j + ar)) no (fun (j : Nat) => to (j + ao)) (1) fun (j : Nat) =>
 S.lit [v] (0 : Int) j)))
 j)))) =
 S.mkl
 (List.length
 (Prod.fst
 (Prod.snd
 (S.histS nr (fun (j : Nat) => tr (j + ar)) (fun (j : Nat) => vr (j + ar))
 (fun (j : Nat) => gr (j + ar)) no (fun (j : Nat) => to (j + ao)) (1) fun (j : Nat) =>
 S.lit [v] (0 : Int) j))))
 fun (j : Nat) =>
 (Prod.fst
 (S.at'
 (Prod.fst
 (Prod.snd
 (S.histS nr (fun (j : Nat) => tr (j + ar)) (fun (j : Nat) => vr (j + ar))
 (fun (j : Nat) => gr (j + ar)) no (fun (j : Nat) => to (j + ao)) (1) fun (j : Nat) =>
 S.lit [v] (0 : Int) j)))
 j),
 Prod.fst
 (Prod.snd
 (S.at'
 (Prod.fst
 (Prod.snd
 (S.histS nr (fun (j : Nat) => tr (j + ar)) (fun (j : Nat) => vr (j + ar))
 (fun (j : Nat) => gr (j + ar)) no (fun (j : Nat) => to (j + ao)) (1) fun (j : Nat) =>
 S.lit [v] (0 : Int) j)))
 j)),
 Prod.snd
 (Prod.snd
 (S.at'
 (Prod.fst
 (Prod.snd
 (S.histS nr (fun (j : Nat) => tr (j + ar)) (fun (j : Nat) => vr (j + ar))
 (fun (j : Nat) => gr (j + ar)) no (fun (j : Nat) => to (j + ao)) (1) fun (j : Nat) =>
 S.lit [v] (0 : Int) j)))
 j)))) &&
 decide
 ((S.mkl
 (List.length
 (Prod.snd
 (Prod.snd
 (S.histS nr (fun (j : Nat) => tr (j + ar)) (fun (j : Nat) => vr (j + ar))
 (fun (j : Nat) => gr (j + ar)) no (fun (j : Nat) => to (j + ao)) (1) fun (j : Nat) =>
 S.lit [v] (0 : Int) j))))
 fun (j : Nat) =>
 S.at'
 (Prod.snd
 (Prod.snd
 (S.histS nr (fun (j : Nat) => tr (j + ar)) (fun (j : Nat) => vr (j + ar))
 (fun (j : Nat) => gr (j + ar)) no (fun (j : Nat) => to (j + ao)) (1) fun (j : Nat) =>
 S.lit [v] (0 : Int) j)))
 j) =
 S.mkl
 (List.length
 (Prod.snd
 (Prod.snd
 (S.histS nr (fun (j : Nat) => tr (j + ar)) (fun (j : Nat) => vr (j + ar))
 (fun (j : Nat) => gr (j + ar)) no (fun (j : Nat) => to (j + ao)) (1) fun (j : Nat) =>
 S.lit [v] (0 : Int) j))))
 fun (j : Nat) =>
 S.at'
 (Prod.snd
 (Prod.snd
 (S.histS nr (fun (j : Nat) => tr (j + ar)) (fun (j : Nat) => vr (j + ar))
 (fun (j : Nat) => gr (j + ar)) no (fun (j : Nat) => to (j + ao)) (1) fun (j : Nat) =>
 S.lit [v] (0 : Int) j)))
 j))
 then (bif (Prod.fst
 (S.fieldS nr (fun (j : Nat) => tr (j + ar)) (fun (j : Nat) => vr (j + ar)) (fun (j : Nat) => gr (j + ar)) no
 fun (j : Nat) => to (j + ao)) ==
 Prod.fst
 (S.fieldS nr (fun (j : Nat) => tr (j + ar)) (fun (j : Nat) => vr (j + ar)) (fun (j : Nat) => gr (j + ar)) no
 fun (j : Nat) => to (j + ao)))
 then (bif (Prod.snd
 (S.fieldS nr (fun (j : Nat) => tr (j + ar)) (fun (j : Nat) => vr (j + ar)) (fun (j : Nat) => gr (j + ar)) no
 fun (j : Nat) => to (j + ao)) ==
 Prod.snd
 (S.fieldS nr (fun (j : Nat) => tr (j + ar)) (fun (j : Nat) => vr (j + ar)) (fun (j : Nat) => gr (j + ar)) no
 fun (j : Nat) => to (j + ao)))
 then (bif (Prod.fst
 (S.satS nr (fun (j : Nat) => tr (j + ar)) (fun (j : Nat) => vr (j + ar)) (fun (j : Nat) => gr (j + ar)) no) ==
 Prod.fst
 (S.satS nr (fun (j : Nat) => tr (j + ar)) (fun (j : Nat) => vr (j + ar)) (fun (j : Nat) => gr (j + ar)) no))
 then (bif (Prod.fst
 (Prod.snd
 (S.satS nr (fun (j : Nat) => tr (j + ar)) (fun (j : Nat) => vr (j + ar)) (fun (j : Nat) => gr (j + ar))
 no)) ==
 Prod.fst
 (Prod.snd
 (S.satS nr (fun (j : Nat) => tr (j + ar)) (fun (j : Nat) => vr (j + ar)) (fun (j : Nat) => gr (j + ar)) no)))
 then (bif (Prod.snd
 (Prod.snd
 (S.satS nr (fun (j : Nat) => tr (j + ar)) (fun (j : Nat) => vr (j + ar)) (fun (j : Nat) => gr (j + ar))
 no)) ==
 Prod.snd
 (Prod.snd
 (S.satS nr (fun (j : Nat) => tr (j + ar)) (fun (j : Nat) => vr (j + ar)) (fun (j : Nat) => gr (j + ar)) no)))
 then (some (.inr (true)))
 else (some (.inr (false))))
 else (some (.inr (false))))
 else (some (.inr (false))))
 else (some (.inr (false))))
 else (some (.inr (false))))
 else (some (.inr (false))))
 else (none))
 else (some (.inr (false))))
 else (some (.inr (false))))
 else (none))
 else (none))
 else (none))
 else (none))
 else (none))
 else (some (.inr (true))))
 else (some (.inr (true)))
noncomputable def Te3 (test : Bool → Prop → Prop → Prop) (Kst : KS) (Kret : KR) (ar nr mr : Nat) (tr : Nat → Int) (vr : Nat → Int) (gr : Nat → Int) (ao no mo : Nat) (to : Nat → Bool) (v : Int) : Prop :=
  test (true)
 (test (true)
 (test (decide ((↑nr : Int) ≤ (45 : Int)))
 (test (decide ((↑no : Int) ≤ (50 : Int)))
 (test (decide (ar + nr ≤ mr ∧ nr ≤ 1000000))
 (test (decide (ao + no ≤ mo ∧ no ≤ 1000000))
 (test (decide (0 + nr ≤ nr ∧ nr ≤ 1000000 ∧ 0 + no ≤ no ∧ no ≤ 1000000))
 (test (decide (ar + nr ≤ mr ∧ nr ≤ 1000000 ∧ ao + no ≤ mo ∧ no ≤ 1000000))
 (test (decide (ar + nr ≤ mr ∧ nr ≤ 1000000))
 (test (decide (ao + no ≤ mo ∧ no ≤ 1000000))
 (test (decide (0 + nr ≤ nr ∧ nr ≤ 1000000 ∧ 0 + no ≤ no ∧ no ≤ 1000000))
 (test (decide (ar + nr ≤ mr ∧ nr ≤ 1000000 ∧ ao + no ≤ mo ∧ no ≤ 1000000))
 (test (decide (ar + nr ≤ mr ∧ nr ≤ 1000000))
 (test (decide (ao + no ≤ mo ∧ no ≤ 1000000))
 (test (decide (0 + nr ≤ nr ∧ nr ≤ 1000000 ∧ 0 + no ≤ no ∧ no ≤ 1000000))
 (test (decide (ar + nr ≤ mr ∧ nr ≤ 1000000 ∧ ao + no ≤ mo ∧ no ≤ 1000000))
 (test (decide (ar + nr ≤ mr ∧ nr ≤ 1000000))
 (test (decide (ao + no ≤ mo ∧ no ≤ 1000000))
 (test (decide (0 + nr ≤ nr ∧ nr ≤ 1000000))
 (test (decide (ar + nr ≤ mr ∧ nr ≤ 1000000))
 (test (S.magE nr (fun (j : Nat) => tr (j + ar)) (fun (j : Nat) => vr (j + ar)) (fun (j : Nat) => gr (j + ar)) no ==
 S.magE nr (fun (j : Nat) => tr (j + ar)) (fun (j : Nat) => vr (j + ar)) (fun (j : Nat) => gr (j + ar)) no)
 (test (Prod.fst
 (S.histS nr (fun (j : Nat) => tr (j + ar)) (fun (j : Nat) => vr (j + ar)) (fun (j : Nat) => gr (j + ar)) no
 (fun (j : Nat) => to (j + ao)) (1) fun (j : Nat) => S.lit [v] (0 : Int) j) ==
 Prod.fst
 (S.histS nr (fun (j : Nat) => tr (j + ar)) (fun (j : Nat) => vr (j + ar)) (fun (j : Nat) => gr (j + ar)) no
 (fun (j : Nat) => to (j + ao)) (1) fun (j : Nat) => S.lit [v] (0 : Int) j))
 (test (decide
 (0 +
 List.length
 (Prod.fst
 (Prod.snd
 (S.histS nr (fun (j : Nat) => tr (j + ar)) (fun (j : Nat) => vr (j + ar))
 (fun (j : Nat) => gr (j + ar)) no (fun (j : Nat) => to (j + ao)) (1) fun (j : Nat) =>
 S.lit [v] (0 : Int) j))) ≤
 List.length
 (Prod.fst
 (Prod.snd
 (S.histS nr (fun (j : Nat) => tr (j + ar)) (fun (j : Nat) => vr (j + ar))
 (fun (j : Nat) => gr (j + ar)) no (fun (j : Nat) => to (j + ao)) (1) fun (j : Nat) =>
 S.lit [v] (0 : Int) j))) ∧
 List.length
 (Prod.fst
 (Prod.snd
 (S.histS nr (fun (j : Nat) => tr (j + ar)) (fun (j : Nat) => vr (j + ar))
 (fun (j : Nat) => gr (j + ar)) no (fun (j : Nat) => to (j + ao)) (1) fun (j : Nat) =>
 S.lit [v] (0 : Int) j))) ≤
 1000000 ∧
 0 +
 List.length
 (Prod.snd
 (Prod.snd
 (S.histS nr (fun (j : Nat) => tr (j + ar)) (fun (j : Nat) => vr (j + ar))
 (fun (j : Nat) => gr (j + ar)) no (fun (j : Nat) => to (j + ao)) (1) fun (j : Nat) =>
 S.lit [v] (0 : Int) j))) ≤
 List.length
 (Prod.snd
 (Prod.snd
 (S.histS nr (fun (j : Nat) => tr (j + ar)) (fun (j : Nat) => vr (j + ar))
 (fun (j : Nat) => gr (j + ar)) no (fun (j : Nat) => to (j + ao)) (1) fun (j : Nat) =>
 S.lit [v] (0 : Int) j))) ∧
 List.length
 (Prod.snd
 (Prod.snd
 (S.histS nr (fun (j : Nat) => tr (j + ar)) (fun (j : Nat) => vr (j + ar))
 (fun (j : Nat) => gr (j + ar)) no (fun (j : Nat) => to (j + ao)) (1) fun (j : Nat) =>
 S.lit [v] (0 : Int) j))) ≤
 1000000 ∧
 0 +
 List.length
 (Prod.fst
 (Prod.snd
 (S.histS nr (fun (j : Nat) => tr (j + ar)) (fun (j : Nat) => vr (j + ar))
 (fun (j : Nat) => gr (j + ar)) no (fun (j : Nat) => to (j + ao)) (1) fun (j : Nat) =>
 S.lit [v] (0 : Int) j))) ≤
 List.length
 (Prod.fst
 (Prod.snd
 (S.histS nr (fun (j : Nat) => tr (j + ar)) (fun (j : Nat) => vr (j + ar))
 (fun (j : Nat) => gr (j + ar)) no (fun (j : Nat) => to (j + ao)) (1) fun (j : Nat) =>
 S.lit [v] (0 : Int) j))) ∧
 List.length
 (Prod.fst
 (Prod.snd
 (S.histS nr (fun (j : Nat) => tr (j + ar)) (fun (j : Nat) => vr (j + ar))
 (fun (j : Nat) => gr (j + ar)) no (fun (j : Nat) => to (j + ao)) (1) fun (j : Nat) =>
 S.lit [v] (0 : Int) j))) ≤
 1000000 ∧
 0 +
 List.length
 (Prod.snd
 (Prod.snd
 (S.histS nr (fun (j : Nat) => tr (j + ar)) (fun (j : Nat) => vr (j + ar))
 (fun (j : Nat) => gr (j + ar)) no (fun (j : Nat) => to (j + ao)) (1)
 fun (j : Nat) => S.lit [v] (0 : Int) j))) ≤
 List.length
 (Prod.snd
 (Prod.snd
 (S.histS nr (fun (j : Nat) => tr (j + ar)) (fun (j : Nat) => vr (j + ar))
 (fun (j : Nat) => gr (j + ar)) no (fun (j : Nat) => to (j + ao)) (1) fun (j : Nat) =>
 S.lit [v] (0 : Int) j))) ∧
 List.length
 (Prod.snd
 (Prod.snd
 (S.histS nr (fun (j : Nat) => tr (j + ar)) (fun (j : Nat) => vr (j + ar))
 (fun (j : Nat) => gr (j + ar)) no (fun (j : Nat) => to (j + ao)) (1) fun (j : Nat) =>
 S.lit [v] (0 : Int) j))) ≤
 1000000))
 (test (decide
 ((S.mkl
 (List.length
 (Prod.fst
 (Prod.snd
 (S.histS nr (fun (j : Nat) => tr (j + ar)) (fun (j : Nat) => vr (j + ar))
 (fun (j : Nat) => gr (j + ar)) no (fun (j : Nat) => to (j + ao)) (1) fun (j : Nat) =>
 S.lit [v] (0 : Int) j))))
 fun (j : Nat) =>
 (Prod.fst
 (S.at'
 (Prod.fst
 (Prod.snd
 (S.histS nr (fun (j : Nat) => tr (j + ar)) (fun (j : Nat) => vr (j + ar))
 (fun (j : Nat) => gr (j + ar)) no (fun (j : Nat) => to (j + ao)) (1) fun (j : Nat) =>
 S.lit [v] (0 : Int) j)))
 j),
 Prod.fst
 (Prod.snd
 (S.at'
 (Prod.fst
 (Prod.snd
 (S.histS nr (fun (j : Nat) => tr (j + ar)) (fun (j : Nat) => vr (j + ar))
 (fun (j : Nat) => gr (j + ar)) no (fun (j : Nat) => to (j + ao)) (1) fun (j : Nat) =>
 S.lit [v] (0 : Int) j)))
 j)),
 Prod.snd
 (Prod.snd
 (S.at'
 (Prod.fst
 (Prod.snd
 (S.histS nr (fun (j : Nat) => tr (j + ar)) (fun (j : Nat) => vr (j + ar))
 (fun (j : Nat) => gr (j + ar)) no (fun (j : Nat) => to (j + ao)) (1) fun (j : Nat) =>
 S.lit [v] (0 : Int) j)))
 j)))) =
 S.mkl
 (List.length
 (Prod.fst
 (Prod.snd
 (S.histS nr (fun (j : Nat) => tr (j + ar)) (fun (j : Nat) => vr (j + ar))
 (fun (j : Nat) => gr (j + ar)) no (fun (j : Nat) => to (j + ao)) (1) fun (j : Nat) =>
 S.lit [v] (0 : Int) j))))
 fun (j : Nat) =>
 (Prod.fst
 (S.at'
 (Prod.fst
 (Prod.snd
 (S.histS nr (fun (j : Nat) => tr (j + ar)) (fun (j : Nat) => vr (j + ar))
 (fun (j : Nat) => gr (j + ar)) no (fun (j : Nat) => to (j + ao)) (1) fun (j : Nat) =>
 S.lit [v] (0 : Int) j)))
 j),
 Prod.fst
 (Prod.snd
 (S.at'
 (Prod.fst
 (Prod.snd
 (S.histS nr (fun (j : Nat) => tr (j + ar)) (fun (j : Nat) => vr (j + ar))
 (fun (j : Nat) => gr (j + ar)) no (fun (j : Nat) => to (j + ao)) (1) fun (j : Nat) =>
 S.lit [v] (0 : Int) j)))
 j)),
 Prod.snd
 (Prod.snd
 (S.at'
 (Prod.fst
 (Prod.snd
 (S.histS nr (fun (j : Nat) => tr (j + ar)) (fun (j : Nat) => vr (j + ar))
 (fun (j : Nat) => gr (j + ar)) no (fun (j : Nat) => to (j + ao)) (1) fun (j : Nat) =>
 S.lit [v] (0 : Int) j)))
 j)))) &&
 decide
 ((S.mkl
 (List.length
 (Prod.snd
 (Prod.snd
 (S.histS nr (fun (j : Nat) => tr (j + ar)) (fun (j : Nat) => vr (j + ar))
 (fun (j : Nat) => gr (j + ar)) no (fun (j : Nat) => to (j + ao)) (1) fun (j : Nat) =>
 S.lit [v] (0 : Int) j))))
 fun (j : Nat) =>
 S.at'
 (Prod.snd
 (Prod.snd
 (S.histS nr (fun (j : Nat) => tr (j + ar)) (fun (j : Nat) => vr (j + ar))
 (fun (j : Nat) => gr (j + ar)) no (fun (j : Nat) => to (j + ao)) (1) fun (j : Nat) =>
 S.lit [v] (0 : Int) j)))
 j) =
 S.mkl
 (List.length
 (Prod.snd
 (Prod.snd
 (S.histS nr (fun (j : Nat) => tr (j + ar)) (fun (j : Nat) => vr (j + ar))
 (fun (j : Nat) => gr (j + ar)) no (fun (j : Nat) => to (j + ao)) (1) fun (j : Nat) =>
 S.lit [v] (0 : Int) j))))
 fun (j : Nat) =>
 S.at'
 (Prod.snd
 (Prod.snd
 (S.histS nr (fun (j : Nat) => tr (j + ar)) (fun (j : Nat) => vr (j + ar))
 (fun (j : Nat) => gr (j + ar)) no (fun (j : Nat) => to (j + ao)) (1) fun (j : Nat) =>
 S.lit [v] (0 : Int) j)))
 j))
 (test (Prod.fst
 (S.fieldS nr (fun (j : Nat) => tr (j + ar)) (fun (j : Nat) => vr (j + ar)) (fun (j : Nat) => gr (j + ar)) no
 fun (j : Nat) => to (j + ao)) ==
 Prod.fst
 (S.fieldS nr (fun (j : Nat) => tr (j + ar)) (fun (j : Nat) => vr (j + ar)) (fun (j : Nat) => gr (j + ar)) no
 fun (j : Nat) => to (j + ao)))
 (test (Prod.snd
 (S.fieldS nr (fun (j : Nat) => tr (j + ar)) (fun (j : Nat) => vr (j + ar)) (fun (j : Nat) => gr (j + ar)) no
 fun (j : Nat) => to (j + ao)) ==
 Prod.snd
 (S.fieldS nr (fun (j : Nat) => tr (j + ar)) (fun (j : Nat) => vr (j + ar)) (fun (j : Nat) => gr (j + ar)) no
 fun (j : Nat) => to (j + ao)))
 (test (Prod.fst
 (S.satS nr (fun (j : Nat) => tr (j + ar)) (fun (j : Nat) => vr (j + ar)) (fun (j : Nat) => gr (j + ar)) no) ==
 Prod.fst
 (S.satS nr (fun (j : Nat) => tr (j + ar)) (fun (j : Nat) => vr (j + ar)) (fun (j : Nat) => gr (j + ar)) no))
 (test (Prod.fst
 (Prod.snd
 (S.satS nr (fun (j : Nat) => tr (j + ar)) (fun (j : Nat) => vr (j + ar)) (fun (j : Nat) => gr (j + ar))
 no)) ==
 Prod.fst
 (Prod.snd
 (S.satS nr (fun (j : Nat) => tr (j + ar)) (fun (j : Nat) => vr (j + ar)) (fun (j : Nat) => gr (j + ar)) no)))
 (test (Prod.snd
 (Prod.snd
 (S.satS nr (fun (j : Nat) => tr (j + ar)) (fun (j : Nat) => vr (j + ar)) (fun (j : Nat) => gr (j + ar))
 no)) ==
 Prod.snd
 (Prod.snd
 (S.satS nr (fun (j : Nat) => tr (j + ar)) (fun (j : Nat) => vr (j + ar)) (fun (j : Nat) => gr (j + ar)) no)))
 (Kret (PV.tf true) ([[(1, false, Blk.cols mo [Col.bool to]),
 (0, false,
 Blk.cols mr
 [Col.int IntKind.i64 tr, Col.int IntKind.i64 vr, Col.int IntKind.i64 gr])]]) (44))
 (Kret (PV.tf false) ([[(1, false, Blk.cols mo [Col.bool to]),
 (0, false,
 Blk.cols mr
 [Col.int IntKind.i64 tr, Col.int IntKind.i64 vr, Col.int IntKind.i64 gr])]]) (44)))
 (Kret (PV.tf false) ([[(1, false, Blk.cols mo [Col.bool to]),
 (0, false,
 Blk.cols mr
 [Col.int IntKind.i64 tr, Col.int IntKind.i64 vr, Col.int IntKind.i64 gr])]]) (44)))
 (Kret (PV.tf false) ([[(1, false, Blk.cols mo [Col.bool to]),
 (0, false,
 Blk.cols mr
 [Col.int IntKind.i64 tr, Col.int IntKind.i64 vr, Col.int IntKind.i64 gr])]]) (44)))
 (Kret (PV.tf false) ([[(1, false, Blk.cols mo [Col.bool to]),
 (0, false,
 Blk.cols mr
 [Col.int IntKind.i64 tr, Col.int IntKind.i64 vr, Col.int IntKind.i64 gr])]]) (44)))
 (Kret (PV.tf false) ([[(1, false, Blk.cols mo [Col.bool to]),
 (0, false,
 Blk.cols mr
 [Col.int IntKind.i64 tr, Col.int IntKind.i64 vr, Col.int IntKind.i64 gr])]]) (44)))
 (Kret (PV.tf false) ([[(1, false, Blk.cols mo [Col.bool to]),
 (0, false,
 Blk.cols mr
 [Col.int IntKind.i64 tr, Col.int IntKind.i64 vr, Col.int IntKind.i64 gr])]]) (44)))
 (False))
 (Kret (PV.tf false) ([[(1, false, Blk.cols mo [Col.bool to]),
 (0, false,
 Blk.cols mr
 [Col.int IntKind.i64 tr, Col.int IntKind.i64 vr, Col.int IntKind.i64 gr])]]) (43)))
 (Kret (PV.tf false) ([[(1, false, Blk.cols mo [Col.bool to]),
 (0, false,
 Blk.cols mr
 [Col.int IntKind.i64 tr, Col.int IntKind.i64 vr, Col.int IntKind.i64 gr])]]) (43)))
 (False))
 (False))
 (False))
 (False))
 (False))
 (False))
 (False))
 (False))
 (False))
 (False))
 (False))
 (False))
 (False))
 (False))
 (False))
 (False))
 (test (true)
 (test (true)
 (Kret (PV.tf true) ([[(1, false, Blk.cols mo [Col.bool to]),
 (0, false,
 Blk.cols mr
 [Col.int IntKind.i64 tr, Col.int IntKind.i64 vr, Col.int IntKind.i64 gr])]]) (6))
 (Kret (PV.tf false) ([[(1, false, Blk.cols mo [Col.bool to]),
 (0, false,
 Blk.cols mr
 [Col.int IntKind.i64 tr, Col.int IntKind.i64 vr, Col.int IntKind.i64 gr])]]) (6)))
 (False)))
 (test (true)
 (test (true)
 (Kret (PV.tf true) ([[(1, false, Blk.cols mo [Col.bool to]),
 (0, false,
 Blk.cols mr
 [Col.int IntKind.i64 tr, Col.int IntKind.i64 vr, Col.int IntKind.i64 gr])]]) (6))
 (Kret (PV.tf false) ([[(1, false, Blk.cols mo [Col.bool to]),
 (0, false,
 Blk.cols mr
 [Col.int IntKind.i64 tr, Col.int IntKind.i64 vr, Col.int IntKind.i64 gr])]]) (6)))
 (False)))
 (test (true)
 (test (true)
 (Kret (PV.tf true) ([[(1, false, Blk.cols mo [Col.bool to]),
 (0, false,
 Blk.cols mr
 [Col.int IntKind.i64 tr, Col.int IntKind.i64 vr, Col.int IntKind.i64 gr])]]) (5))
 (Kret (PV.tf false) ([[(1, false, Blk.cols mo [Col.bool to]),
 (0, false,
 Blk.cols mr
 [Col.int IntKind.i64 tr, Col.int IntKind.i64 vr, Col.int IntKind.i64 gr])]]) (5)))
 (False)))
 (False)
set_option maxRecDepth 100000 in
theorem te3 (test : Bool → Prop → Prop → Prop) (Kst : KS) (Kret : KR) (ar nr mr : Nat) (tr : Nat → Int) (vr : Nat → Int) (gr : Nat → Int) (ao no mo : Nat) (to : Nat → Bool) (v : Int) : run test Try.env true (yC1 test) true 400 ⟨3, [.cd (mkFn Try.f3).body], argT 0 [.agg [.loose ⟨0, 3, ar, 0⟩ nr, .loose ⟨1, 1, ao, 0⟩ no], .int .i64 v], [[], [(0, (false, .cols mr [.int .i64 tr, .int .i64 vr, .int .i64 gr])), (1, (false, .cols mo [.bool to]))]], 2⟩ (proj 2 [] Kst Kret) =
  Te3 test Kst Kret ar nr mr tr vr gr ao no mo to v := by kernel_rfl
set_option maxRecDepth 100000 in
theorem be3 (ar nr mr : Nat) (tr : Nat → Int) (vr : Nat → Int) (gr : Nat → Int) (ao no mo : Nat) (to : Nat → Bool) (v : Int) (Kst : KS) (Kret : KR) (x : St3 ⊕ Rt3) (hS : HS 2 400 ((I3 ar nr mr tr vr gr ao no mo to v)) Kst x) (hR : HR 2 400 ((V3 ar nr mr tr vr gr ao no mo to v)) (fun r => [newL (2 + 1) ((N3 ar nr mr tr vr gr ao no mo to v) r) ++ [(0, (false, .cols mr [.int .i64 tr, .int .i64 vr, .int .i64 gr])), (1, (false, .cols mo [.bool to]))]]) Kret x) (h : (bif (decide ((↑nr : Int) ≤ (45 : Int)))
 then (bif (decide ((↑no : Int) ≤ (50 : Int)))
 then (bif (decide (ar + nr ≤ mr ∧ nr ≤ 1000000))
 then (bif (decide (ao + no ≤ mo ∧ no ≤ 1000000))
 then (bif (decide (0 + nr ≤ nr ∧ nr ≤ 1000000 ∧ 0 + no ≤ no ∧ no ≤ 1000000))
 then (bif (decide (ar + nr ≤ mr ∧ nr ≤ 1000000 ∧ ao + no ≤ mo ∧ no ≤ 1000000))
 then (bif (decide (0 + nr ≤ nr ∧ nr ≤ 1000000))
 then (bif (S.magE nr (fun (j : Nat) => tr (j + ar)) (fun (j : Nat) => vr (j + ar)) (fun (j : Nat) => gr (j + ar)) no ==
 S.magE nr (fun (j : Nat) => tr (j + ar)) (fun (j : Nat) => vr (j + ar)) (fun (j : Nat) => gr (j + ar)) no)
 then (bif (Prod.fst
 (S.histS nr (fun (j : Nat) => tr (j + ar)) (fun (j : Nat) => vr (j + ar)) (fun (j : Nat) => gr (j + ar)) no
 (fun (j : Nat) => to (j + ao)) (1) fun (j : Nat) => S.lit [v] (0 : Int) j) ==
 Prod.fst
 (S.histS nr (fun (j : Nat) => tr (j + ar)) (fun (j : Nat) => vr (j + ar)) (fun (j : Nat) => gr (j + ar)) no
 (fun (j : Nat) => to (j + ao)) (1) fun (j : Nat) => S.lit [v] (0 : Int) j))
 then (bif (decide
 (0 +
 List.length
 (Prod.fst
 (Prod.snd
 (S.histS nr (fun (j : Nat) => tr (j + ar)) (fun (j : Nat) => vr (j + ar))
 (fun (j : Nat) => gr (j + ar)) no (fun (j : Nat) => to (j + ao)) (1) fun (j : Nat) =>
 S.lit [v] (0 : Int) j))) ≤
 List.length
 (Prod.fst
 (Prod.snd
 (S.histS nr (fun (j : Nat) => tr (j + ar)) (fun (j : Nat) => vr (j + ar))
 (fun (j : Nat) => gr (j + ar)) no (fun (j : Nat) => to (j + ao)) (1) fun (j : Nat) =>
 S.lit [v] (0 : Int) j))) ∧
 List.length
 (Prod.fst
 (Prod.snd
 (S.histS nr (fun (j : Nat) => tr (j + ar)) (fun (j : Nat) => vr (j + ar))
 (fun (j : Nat) => gr (j + ar)) no (fun (j : Nat) => to (j + ao)) (1) fun (j : Nat) =>
 S.lit [v] (0 : Int) j))) ≤
 1000000 ∧
 0 +
 List.length
 (Prod.snd
 (Prod.snd
 (S.histS nr (fun (j : Nat) => tr (j + ar)) (fun (j : Nat) => vr (j + ar))
 (fun (j : Nat) => gr (j + ar)) no (fun (j : Nat) => to (j + ao)) (1) fun (j : Nat) =>
 S.lit [v] (0 : Int) j))) ≤
 List.length
 (Prod.snd
 (Prod.snd
 (S.histS nr (fun (j : Nat) => tr (j + ar)) (fun (j : Nat) => vr (j + ar))
 (fun (j : Nat) => gr (j + ar)) no (fun (j : Nat) => to (j + ao)) (1) fun (j : Nat) =>
 S.lit [v] (0 : Int) j))) ∧
 List.length
 (Prod.snd
 (Prod.snd
 (S.histS nr (fun (j : Nat) => tr (j + ar)) (fun (j : Nat) => vr (j + ar))
 (fun (j : Nat) => gr (j + ar)) no (fun (j : Nat) => to (j + ao)) (1) fun (j : Nat) =>
 S.lit [v] (0 : Int) j))) ≤
 1000000 ∧
 0 +
 List.length
 (Prod.fst
 (Prod.snd
 (S.histS nr (fun (j : Nat) => tr (j + ar)) (fun (j : Nat) => vr (j + ar))
 (fun (j : Nat) => gr (j + ar)) no (fun (j : Nat) => to (j + ao)) (1) fun (j : Nat) =>
 S.lit [v] (0 : Int) j))) ≤
 List.length
 (Prod.fst
 (Prod.snd
 (S.histS nr (fun (j : Nat) => tr (j + ar)) (fun (j : Nat) => vr (j + ar))
 (fun (j : Nat) => gr (j + ar)) no (fun (j : Nat) => to (j + ao)) (1) fun (j : Nat) =>
 S.lit [v] (0 : Int) j))) ∧
 List.length
 (Prod.fst
 (Prod.snd
 (S.histS nr (fun (j : Nat) => tr (j + ar)) (fun (j : Nat) => vr (j + ar))
 (fun (j : Nat) => gr (j + ar)) no (fun (j : Nat) => to (j + ao)) (1) fun (j : Nat) =>
 S.lit [v] (0 : Int) j))) ≤
 1000000 ∧
 0 +
 List.length
 (Prod.snd
 (Prod.snd
 (S.histS nr (fun (j : Nat) => tr (j + ar)) (fun (j : Nat) => vr (j + ar))
 (fun (j : Nat) => gr (j + ar)) no (fun (j : Nat) => to (j + ao)) (1)
 fun (j : Nat) => S.lit [v] (0 : Int) j))) ≤
 List.length
 (Prod.snd
 (Prod.snd
 (S.histS nr (fun (j : Nat) => tr (j + ar)) (fun (j : Nat) => vr (j + ar))
 (fun (j : Nat) => gr (j + ar)) no (fun (j : Nat) => to (j + ao)) (1) fun (j : Nat) =>
 S.lit [v] (0 : Int) j))) ∧
 List.length
 (Prod.snd
 (Prod.snd
 (S.histS nr (fun (j : Nat) => tr (j + ar)) (fun (j : Nat) => vr (j + ar))
 (fun (j : Nat) => gr (j + ar)) no (fun (j : Nat) => to (j + ao)) (1) fun (j : Nat) =>
 S.lit [v] (0 : Int) j))) ≤
 1000000))
 then (bif (decide
 ((S.mkl
 (List.length
 (Prod.fst
 (Prod.snd
 (S.histS nr (fun (j : Nat) => tr (j + ar)) (fun (j : Nat) => vr (j + ar))
 (fun (j : Nat) => gr (j + ar)) no (fun (j : Nat) => to (j + ao)) (1) fun (j : Nat) =>
 S.lit [v] (0 : Int) j))))
 fun (j : Nat) =>
 (Prod.fst
 (S.at'
 (Prod.fst
 (Prod.snd
 (S.histS nr (fun (j : Nat) => tr (j + ar)) (fun (j : Nat) => vr (j + ar))
 (fun (j : Nat) => gr (j + ar)) no (fun (j : Nat) => to (j + ao)) (1) fun (j : Nat) =>
 S.lit [v] (0 : Int) j)))
 j),
 Prod.fst
 (Prod.snd
 (S.at'
 (Prod.fst
 (Prod.snd
 (S.histS nr (fun (j : Nat) => tr (j + ar)) (fun (j : Nat) => vr (j + ar))
 (fun (j : Nat) => gr (j + ar)) no (fun (j : Nat) => to (j + ao)) (1) fun (j : Nat) =>
 S.lit [v] (0 : Int) j)))
 j)),
 Prod.snd
 (Prod.snd
 (S.at'
 (Prod.fst
 (Prod.snd
 (S.histS nr (fun (j : Nat) => tr (j + ar)) (fun (j : Nat) => vr (j + ar))
 (fun (j : Nat) => gr (j + ar)) no (fun (j : Nat) => to (j + ao)) (1) fun (j : Nat) =>
 S.lit [v] (0 : Int) j)))
 j)))) =
 S.mkl
 (List.length
 (Prod.fst
 (Prod.snd
 (S.histS nr (fun (j : Nat) => tr (j + ar)) (fun (j : Nat) => vr (j + ar))
 (fun (j : Nat) => gr (j + ar)) no (fun (j : Nat) => to (j + ao)) (1) fun (j : Nat) =>
 S.lit [v] (0 : Int) j))))
 fun (j : Nat) =>
 (Prod.fst
 (S.at'
 (Prod.fst
 (Prod.snd
 (S.histS nr (fun (j : Nat) => tr (j + ar)) (fun (j : Nat) => vr (j + ar))
 (fun (j : Nat) => gr (j + ar)) no (fun (j : Nat) => to (j + ao)) (1) fun (j : Nat) =>
 S.lit [v] (0 : Int) j)))
 j),
 Prod.fst
 (Prod.snd
 (S.at'
 (Prod.fst
 (Prod.snd
 (S.histS nr (fun (j : Nat) => tr (j + ar)) (fun (j : Nat) => vr (j + ar))
 (fun (j : Nat) => gr (j + ar)) no (fun (j : Nat) => to (j + ao)) (1) fun (j : Nat) =>
 S.lit [v] (0 : Int) j)))
 j)),
 Prod.snd
 (Prod.snd
 (S.at'
 (Prod.fst
 (Prod.snd
 (S.histS nr (fun (j : Nat) => tr (j + ar)) (fun (j : Nat) => vr (j + ar))
 (fun (j : Nat) => gr (j + ar)) no (fun (j : Nat) => to (j + ao)) (1) fun (j : Nat) =>
 S.lit [v] (0 : Int) j)))
 j)))) &&
 decide
 ((S.mkl
 (List.length
 (Prod.snd
 (Prod.snd
 (S.histS nr (fun (j : Nat) => tr (j + ar)) (fun (j : Nat) => vr (j + ar))
 (fun (j : Nat) => gr (j + ar)) no (fun (j : Nat) => to (j + ao)) (1) fun (j : Nat) =>
 S.lit [v] (0 : Int) j))))
 fun (j : Nat) =>
 S.at'
 (Prod.snd
 (Prod.snd
 (S.histS nr (fun (j : Nat) => tr (j + ar)) (fun (j : Nat) => vr (j + ar))
 (fun (j : Nat) => gr (j + ar)) no (fun (j : Nat) => to (j + ao)) (1) fun (j : Nat) =>
 S.lit [v] (0 : Int) j)))
 j) =
 S.mkl
 (List.length
 (Prod.snd
 (Prod.snd
 (S.histS nr (fun (j : Nat) => tr (j + ar)) (fun (j : Nat) => vr (j + ar))
 (fun (j : Nat) => gr (j + ar)) no (fun (j : Nat) => to (j + ao)) (1) fun (j : Nat) =>
 S.lit [v] (0 : Int) j))))
 fun (j : Nat) =>
 S.at'
 (Prod.snd
 (Prod.snd
 (S.histS nr (fun (j : Nat) => tr (j + ar)) (fun (j : Nat) => vr (j + ar))
 (fun (j : Nat) => gr (j + ar)) no (fun (j : Nat) => to (j + ao)) (1) fun (j : Nat) =>
 S.lit [v] (0 : Int) j)))
 j))
 then (bif (Prod.fst
 (S.fieldS nr (fun (j : Nat) => tr (j + ar)) (fun (j : Nat) => vr (j + ar)) (fun (j : Nat) => gr (j + ar)) no
 fun (j : Nat) => to (j + ao)) ==
 Prod.fst
 (S.fieldS nr (fun (j : Nat) => tr (j + ar)) (fun (j : Nat) => vr (j + ar)) (fun (j : Nat) => gr (j + ar)) no
 fun (j : Nat) => to (j + ao)))
 then (bif (Prod.snd
 (S.fieldS nr (fun (j : Nat) => tr (j + ar)) (fun (j : Nat) => vr (j + ar)) (fun (j : Nat) => gr (j + ar)) no
 fun (j : Nat) => to (j + ao)) ==
 Prod.snd
 (S.fieldS nr (fun (j : Nat) => tr (j + ar)) (fun (j : Nat) => vr (j + ar)) (fun (j : Nat) => gr (j + ar)) no
 fun (j : Nat) => to (j + ao)))
 then (bif (Prod.fst
 (S.satS nr (fun (j : Nat) => tr (j + ar)) (fun (j : Nat) => vr (j + ar)) (fun (j : Nat) => gr (j + ar)) no) ==
 Prod.fst
 (S.satS nr (fun (j : Nat) => tr (j + ar)) (fun (j : Nat) => vr (j + ar)) (fun (j : Nat) => gr (j + ar)) no))
 then (bif (Prod.fst
 (Prod.snd
 (S.satS nr (fun (j : Nat) => tr (j + ar)) (fun (j : Nat) => vr (j + ar)) (fun (j : Nat) => gr (j + ar))
 no)) ==
 Prod.fst
 (Prod.snd
 (S.satS nr (fun (j : Nat) => tr (j + ar)) (fun (j : Nat) => vr (j + ar)) (fun (j : Nat) => gr (j + ar)) no)))
 then (bif (Prod.snd
 (Prod.snd
 (S.satS nr (fun (j : Nat) => tr (j + ar)) (fun (j : Nat) => vr (j + ar)) (fun (j : Nat) => gr (j + ar))
 no)) ==
 Prod.snd
 (Prod.snd
 (S.satS nr (fun (j : Nat) => tr (j + ar)) (fun (j : Nat) => vr (j + ar)) (fun (j : Nat) => gr (j + ar)) no)))
 then (some (.inr (true)))
 else (some (.inr (false))))
 else (some (.inr (false))))
 else (some (.inr (false))))
 else (some (.inr (false))))
 else (some (.inr (false))))
 else (some (.inr (false))))
 else (none))
 else (some (.inr (false))))
 else (some (.inr (false))))
 else (none))
 else (none))
 else (none))
 else (none))
 else (none))
 else (some (.inr (true))))
 else (some (.inr (true))) : Option (St3 ⊕ Rt3)) = some x) : Te3 cond Kst Kret ar nr mr tr vr gr ao no mo to v := by
  unfold Te3
  exact cond_yes rfl (cond_yes rfl (bif_split h
   (fun c0 h => bif_split h
   (fun c1 h => bif_split h
   (fun c2 h => bif_split h
   (fun c3 h => bif_split h
   (fun c4 h => bif_split h
   (fun c5 h => cond_yes c2 (cond_yes c3 (cond_yes c4 (cond_yes c5 (cond_yes c2 (cond_yes c3 (cond_yes c4 (cond_yes c5 (cond_yes c2 (cond_yes c3 (bif_split h
   (fun c6 h => cond_yes c2 (bif_split h
   (fun c7 h => bif_split h
   (fun c8 h => bif_split h
   (fun c9 h => bif_split h
   (fun c10 h => bif_split h
   (fun c11 h => bif_split h
   (fun c12 h => bif_split h
   (fun c13 h => bif_split h
   (fun c14 h => bif_split h
   (fun c15 h => ret_at hR _ h (fun n => n) rfl rfl rfl (rn_bool_tf rfl) rfl (entl_bor (use_lo rfl) rfl rfl (entl_bor (use_lo rfl) rfl rfl entl_nil)))
   (fun c15 h => ret_at hR _ h (fun n => n) rfl rfl rfl (rn_bool_tf rfl) rfl (entl_bor (use_lo rfl) rfl rfl (entl_bor (use_lo rfl) rfl rfl entl_nil))))
   (fun c14 h => ret_at hR _ h (fun n => n) rfl rfl rfl (rn_bool_tf rfl) rfl (entl_bor (use_lo rfl) rfl rfl (entl_bor (use_lo rfl) rfl rfl entl_nil))))
   (fun c13 h => ret_at hR _ h (fun n => n) rfl rfl rfl (rn_bool_tf rfl) rfl (entl_bor (use_lo rfl) rfl rfl (entl_bor (use_lo rfl) rfl rfl entl_nil))))
   (fun c12 h => ret_at hR _ h (fun n => n) rfl rfl rfl (rn_bool_tf rfl) rfl (entl_bor (use_lo rfl) rfl rfl (entl_bor (use_lo rfl) rfl rfl entl_nil))))
   (fun c11 h => ret_at hR _ h (fun n => n) rfl rfl rfl (rn_bool_tf rfl) rfl (entl_bor (use_lo rfl) rfl rfl (entl_bor (use_lo rfl) rfl rfl entl_nil))))
   (fun c10 h => ret_at hR _ h (fun n => n) rfl rfl rfl (rn_bool_tf rfl) rfl (entl_bor (use_lo rfl) rfl rfl (entl_bor (use_lo rfl) rfl rfl entl_nil))))
   (fun c9 h => no_some h))
   (fun c8 h => ret_at hR _ h (fun n => n) rfl rfl rfl (rn_bool_tf rfl) rfl (entl_bor (use_lo rfl) rfl rfl (entl_bor (use_lo rfl) rfl rfl entl_nil))))
   (fun c7 h => ret_at hR _ h (fun n => n) rfl rfl rfl (rn_bool_tf rfl) rfl (entl_bor (use_lo rfl) rfl rfl (entl_bor (use_lo rfl) rfl rfl entl_nil)))))
   (fun c6 h => no_some h))))))))))))
   (fun c5 h => no_some h))
   (fun c4 h => no_some h))
   (fun c3 h => no_some h))
   (fun c2 h => no_some h))
   (fun c1 h => cond_yes rfl (cond_yes rfl (ret_at hR _ h (fun n => n) rfl rfl rfl (rn_bool_tf rfl) rfl (entl_bor (use_lo rfl) rfl rfl (entl_bor (use_lo rfl) rfl rfl entl_nil))))))
   (fun c0 h => cond_yes rfl (cond_yes rfl (ret_at hR _ h (fun n => n) rfl rfl rfl (rn_bool_tf rfl) rfl (entl_bor (use_lo rfl) rfl rfl (entl_bor (use_lo rfl) rfl rfl entl_nil)))))))
theorem a3 (ar nr mr : Nat) (tr : Nat → Int) (vr : Nat → Int) (gr : Nat → Int) (ao no mo : Nat) (to : Nat → Bool) (v : Int) {r : Rt3} (h : Goes ((q3 ar nr mr tr vr gr ao no mo to v)) ((p3 ar nr mr tr vr gr ao no mo to v)) r) : CallR Try.prog 3 [.agg [.loose ⟨0, 3, ar, 0⟩ nr, .loose ⟨1, 1, ao, 0⟩ no], .int .i64 v] [[(0, (false, .cols mr [.int .i64 tr, .int .i64 vr, .int .i64 gr])), (1, (false, .cols mo [.bool to]))]] 2 ((V3 ar nr mr tr vr gr ao no mo to v) r) ((fun r => [newL (2 + 1) ((N3 ar nr mr tr vr gr ao no mo to v) r) ++ [(0, (false, .cols mr [.int .i64 tr, .int .i64 vr, .int .i64 gr])), (1, (false, .cols mo [.bool to]))]]) r) 400 ∧ ∃ F, Try.prog.funcs[3]? = some F ∧ F.body.isSome = true ∧ (F.name == "runtime.NumGoroutine") = false := by
  refine dec_calls (f := 3) (lo := 2) (hi := 400) (H := [[(0, (false, .cols mr [.int .i64 tr, .int .i64 vr, .int .i64 gr])), (1, (false, .cols mo [.bool to]))]]) (args := [.agg [.loose ⟨0, 3, ar, 0⟩ nr, .loose ⟨1, 1, ao, 0⟩ no], .int .i64 v]) Try.envOk Try.mixed yC1_ok ((I3 ar nr mr tr vr gr ao no mo to v)) ((V3 ar nr mr tr vr gr ao no mo to v)) (fun r => [newL (2 + 1) ((N3 ar nr mr tr vr gr ao no mo to v) r) ++ [(0, (false, .cols mr [.int .i64 tr, .int .i64 vr, .int .i64 gr])), (1, (false, .cols mo [.bool to]))]]) (fn := mkFn Try.f3) (ts := []) (n := 400) rfl (by decide) (by simp) (names_of rfl) ?_ ?_ ?_ h
  · intro s; exact s.elim
  · intro Kst Kret x hS hR h
    exact Holds.eq (te3 cond Kst Kret ar nr mr tr vr gr ao no mo to v) (be3 ar nr mr tr vr gr ao no mo to v Kst Kret x hS hR h)
  · intro Kst Kret x hS hR s h; exact s.elim
noncomputable def k3 : Con := ⟨3, [.agg [.list [.int .i64, .int .i64, .int .i64], .list [.bool]], .one (.plain (.int .i64))], fun (x : ((Nat × Nat × Nat × (Nat → Int) × (Nat → Int) × (Nat → Int) × Unit) × (Nat × Nat × Nat × (Nat → Bool) × Unit) × Unit) × Int × Unit) => (fun (ar nr mr : Nat) (tr : Nat → Int) (vr : Nat → Int) (gr : Nat → Int) (ao no mo : Nat) (to : Nat → Bool) (v : Int) => decide (ar + nr ≤ mr ∧ ao + no ≤ mo)) x.1.1.1 x.1.1.2.1 x.1.1.2.2.1 x.1.1.2.2.2.1 x.1.1.2.2.2.2.1 x.1.1.2.2.2.2.2.1 x.1.2.1.1 x.1.2.1.2.1 x.1.2.1.2.2.1 x.1.2.1.2.2.2.1 x.2.1, fun (x : ((Nat × Nat × Nat × (Nat → Int) × (Nat → Int) × (Nat → Int) × Unit) × (Nat × Nat × Nat × (Nat → Bool) × Unit) × Unit) × Int × Unit) => (fun (ar nr mr : Nat) (tr : Nat → Int) (vr : Nat → Int) (gr : Nat → Int) (ao no mo : Nat) (to : Nat → Bool) (v : Int) => (V3 ar nr mr tr vr gr ao no mo to v) (true)) x.1.1.1 x.1.1.2.1 x.1.1.2.2.1 x.1.1.2.2.2.1 x.1.1.2.2.2.2.1 x.1.1.2.2.2.2.2.1 x.1.2.1.1 x.1.2.1.2.1 x.1.2.1.2.2.1 x.1.2.1.2.2.2.1 x.2.1, fun (x : ((Nat × Nat × Nat × (Nat → Int) × (Nat → Int) × (Nat → Int) × Unit) × (Nat × Nat × Nat × (Nat → Bool) × Unit) × Unit) × Int × Unit) => (fun (ar nr mr : Nat) (tr : Nat → Int) (vr : Nat → Int) (gr : Nat → Int) (ao no mo : Nat) (to : Nat → Bool) (v : Int) => (N3 ar nr mr tr vr gr ao no mo to v) (true)) x.1.1.1 x.1.1.2.1 x.1.1.2.2.1 x.1.1.2.2.2.1 x.1.1.2.2.2.2.1 x.1.1.2.2.2.2.2.1 x.1.2.1.1 x.1.2.1.2.1 x.1.2.1.2.2.1 x.1.2.1.2.2.2.1 x.2.1, fun _ _ => .dead⟩
theorem s3 (ar nr mr : Nat) (tr : Nat → Int) (vr : Nat → Int) (gr : Nat → Int) (ao no mo : Nat) (to : Nat → Bool) (v : Int) (hp : ar + nr ≤ mr ∧ ao + no ≤ mo) : Goes ((q3 ar nr mr tr vr gr ao no mo to v)) ((p3 ar nr mr tr vr gr ao no mo to v)) (true) := by
  obtain ⟨hp1, hp2⟩ := hp
  unfold p3
  have hl : (S.histS nr (fun j => tr (j + ar)) (fun j => vr (j + ar)) (fun j => gr (j + ar)) no (fun j => to (j + ao)) 1 (fun j => S.lit [v] 0 j)).2.1.length ≤ nr ∧ (S.histS nr (fun j => tr (j + ar)) (fun j => vr (j + ar)) (fun j => gr (j + ar)) no (fun j => to (j + ao)) 1 (fun j => S.lit [v] 0 j)).2.2.length ≤ no := hist_len
  generalize S.histS nr (fun j => tr (j + ar)) (fun j => vr (j + ar)) (fun j => gr (j + ar)) no (fun j => to (j + ao)) 1 (fun j => S.lit [v] 0 j) = P at hl ⊢
  obtain ⟨hl1, hl2⟩ := hl
  by_cases h1 : (nr : Int) ≤ 45
  case neg => exact goes_no (decide_eq_false h1) rfl
  refine goes_ok (decide_eq_true h1) ?_
  by_cases h2 : (no : Int) ≤ 50
  case neg => exact goes_no (decide_eq_false h2) rfl
  refine goes_ok (decide_eq_true h2) ?_
  repeat' first
    | exact goes_inr.mpr rfl
    | refine goes_ok (by first | exact beq_self_eq_true _ | exact decide_eq_true trivial | (simp only [eq_self, decide_true, Bool.and_self, Bool.and_true, Bool.true_and]; done) | (apply decide_eq_true; omega) | (rw [lim64]; apply decide_eq_true; omega) | (apply decide_eq_true; simp only [mkl_len, mkl_zero, List.length_nil, true_and, and_true, and_self, Nat.zero_add, Nat.add_zero, Nat.le_refl]; done) | (apply decide_eq_true; simp only [mkl_len, mkl_zero, List.length_nil, true_and, and_true, and_self, Nat.zero_add, Nat.add_zero, Nat.le_refl]; omega)) ?_

theorem k3_ok : k3.ok Try.prog := by
  intro x hx
  obtain ⟨⟨⟨ar, nr, mr, tr, vr, gr, _⟩, ⟨ao, no, mo, to, _⟩, _⟩, v, _⟩ := x
  obtain ⟨h1, h2⟩ := a3 ar nr mr tr vr gr ao no mo to v (s3 ar nr mr tr vr gr ao no mo to v (of_decide_eq_true hx))
  exact ⟨⟨400, (by decide : 2 + 1 + 0 ≤ 400), h1⟩, h2⟩


end Go.Ev
