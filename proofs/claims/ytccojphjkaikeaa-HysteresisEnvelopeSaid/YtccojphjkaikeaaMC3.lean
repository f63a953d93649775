/-
  The law of Envelope.
-/
import Derived.Test.YtccojphjkaikeaaMC0
import Derived.Test.YtccojphjkaikeaaMA5
import Derived.Test.YtccojphjkaikeaaMA7
import Derived.Test.YtccojphjkaikeaaMB6
namespace Go.Ev
open Go.Proofs
set_option linter.unusedVariables false
set_option linter.unusedSimpArgs false
set_option maxRecDepth 100000
noncomputable def yC3 (test : Bool → Prop → Prop → Prop) : Ext := consX test [k12, k32, k33, k14, k17, k37, k38]
theorem yC3_ok : ExtOk Try.prog (yC3 cond) := consX_ok (l := [k12, k32, k33, k14, k17, k37, k38]) ⟨k12_ok, k32_ok, k33_ok, k14_ok, k17_ok, k37_ok, k38_ok, trivial⟩
abbrev St7 := Empty
abbrev Rt7 := Bool
noncomputable def V7 (ar nr mr : Nat) (tr : Nat → Int) (vr : Nat → Int) (gr : Nat → Int) (ao no mo : Nat) (to : Nat → Bool) (v : Int) (r : Rt7) : PV := PV.bool r
noncomputable def N7 (ar nr mr : Nat) (tr : Nat → Int) (vr : Nat → Int) (gr : Nat → Int) (ao no mo : Nat) (to : Nat → Bool) (v : Int) (r : Rt7) : List Blk := []
noncomputable def I7 (ar nr mr : Nat) (tr : Nat → Int) (vr : Nat → Int) (gr : Nat → Int) (ao no mo : Nat) (to : Nat → Bool) (v : Int) : St7 → Hd := fun s => s.elim
noncomputable def q7 (ar nr mr : Nat) (tr : Nat → Int) (vr : Nat → Int) (gr : Nat → Int) (ao no mo : Nat) (to : Nat → Bool) (v : Int) : St7 → Option (St7 ⊕ Rt7) := fun s => s.elim
noncomputable def p7 (ar nr mr : Nat) (tr : Nat → Int) (vr : Nat → Int) (gr : Nat → Int) (ao no mo : Nat) (to : Nat → Bool) (v : Int) : Option (St7 ⊕ Rt7) := bif (decide ((↑nr : Int) ≤ (45 : Int)))
 then (bif (decide ((↑no : Int) ≤ (50 : Int)))
 then (bif (decide (ar + nr ≤ mr ∧ nr ≤ 1000000))
 then (bif (decide (ao + no ≤ mo ∧ no ≤ 1000000))
 then (bif (decide (0 + nr ≤ nr ∧ nr ≤ 1000000 ∧ 0 + no ≤ no ∧ no ≤ 1000000))
 then (bif (decide (ar + nr ≤ mr ∧ nr ≤ 1000000 ∧ ao + no ≤ mo ∧ no ≤ 1000000))
 then (bif (Prod.fst
 (S.envS nr (fun (j : Nat) => tr (j + ar)) (fun (j : Nat) => vr (j + ar)) (fun (j : Nat) => gr (j + ar)) no
 v) !=
 Prod.fst
 (S.envS nr (fun (j : Nat) => tr (j + ar)) (fun (j : Nat) => vr (j + ar)) (fun (j : Nat) => gr (j + ar)) no v))
 then (bif (Prod.fst
 (S.envS nr (fun (j : Nat) => tr (j + ar)) (fun (j : Nat) => vr (j + ar)) (fun (j : Nat) => gr (j + ar)) no
 v) ==
 Prod.fst
 (S.envS nr (fun (j : Nat) => tr (j + ar)) (fun (j : Nat) => vr (j + ar)) (fun (j : Nat) => gr (j + ar)) no v))
 then (bif (Prod.fst
 (Prod.snd
 (S.envS nr (fun (j : Nat) => tr (j + ar)) (fun (j : Nat) => vr (j + ar)) (fun (j : Nat) => gr (j + ar)) no
 v)) ==
 Prod.fst
 (Prod.snd
 (S.envS nr (fun (j : Nat) => tr (j + ar)) (fun (j : Nat) => vr (j + ar)) (fun (j : Nat) => gr (j + ar)) no
 v)))
 then (bif (Prod.snd
 (Prod.snd
 (S.envS nr (fun (j : Nat) => tr (j + ar)) (fun (j : Nat) => vr (j + ar)) (fun (j : Nat) => gr (j + ar)) no
 v)) ==
 Prod.snd
 (Prod.snd
 (S.envS nr (fun (j : Nat) => tr (j + ar)) (fun (j : Nat) => vr (j + ar)) (fun (j : Nat) => gr (j + ar)) no
 v)))
 then (some (.inr (true)))
 else (some (.inr (false))))
 else (some (.inr (false))))
 else (some (.inr (false))))
 else (bif (Prod.fst
 (Prod.snd
 (S.envS nr (fun (j : Nat) => tr (j + ar)) (fun (j : Nat) => vr (j + ar)) (fun (j : Nat) => gr (j + ar)) no
 v)) !=
 Prod.fst
 (Prod.snd
 (S.envS nr (fun (j : Nat) => tr (j + ar)) (fun (j : Nat) => vr (j + ar)) (fun (j : Nat) => gr (j + ar)) no
 v)))
 then (bif (Prod.fst
 (S.envS nr (fun (j : Nat) => tr (j + ar)) (fun (j : Nat) => vr (j + ar)) (fun (j : Nat) => gr (j + ar)) no
 v) ==
 Prod.fst
 (S.envS nr (fun (j : Nat) => tr (j + ar)) (fun (j : Nat) => vr (j + ar)) (fun (j : Nat) => gr (j + ar)) no v))
 then (bif (Prod.fst
 (Prod.snd
 (S.envS nr (fun (j : Nat) => tr (j + ar)) (fun (j : Nat) => vr (j + ar)) (fun (j : Nat) => gr (j + ar)) no
 v)) ==
 Prod.fst
 (Prod.snd
 (S.envS nr (fun (j : Nat) => tr (j + ar)) (fun (j : Nat) => vr (j + ar)) (fun (j : Nat) => gr (j + ar)) no
 v)))
 then (bif (Prod.snd
 (Prod.snd
 (S.envS nr (fun (j : Nat) => tr (j + ar)) (fun (j : Nat) => vr (j + ar)) (fun (j : Nat) => gr (j + ar)) no
 v)) ==
 Prod.snd
 (Prod.snd
 (S.envS nr (fun (j : Nat) => tr (j + ar)) (fun (j : Nat) => vr (j + ar)) (fun (j : Nat) => gr (j + ar)) no
 v)))
 then (some (.inr (true)))
 else (some (.inr (false))))
 else (some (.inr (false))))
 else (some (.inr (false))))
 else (bif (Prod.snd
 (Prod.snd
 (S.envS nr (fun (j : Nat) => tr (j + ar)) (fun (j : Nat) => vr (j + ar)) (fun (j : Nat) => gr (j + ar)) no
 v)) !=
 Prod.snd
 (Prod.snd
 (S.envS nr (fun (j : Nat) => tr (j + ar)) (fun (j : Nat) => vr (j + ar)) (fun (j : Nat) => gr (j + ar)) no
 v)))
 then (bif (Prod.fst
 (S.envS nr (fun (j : Nat) => tr (j + ar)) (fun (j : Nat) => vr (j + ar)) (fun (j : Nat) => gr (j + ar)) no
 v) ==
 Prod.fst
 (S.envS nr (fun (j : Nat) => tr (j + ar)) (fun (j : Nat) => vr (j + ar)) (fun (j : Nat) => gr (j + ar)) no v))
 then (bif (Prod.fst
 (Prod.snd
 (S.envS nr (fun (j : Nat) => tr (j + ar)) (fun (j : Nat) => vr (j + ar)) (fun (j : Nat) => gr (j + ar)) no
 v)) ==
 Prod.fst
 (Prod.snd
 (S.envS nr (fun (j : Nat) => tr (j + ar)) (fun (j : Nat) => vr (j + ar)) (fun (j : Nat) => gr (j + ar)) no
 v)))
 then (bif (Prod.snd
 (Prod.snd
 (S.envS nr (fun (j : Nat) => tr (j + ar)) (fun (j : Nat) => vr (j + ar)) (fun (j : Nat) => gr (j + ar)) no
 v)) ==
 Prod.snd
 (Prod.snd
 (S.envS nr (fun (j : Nat) => tr (j + ar)) (fun (j : Nat) => vr (j + ar)) (fun (j : Nat) => gr (j + ar)) no
 v)))
 then (some (.inr (true)))
 else (some (.inr (false))))
 else (some (.inr (false))))
 else (some (.inr (false))))
 else (bif (Prod.snd
 (Prod.snd
 (S.envS nr (fun (j : Nat) => tr (j + ar)) (fun (j : Nat) => vr (j + ar)) (fun (j : Nat) => gr (j + ar)) no
 v)) !=
 (0 : Int))
 then (bif (Prod.fst
 (S.envS nr (fun (j : Nat) => tr (j + ar)) (fun (j : Nat) => vr (j + ar)) (fun (j : Nat) => gr (j + ar)) no
 v) ==
 Prod.fst
 (S.envS nr (fun (j : Nat) => tr (j + ar)) (fun (j : Nat) => vr (j + ar)) (fun (j : Nat) => gr (j + ar)) no v))
 then (bif (Prod.fst
 (Prod.snd
 (S.envS nr (fun (j : Nat) => tr (j + ar)) (fun (j : Nat) => vr (j + ar)) (fun (j : Nat) => gr (j + ar)) no
 v)) ==
 Prod.fst
 (Prod.snd
 (S.envS nr (fun (j : Nat) => tr (j + ar)) (fun (j : Nat) => vr (j + ar)) (fun (j : Nat) => gr (j + ar)) no
 v)))
 then (bif (Prod.snd
 (Prod.snd
 (S.envS nr (fun (j : Nat) => tr (j + ar)) (fun (j : Nat) => vr (j + ar)) (fun (j : Nat) => gr (j + ar)) no
 v)) ==
 Prod.snd
 (Prod.snd
 (S.envS nr (fun (j : Nat) => tr (j + ar)) (fun (j : Nat) => vr (j + ar)) (fun (j : Nat) => gr (j + ar)) no
 v)))
 then (some (.inr (true)))
 else (some (.inr (false))))
 else (some (.inr (false))))
 else (some (.inr (false))))
 else (bif (decide
 (0 +
 List.length
 (Prod.fst
 (Prod.snd
 (S.histS nr (fun (j : Nat) => tr (j + ar)) (fun (j : Nat) => vr (j + ar))
 (fun (j : Nat) => gr (j + ar)) no (fun (j : Nat) => to (j + ao)) (1) fun (j : Nat) =>
 S.lit [v] (0 : Int) j))) ≤
 List.length
 (Prod.fst
 (Prod.snd
 (S.histS nr (fun (j : Nat) => tr (j + ar)) (fun (j : Nat) => vr (j + ar))
 (fun (j : Nat) => gr (j + ar)) no (fun (j : Nat) => to (j + ao)) (1) fun (j : Nat) =>
 S.lit [v] (0 : Int) j))) ∧
 List.length
 (Prod.fst
 (Prod.snd
 (S.histS nr (fun (j : Nat) => tr (j + ar)) (fun (j : Nat) => vr (j + ar))
 (fun (j : Nat) => gr (j + ar)) no (fun (j : Nat) => to (j + ao)) (1) fun (j : Nat) =>
 S.lit [v] (0 : Int) j))) ≤
 1000000 ∧
 0 +
 List.length
 (Prod.snd
 (Prod.snd
 (S.histS nr (fun (j : Nat) => tr (j + ar)) (fun (j : Nat) => vr (j + ar))
 (fun (j : Nat) => gr (j + ar)) no (fun (j : Nat) => to (j + ao)) (1) fun (j : Nat) =>
 S.lit [v] (0 : Int) j))) ≤
 List.length
 (Prod.snd
 (Prod.snd
 (S.histS nr (fun (j : Nat) => tr (j + ar)) (fun (j : Nat) => vr (j + ar))
 (fun (j : Nat) => gr (j + ar)) no (fun (j : Nat) => to (j + ao)) (1) fun (j : Nat) =>
 S.lit [v] (0 : Int) j))) ∧
 List.length
 (Prod.snd
 (Prod.snd
 (S.histS nr (fun (j : Nat) => tr (j + ar)) (fun (j : Nat) => vr (j + ar))
 (fun (j : Nat) => gr (j + ar)) no (fun (j : Nat) => to (j + ao)) (1) fun (j : Nat) =>
 S.lit [v] (0 : Int) j))) ≤
 1000000))
 then (bif (Prod.fst
 (S.histS nr (fun (j : Nat) => tr (j + ar)) (fun (j : Nat) => vr (j + ar)) (fun (j : Nat) => gr (j + ar)) no
 (fun (j : Nat) => to (j + ao)) (1) fun (j : Nat) => S.lit [v] (0 : Int) j) ==
 (0 : Int))
 then (bif (Prod.snd
 (S.fieldS
 (List.length
 (Prod.fst
 (Prod.snd
 (S.histS nr (fun (j : Nat) => tr (j + ar)) (fun (j : Nat) => vr (j + ar))
 (fun (j : Nat) => gr (j + ar)) no (fun (j : Nat) => to (j + ao)) (1) fun (j : Nat) =>
 S.lit [v] (0 : Int) j))))
 (fun (j : Nat) =>
 Prod.fst
 (S.at'
 (Prod.fst
 (Prod.snd
 (S.histS nr (fun (j : Nat) => tr (j + ar)) (fun (j : Nat) => vr (j + ar))
 (fun (j : Nat) => gr (j + ar)) no (fun (j : Nat) => to (j + ao)) (1) fun (j : Nat) =>
 S.lit [v] (0 : Int) j)))
 j))
 (fun (j : Nat) =>
 Prod.fst
 (Prod.snd
 (S.at'
 (Prod.fst
 (Prod.snd
 (S.histS nr (fun (j : Nat) => tr (j + ar)) (fun (j : Nat) => vr (j + ar))
 (fun (j : Nat) => gr (j + ar)) no (fun (j : Nat) => to (j + ao)) (1) fun (j : Nat) =>
 S.lit [v] (0 : Int) j)))
 j)))
 (fun (j : Nat) =>
 Prod.snd
 (Prod.snd
 (S.at'
 (Prod.fst
 (Prod.snd
 (S.histS nr (fun (j : Nat) => tr (j + ar)) (fun (j : Nat) => vr (j + ar))
 (fun (j : Nat) => gr (j + ar)) no (fun (j : Nat) => to (j + ao)) (1) fun (j : Nat) =>
 S.lit [v] (0 : Int) j)))
 j)))
 (List.length
 (Prod.snd
 (Prod.snd
 (S.histS nr (fun (j : Nat) => tr (j + ar)) (fun (j : Nat) => vr (j + ar))
 (fun (j : Nat) => gr (j + ar)) no (fun (j : Nat) => to (j + ao)) (1) fun (j : Nat) =>
 S.lit [v] (0 : Int) j))))
 fun (j : Nat) =>
 S.at'
 (Prod.snd
 (Prod.snd
 (S.histS nr (fun (j : Nat) => tr (j + ar)) (fun (j : Nat) => vr (j + ar))
 (fun (j : Nat) => gr (j + ar)) no (fun (j : Nat) => to (j + ao)) (1) fun (j : Nat) =>
 S.lit [v] (0 : Int) j)))
 j) ==
 (0 : Int))
 then (bif (decide
 (Prod.fst
 (S.envS nr (fun (j : Nat) => tr (j + ar)) (fun (j : Nat) => vr (j + ar)) (fun (j : Nat) => gr (j + ar)) no
 v) ≤
 Prod.fst
 (S.fieldS
 (List.length
 (Prod.fst
 (Prod.snd
 (S.histS nr (fun (j : Nat) => tr (j + ar)) (fun (j : Nat) => vr (j + ar))
 (fun (j : Nat) => gr (j + ar)) no (fun (j : Nat) => to (j + ao)) (1) fun (j : Nat) =>
 S.lit [v] (0 : Int) j))))
 (fun (j : Nat) =>
 Prod.fst
 (S.at'
 (Prod.fst
 (Prod.snd
 (S.histS nr (fun (j : Nat) => tr (j + ar)) (fun (j : Nat) => vr (j + ar))
 (fun (j : Nat) => gr (j + ar)) no (fun (j : Nat) => to (j + ao)) (1) fun (j : Nat) =>
 S.lit [v] (0 : Int) j)))
 j))
 (fun (j : Nat) =>
 Prod.fst
 (Prod.snd
 (S.at'
 (Prod.fst
 (Prod.snd
 (S.histS nr (fun (j : Nat) => tr (j + ar)) (fun (j : Nat) => vr (j + ar))
 (fun (j : Nat) => gr (j + ar)) no (fun (j : Nat) => to (j + ao)) (1) fun (j : Nat) =>
 S.lit [v] (0 : Int) j)))
 j)))
 (fun (j : Nat) =>
 Prod.snd
 (Prod.snd
 (S.at'
 (Prod.fst
 (Prod.snd
 (S.histS nr (fun (j : Nat) => tr (j + ar)) (fun (j : Nat) => vr (j + ar))
 (fun (j : Nat) => gr (j + ar)) no (fun (j : Nat) => to (j + ao)) (1) fun (j : Nat) =>
 S.lit [v] (0 : Int) j)))
 j)))
 (List.length
 (Prod.snd
 (Prod.snd
 (S.histS nr (fun (j : Nat) => tr (j + ar)) (fun (j : Nat) => vr (j + ar))
 (fun (j : Nat) => gr (j + ar)) no (fun (j : Nat) => to (j + ao)) (1) fun (j : Nat) =>
 S.lit [v] (0 : Int) j))))
 fun (j : Nat) =>
 S.at'
 (Prod.snd
 (Prod.snd
 (S.histS nr (fun (j : Nat) => tr (j + ar)) (fun (j : Nat) => vr (j + ar))
 (fun (j : Nat) => gr (j + ar)) no (fun (j : Nat) => to (j + ao)) (1) fun (j : Nat) =>
 S.lit [v] (0 : Int) j)))
 j)))
 then (bif (decide
 (Prod.fst
 (S.fieldS
 (List.length
 (Prod.fst
 (Prod.snd
 (S.histS nr (fun (j : Nat) => tr (j + ar)) (fun (j : Nat) => vr (j + ar))
 (fun (j : Nat) => gr (j + ar)) no (fun (j : Nat) => to (j + ao)) (1) fun (j : Nat) =>
 S.lit [v] (0 : Int) j))))
 (fun (j : Nat) =>
 Prod.fst
 (S.at'
 (Prod.fst
 (Prod.snd
 (S.histS nr (fun (j : Nat) => tr (j + ar)) (fun (j : Nat) => vr (j + ar))
 (fun (j : Nat) => gr (j + ar)) no (fun (j : Nat) => to (j + ao)) (1) fun (j : Nat) =>
 S.lit [v] (0 : Int) j)))
 j))
 (fun (j : Nat) =>
 Prod.fst
 (Prod.snd
 (S.at'
 (Prod.fst
 (Prod.snd
 (S.histS nr (fun (j : Nat) => tr (j + ar)) (fun (j : Nat) => vr (j + ar))
 (fun (j : Nat) => gr (j + ar)) no (fun (j : Nat) => to (j + ao)) (1) fun (j : Nat) =>
 S.lit [v] (0 : Int) j)))
 j)))
 (fun (j : Nat) =>
 Prod.snd
 (Prod.snd
 (S.at'
 (Prod.fst
 (Prod.snd
 (S.histS nr (fun (j : Nat) => tr (j + ar)) (fun (j : Nat) => vr (j + ar))
 (fun (j : Nat) => gr (j + ar)) no (fun (j : Nat) => to (j + ao)) (1) fun (j : Nat) =>
 S.lit [v] (0 : Int) j)))
 j)))
 (List.length
 (Prod.snd
 (Prod.snd
 (S.histS nr (fun (j : Nat) => tr (j + ar)) (fun (j : Nat) => vr (j + ar))
 (fun (j : Nat) => gr (j + ar)) no (fun (j : Nat) => to (j + ao)) (1) fun (j : Nat) =>
 S.lit [v] (0 : Int) j))))
 fun (j : Nat) =>
 S.at'
 (Prod.snd
 (Prod.snd
 (S.histS nr (fun (j : Nat) => tr (j + ar)) (fun (j : Nat) => vr (j + ar))
 (fun (j : Nat) => gr (j + ar)) no (fun (j : Nat) => to (j + ao)) (1) fun (j : Nat) =>
 S.lit [v] (0 : Int) j)))
 j) ≤
 Prod.fst
 (Prod.snd
 (S.envS nr (fun (j : Nat) => tr (j + ar)) (fun (j : Nat) => vr (j + ar)) (fun (j : Nat) => gr (j + ar)) no
 v))))
 then (some (.inr (true)))
 else (some (.inr (false))))
 else (some (.inr (false))))
 else (some (.inr (false))))
 else (some (.inr (false))))
 else (none))))))
 else (none))
 else (none))
 else (none))
 else (none))
 else (some (.inr (true))))
 else (some (.inr (true)))
noncomputable def Te7 (test : Bool → Prop → Prop → Prop) (Kst : KS) (Kret : KR) (ar nr mr : Nat) (tr : Nat → Int) (vr : Nat → Int) (gr : Nat → Int) (ao no mo : Nat) (to : Nat → Bool) (v : Int) : Prop :=
  test (true)
 (test (true)
 (test (decide ((↑nr : Int) ≤ (45 : Int)))
 (test (decide ((↑no : Int) ≤ (50 : Int)))
 (test (decide (ar + nr ≤ mr ∧ nr ≤ 1000000))
 (test (decide (ao + no ≤ mo ∧ no ≤ 1000000))
 (test (decide (0 + nr ≤ nr ∧ nr ≤ 1000000 ∧ 0 + no ≤ no ∧ no ≤ 1000000))
 (test (decide (ar + nr ≤ mr ∧ nr ≤ 1000000 ∧ ao + no ≤ mo ∧ no ≤ 1000000))
 (test (Prod.fst
 (S.envS nr (fun (j : Nat) => tr (j + ar)) (fun (j : Nat) => vr (j + ar)) (fun (j : Nat) => gr (j + ar)) no
 v) !=
 Prod.fst
 (S.envS nr (fun (j : Nat) => tr (j + ar)) (fun (j : Nat) => vr (j + ar)) (fun (j : Nat) => gr (j + ar)) no v))
 (test (Prod.fst
 (S.envS nr (fun (j : Nat) => tr (j + ar)) (fun (j : Nat) => vr (j + ar)) (fun (j : Nat) => gr (j + ar)) no
 v) ==
 Prod.fst
 (S.envS nr (fun (j : Nat) => tr (j + ar)) (fun (j : Nat) => vr (j + ar)) (fun (j : Nat) => gr (j + ar)) no v))
 (test (Prod.fst
 (Prod.snd
 (S.envS nr (fun (j : Nat) => tr (j + ar)) (fun (j : Nat) => vr (j + ar)) (fun (j : Nat) => gr (j + ar)) no
 v)) ==
 Prod.fst
 (Prod.snd
 (S.envS nr (fun (j : Nat) => tr (j + ar)) (fun (j : Nat) => vr (j + ar)) (fun (j : Nat) => gr (j + ar)) no
 v)))
 (test (Prod.snd
 (Prod.snd
 (S.envS nr (fun (j : Nat) => tr (j + ar)) (fun (j : Nat) => vr (j + ar)) (fun (j : Nat) => gr (j + ar)) no
 v)) ==
 Prod.snd
 (Prod.snd
 (S.envS nr (fun (j : Nat) => tr (j + ar)) (fun (j : Nat) => vr (j + ar)) (fun (j : Nat) => gr (j + ar)) no
 v)))
 (Kret (PV.tf true) ([[(1, false, Blk.cols mo [Col.bool to]),
 (0, false,
 Blk.cols mr
 [Col.int IntKind.i64 tr, Col.int IntKind.i64 vr, Col.int IntKind.i64 gr])]]) (13))
 (Kret (PV.tf false) ([[(1, false, Blk.cols mo [Col.bool to]),
 (0, false,
 Blk.cols mr
 [Col.int IntKind.i64 tr, Col.int IntKind.i64 vr, Col.int IntKind.i64 gr])]]) (13)))
 (Kret (PV.tf false) ([[(1, false, Blk.cols mo [Col.bool to]),
 (0, false,
 Blk.cols mr
 [Col.int IntKind.i64 tr, Col.int IntKind.i64 vr, Col.int IntKind.i64 gr])]]) (13)))
 (Kret (PV.tf false) ([[(1, false, Blk.cols mo [Col.bool to]),
 (0, false,
 Blk.cols mr
 [Col.int IntKind.i64 tr, Col.int IntKind.i64 vr, Col.int IntKind.i64 gr])]]) (13)))
 (test (Prod.fst
 (Prod.snd
 (S.envS nr (fun (j : Nat) => tr (j + ar)) (fun (j : Nat) => vr (j + ar)) (fun (j : Nat) => gr (j + ar)) no
 v)) !=
 Prod.fst
 (Prod.snd
 (S.envS nr (fun (j : Nat) => tr (j + ar)) (fun (j : Nat) => vr (j + ar)) (fun (j : Nat) => gr (j + ar)) no
 v)))
 (test (Prod.fst
 (S.envS nr (fun (j : Nat) => tr (j + ar)) (fun (j : Nat) => vr (j + ar)) (fun (j : Nat) => gr (j + ar)) no
 v) ==
 Prod.fst
 (S.envS nr (fun (j : Nat) => tr (j + ar)) (fun (j : Nat) => vr (j + ar)) (fun (j : Nat) => gr (j + ar)) no v))
 (test (Prod.fst
 (Prod.snd
 (S.envS nr (fun (j : Nat) => tr (j + ar)) (fun (j : Nat) => vr (j + ar)) (fun (j : Nat) => gr (j + ar)) no
 v)) ==
 Prod.fst
 (Prod.snd
 (S.envS nr (fun (j : Nat) => tr (j + ar)) (fun (j : Nat) => vr (j + ar)) (fun (j : Nat) => gr (j + ar)) no
 v)))
 (test (Prod.snd
 (Prod.snd
 (S.envS nr (fun (j : Nat) => tr (j + ar)) (fun (j : Nat) => vr (j + ar)) (fun (j : Nat) => gr (j + ar)) no
 v)) ==
 Prod.snd
 (Prod.snd
 (S.envS nr (fun (j : Nat) => tr (j + ar)) (fun (j : Nat) => vr (j + ar)) (fun (j : Nat) => gr (j + ar)) no
 v)))
 (Kret (PV.tf true) ([[(1, false, Blk.cols mo [Col.bool to]),
 (0, false,
 Blk.cols mr
 [Col.int IntKind.i64 tr, Col.int IntKind.i64 vr, Col.int IntKind.i64 gr])]]) (13))
 (Kret (PV.tf false) ([[(1, false, Blk.cols mo [Col.bool to]),
 (0, false,
 Blk.cols mr
 [Col.int IntKind.i64 tr, Col.int IntKind.i64 vr, Col.int IntKind.i64 gr])]]) (13)))
 (Kret (PV.tf false) ([[(1, false, Blk.cols mo [Col.bool to]),
 (0, false,
 Blk.cols mr
 [Col.int IntKind.i64 tr, Col.int IntKind.i64 vr, Col.int IntKind.i64 gr])]]) (13)))
 (Kret (PV.tf false) ([[(1, false, Blk.cols mo [Col.bool to]),
 (0, false,
 Blk.cols mr
 [Col.int IntKind.i64 tr, Col.int IntKind.i64 vr, Col.int IntKind.i64 gr])]]) (13)))
 (test (Prod.snd
 (Prod.snd
 (S.envS nr (fun (j : Nat) => tr (j + ar)) (fun (j : Nat) => vr (j + ar)) (fun (j : Nat) => gr (j + ar)) no
 v)) !=
 Prod.snd
 (Prod.snd
 (S.envS nr (fun (j : Nat) => tr (j + ar)) (fun (j : Nat) => vr (j + ar)) (fun (j : Nat) => gr (j + ar)) no
 v)))
 (test (Prod.fst
 (S.envS nr (fun (j : Nat) => tr (j + ar)) (fun (j : Nat) => vr (j + ar)) (fun (j : Nat) => gr (j + ar)) no
 v) ==
 Prod.fst
 (S.envS nr (fun (j : Nat) => tr (j + ar)) (fun (j : Nat) => vr (j + ar)) (fun (j : Nat) => gr (j + ar)) no v))
 (test (Prod.fst
 (Prod.snd
 (S.envS nr (fun (j : Nat) => tr (j + ar)) (fun (j : Nat) => vr (j + ar)) (fun (j : Nat) => gr (j + ar)) no
 v)) ==
 Prod.fst
 (Prod.snd
 (S.envS nr (fun (j : Nat) => tr (j + ar)) (fun (j : Nat) => vr (j + ar)) (fun (j : Nat) => gr (j + ar)) no
 v)))
 (test (Prod.snd
 (Prod.snd
 (S.envS nr (fun (j : Nat) => tr (j + ar)) (fun (j : Nat) => vr (j + ar)) (fun (j : Nat) => gr (j + ar)) no
 v)) ==
 Prod.snd
 (Prod.snd
 (S.envS nr (fun (j : Nat) => tr (j + ar)) (fun (j : Nat) => vr (j + ar)) (fun (j : Nat) => gr (j + ar)) no
 v)))
 (Kret (PV.tf true) ([[(1, false, Blk.cols mo [Col.bool to]),
 (0, false,
 Blk.cols mr
 [Col.int IntKind.i64 tr, Col.int IntKind.i64 vr, Col.int IntKind.i64 gr])]]) (13))
 (Kret (PV.tf false) ([[(1, false, Blk.cols mo [Col.bool to]),
 (0, false,
 Blk.cols mr
 [Col.int IntKind.i64 tr, Col.int IntKind.i64 vr, Col.int IntKind.i64 gr])]]) (13)))
 (Kret (PV.tf false) ([[(1, false, Blk.cols mo [Col.bool to]),
 (0, false,
 Blk.cols mr
 [Col.int IntKind.i64 tr, Col.int IntKind.i64 vr, Col.int IntKind.i64 gr])]]) (13)))
 (Kret (PV.tf false) ([[(1, false, Blk.cols mo [Col.bool to]),
 (0, false,
 Blk.cols mr
 [Col.int IntKind.i64 tr, Col.int IntKind.i64 vr, Col.int IntKind.i64 gr])]]) (13)))
 (test (Prod.snd
 (Prod.snd
 (S.envS nr (fun (j : Nat) => tr (j + ar)) (fun (j : Nat) => vr (j + ar)) (fun (j : Nat) => gr (j + ar)) no
 v)) !=
 (0 : Int))
 (test (Prod.fst
 (S.envS nr (fun (j : Nat) => tr (j + ar)) (fun (j : Nat) => vr (j + ar)) (fun (j : Nat) => gr (j + ar)) no
 v) ==
 Prod.fst
 (S.envS nr (fun (j : Nat) => tr (j + ar)) (fun (j : Nat) => vr (j + ar)) (fun (j : Nat) => gr (j + ar)) no v))
 (test (Prod.fst
 (Prod.snd
 (S.envS nr (fun (j : Nat) => tr (j + ar)) (fun (j : Nat) => vr (j + ar)) (fun (j : Nat) => gr (j + ar)) no
 v)) ==
 Prod.fst
 (Prod.snd
 (S.envS nr (fun (j : Nat) => tr (j + ar)) (fun (j : Nat) => vr (j + ar)) (fun (j : Nat) => gr (j + ar)) no
 v)))
 (test (Prod.snd
 (Prod.snd
 (S.envS nr (fun (j : Nat) => tr (j + ar)) (fun (j : Nat) => vr (j + ar)) (fun (j : Nat) => gr (j + ar)) no
 v)) ==
 Prod.snd
 (Prod.snd
 (S.envS nr (fun (j : Nat) => tr (j + ar)) (fun (j : Nat) => vr (j + ar)) (fun (j : Nat) => gr (j + ar)) no
 v)))
 (Kret (PV.tf true) ([[(1, false, Blk.cols mo [Col.bool to]),
 (0, false,
 Blk.cols mr
 [Col.int IntKind.i64 tr, Col.int IntKind.i64 vr, Col.int IntKind.i64 gr])]]) (13))
 (Kret (PV.tf false) ([[(1, false, Blk.cols mo [Col.bool to]),
 (0, false,
 Blk.cols mr
 [Col.int IntKind.i64 tr, Col.int IntKind.i64 vr, Col.int IntKind.i64 gr])]]) (13)))
 (Kret (PV.tf false) ([[(1, false, Blk.cols mo [Col.bool to]),
 (0, false,
 Blk.cols mr
 [Col.int IntKind.i64 tr, Col.int IntKind.i64 vr, Col.int IntKind.i64 gr])]]) (13)))
 (Kret (PV.tf false) ([[(1, false, Blk.cols mo [Col.bool to]),
 (0, false,
 Blk.cols mr
 [Col.int IntKind.i64 tr, Col.int IntKind.i64 vr, Col.int IntKind.i64 gr])]]) (13)))
 (test (decide (ar + nr ≤ mr ∧ nr ≤ 1000000 ∧ ao + no ≤ mo ∧ no ≤ 1000000))
 (test (decide
 (0 +
 List.length
 (Prod.fst
 (Prod.snd
 (S.histS nr (fun (j : Nat) => tr (j + ar)) (fun (j : Nat) => vr (j + ar))
 (fun (j : Nat) => gr (j + ar)) no (fun (j : Nat) => to (j + ao)) (1) fun (j : Nat) =>
 S.lit [v] (0 : Int) j))) ≤
 List.length
 (Prod.fst
 (Prod.snd
 (S.histS nr (fun (j : Nat) => tr (j + ar)) (fun (j : Nat) => vr (j + ar))
 (fun (j : Nat) => gr (j + ar)) no (fun (j : Nat) => to (j + ao)) (1) fun (j : Nat) =>
 S.lit [v] (0 : Int) j))) ∧
 List.length
 (Prod.fst
 (Prod.snd
 (S.histS nr (fun (j : Nat) => tr (j + ar)) (fun (j : Nat) => vr (j + ar))
 (fun (j : Nat) => gr (j + ar)) no (fun (j : Nat) => to (j + ao)) (1) fun (j : Nat) =>
 S.lit [v] (0 : Int) j))) ≤
 1000000 ∧
 0 +
 List.length
 (Prod.snd
 (Prod.snd
 (S.histS nr (fun (j : Nat) => tr (j + ar)) (fun (j : Nat) => vr (j + ar))
 (fun (j : Nat) => gr (j + ar)) no (fun (j : Nat) => to (j + ao)) (1) fun (j : Nat) =>
 S.lit [v] (0 : Int) j))) ≤
 List.length
 (Prod.snd
 (Prod.snd
 (S.histS nr (fun (j : Nat) => tr (j + ar)) (fun (j : Nat) => vr (j + ar))
 (fun (j : Nat) => gr (j + ar)) no (fun (j : Nat) => to (j + ao)) (1) fun (j : Nat) =>
 S.lit [v] (0 : Int) j))) ∧
 List.length
 (Prod.snd
 (Prod.snd
 (S.histS nr (fun (j : Nat) => tr (j + ar)) (fun (j : Nat) => vr (j + ar))
 (fun (j : Nat) => gr (j + ar)) no (fun (j : Nat) => to (j + ao)) (1) fun (j : Nat) =>
 S.lit [v] (0 : Int) j))) ≤
 1000000))
 (test (Prod.fst
 (S.histS nr (fun (j : Nat) => tr (j + ar)) (fun (j : Nat) => vr (j + ar)) (fun (j : Nat) => gr (j + ar)) no
 (fun (j : Nat) => to (j + ao)) (1) fun (j : Nat) => S.lit [v] (0 : Int) j) ==
 (0 : Int))
 (test (Prod.snd
 (S.fieldS
 (List.length
 (Prod.fst
 (Prod.snd
 (S.histS nr (fun (j : Nat) => tr (j + ar)) (fun (j : Nat) => vr (j + ar))
 (fun (j : Nat) => gr (j + ar)) no (fun (j : Nat) => to (j + ao)) (1) fun (j : Nat) =>
 S.lit [v] (0 : Int) j))))
 (fun (j : Nat) =>
 Prod.fst
 (S.at'
 (Prod.fst
 (Prod.snd
 (S.histS nr (fun (j : Nat) => tr (j + ar)) (fun (j : Nat) => vr (j + ar))
 (fun (j : Nat) => gr (j + ar)) no (fun (j : Nat) => to (j + ao)) (1) fun (j : Nat) =>
 S.lit [v] (0 : Int) j)))
 j))
 (fun (j : Nat) =>
 Prod.fst
 (Prod.snd
 (S.at'
 (Prod.fst
 (Prod.snd
 (S.histS nr (fun (j : Nat) => tr (j + ar)) (fun (j : Nat) => vr (j + ar))
 (fun (j : Nat) => gr (j + ar)) no (fun (j : Nat) => to (j + ao)) (1) fun (j : Nat) =>
 S.lit [v] (0 : Int) j)))
 j)))
 (fun (j : Nat) =>
 Prod.snd
 (Prod.snd
 (S.at'
 (Prod.fst
 (Prod.snd
 (S.histS nr (fun (j : Nat) => tr (j + ar)) (fun (j : Nat) => vr (j + ar))
 (fun (j : Nat) => gr (j + ar)) no (fun (j : Nat) => to (j + ao)) (1) fun (j : Nat) =>
 S.lit [v] (0 : Int) j)))
 j)))
 (List.length
 (Prod.snd
 (Prod.snd
 (S.histS nr (fun (j : Nat) => tr (j + ar)) (fun (j : Nat) => vr (j + ar))
 (fun (j : Nat) => gr (j + ar)) no (fun (j : Nat) => to (j + ao)) (1) fun (j : Nat) =>
 S.lit [v] (0 : Int) j))))
 fun (j : Nat) =>
 S.at'
 (Prod.snd
 (Prod.snd
 (S.histS nr (fun (j : Nat) => tr (j + ar)) (fun (j : Nat) => vr (j + ar))
 (fun (j : Nat) => gr (j + ar)) no (fun (j : Nat) => to (j + ao)) (1) fun (j : Nat) =>
 S.lit [v] (0 : Int) j)))
 j) ==
 (0 : Int))
 (test (decide
 (Prod.fst
 (S.envS nr (fun (j : Nat) => tr (j + ar)) (fun (j : Nat) => vr (j + ar)) (fun (j : Nat) => gr (j + ar)) no
 v) ≤
 Prod.fst
 (S.fieldS
 (List.length
 (Prod.fst
 (Prod.snd
 (S.histS nr (fun (j : Nat) => tr (j + ar)) (fun (j : Nat) => vr (j + ar))
 (fun (j : Nat) => gr (j + ar)) no (fun (j : Nat) => to (j + ao)) (1) fun (j : Nat) =>
 S.lit [v] (0 : Int) j))))
 (fun (j : Nat) =>
 Prod.fst
 (S.at'
 (Prod.fst
 (Prod.snd
 (S.histS nr (fun (j : Nat) => tr (j + ar)) (fun (j : Nat) => vr (j + ar))
 (fun (j : Nat) => gr (j + ar)) no (fun (j : Nat) => to (j + ao)) (1) fun (j : Nat) =>
 S.lit [v] (0 : Int) j)))
 j))
 (fun (j : Nat) =>
 Prod.fst
 (Prod.snd
 (S.at'
 (Prod.fst
 (Prod.snd
 (S.histS nr (fun (j : Nat) => tr (j + ar)) (fun (j : Nat) => vr (j + ar))
 (fun (j : Nat) => gr (j + ar)) no (fun (j : Nat) => to (j + ao)) (1) fun (j : Nat) =>
 S.lit [v] (0 : Int) j)))
 j)))
 (fun (j : Nat) =>
 Prod.snd
 (Prod.snd
 (S.at'
 (Prod.fst
 (Prod.snd
 (S.histS nr (fun (j : Nat) => tr (j + ar)) (fun (j : Nat) => vr (j + ar))
 (fun (j : Nat) => gr (j + ar)) no (fun (j : Nat) => to (j + ao)) (1) fun (j : Nat) =>
 S.lit [v] (0 : Int) j)))
 j)))
 (List.length
 (Prod.snd
 (Prod.snd
 (S.histS nr (fun (j : Nat) => tr (j + ar)) (fun (j : Nat) => vr (j + ar))
 (fun (j : Nat) => gr (j + ar)) no (fun (j : Nat) => to (j + ao)) (1) fun (j : Nat) =>
 S.lit [v] (0 : Int) j))))
 fun (j : Nat) =>
 S.at'
 (Prod.snd
 (Prod.snd
 (S.histS nr (fun (j : Nat) => tr (j + ar)) (fun (j : Nat) => vr (j + ar))
 (fun (j : Nat) => gr (j + ar)) no (fun (j : Nat) => to (j + ao)) (1) fun (j : Nat) =>
 S.lit [v] (0 : Int) j)))
 j)))
 (test (decide
 (Prod.fst
 (S.fieldS
 (List.length
 (Prod.fst
 (Prod.snd
 (S.histS nr (fun (j : Nat) => tr (j + ar)) (fun (j : Nat) => vr (j + ar))
 (fun (j : Nat) => gr (j + ar)) no (fun (j : Nat) => to (j + ao)) (1) fun (j : Nat) =>
 S.lit [v] (0 : Int) j))))
 (fun (j : Nat) =>
 Prod.fst
 (S.at'
 (Prod.fst
 (Prod.snd
 (S.histS nr (fun (j : Nat) => tr (j + ar)) (fun (j : Nat) => vr (j + ar))
 (fun (j : Nat) => gr (j + ar)) no (fun (j : Nat) => to (j + ao)) (1) fun (j : Nat) =>
 S.lit [v] (0 : Int) j)))
 j))
 (fun (j : Nat) =>
 Prod.fst
 (Prod.snd
 (S.at'
 (Prod.fst
 (Prod.snd
 (S.histS nr (fun (j : Nat) => tr (j + ar)) (fun (j : Nat) => vr (j + ar))
 (fun (j : Nat) => gr (j + ar)) no (fun (j : Nat) => to (j + ao)) (1) fun (j : Nat) =>
 S.lit [v] (0 : Int) j)))
 j)))
 (fun (j : Nat) =>
 Prod.snd
 (Prod.snd
 (S.at'
 (Prod.fst
 (Prod.snd
 (S.histS nr (fun (j : Nat) => tr (j + ar)) (fun (j : Nat) => vr (j + ar))
 (fun (j : Nat) => gr (j + ar)) no (fun (j : Nat) => to (j + ao)) (1) fun (j : Nat) =>
 S.lit [v] (0 : Int) j)))
 j)))
 (List.length
 (Prod.snd
 (Prod.snd
 (S.histS nr (fun (j : Nat) => tr (j + ar)) (fun (j : Nat) => vr (j + ar))
 (fun (j : Nat) => gr (j + ar)) no (fun (j : Nat) => to (j + ao)) (1) fun (j : Nat) =>
 S.lit [v] (0 : Int) j))))
 fun (j : Nat) =>
 S.at'
 (Prod.snd
 (Prod.snd
 (S.histS nr (fun (j : Nat) => tr (j + ar)) (fun (j : Nat) => vr (j + ar))
 (fun (j : Nat) => gr (j + ar)) no (fun (j : Nat) => to (j + ao)) (1) fun (j : Nat) =>
 S.lit [v] (0 : Int) j)))
 j) ≤
 Prod.fst
 (Prod.snd
 (S.envS nr (fun (j : Nat) => tr (j + ar)) (fun (j : Nat) => vr (j + ar)) (fun (j : Nat) => gr (j + ar)) no
 v))))
 (Kret (PV.tf true) ([[(1, false, Blk.cols mo [Col.bool to]),
 (0, false,
 Blk.cols mr
 [Col.int IntKind.i64 tr, Col.int IntKind.i64 vr, Col.int IntKind.i64 gr])]]) (18))
 (Kret (PV.tf false) ([[(1, false, Blk.cols mo [Col.bool to]),
 (0, false,
 Blk.cols mr
 [Col.int IntKind.i64 tr, Col.int IntKind.i64 vr, Col.int IntKind.i64 gr])]]) (18)))
 (Kret (PV.tf false) ([[(1, false, Blk.cols mo [Col.bool to]),
 (0, false,
 Blk.cols mr
 [Col.int IntKind.i64 tr, Col.int IntKind.i64 vr, Col.int IntKind.i64 gr])]]) (18)))
 (Kret (PV.tf false) ([[(1, false, Blk.cols mo [Col.bool to]),
 (0, false,
 Blk.cols mr
 [Col.int IntKind.i64 tr, Col.int IntKind.i64 vr, Col.int IntKind.i64 gr])]]) (18)))
 (Kret (PV.tf false) ([[(1, false, Blk.cols mo [Col.bool to]),
 (0, false,
 Blk.cols mr
 [Col.int IntKind.i64 tr, Col.int IntKind.i64 vr, Col.int IntKind.i64 gr])]]) (18)))
 (False))
 (False))))))
 (False))
 (False))
 (False))
 (False))
 (test (true)
 (test (true)
 (Kret (PV.tf true) ([[(1, false, Blk.cols mo [Col.bool to]),
 (0, false,
 Blk.cols mr
 [Col.int IntKind.i64 tr, Col.int IntKind.i64 vr, Col.int IntKind.i64 gr])]]) (6))
 (Kret (PV.tf false) ([[(1, false, Blk.cols mo [Col.bool to]),
 (0, false,
 Blk.cols mr
 [Col.int IntKind.i64 tr, Col.int IntKind.i64 vr, Col.int IntKind.i64 gr])]]) (6)))
 (False)))
 (test (true)
 (test (true)
 (Kret (PV.tf true) ([[(1, false, Blk.cols mo [Col.bool to]),
 (0, false,
 Blk.cols mr
 [Col.int IntKind.i64 tr, Col.int IntKind.i64 vr, Col.int IntKind.i64 gr])]]) (6))
 (Kret (PV.tf false) ([[(1, false, Blk.cols mo [Col.bool to]),
 (0, false,
 Blk.cols mr
 [Col.int IntKind.i64 tr, Col.int IntKind.i64 vr, Col.int IntKind.i64 gr])]]) (6)))
 (False)))
 (test (true)
 (test (true)
 (Kret (PV.tf true) ([[(1, false, Blk.cols mo [Col.bool to]),
 (0, false,
 Blk.cols mr
 [Col.int IntKind.i64 tr, Col.int IntKind.i64 vr, Col.int IntKind.i64 gr])]]) (5))
 (Kret (PV.tf false) ([[(1, false, Blk.cols mo [Col.bool to]),
 (0, false,
 Blk.cols mr
 [Col.int IntKind.i64 tr, Col.int IntKind.i64 vr, Col.int IntKind.i64 gr])]]) (5)))
 (False)))
 (False)
set_option maxRecDepth 100000 in
theorem te7 (test : Bool → Prop → Prop → Prop) (Kst : KS) (Kret : KR) (ar nr mr : Nat) (tr : Nat → Int) (vr : Nat → Int) (gr : Nat → Int) (ao no mo : Nat) (to : Nat → Bool) (v : Int) : run test Try.env true (yC3 test) true 400 ⟨7, [.cd (mkFn Try.f7).body], argT 0 [.agg [.loose ⟨0, 3, ar, 0⟩ nr, .loose ⟨1, 1, ao, 0⟩ no], .int .i64 v], [[], [(0, (false, .cols mr [.int .i64 tr, .int .i64 vr, .int .i64 gr])), (1, (false, .cols mo [.bool to]))]], 2⟩ (proj 2 [] Kst Kret) =
  Te7 test Kst Kret ar nr mr tr vr gr ao no mo to v := by kernel_rfl
set_option maxRecDepth 100000 in
theorem be7 (ar nr mr : Nat) (tr : Nat → Int) (vr : Nat → Int) (gr : Nat → Int) (ao no mo : Nat) (to : Nat → Bool) (v : Int) (Kst : KS) (Kret : KR) (x : St7 ⊕ Rt7) (hS : HS 2 400 ((I7 ar nr mr tr vr gr ao no mo to v)) Kst x) (hR : HR 2 400 ((V7 ar nr mr tr vr gr ao no mo to v)) (fun r => [newL (2 + 1) ((N7 ar nr mr tr vr gr ao no mo to v) r) ++ [(0, (false, .cols mr [.int .i64 tr, .int .i64 vr, .int .i64 gr])), (1, (false, .cols mo [.bool to]))]]) Kret x) (h : (bif (decide ((↑nr : Int) ≤ (45 : Int)))
 then (bif (decide ((↑no : Int) ≤ (50 : Int)))
 then (bif (decide (ar + nr ≤ mr ∧ nr ≤ 1000000))
 then (bif (decide (ao + no ≤ mo ∧ no ≤ 1000000))
 then (bif (decide (0 + nr ≤ nr ∧ nr ≤ 1000000 ∧ 0 + no ≤ no ∧ no ≤ 1000000))
 then (bif (decide (ar + nr ≤ mr ∧ nr ≤ 1000000 ∧ ao + no ≤ mo ∧ no ≤ 1000000))
 then (bif (Prod.fst
 (S.envS nr (fun (j : Nat) => tr (j + ar)) (fun (j : Nat) => vr (j + ar)) (fun (j : Nat) => gr (j + ar)) no
 v) !=
 Prod.fst
 (S.envS nr (fun (j : Nat) => tr (j + ar)) (fun (j : Nat) => vr (j + ar)) (fun (j : Nat) => gr (j + ar)) no v))
 then (bif (Prod.fst
 (S.envS nr (fun (j : Nat) => tr (j + ar)) (fun (j : Nat) => vr (j + ar)) (fun (j : Nat) => gr (j + ar)) no
 v) ==
 Prod.fst
 (S.envS nr (fun (j : Nat) => tr (j + ar)) (fun (j : Nat) => vr (j + ar)) (fun (j : Nat) => gr (j + ar)) no v))
 then (bif (Prod.fst
 (Prod.snd
 (S.envS nr (fun (j : Nat) => tr (j + ar)) (fun (j : Nat) => vr (j + ar)) (fun (j : Nat) => gr (j + ar)) no
 v)) ==
 Prod.fst
 (Prod.snd
 (S.envS nr (fun (j : Nat) => tr (j + ar)) (fun (j : Nat) => vr (j + ar)) (fun (j : Nat) => gr (j + ar)) no
 v)))
 then (bif (Prod.snd
 (Prod.snd
 (S.envS nr (fun (j : Nat) => tr (j + ar)) (fun (j : Nat) => vr (j + ar)) (fun (j : Nat) => gr (j + ar)) no
 v)) ==
 Prod.snd
 (Prod.snd
 (S.envS nr (fun (j : Nat) => tr (j + ar)) (fun (j : Nat) => vr (j + ar)) (fun (j : Nat) => gr (j + ar)) no
 v)))
 then (some (.inr (true)))
 else (some (.inr (false))))
 else (some (.inr (false))))
 else (some (.inr (false))))
 else (bif (Prod.fst
 (Prod.snd
 (S.envS nr (fun (j : Nat) => tr (j + ar)) (fun (j : Nat) => vr (j + ar)) (fun (j : Nat) => gr (j + ar)) no
 v)) !=
 Prod.fst
 (Prod.snd
 (S.envS nr (fun (j : Nat) => tr (j + ar)) (fun (j : Nat) => vr (j + ar)) (fun (j : Nat) => gr (j + ar)) no
 v)))
 then (bif (Prod.fst
 (S.envS nr (fun (j : Nat) => tr (j + ar)) (fun (j : Nat) => vr (j + ar)) (fun (j : Nat) => gr (j + ar)) no
 v) ==
 Prod.fst
 (S.envS nr (fun (j : Nat) => tr (j + ar)) (fun (j : Nat) => vr (j + ar)) (fun (j : Nat) => gr (j + ar)) no v))
 then (bif (Prod.fst
 (Prod.snd
 (S.envS nr (fun (j : Nat) => tr (j + ar)) (fun (j : Nat) => vr (j + ar)) (fun (j : Nat) => gr (j + ar)) no
 v)) ==
 Prod.fst
 (Prod.snd
 (S.envS nr (fun (j : Nat) => tr (j + ar)) (fun (j : Nat) => vr (j + ar)) (fun (j : Nat) => gr (j + ar)) no
 v)))
 then (bif (Prod.snd
 (Prod.snd
 (S.envS nr (fun (j : Nat) => tr (j + ar)) (fun (j : Nat) => vr (j + ar)) (fun (j : Nat) => gr (j + ar)) no
 v)) ==
 Prod.snd
 (Prod.snd
 (S.envS nr (fun (j : Nat) => tr (j + ar)) (fun (j : Nat) => vr (j + ar)) (fun (j : Nat) => gr (j + ar)) no
 v)))
 then (some (.inr (true)))
 else (some (.inr (false))))
 else (some (.inr (false))))
 else (some (.inr (false))))
 else (bif (Prod.snd
 (Prod.snd
 (S.envS nr (fun (j : Nat) => tr (j + ar)) (fun (j : Nat) => vr (j + ar)) (fun (j : Nat) => gr (j + ar)) no
 v)) !=
 Prod.snd
 (Prod.snd
 (S.envS nr (fun (j : Nat) => tr (j + ar)) (fun (j : Nat) => vr (j + ar)) (fun (j : Nat) => gr (j + ar)) no
 v)))
 then (bif (Prod.fst
 (S.envS nr (fun (j : Nat) => tr (j + ar)) (fun (j : Nat) => vr (j + ar)) (fun (j : Nat) => gr (j + ar)) no
 v) ==
 Prod.fst
 (S.envS nr (fun (j : Nat) => tr (j + ar)) (fun (j : Nat) => vr (j + ar)) (fun (j : Nat) => gr (j + ar)) no v))
 then (bif (Prod.fst
 (Prod.snd
 (S.envS nr (fun (j : Nat) => tr (j + ar)) (fun (j : Nat) => vr (j + ar)) (fun (j : Nat) => gr (j + ar)) no
 v)) ==
 Prod.fst
 (Prod.snd
 (S.envS nr (fun (j : Nat) => tr (j + ar)) (fun (j : Nat) => vr (j + ar)) (fun (j : Nat) => gr (j + ar)) no
 v)))
 then (bif (Prod.snd
 (Prod.snd
 (S.envS nr (fun (j : Nat) => tr (j + ar)) (fun (j : Nat) => vr (j + ar)) (fun (j : Nat) => gr (j + ar)) no
 v)) ==
 Prod.snd
 (Prod.snd
 (S.envS nr (fun (j : Nat) => tr (j + ar)) (fun (j : Nat) => vr (j + ar)) (fun (j : Nat) => gr (j + ar)) no
 v)))
 then (some (.inr (true)))
 else (some (.inr (false))))
 else (some (.inr (false))))
 else (some (.inr (false))))
 else (bif (Prod.snd
 (Prod.snd
 (S.envS nr (fun (j : Nat) => tr (j + ar)) (fun (j : Nat) => vr (j + ar)) (fun (j : Nat) => gr (j + ar)) no
 v)) !=
 (0 : Int))
 then (bif (Prod.fst
 (S.envS nr (fun (j : Nat) => tr (j + ar)) (fun (j : Nat) => vr (j + ar)) (fun (j : Nat) => gr (j + ar)) no
 v) ==
 Prod.fst
 (S.envS nr (fun (j : Nat) => tr (j + ar)) (fun (j : Nat) => vr (j + ar)) (fun (j : Nat) => gr (j + ar)) no v))
 then (bif (Prod.fst
 (Prod.snd
 (S.envS nr (fun (j : Nat) => tr (j + ar)) (fun (j : Nat) => vr (j + ar)) (fun (j : Nat) => gr (j + ar)) no
 v)) ==
 Prod.fst
 (Prod.snd
 (S.envS nr (fun (j : Nat) => tr (j + ar)) (fun (j : Nat) => vr (j + ar)) (fun (j : Nat) => gr (j + ar)) no
 v)))
 then (bif (Prod.snd
 (Prod.snd
 (S.envS nr (fun (j : Nat) => tr (j + ar)) (fun (j : Nat) => vr (j + ar)) (fun (j : Nat) => gr (j + ar)) no
 v)) ==
 Prod.snd
 (Prod.snd
 (S.envS nr (fun (j : Nat) => tr (j + ar)) (fun (j : Nat) => vr (j + ar)) (fun (j : Nat) => gr (j + ar)) no
 v)))
 then (some (.inr (true)))
 else (some (.inr (false))))
 else (some (.inr (false))))
 else (some (.inr (false))))
 else (bif (decide
 (0 +
 List.length
 (Prod.fst
 (Prod.snd
 (S.histS nr (fun (j : Nat) => tr (j + ar)) (fun (j : Nat) => vr (j + ar))
 (fun (j : Nat) => gr (j + ar)) no (fun (j : Nat) => to (j + ao)) (1) fun (j : Nat) =>
 S.lit [v] (0 : Int) j))) ≤
 List.length
 (Prod.fst
 (Prod.snd
 (S.histS nr (fun (j : Nat) => tr (j + ar)) (fun (j : Nat) => vr (j + ar))
 (fun (j : Nat) => gr (j + ar)) no (fun (j : Nat) => to (j + ao)) (1) fun (j : Nat) =>
 S.lit [v] (0 : Int) j))) ∧
 List.length
 (Prod.fst
 (Prod.snd
 (S.histS nr (fun (j : Nat) => tr (j + ar)) (fun (j : Nat) => vr (j + ar))
 (fun (j : Nat) => gr (j + ar)) no (fun (j : Nat) => to (j + ao)) (1) fun (j : Nat) =>
 S.lit [v] (0 : Int) j))) ≤
 1000000 ∧
 0 +
 List.length
 (Prod.snd
 (Prod.snd
 (S.histS nr (fun (j : Nat) => tr (j + ar)) (fun (j : Nat) => vr (j + ar))
 (fun (j : Nat) => gr (j + ar)) no (fun (j : Nat) => to (j + ao)) (1) fun (j : Nat) =>
 S.lit [v] (0 : Int) j))) ≤
 List.length
 (Prod.snd
 (Prod.snd
 (S.histS nr (fun (j : Nat) => tr (j + ar)) (fun (j : Nat) => vr (j + ar))
 (fun (j : Nat) => gr (j + ar)) no (fun (j : Nat) => to (j + ao)) (1) fun (j : Nat) =>
 S.lit [v] (0 : Int) j))) ∧
 List.length
 (Prod.snd
 (Prod.snd
 (S.histS nr (fun (j : Nat) => tr (j + ar)) (fun (j : Nat) => vr (j + ar))
 (fun (j : Nat) => gr (j + ar)) no (fun (j : Nat) => to (j + ao)) (1) fun (j : Nat) =>
 S.lit [v] (0 : Int) j))) ≤
 1000000))
 then (bif (Prod.fst
 (S.histS nr (fun (j : Nat) => tr (j + ar)) (fun (j : Nat) => vr (j + ar)) (fun (j : Nat) => gr (j + ar)) no
 (fun (j : Nat) => to (j + ao)) (1) fun (j : Nat) => S.lit [v] (0 : Int) j) ==
 (0 : Int))
 then (bif (Prod.snd
 (S.fieldS
 (List.length
 (Prod.fst
 (Prod.snd
 (S.histS nr (fun (j : Nat) => tr (j + ar)) (fun (j : Nat) => vr (j + ar))
 (fun (j : Nat) => gr (j + ar)) no (fun (j : Nat) => to (j + ao)) (1) fun (j : Nat) =>
 S.lit [v] (0 : Int) j))))
 (fun (j : Nat) =>
 Prod.fst
 (S.at'
 (Prod.fst
 (Prod.snd
 (S.histS nr (fun (j : Nat) => tr (j + ar)) (fun (j : Nat) => vr (j + ar))
 (fun (j : Nat) => gr (j + ar)) no (fun (j : Nat) => to (j + ao)) (1) fun (j : Nat) =>
 S.lit [v] (0 : Int) j)))
 j))
 (fun (j : Nat) =>
 Prod.fst
 (Prod.snd
 (S.at'
 (Prod.fst
 (Prod.snd
 (S.histS nr (fun (j : Nat) => tr (j + ar)) (fun (j : Nat) => vr (j + ar))
 (fun (j : Nat) => gr (j + ar)) no (fun (j : Nat) => to (j + ao)) (1) fun (j : Nat) =>
 S.lit [v] (0 : Int) j)))
 j)))
 (fun (j : Nat) =>
 Prod.snd
 (Prod.snd
 (S.at'
 (Prod.fst
 (Prod.snd
 (S.histS nr (fun (j : Nat) => tr (j + ar)) (fun (j : Nat) => vr (j + ar))
 (fun (j : Nat) => gr (j + ar)) no (fun (j : Nat) => to (j + ao)) (1) fun (j : Nat) =>
 S.lit [v] (0 : Int) j)))
 j)))
 (List.length
 (Prod.snd
 (Prod.snd
 (S.histS nr (fun (j : Nat) => tr (j + ar)) (fun (j : Nat) => vr (j + ar))
 (fun (j : Nat) => gr (j + ar)) no (fun (j : Nat) => to (j + ao)) (1) fun (j : Nat) =>
 S.lit [v] (0 : Int) j))))
 fun (j : Nat) =>
 S.at'
 (Prod.snd
 (Prod.snd
 (S.histS nr (fun (j : Nat) => tr (j + ar)) (fun (j : Nat) => vr (j + ar))
 (fun (j : Nat) => gr (j + ar)) no (fun (j : Nat) => to (j + ao)) (1) fun (j : Nat) =>
 S.lit [v] (0 : Int) j)))
 j) ==
 (0 : Int))
 then (bif (decide
 (Prod.fst
 (S.envS nr (fun (j : Nat) => tr (j + ar)) (fun (j : Nat) => vr (j + ar)) (fun (j : Nat) => gr (j + ar)) no
 v) ≤
 Prod.fst
 (S.fieldS
 (List.length
 (Prod.fst
 (Prod.snd
 (S.histS nr (fun (j : Nat) => tr (j + ar)) (fun (j : Nat) => vr (j + ar))
 (fun (j : Nat) => gr (j + ar)) no (fun (j : Nat) => to (j + ao)) (1) fun (j : Nat) =>
 S.lit [v] (0 : Int) j))))
 (fun (j : Nat) =>
 Prod.fst
 (S.at'
 (Prod.fst
 (Prod.snd
 (S.histS nr (fun (j : Nat) => tr (j + ar)) (fun (j : Nat) => vr (j + ar))
 (fun (j : Nat) => gr (j + ar)) no (fun (j : Nat) => to (j + ao)) (1) fun (j : Nat) =>
 S.lit [v] (0 : Int) j)))
 j))
 (fun (j : Nat) =>
 Prod.fst
 (Prod.snd
 (S.at'
 (Prod.fst
 (Prod.snd
 (S.histS nr (fun (j : Nat) => tr (j + ar)) (fun (j : Nat) => vr (j + ar))
 (fun (j : Nat) => gr (j + ar)) no (fun (j : Nat) => to (j + ao)) (1) fun (j : Nat) =>
 S.lit [v] (0 : Int) j)))
 j)))
 (fun (j : Nat) =>
 Prod.snd
 (Prod.snd
 (S.at'
 (Prod.fst
 (Prod.snd
 (S.histS nr (fun (j : Nat) => tr (j + ar)) (fun (j : Nat) => vr (j + ar))
 (fun (j : Nat) => gr (j + ar)) no (fun (j : Nat) => to (j + ao)) (1) fun (j : Nat) =>
 S.lit [v] (0 : Int) j)))
 j)))
 (List.length
 (Prod.snd
 (Prod.snd
 (S.histS nr (fun (j : Nat) => tr (j + ar)) (fun (j : Nat) => vr (j + ar))
 (fun (j : Nat) => gr (j + ar)) no (fun (j : Nat) => to (j + ao)) (1) fun (j : Nat) =>
 S.lit [v] (0 : Int) j))))
 fun (j : Nat) =>
 S.at'
 (Prod.snd
 (Prod.snd
 (S.histS nr (fun (j : Nat) => tr (j + ar)) (fun (j : Nat) => vr (j + ar))
 (fun (j : Nat) => gr (j + ar)) no (fun (j : Nat) => to (j + ao)) (1) fun (j : Nat) =>
 S.lit [v] (0 : Int) j)))
 j)))
 then (bif (decide
 (Prod.fst
 (S.fieldS
 (List.length
 (Prod.fst
 (Prod.snd
 (S.histS nr (fun (j : Nat) => tr (j + ar)) (fun (j : Nat) => vr (j + ar))
 (fun (j : Nat) => gr (j + ar)) no (fun (j : Nat) => to (j + ao)) (1) fun (j : Nat) =>
 S.lit [v] (0 : Int) j))))
 (fun (j : Nat) =>
 Prod.fst
 (S.at'
 (Prod.fst
 (Prod.snd
 (S.histS nr (fun (j : Nat) => tr (j + ar)) (fun (j : Nat) => vr (j + ar))
 (fun (j : Nat) => gr (j + ar)) no (fun (j : Nat) => to (j + ao)) (1) fun (j : Nat) =>
 S.lit [v] (0 : Int) j)))
 j))
 (fun (j : Nat) =>
 Prod.fst
 (Prod.snd
 (S.at'
 (Prod.fst
 (Prod.snd
 (S.histS nr (fun (j : Nat) => tr (j + ar)) (fun (j : Nat) => vr (j + ar))
 (fun (j : Nat) => gr (j + ar)) no (fun (j : Nat) => to (j + ao)) (1) fun (j : Nat) =>
 S.lit [v] (0 : Int) j)))
 j)))
 (fun (j : Nat) =>
 Prod.snd
 (Prod.snd
 (S.at'
 (Prod.fst
 (Prod.snd
 (S.histS nr (fun (j : Nat) => tr (j + ar)) (fun (j : Nat) => vr (j + ar))
 (fun (j : Nat) => gr (j + ar)) no (fun (j : Nat) => to (j + ao)) (1) fun (j : Nat) =>
 S.lit [v] (0 : Int) j)))
 j)))
 (List.length
 (Prod.snd
 (Prod.snd
 (S.histS nr (fun (j : Nat) => tr (j + ar)) (fun (j : Nat) => vr (j + ar))
 (fun (j : Nat) => gr (j + ar)) no (fun (j : Nat) => to (j + ao)) (1) fun (j : Nat) =>
 S.lit [v] (0 : Int) j))))
 fun (j : Nat) =>
 S.at'
 (Prod.snd
 (Prod.snd
 (S.histS nr (fun (j : Nat) => tr (j + ar)) (fun (j : Nat) => vr (j + ar))
 (fun (j : Nat) => gr (j + ar)) no (fun (j : Nat) => to (j + ao)) (1) fun (j : Nat) =>
 S.lit [v] (0 : Int) j)))
 j) ≤
 Prod.fst
 (Prod.snd
 (S.envS nr (fun (j : Nat) => tr (j + ar)) (fun (j : Nat) => vr (j + ar)) (fun (j : Nat) => gr (j + ar)) no
 v))))
 then (some (.inr (true)))
 else (some (.inr (false))))
 else (some (.inr (false))))
 else (some (.inr (false))))
 else (some (.inr (false))))
 else (none))))))
 else (none))
 else (none))
 else (none))
 else (none))
 else (some (.inr (true))))
 else (some (.inr (true))) : Option (St7 ⊕ Rt7)) = some x) : Te7 cond Kst Kret ar nr mr tr vr gr ao no mo to v := by
  unfold Te7
  exact cond_yes rfl (cond_yes rfl (bif_split h
   (fun c0 h => bif_split h
   (fun c1 h => bif_split h
   (fun c2 h => bif_split h
   (fun c3 h => bif_split h
   (fun c4 h => bif_split h
   (fun c5 h => bif_split h
   (fun c6 h => bif_split h
   (fun c7 h => bif_split h
   (fun c8 h => bif_split h
   (fun c9 h => ret_at hR _ h (fun n => n) rfl rfl rfl (rn_bool_tf rfl) rfl (entl_bor (use_lo rfl) rfl rfl (entl_bor (use_lo rfl) rfl rfl entl_nil)))
   (fun c9 h => ret_at hR _ h (fun n => n) rfl rfl rfl (rn_bool_tf rfl) rfl (entl_bor (use_lo rfl) rfl rfl (entl_bor (use_lo rfl) rfl rfl entl_nil))))
   (fun c8 h => ret_at hR _ h (fun n => n) rfl rfl rfl (rn_bool_tf rfl) rfl (entl_bor (use_lo rfl) rfl rfl (entl_bor (use_lo rfl) rfl rfl entl_nil))))
   (fun c7 h => ret_at hR _ h (fun n => n) rfl rfl rfl (rn_bool_tf rfl) rfl (entl_bor (use_lo rfl) rfl rfl (entl_bor (use_lo rfl) rfl rfl entl_nil))))
   (fun c6 h => bif_split h
   (fun c7 h => bif_split h
   (fun c8 h => bif_split h
   (fun c9 h => bif_split h
   (fun c10 h => ret_at hR _ h (fun n => n) rfl rfl rfl (rn_bool_tf rfl) rfl (entl_bor (use_lo rfl) rfl rfl (entl_bor (use_lo rfl) rfl rfl entl_nil)))
   (fun c10 h => ret_at hR _ h (fun n => n) rfl rfl rfl (rn_bool_tf rfl) rfl (entl_bor (use_lo rfl) rfl rfl (entl_bor (use_lo rfl) rfl rfl entl_nil))))
   (fun c9 h => ret_at hR _ h (fun n => n) rfl rfl rfl (rn_bool_tf rfl) rfl (entl_bor (use_lo rfl) rfl rfl (entl_bor (use_lo rfl) rfl rfl entl_nil))))
   (fun c8 h => ret_at hR _ h (fun n => n) rfl rfl rfl (rn_bool_tf rfl) rfl (entl_bor (use_lo rfl) rfl rfl (entl_bor (use_lo rfl) rfl rfl entl_nil))))
   (fun c7 h => bif_split h
   (fun c8 h => bif_split h
   (fun c9 h => bif_split h
   (fun c10 h => bif_split h
   (fun c11 h => ret_at hR _ h (fun n => n) rfl rfl rfl (rn_bool_tf rfl) rfl (entl_bor (use_lo rfl) rfl rfl (entl_bor (use_lo rfl) rfl rfl entl_nil)))
   (fun c11 h => ret_at hR _ h (fun n => n) rfl rfl rfl (rn_bool_tf rfl) rfl (entl_bor (use_lo rfl) rfl rfl (entl_bor (use_lo rfl) rfl rfl entl_nil))))
   (fun c10 h => ret_at hR _ h (fun n => n) rfl rfl rfl (rn_bool_tf rfl) rfl (entl_bor (use_lo rfl) rfl rfl (entl_bor (use_lo rfl) rfl rfl entl_nil))))
   (fun c9 h => ret_at hR _ h (fun n => n) rfl rfl rfl (rn_bool_tf rfl) rfl (entl_bor (use_lo rfl) rfl rfl (entl_bor (use_lo rfl) rfl rfl entl_nil))))
   (fun c8 h => bif_split h
   (fun c9 h => bif_split h
   (fun c10 h => bif_split h
   (fun c11 h => bif_split h
   (fun c12 h => ret_at hR _ h (fun n => n) rfl rfl rfl (rn_bool_tf rfl) rfl (entl_bor (use_lo rfl) rfl rfl (entl_bor (use_lo rfl) rfl rfl entl_nil)))
   (fun c12 h => ret_at hR _ h (fun n => n) rfl rfl rfl (rn_bool_tf rfl) rfl (entl_bor (use_lo rfl) rfl rfl (entl_bor (use_lo rfl) rfl rfl entl_nil))))
   (fun c11 h => ret_at hR _ h (fun n => n) rfl rfl rfl (rn_bool_tf rfl) rfl (entl_bor (use_lo rfl) rfl rfl (entl_bor (use_lo rfl) rfl rfl entl_nil))))
   (fun c10 h => ret_at hR _ h (fun n => n) rfl rfl rfl (rn_bool_tf rfl) rfl (entl_bor (use_lo rfl) rfl rfl (entl_bor (use_lo rfl) rfl rfl entl_nil))))
   (fun c9 h => cond_yes c5 (bif_split h
   (fun c10 h => bif_split h
   (fun c11 h => bif_split h
   (fun c12 h => bif_split h
   (fun c13 h => bif_split h
   (fun c14 h => ret_at hR _ h (fun n => n) rfl rfl rfl (rn_bool_tf rfl) rfl (entl_bor (use_lo rfl) rfl rfl (entl_bor (use_lo rfl) rfl rfl entl_nil)))
   (fun c14 h => ret_at hR _ h (fun n => n) rfl rfl rfl (rn_bool_tf rfl) rfl (entl_bor (use_lo rfl) rfl rfl (entl_bor (use_lo rfl) rfl rfl entl_nil))))
   (fun c13 h => ret_at hR _ h (fun n => n) rfl rfl rfl (rn_bool_tf rfl) rfl (entl_bor (use_lo rfl) rfl rfl (entl_bor (use_lo rfl) rfl rfl entl_nil))))
   (fun c12 h => ret_at hR _ h (fun n => n) rfl rfl rfl (rn_bool_tf rfl) rfl (entl_bor (use_lo rfl) rfl rfl (entl_bor (use_lo rfl) rfl rfl entl_nil))))
   (fun c11 h => ret_at hR _ h (fun n => n) rfl rfl rfl (rn_bool_tf rfl) rfl (entl_bor (use_lo rfl) rfl rfl (entl_bor (use_lo rfl) rfl rfl entl_nil))))
   (fun c10 h => no_some h)))))))
   (fun c5 h => no_some h))
   (fun c4 h => no_some h))
   (fun c3 h => no_some h))
   (fun c2 h => no_some h))
   (fun c1 h => cond_yes rfl (cond_yes rfl (ret_at hR _ h (fun n => n) rfl rfl rfl (rn_bool_tf rfl) rfl (entl_bor (use_lo rfl) rfl rfl (entl_bor (use_lo rfl) rfl rfl entl_nil))))))
   (fun c0 h => cond_yes rfl (cond_yes rfl (ret_at hR _ h (fun n => n) rfl rfl rfl (rn_bool_tf rfl) rfl (entl_bor (use_lo rfl) rfl rfl (entl_bor (use_lo rfl) rfl rfl entl_nil)))))))
theorem a7 (ar nr mr : Nat) (tr : Nat → Int) (vr : Nat → Int) (gr : Nat → Int) (ao no mo : Nat) (to : Nat → Bool) (v : Int) {r : Rt7} (h : Goes ((q7 ar nr mr tr vr gr ao no mo to v)) ((p7 ar nr mr tr vr gr ao no mo to v)) r) : CallR Try.prog 7 [.agg [.loose ⟨0, 3, ar, 0⟩ nr, .loose ⟨1, 1, ao, 0⟩ no], .int .i64 v] [[(0, (false, .cols mr [.int .i64 tr, .int .i64 vr, .int .i64 gr])), (1, (false, .cols mo [.bool to]))]] 2 ((V7 ar nr mr tr vr gr ao no mo to v) r) ((fun r => [newL (2 + 1) ((N7 ar nr mr tr vr gr ao no mo to v) r) ++ [(0, (false, .cols mr [.int .i64 tr, .int .i64 vr, .int .i64 gr])), (1, (false, .cols mo [.bool to]))]]) r) 400 ∧ ∃ F, Try.prog.funcs[7]? = some F ∧ F.body.isSome = true ∧ (F.name == "runtime.NumGoroutine") = false := by
  refine dec_calls (f := 7) (lo := 2) (hi := 400) (H := [[(0, (false, .cols mr [.int .i64 tr, .int .i64 vr, .int .i64 gr])), (1, (false, .cols mo [.bool to]))]]) (args := [.agg [.loose ⟨0, 3, ar, 0⟩ nr, .loose ⟨1, 1, ao, 0⟩ no], .int .i64 v]) Try.envOk Try.mixed yC3_ok ((I7 ar nr mr tr vr gr ao no mo to v)) ((V7 ar nr mr tr vr gr ao no mo to v)) (fun r => [newL (2 + 1) ((N7 ar nr mr tr vr gr ao no mo to v) r) ++ [(0, (false, .cols mr [.int .i64 tr, .int .i64 vr, .int .i64 gr])), (1, (false, .cols mo [.bool to]))]]) (fn := mkFn Try.f7) (ts := []) (n := 400) rfl (by decide) (by simp) (names_of rfl) ?_ ?_ ?_ h
  · intro s; exact s.elim
  · intro Kst Kret x hS hR h
    exact Holds.eq (te7 cond Kst Kret ar nr mr tr vr gr ao no mo to v) (be7 ar nr mr tr vr gr ao no mo to v Kst Kret x hS hR h)
  · intro Kst Kret x hS hR s h; exact s.elim
noncomputable def k7 : Con := ⟨7, [.agg [.list [.int .i64, .int .i64, .int .i64], .list [.bool]], .one (.plain (.int .i64))], fun (x : ((Nat × Nat × Nat × (Nat → Int) × (Nat → Int) × (Nat → Int) × Unit) × (Nat × Nat × Nat × (Nat → Bool) × Unit) × Unit) × Int × Unit) => (fun (ar nr mr : Nat) (tr : Nat → Int) (vr : Nat → Int) (gr : Nat → Int) (ao no mo : Nat) (to : Nat → Bool) (v : Int) => decide (ar + nr ≤ mr ∧ ao + no ≤ mo)) x.1.1.1 x.1.1.2.1 x.1.1.2.2.1 x.1.1.2.2.2.1 x.1.1.2.2.2.2.1 x.1.1.2.2.2.2.2.1 x.1.2.1.1 x.1.2.1.2.1 x.1.2.1.2.2.1 x.1.2.1.2.2.2.1 x.2.1, fun (x : ((Nat × Nat × Nat × (Nat → Int) × (Nat → Int) × (Nat → Int) × Unit) × (Nat × Nat × Nat × (Nat → Bool) × Unit) × Unit) × Int × Unit) => (fun (ar nr mr : Nat) (tr : Nat → Int) (vr : Nat → Int) (gr : Nat → Int) (ao no mo : Nat) (to : Nat → Bool) (v : Int) => (V7 ar nr mr tr vr gr ao no mo to v) (true)) x.1.1.1 x.1.1.2.1 x.1.1.2.2.1 x.1.1.2.2.2.1 x.1.1.2.2.2.2.1 x.1.1.2.2.2.2.2.1 x.1.2.1.1 x.1.2.1.2.1 x.1.2.1.2.2.1 x.1.2.1.2.2.2.1 x.2.1, fun (x : ((Nat × Nat × Nat × (Nat → Int) × (Nat → Int) × (Nat → Int) × Unit) × (Nat × Nat × Nat × (Nat → Bool) × Unit) × Unit) × Int × Unit) => (fun (ar nr mr : Nat) (tr : Nat → Int) (vr : Nat → Int) (gr : Nat → Int) (ao no mo : Nat) (to : Nat → Bool) (v : Int) => (N7 ar nr mr tr vr gr ao no mo to v) (true)) x.1.1.1 x.1.1.2.1 x.1.1.2.2.1 x.1.1.2.2.2.1 x.1.1.2.2.2.2.1 x.1.1.2.2.2.2.2.1 x.1.2.1.1 x.1.2.1.2.1 x.1.2.1.2.2.1 x.1.2.1.2.2.2.1 x.2.1, fun _ _ => .dead⟩
theorem s7 (ar nr mr : Nat) (tr : Nat → Int) (vr : Nat → Int) (gr : Nat → Int) (ao no mo : Nat) (to : Nat → Bool) (v : Int) (hp : ar + nr ≤ mr ∧ ao + no ≤ mo) : Goes ((q7 ar nr mr tr vr gr ao no mo to v)) ((p7 ar nr mr tr vr gr ao no mo to v)) (true) := by
  obtain ⟨hp1, hp2⟩ := hp
  unfold p7
  by_cases h1 : (nr : Int) ≤ 45
  case neg => exact goes_no (decide_eq_false h1) rfl
  refine goes_ok (decide_eq_true h1) ?_
  by_cases h2 : (no : Int) ≤ 50
  case neg => exact goes_no (decide_eq_false h2) rfl
  refine goes_ok (decide_eq_true h2) ?_
  have hb := env_in (u := (fun j => tr (j + ar))) (d := (fun j => vr (j + ar))) (w := (fun j => gr (j + ar))) (n := nr) (no := no) (o := (fun j => to (j + ao))) (v := v)
  by_cases hv : S.magE nr (fun j => tr (j + ar)) (fun j => vr (j + ar)) (fun j => gr (j + ar)) no = 0
  · obtain ⟨v1, v2, v3, v4⟩ := mag_ok hv
    obtain ⟨hb1, hb2⟩ := hb hv
    by_cases hx : -1099511627776 ≤ v ∧ v ≤ 1099511627776
    · rw [hist1_yes (hist_one_ok hv hx), show S.envS nr (fun j => tr (j + ar)) (fun j => vr (j + ar)) (fun j => gr (j + ar)) no v = (S.fldN (fun j => gr (j + ar)) (fun j => decide (v ≥ tr (j + ar))) nr, S.fldN (fun j => gr (j + ar)) (fun j => decide (v > vr (j + ar))) nr, 0) by unfold S.envS; rw [if_pos hv, if_pos hx]]
      simp only [field_cl]
      rw [show S.fieldS nr (fun j => tr (j + ar)) (fun j => vr (j + ar)) (fun j => gr (j + ar)) no (fun j => S.aft (tr (j + ar)) (vr (j + ar)) (to (j + ao)) v) = (S.fldN (fun j => gr (j + ar)) (fun j => S.aft (tr (j + ar)) (vr (j + ar)) (to (j + ao)) v) nr, 0) by unfold S.fieldS; rw [if_pos hv]]
      generalize S.fldN (fun j => gr (j + ar)) (fun j => decide (v ≥ tr (j + ar))) nr = A at *
      generalize S.fldN (fun j => gr (j + ar)) (fun j => decide (v > vr (j + ar))) nr = B at *
      generalize S.fldN (fun j => gr (j + ar)) (fun j => S.aft (tr (j + ar)) (vr (j + ar)) (to (j + ao)) v) nr = D at *
      repeat' first
        | with_reducible exact goes_inr.mpr rfl
        | (refine goes_ok ?_ ?_; first | with_reducible exact beq_self_eq_true _ | with_reducible exact decide_eq_true trivial | with_reducible exact decide_eq_true rfl | (simp only [eq_self, decide_true, Bool.and_self, Bool.and_true, Bool.true_and]; done) | (apply decide_eq_true; omega) | (rw [lim64]; apply decide_eq_true; omega) | (apply decide_eq_true; simp only [mkl_len, mkl_zero, List.length_nil, true_and, and_true, and_self, Nat.zero_add, Nat.add_zero, Nat.le_refl]; done) | (apply decide_eq_true; simp only [mkl_len, mkl_zero, List.length_nil, true_and, and_true, and_self, Nat.zero_add, Nat.add_zero, Nat.le_refl]; omega) | (simp only [Bool.and_eq_true, decide_eq_true_eq, and_self, eq_self]; done) | decide)
        | (refine goes_no ?_ ?_; first | with_reducible exact bne_self_eq_false _ | (apply decide_eq_false; omega) | decide)

    · rw [show S.envS nr (fun j => tr (j + ar)) (fun j => vr (j + ar)) (fun j => gr (j + ar)) no v = (0, 0, 6) by unfold S.envS; rw [if_pos hv, if_neg hx]]
      repeat' first
        | with_reducible exact goes_inr.mpr rfl
        | (refine goes_ok ?_ ?_; first | with_reducible exact beq_self_eq_true _ | with_reducible exact decide_eq_true trivial | with_reducible exact decide_eq_true rfl | (simp only [eq_self, decide_true, Bool.and_self, Bool.and_true, Bool.true_and]; done) | (apply decide_eq_true; omega) | (rw [lim64]; apply decide_eq_true; omega) | (apply decide_eq_true; simp only [mkl_len, mkl_zero, List.length_nil, true_and, and_true, and_self, Nat.zero_add, Nat.add_zero, Nat.le_refl]; done) | (apply decide_eq_true; simp only [mkl_len, mkl_zero, List.length_nil, true_and, and_true, and_self, Nat.zero_add, Nat.add_zero, Nat.le_refl]; omega) | (simp only [Bool.and_eq_true, decide_eq_true_eq, and_self, eq_self]; done) | decide)
        | (refine goes_no ?_ ?_; first | with_reducible exact bne_self_eq_false _ | (apply decide_eq_false; omega) | decide)

  · rw [show S.envS nr (fun j => tr (j + ar)) (fun j => vr (j + ar)) (fun j => gr (j + ar)) no v = (0, 0, S.magE nr (fun j => tr (j + ar)) (fun j => vr (j + ar)) (fun j => gr (j + ar)) no) by unfold S.envS; rw [if_neg hv]]
    generalize S.magE nr (fun j => tr (j + ar)) (fun j => vr (j + ar)) (fun j => gr (j + ar)) no = e at hv ⊢
    have he : (e != 0) = true := by simpa using hv
    refine goes_ok (by apply decide_eq_true; omega) (goes_ok (by apply decide_eq_true; omega) (goes_ok (by apply decide_eq_true; omega) (goes_ok (by apply decide_eq_true; omega) ?_)))
    refine goes_no (bne_self_eq_false _) (goes_no (bne_self_eq_false _) (goes_no (bne_self_eq_false _) (goes_ok he ?_)))
    repeat' first
      | with_reducible exact goes_inr.mpr rfl
      | (refine goes_ok ?_ ?_; first | with_reducible exact beq_self_eq_true _ | with_reducible exact decide_eq_true trivial | with_reducible exact decide_eq_true rfl | (simp only [eq_self, decide_true, Bool.and_self, Bool.and_true, Bool.true_and]; done) | (apply decide_eq_true; omega) | (rw [lim64]; apply decide_eq_true; omega) | (apply decide_eq_true; simp only [mkl_len, mkl_zero, List.length_nil, true_and, and_true, and_self, Nat.zero_add, Nat.add_zero, Nat.le_refl]; done) | (apply decide_eq_true; simp only [mkl_len, mkl_zero, List.length_nil, true_and, and_true, and_self, Nat.zero_add, Nat.add_zero, Nat.le_refl]; omega) | (simp only [Bool.and_eq_true, decide_eq_true_eq, and_self, eq_self]; done) | decide)
      | (refine goes_no ?_ ?_; first | with_reducible exact bne_self_eq_false _ | (apply decide_eq_false; omega) | decide)


theorem k7_ok : k7.ok Try.prog := by
  intro x hx
  obtain ⟨⟨⟨ar, nr, mr, tr, vr, gr, _⟩, ⟨ao, no, mo, to, _⟩, _⟩, v, _⟩ := x
  obtain ⟨h1, h2⟩ := a7 ar nr mr tr vr gr ao no mo to v (s7 ar nr mr tr vr gr ao no mo to v (of_decide_eq_true hx))
  exact ⟨⟨400, (by decide : 2 + 1 + 0 ≤ 400), h1⟩, h2⟩


end Go.Ev
