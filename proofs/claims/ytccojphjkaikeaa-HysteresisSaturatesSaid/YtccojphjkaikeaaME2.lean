/-
  The law of Saturates.
-/
import Derived.Test.YtccojphjkaikeaaME1a
import Derived.Test.YtccojphjkaikeaaMA6
import Derived.Test.YtccojphjkaikeaaML4
import Derived.Test.YtccojphjkaikeaaMB6
namespace Go.Ev
open Go.Proofs
set_option linter.unusedVariables false
set_option linter.unusedSimpArgs false
set_option maxRecDepth 100000
noncomputable def yE2 (test : Bool → Prop → Prop → Prop) : Ext := consX test [k12, k30, k19, k14, k36]
theorem yE2_ok : ExtOk Try.prog (yE2 cond) := consX_ok (l := [k12, k30, k19, k14, k36]) ⟨k12_ok, k30_ok, k19_ok, k14_ok, k36_ok, trivial⟩
abbrev St11 := Empty
abbrev Rt11 := Bool
noncomputable def V11 (ap np mp : Nat) (tp : Nat → Int) (vp : Nat → Int) (o : Int) (r : Rt11) : PV := PV.bool r
noncomputable def N11 (ap np mp : Nat) (tp : Nat → Int) (vp : Nat → Int) (o : Int) (r : Rt11) : List Blk := []
noncomputable def I11 (ap np mp : Nat) (tp : Nat → Int) (vp : Nat → Int) (o : Int) : St11 → Hd := fun s => s.elim
noncomputable def q11 (ap np mp : Nat) (tp : Nat → Int) (vp : Nat → Int) (o : Int) : St11 → Option (St11 ⊕ Rt11) := fun s => s.elim
noncomputable def p11 (ap np mp : Nat) (tp : Nat → Int) (vp : Nat → Int) (o : Int) : Option (St11 ⊕ Rt11) := bif (decide
 (ap + np ≤ mp ∧
 (S.bytes np fun (j : Nat) => tp (j + ap)) = true ∧
 (S.bytes np fun (j : Nat) => vp (j + ap)) = true))
 then (bif (decide
 (0 +
 List.length
 (S.mkl (S.mdN np) fun (j : Nat) =>
 S.mdR np (fun (j : Nat) => tp (j + ap)) (fun (j : Nat) => vp (j + ap)) j) ≤
 List.length
 (S.mkl (S.mdN np) fun (j : Nat) =>
 S.mdR np (fun (j : Nat) => tp (j + ap)) (fun (j : Nat) => vp (j + ap)) j) ∧
 List.length
 (S.mkl (S.mdN np) fun (j : Nat) =>
 S.mdR np (fun (j : Nat) => tp (j + ap)) (fun (j : Nat) => vp (j + ap)) j) ≤
 1000000 ∧
 0 + List.length (S.mkl (S.mdN np) fun (j : Nat) => S.mdB o j) ≤
 List.length (S.mkl (S.mdN np) fun (j : Nat) => S.mdB o j) ∧
 List.length (S.mkl (S.mdN np) fun (j : Nat) => S.mdB o j) ≤ 1000000))
 then (bif (Prod.snd
 (Prod.snd
 (S.satS
 (List.length
 (S.mkl (S.mdN np) fun (j : Nat) =>
 S.mdR np (fun (j : Nat) => tp (j + ap)) (fun (j : Nat) => vp (j + ap)) j))
 (fun (j : Nat) =>
 Prod.fst
 (S.at'
 (S.mkl (S.mdN np) fun (j : Nat) =>
 S.mdR np (fun (j : Nat) => tp (j + ap)) (fun (j : Nat) => vp (j + ap)) j)
 j))
 (fun (j : Nat) =>
 Prod.fst
 (Prod.snd
 (S.at'
 (S.mkl (S.mdN np) fun (j : Nat) =>
 S.mdR np (fun (j : Nat) => tp (j + ap)) (fun (j : Nat) => vp (j + ap)) j)
 j)))
 (fun (j : Nat) =>
 Prod.snd
 (Prod.snd
 (S.at'
 (S.mkl (S.mdN np) fun (j : Nat) =>
 S.mdR np (fun (j : Nat) => tp (j + ap)) (fun (j : Nat) => vp (j + ap)) j)
 j)))
 (List.length (S.mkl (S.mdN np) fun (j : Nat) => S.mdB o j)))) ==
 (0 : Int))
 then (bif (Prod.fst
 (S.histS
 (List.length
 (S.mkl (S.mdN np) fun (j : Nat) =>
 S.mdR np (fun (j : Nat) => tp (j + ap)) (fun (j : Nat) => vp (j + ap)) j))
 (fun (j : Nat) =>
 Prod.fst
 (S.at'
 (S.mkl (S.mdN np) fun (j : Nat) =>
 S.mdR np (fun (j : Nat) => tp (j + ap)) (fun (j : Nat) => vp (j + ap)) j)
 j))
 (fun (j : Nat) =>
 Prod.fst
 (Prod.snd
 (S.at'
 (S.mkl (S.mdN np) fun (j : Nat) =>
 S.mdR np (fun (j : Nat) => tp (j + ap)) (fun (j : Nat) => vp (j + ap)) j)
 j)))
 (fun (j : Nat) =>
 Prod.snd
 (Prod.snd
 (S.at'
 (S.mkl (S.mdN np) fun (j : Nat) =>
 S.mdR np (fun (j : Nat) => tp (j + ap)) (fun (j : Nat) => vp (j + ap)) j)
 j)))
 (List.length (S.mkl (S.mdN np) fun (j : Nat) => S.mdB o j))
 (fun (j : Nat) => S.at' (S.mkl (S.mdN np) fun (j : Nat) => S.mdB o j) j) (1)
 fun (j : Nat) =>
 S.lit
 [Prod.fst
 (S.satS
 (List.length
 (S.mkl (S.mdN np) fun (j : Nat) =>
 S.mdR np (fun (j : Nat) => tp (j + ap)) (fun (j : Nat) => vp (j + ap)) j))
 (fun (j : Nat) =>
 Prod.fst
 (S.at'
 (S.mkl (S.mdN np) fun (j : Nat) =>
 S.mdR np (fun (j : Nat) => tp (j + ap)) (fun (j : Nat) => vp (j + ap)) j)
 j))
 (fun (j : Nat) =>
 Prod.fst
 (Prod.snd
 (S.at'
 (S.mkl (S.mdN np) fun (j : Nat) =>
 S.mdR np (fun (j : Nat) => tp (j + ap)) (fun (j : Nat) => vp (j + ap)) j)
 j)))
 (fun (j : Nat) =>
 Prod.snd
 (Prod.snd
 (S.at'
 (S.mkl (S.mdN np) fun (j : Nat) =>
 S.mdR np (fun (j : Nat) => tp (j + ap)) (fun (j : Nat) => vp (j + ap)) j)
 j)))
 (List.length (S.mkl (S.mdN np) fun (j : Nat) => S.mdB o j)))]
 (0 : Int) j) ==
 (0 : Int))
 then (bif (Prod.fst
 (S.histS
 (List.length
 (S.mkl (S.mdN np) fun (j : Nat) =>
 S.mdR np (fun (j : Nat) => tp (j + ap)) (fun (j : Nat) => vp (j + ap)) j))
 (fun (j : Nat) =>
 Prod.fst
 (S.at'
 (S.mkl (S.mdN np) fun (j : Nat) =>
 S.mdR np (fun (j : Nat) => tp (j + ap)) (fun (j : Nat) => vp (j + ap)) j)
 j))
 (fun (j : Nat) =>
 Prod.fst
 (Prod.snd
 (S.at'
 (S.mkl (S.mdN np) fun (j : Nat) =>
 S.mdR np (fun (j : Nat) => tp (j + ap)) (fun (j : Nat) => vp (j + ap)) j)
 j)))
 (fun (j : Nat) =>
 Prod.snd
 (Prod.snd
 (S.at'
 (S.mkl (S.mdN np) fun (j : Nat) =>
 S.mdR np (fun (j : Nat) => tp (j + ap)) (fun (j : Nat) => vp (j + ap)) j)
 j)))
 (List.length (S.mkl (S.mdN np) fun (j : Nat) => S.mdB o j))
 (fun (j : Nat) => S.at' (S.mkl (S.mdN np) fun (j : Nat) => S.mdB o j) j) (1)
 fun (j : Nat) =>
 S.lit
 [Prod.fst
 (Prod.snd
 (S.satS
 (List.length
 (S.mkl (S.mdN np) fun (j : Nat) =>
 S.mdR np (fun (j : Nat) => tp (j + ap)) (fun (j : Nat) => vp (j + ap)) j))
 (fun (j : Nat) =>
 Prod.fst
 (S.at'
 (S.mkl (S.mdN np) fun (j : Nat) =>
 S.mdR np (fun (j : Nat) => tp (j + ap)) (fun (j : Nat) => vp (j + ap)) j)
 j))
 (fun (j : Nat) =>
 Prod.fst
 (Prod.snd
 (S.at'
 (S.mkl (S.mdN np) fun (j : Nat) =>
 S.mdR np (fun (j : Nat) => tp (j + ap)) (fun (j : Nat) => vp (j + ap)) j)
 j)))
 (fun (j : Nat) =>
 Prod.snd
 (Prod.snd
 (S.at'
 (S.mkl (S.mdN np) fun (j : Nat) =>
 S.mdR np (fun (j : Nat) => tp (j + ap)) (fun (j : Nat) => vp (j + ap)) j)
 j)))
 (List.length (S.mkl (S.mdN np) fun (j : Nat) => S.mdB o j))))]
 (0 : Int) j) ==
 (0 : Int))
 then (bif ((↑(List.length
 (Prod.snd
 (Prod.snd
 (S.histS
 (List.length
 (S.mkl (S.mdN np) fun (j : Nat) =>
 S.mdR np (fun (j : Nat) => tp (j + ap)) (fun (j : Nat) => vp (j + ap)) j))
 (fun (j : Nat) =>
 Prod.fst
 (S.at'
 (S.mkl (S.mdN np) fun (j : Nat) =>
 S.mdR np (fun (j : Nat) => tp (j + ap)) (fun (j : Nat) => vp (j + ap)) j)
 j))
 (fun (j : Nat) =>
 Prod.fst
 (Prod.snd
 (S.at'
 (S.mkl (S.mdN np) fun (j : Nat) =>
 S.mdR np (fun (j : Nat) => tp (j + ap)) (fun (j : Nat) => vp (j + ap)) j)
 j)))
 (fun (j : Nat) =>
 Prod.snd
 (Prod.snd
 (S.at'
 (S.mkl (S.mdN np) fun (j : Nat) =>
 S.mdR np (fun (j : Nat) => tp (j + ap)) (fun (j : Nat) => vp (j + ap)) j)
 j)))
 (List.length (S.mkl (S.mdN np) fun (j : Nat) => S.mdB o j))
 (fun (j : Nat) => S.at' (S.mkl (S.mdN np) fun (j : Nat) => S.mdB o j) j)
 (1) fun (j : Nat) =>
 S.lit
 [Prod.fst
 (S.satS
 (List.length
 (S.mkl (S.mdN np) fun (j : Nat) =>
 S.mdR np (fun (j : Nat) => tp (j + ap)) (fun (j : Nat) => vp (j + ap)) j))
 (fun (j : Nat) =>
 Prod.fst
 (S.at'
 (S.mkl (S.mdN np) fun (j : Nat) =>
 S.mdR np (fun (j : Nat) => tp (j + ap)) (fun (j : Nat) => vp (j + ap)) j)
 j))
 (fun (j : Nat) =>
 Prod.fst
 (Prod.snd
 (S.at'
 (S.mkl (S.mdN np) fun (j : Nat) =>
 S.mdR np (fun (j : Nat) => tp (j + ap)) (fun (j : Nat) => vp (j + ap)) j)
 j)))
 (fun (j : Nat) =>
 Prod.snd
 (Prod.snd
 (S.at'
 (S.mkl (S.mdN np) fun (j : Nat) =>
 S.mdR np (fun (j : Nat) => tp (j + ap)) (fun (j : Nat) => vp (j + ap)) j)
 j)))
 (List.length (S.mkl (S.mdN np) fun (j : Nat) => S.mdB o j)))]
 (0 : Int) j)))) :
 Int) ==
 (↑(List.length (S.mkl (S.mdN np) fun (j : Nat) => S.mdB o j)) : Int))
 then (bif ((↑(List.length
 (Prod.snd
 (Prod.snd
 (S.histS
 (List.length
 (S.mkl (S.mdN np) fun (j : Nat) =>
 S.mdR np (fun (j : Nat) => tp (j + ap)) (fun (j : Nat) => vp (j + ap)) j))
 (fun (j : Nat) =>
 Prod.fst
 (S.at'
 (S.mkl (S.mdN np) fun (j : Nat) =>
 S.mdR np (fun (j : Nat) => tp (j + ap)) (fun (j : Nat) => vp (j + ap)) j)
 j))
 (fun (j : Nat) =>
 Prod.fst
 (Prod.snd
 (S.at'
 (S.mkl (S.mdN np) fun (j : Nat) =>
 S.mdR np (fun (j : Nat) => tp (j + ap)) (fun (j : Nat) => vp (j + ap)) j)
 j)))
 (fun (j : Nat) =>
 Prod.snd
 (Prod.snd
 (S.at'
 (S.mkl (S.mdN np) fun (j : Nat) =>
 S.mdR np (fun (j : Nat) => tp (j + ap)) (fun (j : Nat) => vp (j + ap)) j)
 j)))
 (List.length (S.mkl (S.mdN np) fun (j : Nat) => S.mdB o j))
 (fun (j : Nat) => S.at' (S.mkl (S.mdN np) fun (j : Nat) => S.mdB o j) j)
 (1) fun (j : Nat) =>
 S.lit
 [Prod.fst
 (Prod.snd
 (S.satS
 (List.length
 (S.mkl (S.mdN np) fun (j : Nat) =>
 S.mdR np (fun (j : Nat) => tp (j + ap)) (fun (j : Nat) => vp (j + ap)) j))
 (fun (j : Nat) =>
 Prod.fst
 (S.at'
 (S.mkl (S.mdN np) fun (j : Nat) =>
 S.mdR np (fun (j : Nat) => tp (j + ap)) (fun (j : Nat) => vp (j + ap)) j)
 j))
 (fun (j : Nat) =>
 Prod.fst
 (Prod.snd
 (S.at'
 (S.mkl (S.mdN np) fun (j : Nat) =>
 S.mdR np (fun (j : Nat) => tp (j + ap)) (fun (j : Nat) => vp (j + ap)) j)
 j)))
 (fun (j : Nat) =>
 Prod.snd
 (Prod.snd
 (S.at'
 (S.mkl (S.mdN np) fun (j : Nat) =>
 S.mdR np (fun (j : Nat) => tp (j + ap)) (fun (j : Nat) => vp (j + ap)) j)
 j)))
 (List.length (S.mkl (S.mdN np) fun (j : Nat) => S.mdB o j))))]
 (0 : Int) j)))) :
 Int) ==
 (↑(List.length (S.mkl (S.mdN np) fun (j : Nat) => S.mdB o j)) : Int))
 then (bif (decide
 (0 +
 List.length
 (Prod.snd
 (Prod.snd
 (S.histS
 (List.length
 (S.mkl (S.mdN np) fun (j : Nat) =>
 S.mdR np (fun (j : Nat) => tp (j + ap)) (fun (j : Nat) => vp (j + ap)) j))
 (fun (j : Nat) =>
 Prod.fst
 (S.at'
 (S.mkl (S.mdN np) fun (j : Nat) =>
 S.mdR np (fun (j : Nat) => tp (j + ap)) (fun (j : Nat) => vp (j + ap)) j)
 j))
 (fun (j : Nat) =>
 Prod.fst
 (Prod.snd
 (S.at'
 (S.mkl (S.mdN np) fun (j : Nat) =>
 S.mdR np (fun (j : Nat) => tp (j + ap)) (fun (j : Nat) => vp (j + ap)) j)
 j)))
 (fun (j : Nat) =>
 Prod.snd
 (Prod.snd
 (S.at'
 (S.mkl (S.mdN np) fun (j : Nat) =>
 S.mdR np (fun (j : Nat) => tp (j + ap)) (fun (j : Nat) => vp (j + ap)) j)
 j)))
 (List.length (S.mkl (S.mdN np) fun (j : Nat) => S.mdB o j))
 (fun (j : Nat) => S.at' (S.mkl (S.mdN np) fun (j : Nat) => S.mdB o j) j)
 (1) fun (j : Nat) =>
 S.lit
 [Prod.fst
 (S.satS
 (List.length
 (S.mkl (S.mdN np) fun (j : Nat) =>
 S.mdR np (fun (j : Nat) => tp (j + ap)) (fun (j : Nat) => vp (j + ap)) j))
 (fun (j : Nat) =>
 Prod.fst
 (S.at'
 (S.mkl (S.mdN np) fun (j : Nat) =>
 S.mdR np (fun (j : Nat) => tp (j + ap)) (fun (j : Nat) => vp (j + ap)) j)
 j))
 (fun (j : Nat) =>
 Prod.fst
 (Prod.snd
 (S.at'
 (S.mkl (S.mdN np) fun (j : Nat) =>
 S.mdR np (fun (j : Nat) => tp (j + ap)) (fun (j : Nat) => vp (j + ap)) j)
 j)))
 (fun (j : Nat) =>
 Prod.snd
 (Prod.snd
 (S.at'
 (S.mkl (S.mdN np) fun (j : Nat) =>
 S.mdR np (fun (j : Nat) => tp (j + ap)) (fun (j : Nat) => vp (j + ap)) j)
 j)))
 (List.length (S.mkl (S.mdN np) fun (j : Nat) => S.mdB o j)))]
 (0 : Int) j))) ≤
 List.length
 (Prod.snd
 (Prod.snd
 (S.histS
 (List.length
 (S.mkl (S.mdN np) fun (j : Nat) =>
 S.mdR np (fun (j : Nat) => tp (j + ap)) (fun (j : Nat) => vp (j + ap)) j))
 (fun (j : Nat) =>
 Prod.fst
 (S.at'
 (S.mkl (S.mdN np) fun (j : Nat) =>
 S.mdR np (fun (j : Nat) => tp (j + ap)) (fun (j : Nat) => vp (j + ap)) j)
 j))
 (fun (j : Nat) =>
 Prod.fst
 (Prod.snd
 (S.at'
 (S.mkl (S.mdN np) fun (j : Nat) =>
 S.mdR np (fun (j : Nat) => tp (j + ap)) (fun (j : Nat) => vp (j + ap)) j)
 j)))
 (fun (j : Nat) =>
 Prod.snd
 (Prod.snd
 (S.at'
 (S.mkl (S.mdN np) fun (j : Nat) =>
 S.mdR np (fun (j : Nat) => tp (j + ap)) (fun (j : Nat) => vp (j + ap)) j)
 j)))
 (List.length (S.mkl (S.mdN np) fun (j : Nat) => S.mdB o j))
 (fun (j : Nat) => S.at' (S.mkl (S.mdN np) fun (j : Nat) => S.mdB o j) j)
 (1) fun (j : Nat) =>
 S.lit
 [Prod.fst
 (S.satS
 (List.length
 (S.mkl (S.mdN np) fun (j : Nat) =>
 S.mdR np (fun (j : Nat) => tp (j + ap)) (fun (j : Nat) => vp (j + ap)) j))
 (fun (j : Nat) =>
 Prod.fst
 (S.at'
 (S.mkl (S.mdN np) fun (j : Nat) =>
 S.mdR np (fun (j : Nat) => tp (j + ap)) (fun (j : Nat) => vp (j + ap)) j)
 j))
 (fun (j : Nat) =>
 Prod.fst
 (Prod.snd
 (S.at'
 (S.mkl (S.mdN np) fun (j : Nat) =>
 S.mdR np (fun (j : Nat) => tp (j + ap)) (fun (j : Nat) => vp (j + ap)) j)
 j)))
 (fun (j : Nat) =>
 Prod.snd
 (Prod.snd
 (S.at'
 (S.mkl (S.mdN np) fun (j : Nat) =>
 S.mdR np (fun (j : Nat) => tp (j + ap)) (fun (j : Nat) => vp (j + ap)) j)
 j)))
 (List.length (S.mkl (S.mdN np) fun (j : Nat) => S.mdB o j)))]
 (0 : Int) j))) ∧
 List.length
 (Prod.snd
 (Prod.snd
 (S.histS
 (List.length
 (S.mkl (S.mdN np) fun (j : Nat) =>
 S.mdR np (fun (j : Nat) => tp (j + ap)) (fun (j : Nat) => vp (j + ap)) j))
 (fun (j : Nat) =>
 Prod.fst
 (S.at'
 (S.mkl (S.mdN np) fun (j : Nat) =>
 S.mdR np (fun (j : Nat) => tp (j + ap)) (fun (j : Nat) => vp (j + ap)) j)
 j))
 (fun (j : Nat) =>
 Prod.fst
 (Prod.snd
 (S.at'
 (S.mkl (S.mdN np) fun (j : Nat) =>
 S.mdR np (fun (j : Nat) => tp (j + ap)) (fun (j : Nat) => vp (j + ap)) j)
 j)))
 (fun (j : Nat) =>
 Prod.snd
 (Prod.snd
 (S.at'
 (S.mkl (S.mdN np) fun (j : Nat) =>
 S.mdR np (fun (j : Nat) => tp (j + ap)) (fun (j : Nat) => vp (j + ap)) j)
 j)))
 (List.length (S.mkl (S.mdN np) fun (j : Nat) => S.mdB o j))
 (fun (j : Nat) => S.at' (S.mkl (S.mdN np) fun (j : Nat) => S.mdB o j) j)
 (1) fun (j : Nat) =>
 S.lit
 [Prod.fst
 (S.satS
 (List.length
 (S.mkl (S.mdN np) fun (j : Nat) =>
 S.mdR np (fun (j : Nat) => tp (j + ap)) (fun (j : Nat) => vp (j + ap)) j))
 (fun (j : Nat) =>
 Prod.fst
 (S.at'
 (S.mkl (S.mdN np) fun (j : Nat) =>
 S.mdR np (fun (j : Nat) => tp (j + ap)) (fun (j : Nat) => vp (j + ap)) j)
 j))
 (fun (j : Nat) =>
 Prod.fst
 (Prod.snd
 (S.at'
 (S.mkl (S.mdN np) fun (j : Nat) =>
 S.mdR np (fun (j : Nat) => tp (j + ap)) (fun (j : Nat) => vp (j + ap)) j)
 j)))
 (fun (j : Nat) =>
 Prod.snd
 (Prod.snd
 (S.at'
 (S.mkl (S.mdN np) fun (j : Nat) =>
 S.mdR np (fun (j : Nat) => tp (j + ap)) (fun (j : Nat) => vp (j + ap)) j)
 j)))
 (List.length (S.mkl (S.mdN np) fun (j : Nat) => S.mdB o j)))]
 (0 : Int) j))) ≤
 1000000))
 then (bif (S.any
 (fun (j : Nat) =>
 decide
 (S.at'
 (Prod.snd
 (Prod.snd
 (S.histS
 (List.length
 (S.mkl (S.mdN np) fun (j : Nat) =>
 S.mdR np (fun (j : Nat) => tp (j + ap)) (fun (j : Nat) => vp (j + ap)) j))
 (fun (j : Nat) =>
 Prod.fst
 (S.at'
 (S.mkl (S.mdN np) fun (j : Nat) =>
 S.mdR np (fun (j : Nat) => tp (j + ap)) (fun (j : Nat) => vp (j + ap)) j)
 j))
 (fun (j : Nat) =>
 Prod.fst
 (Prod.snd
 (S.at'
 (S.mkl (S.mdN np) fun (j : Nat) =>
 S.mdR np (fun (j : Nat) => tp (j + ap)) (fun (j : Nat) => vp (j + ap)) j)
 j)))
 (fun (j : Nat) =>
 Prod.snd
 (Prod.snd
 (S.at'
 (S.mkl (S.mdN np) fun (j : Nat) =>
 S.mdR np (fun (j : Nat) => tp (j + ap)) (fun (j : Nat) => vp (j + ap)) j)
 j)))
 (List.length (S.mkl (S.mdN np) fun (j : Nat) => S.mdB o j))
 (fun (j : Nat) => S.at' (S.mkl (S.mdN np) fun (j : Nat) => S.mdB o j) j)
 (1) fun (j : Nat) =>
 S.lit
 [Prod.fst
 (S.satS
 (List.length
 (S.mkl (S.mdN np) fun (j : Nat) =>
 S.mdR np (fun (j : Nat) => tp (j + ap)) (fun (j : Nat) => vp (j + ap)) j))
 (fun (j : Nat) =>
 Prod.fst
 (S.at'
 (S.mkl (S.mdN np) fun (j : Nat) =>
 S.mdR np (fun (j : Nat) => tp (j + ap)) (fun (j : Nat) => vp (j + ap)) j)
 j))
 (fun (j : Nat) =>
 Prod.fst
 (Prod.snd
 (S.at'
 (S.mkl (S.mdN np) fun (j : Nat) =>
 S.mdR np (fun (j : Nat) => tp (j + ap)) (fun (j : Nat) => vp (j + ap)) j)
 j)))
 (fun (j : Nat) =>
 Prod.snd
 (Prod.snd
 (S.at'
 (S.mkl (S.mdN np) fun (j : Nat) =>
 S.mdR np (fun (j : Nat) => tp (j + ap)) (fun (j : Nat) => vp (j + ap)) j)
 j)))
 (List.length (S.mkl (S.mdN np) fun (j : Nat) => S.mdB o j)))]
 (0 : Int) j)))
 j =
 true))
 (List.length
 (Prod.snd
 (Prod.snd
 (S.histS
 (List.length
 (S.mkl (S.mdN np) fun (j : Nat) =>
 S.mdR np (fun (j : Nat) => tp (j + ap)) (fun (j : Nat) => vp (j + ap)) j))
 (fun (j : Nat) =>
 Prod.fst
 (S.at'
 (S.mkl (S.mdN np) fun (j : Nat) =>
 S.mdR np (fun (j : Nat) => tp (j + ap)) (fun (j : Nat) => vp (j + ap)) j)
 j))
 (fun (j : Nat) =>
 Prod.fst
 (Prod.snd
 (S.at'
 (S.mkl (S.mdN np) fun (j : Nat) =>
 S.mdR np (fun (j : Nat) => tp (j + ap)) (fun (j : Nat) => vp (j + ap)) j)
 j)))
 (fun (j : Nat) =>
 Prod.snd
 (Prod.snd
 (S.at'
 (S.mkl (S.mdN np) fun (j : Nat) =>
 S.mdR np (fun (j : Nat) => tp (j + ap)) (fun (j : Nat) => vp (j + ap)) j)
 j)))
 (List.length (S.mkl (S.mdN np) fun (j : Nat) => S.mdB o j))
 (fun (j : Nat) => S.at' (S.mkl (S.mdN np) fun (j : Nat) => S.mdB o j) j) (1)
 fun (j : Nat) =>
 S.lit
 [Prod.fst
 (S.satS
 (List.length
 (S.mkl (S.mdN np) fun (j : Nat) =>
 S.mdR np (fun (j : Nat) => tp (j + ap)) (fun (j : Nat) => vp (j + ap)) j))
 (fun (j : Nat) =>
 Prod.fst
 (S.at'
 (S.mkl (S.mdN np) fun (j : Nat) =>
 S.mdR np (fun (j : Nat) => tp (j + ap)) (fun (j : Nat) => vp (j + ap)) j)
 j))
 (fun (j : Nat) =>
 Prod.fst
 (Prod.snd
 (S.at'
 (S.mkl (S.mdN np) fun (j : Nat) =>
 S.mdR np (fun (j : Nat) => tp (j + ap)) (fun (j : Nat) => vp (j + ap)) j)
 j)))
 (fun (j : Nat) =>
 Prod.snd
 (Prod.snd
 (S.at'
 (S.mkl (S.mdN np) fun (j : Nat) =>
 S.mdR np (fun (j : Nat) => tp (j + ap)) (fun (j : Nat) => vp (j + ap)) j)
 j)))
 (List.length (S.mkl (S.mdN np) fun (j : Nat) => S.mdB o j)))]
 (0 : Int) j)))))
 then (some (.inr (false)))
 else (bif (decide
 (0 +
 List.length
 (Prod.snd
 (Prod.snd
 (S.histS
 (List.length
 (S.mkl (S.mdN np) fun (j : Nat) =>
 S.mdR np (fun (j : Nat) => tp (j + ap)) (fun (j : Nat) => vp (j + ap)) j))
 (fun (j : Nat) =>
 Prod.fst
 (S.at'
 (S.mkl (S.mdN np) fun (j : Nat) =>
 S.mdR np (fun (j : Nat) => tp (j + ap)) (fun (j : Nat) => vp (j + ap)) j)
 j))
 (fun (j : Nat) =>
 Prod.fst
 (Prod.snd
 (S.at'
 (S.mkl (S.mdN np) fun (j : Nat) =>
 S.mdR np (fun (j : Nat) => tp (j + ap)) (fun (j : Nat) => vp (j + ap)) j)
 j)))
 (fun (j : Nat) =>
 Prod.snd
 (Prod.snd
 (S.at'
 (S.mkl (S.mdN np) fun (j : Nat) =>
 S.mdR np (fun (j : Nat) => tp (j + ap)) (fun (j : Nat) => vp (j + ap)) j)
 j)))
 (List.length (S.mkl (S.mdN np) fun (j : Nat) => S.mdB o j))
 (fun (j : Nat) => S.at' (S.mkl (S.mdN np) fun (j : Nat) => S.mdB o j) j)
 (1) fun (j : Nat) =>
 S.lit
 [Prod.fst
 (Prod.snd
 (S.satS
 (List.length
 (S.mkl (S.mdN np) fun (j : Nat) =>
 S.mdR np (fun (j : Nat) => tp (j + ap)) (fun (j : Nat) => vp (j + ap)) j))
 (fun (j : Nat) =>
 Prod.fst
 (S.at'
 (S.mkl (S.mdN np) fun (j : Nat) =>
 S.mdR np (fun (j : Nat) => tp (j + ap)) (fun (j : Nat) => vp (j + ap)) j)
 j))
 (fun (j : Nat) =>
 Prod.fst
 (Prod.snd
 (S.at'
 (S.mkl (S.mdN np) fun (j : Nat) =>
 S.mdR np (fun (j : Nat) => tp (j + ap)) (fun (j : Nat) => vp (j + ap)) j)
 j)))
 (fun (j : Nat) =>
 Prod.snd
 (Prod.snd
 (S.at'
 (S.mkl (S.mdN np) fun (j : Nat) =>
 S.mdR np (fun (j : Nat) => tp (j + ap)) (fun (j : Nat) => vp (j + ap)) j)
 j)))
 (List.length (S.mkl (S.mdN np) fun (j : Nat) => S.mdB o j))))]
 (0 : Int) j))) ≤
 List.length
 (Prod.snd
 (Prod.snd
 (S.histS
 (List.length
 (S.mkl (S.mdN np) fun (j : Nat) =>
 S.mdR np (fun (j : Nat) => tp (j + ap)) (fun (j : Nat) => vp (j + ap)) j))
 (fun (j : Nat) =>
 Prod.fst
 (S.at'
 (S.mkl (S.mdN np) fun (j : Nat) =>
 S.mdR np (fun (j : Nat) => tp (j + ap)) (fun (j : Nat) => vp (j + ap)) j)
 j))
 (fun (j : Nat) =>
 Prod.fst
 (Prod.snd
 (S.at'
 (S.mkl (S.mdN np) fun (j : Nat) =>
 S.mdR np (fun (j : Nat) => tp (j + ap)) (fun (j : Nat) => vp (j + ap)) j)
 j)))
 (fun (j : Nat) =>
 Prod.snd
 (Prod.snd
 (S.at'
 (S.mkl (S.mdN np) fun (j : Nat) =>
 S.mdR np (fun (j : Nat) => tp (j + ap)) (fun (j : Nat) => vp (j + ap)) j)
 j)))
 (List.length (S.mkl (S.mdN np) fun (j : Nat) => S.mdB o j))
 (fun (j : Nat) => S.at' (S.mkl (S.mdN np) fun (j : Nat) => S.mdB o j) j)
 (1) fun (j : Nat) =>
 S.lit
 [Prod.fst
 (Prod.snd
 (S.satS
 (List.length
 (S.mkl (S.mdN np) fun (j : Nat) =>
 S.mdR np (fun (j : Nat) => tp (j + ap)) (fun (j : Nat) => vp (j + ap)) j))
 (fun (j : Nat) =>
 Prod.fst
 (S.at'
 (S.mkl (S.mdN np) fun (j : Nat) =>
 S.mdR np (fun (j : Nat) => tp (j + ap)) (fun (j : Nat) => vp (j + ap)) j)
 j))
 (fun (j : Nat) =>
 Prod.fst
 (Prod.snd
 (S.at'
 (S.mkl (S.mdN np) fun (j : Nat) =>
 S.mdR np (fun (j : Nat) => tp (j + ap)) (fun (j : Nat) => vp (j + ap)) j)
 j)))
 (fun (j : Nat) =>
 Prod.snd
 (Prod.snd
 (S.at'
 (S.mkl (S.mdN np) fun (j : Nat) =>
 S.mdR np (fun (j : Nat) => tp (j + ap)) (fun (j : Nat) => vp (j + ap)) j)
 j)))
 (List.length (S.mkl (S.mdN np) fun (j : Nat) => S.mdB o j))))]
 (0 : Int) j))) ∧
 List.length
 (Prod.snd
 (Prod.snd
 (S.histS
 (List.length
 (S.mkl (S.mdN np) fun (j : Nat) =>
 S.mdR np (fun (j : Nat) => tp (j + ap)) (fun (j : Nat) => vp (j + ap)) j))
 (fun (j : Nat) =>
 Prod.fst
 (S.at'
 (S.mkl (S.mdN np) fun (j : Nat) =>
 S.mdR np (fun (j : Nat) => tp (j + ap)) (fun (j : Nat) => vp (j + ap)) j)
 j))
 (fun (j : Nat) =>
 Prod.fst
 (Prod.snd
 (S.at'
 (S.mkl (S.mdN np) fun (j : Nat) =>
 S.mdR np (fun (j : Nat) => tp (j + ap)) (fun (j : Nat) => vp (j + ap)) j)
 j)))
 (fun (j : Nat) =>
 Prod.snd
 (Prod.snd
 (S.at'
 (S.mkl (S.mdN np) fun (j : Nat) =>
 S.mdR np (fun (j : Nat) => tp (j + ap)) (fun (j : Nat) => vp (j + ap)) j)
 j)))
 (List.length (S.mkl (S.mdN np) fun (j : Nat) => S.mdB o j))
 (fun (j : Nat) => S.at' (S.mkl (S.mdN np) fun (j : Nat) => S.mdB o j) j)
 (1) fun (j : Nat) =>
 S.lit
 [Prod.fst
 (Prod.snd
 (S.satS
 (List.length
 (S.mkl (S.mdN np) fun (j : Nat) =>
 S.mdR np (fun (j : Nat) => tp (j + ap)) (fun (j : Nat) => vp (j + ap)) j))
 (fun (j : Nat) =>
 Prod.fst
 (S.at'
 (S.mkl (S.mdN np) fun (j : Nat) =>
 S.mdR np (fun (j : Nat) => tp (j + ap)) (fun (j : Nat) => vp (j + ap)) j)
 j))
 (fun (j : Nat) =>
 Prod.fst
 (Prod.snd
 (S.at'
 (S.mkl (S.mdN np) fun (j : Nat) =>
 S.mdR np (fun (j : Nat) => tp (j + ap)) (fun (j : Nat) => vp (j + ap)) j)
 j)))
 (fun (j : Nat) =>
 Prod.snd
 (Prod.snd
 (S.at'
 (S.mkl (S.mdN np) fun (j : Nat) =>
 S.mdR np (fun (j : Nat) => tp (j + ap)) (fun (j : Nat) => vp (j + ap)) j)
 j)))
 (List.length (S.mkl (S.mdN np) fun (j : Nat) => S.mdB o j))))]
 (0 : Int) j))) ≤
 1000000))
 then (bif (S.any
 (fun (j : Nat) =>
 decide
 (S.at'
 (Prod.snd
 (Prod.snd
 (S.histS
 (List.length
 (S.mkl (S.mdN np) fun (j : Nat) =>
 S.mdR np (fun (j : Nat) => tp (j + ap)) (fun (j : Nat) => vp (j + ap)) j))
 (fun (j : Nat) =>
 Prod.fst
 (S.at'
 (S.mkl (S.mdN np) fun (j : Nat) =>
 S.mdR np (fun (j : Nat) => tp (j + ap)) (fun (j : Nat) => vp (j + ap)) j)
 j))
 (fun (j : Nat) =>
 Prod.fst
 (Prod.snd
 (S.at'
 (S.mkl (S.mdN np) fun (j : Nat) =>
 S.mdR np (fun (j : Nat) => tp (j + ap)) (fun (j : Nat) => vp (j + ap)) j)
 j)))
 (fun (j : Nat) =>
 Prod.snd
 (Prod.snd
 (S.at'
 (S.mkl (S.mdN np) fun (j : Nat) =>
 S.mdR np (fun (j : Nat) => tp (j + ap)) (fun (j : Nat) => vp (j + ap)) j)
 j)))
 (List.length (S.mkl (S.mdN np) fun (j : Nat) => S.mdB o j))
 (fun (j : Nat) => S.at' (S.mkl (S.mdN np) fun (j : Nat) => S.mdB o j) j)
 (1) fun (j : Nat) =>
 S.lit
 [Prod.fst
 (Prod.snd
 (S.satS
 (List.length
 (S.mkl (S.mdN np) fun (j : Nat) =>
 S.mdR np (fun (j : Nat) => tp (j + ap)) (fun (j : Nat) => vp (j + ap)) j))
 (fun (j : Nat) =>
 Prod.fst
 (S.at'
 (S.mkl (S.mdN np) fun (j : Nat) =>
 S.mdR np (fun (j : Nat) => tp (j + ap)) (fun (j : Nat) => vp (j + ap)) j)
 j))
 (fun (j : Nat) =>
 Prod.fst
 (Prod.snd
 (S.at'
 (S.mkl (S.mdN np) fun (j : Nat) =>
 S.mdR np (fun (j : Nat) => tp (j + ap)) (fun (j : Nat) => vp (j + ap)) j)
 j)))
 (fun (j : Nat) =>
 Prod.snd
 (Prod.snd
 (S.at'
 (S.mkl (S.mdN np) fun (j : Nat) =>
 S.mdR np (fun (j : Nat) => tp (j + ap)) (fun (j : Nat) => vp (j + ap)) j)
 j)))
 (List.length (S.mkl (S.mdN np) fun (j : Nat) => S.mdB o j))))]
 (0 : Int) j)))
 j =
 false))
 (List.length
 (Prod.snd
 (Prod.snd
 (S.histS
 (List.length
 (S.mkl (S.mdN np) fun (j : Nat) =>
 S.mdR np (fun (j : Nat) => tp (j + ap)) (fun (j : Nat) => vp (j + ap)) j))
 (fun (j : Nat) =>
 Prod.fst
 (S.at'
 (S.mkl (S.mdN np) fun (j : Nat) =>
 S.mdR np (fun (j : Nat) => tp (j + ap)) (fun (j : Nat) => vp (j + ap)) j)
 j))
 (fun (j : Nat) =>
 Prod.fst
 (Prod.snd
 (S.at'
 (S.mkl (S.mdN np) fun (j : Nat) =>
 S.mdR np (fun (j : Nat) => tp (j + ap)) (fun (j : Nat) => vp (j + ap)) j)
 j)))
 (fun (j : Nat) =>
 Prod.snd
 (Prod.snd
 (S.at'
 (S.mkl (S.mdN np) fun (j : Nat) =>
 S.mdR np (fun (j : Nat) => tp (j + ap)) (fun (j : Nat) => vp (j + ap)) j)
 j)))
 (List.length (S.mkl (S.mdN np) fun (j : Nat) => S.mdB o j))
 (fun (j : Nat) => S.at' (S.mkl (S.mdN np) fun (j : Nat) => S.mdB o j) j) (1)
 fun (j : Nat) =>
 S.lit
 [Prod.fst
 (Prod.snd
 (S.satS
 (List.length
 (S.mkl (S.mdN np) fun (j : Nat) =>
 S.mdR np (fun (j : Nat) => tp (j + ap)) (fun (j : Nat) => vp (j + ap)) j))
 (fun (j : Nat) =>
 Prod.fst
 (S.at'
 (S.mkl (S.mdN np) fun (j : Nat) =>
 S.mdR np (fun (j : Nat) => tp (j + ap)) (fun (j : Nat) => vp (j + ap)) j)
 j))
 (fun (j : Nat) =>
 Prod.fst
 (Prod.snd
 (S.at'
 (S.mkl (S.mdN np) fun (j : Nat) =>
 S.mdR np (fun (j : Nat) => tp (j + ap)) (fun (j : Nat) => vp (j + ap)) j)
 j)))
 (fun (j : Nat) =>
 Prod.snd
 (Prod.snd
 (S.at'
 (S.mkl (S.mdN np) fun (j : Nat) =>
 S.mdR np (fun (j : Nat) => tp (j + ap)) (fun (j : Nat) => vp (j + ap)) j)
 j)))
 (List.length (S.mkl (S.mdN np) fun (j : Nat) => S.mdB o j))))]
 (0 : Int) j)))))
 then (some (.inr (false)))
 else (some (.inr (true))))
 else (none)))
 else (none))
 else (some (.inr (false))))
 else (some (.inr (false))))
 else (some (.inr (false))))
 else (some (.inr (false))))
 else (some (.inr (false))))
 else (none))
 else (none)
noncomputable def Te11 (test : Bool → Prop → Prop → Prop) (Kst : KS) (Kret : KR) (ap np mp : Nat) (tp : Nat → Int) (vp : Nat → Int) (o : Int) : Prop :=
  test (true)
 (test (true)
 (test (decide
 (ap + np ≤ mp ∧
 (S.bytes np fun (j : Nat) => tp (j + ap)) = true ∧
 (S.bytes np fun (j : Nat) => vp (j + ap)) = true))
 (test (decide
 (0 +
 List.length
 (S.mkl (S.mdN np) fun (j : Nat) =>
 S.mdR np (fun (j : Nat) => tp (j + ap)) (fun (j : Nat) => vp (j + ap)) j) ≤
 List.length
 (S.mkl (S.mdN np) fun (j : Nat) =>
 S.mdR np (fun (j : Nat) => tp (j + ap)) (fun (j : Nat) => vp (j + ap)) j) ∧
 List.length
 (S.mkl (S.mdN np) fun (j : Nat) =>
 S.mdR np (fun (j : Nat) => tp (j + ap)) (fun (j : Nat) => vp (j + ap)) j) ≤
 1000000 ∧
 0 + List.length (S.mkl (S.mdN np) fun (j : Nat) => S.mdB o j) ≤
 List.length (S.mkl (S.mdN np) fun (j : Nat) => S.mdB o j) ∧
 List.length (S.mkl (S.mdN np) fun (j : Nat) => S.mdB o j) ≤ 1000000))
 (test (decide
 (0 +
 List.length
 (S.mkl (S.mdN np) fun (j : Nat) =>
 S.mdR np (fun (j : Nat) => tp (j + ap)) (fun (j : Nat) => vp (j + ap)) j) ≤
 List.length
 (S.mkl (S.mdN np) fun (j : Nat) =>
 S.mdR np (fun (j : Nat) => tp (j + ap)) (fun (j : Nat) => vp (j + ap)) j) ∧
 List.length
 (S.mkl (S.mdN np) fun (j : Nat) =>
 S.mdR np (fun (j : Nat) => tp (j + ap)) (fun (j : Nat) => vp (j + ap)) j) ≤
 1000000 ∧
 0 + List.length (S.mkl (S.mdN np) fun (j : Nat) => S.mdB o j) ≤
 List.length (S.mkl (S.mdN np) fun (j : Nat) => S.mdB o j) ∧
 List.length (S.mkl (S.mdN np) fun (j : Nat) => S.mdB o j) ≤ 1000000))
 (test (decide
 (0 +
 List.length
 (S.mkl (S.mdN np) fun (j : Nat) =>
 S.mdR np (fun (j : Nat) => tp (j + ap)) (fun (j : Nat) => vp (j + ap)) j) ≤
 List.length
 (S.mkl (S.mdN np) fun (j : Nat) =>
 S.mdR np (fun (j : Nat) => tp (j + ap)) (fun (j : Nat) => vp (j + ap)) j) ∧
 List.length
 (S.mkl (S.mdN np) fun (j : Nat) =>
 S.mdR np (fun (j : Nat) => tp (j + ap)) (fun (j : Nat) => vp (j + ap)) j) ≤
 1000000 ∧
 0 + List.length (S.mkl (S.mdN np) fun (j : Nat) => S.mdB o j) ≤
 List.length (S.mkl (S.mdN np) fun (j : Nat) => S.mdB o j) ∧
 List.length (S.mkl (S.mdN np) fun (j : Nat) => S.mdB o j) ≤ 1000000))
 (test (Prod.snd
 (Prod.snd
 (S.satS
 (List.length
 (S.mkl (S.mdN np) fun (j : Nat) =>
 S.mdR np (fun (j : Nat) => tp (j + ap)) (fun (j : Nat) => vp (j + ap)) j))
 (fun (j : Nat) =>
 Prod.fst
 (S.at'
 (S.mkl (S.mdN np) fun (j : Nat) =>
 S.mdR np (fun (j : Nat) => tp (j + ap)) (fun (j : Nat) => vp (j + ap)) j)
 j))
 (fun (j : Nat) =>
 Prod.fst
 (Prod.snd
 (S.at'
 (S.mkl (S.mdN np) fun (j : Nat) =>
 S.mdR np (fun (j : Nat) => tp (j + ap)) (fun (j : Nat) => vp (j + ap)) j)
 j)))
 (fun (j : Nat) =>
 Prod.snd
 (Prod.snd
 (S.at'
 (S.mkl (S.mdN np) fun (j : Nat) =>
 S.mdR np (fun (j : Nat) => tp (j + ap)) (fun (j : Nat) => vp (j + ap)) j)
 j)))
 (List.length (S.mkl (S.mdN np) fun (j : Nat) => S.mdB o j)))) ==
 (0 : Int))
 (test (Prod.fst
 (S.histS
 (List.length
 (S.mkl (S.mdN np) fun (j : Nat) =>
 S.mdR np (fun (j : Nat) => tp (j + ap)) (fun (j : Nat) => vp (j + ap)) j))
 (fun (j : Nat) =>
 Prod.fst
 (S.at'
 (S.mkl (S.mdN np) fun (j : Nat) =>
 S.mdR np (fun (j : Nat) => tp (j + ap)) (fun (j : Nat) => vp (j + ap)) j)
 j))
 (fun (j : Nat) =>
 Prod.fst
 (Prod.snd
 (S.at'
 (S.mkl (S.mdN np) fun (j : Nat) =>
 S.mdR np (fun (j : Nat) => tp (j + ap)) (fun (j : Nat) => vp (j + ap)) j)
 j)))
 (fun (j : Nat) =>
 Prod.snd
 (Prod.snd
 (S.at'
 (S.mkl (S.mdN np) fun (j : Nat) =>
 S.mdR np (fun (j : Nat) => tp (j + ap)) (fun (j : Nat) => vp (j + ap)) j)
 j)))
 (List.length (S.mkl (S.mdN np) fun (j : Nat) => S.mdB o j))
 (fun (j : Nat) => S.at' (S.mkl (S.mdN np) fun (j : Nat) => S.mdB o j) j) (1)
 fun (j : Nat) =>
 S.lit
 [Prod.fst
 (S.satS
 (List.length
 (S.mkl (S.mdN np) fun (j : Nat) =>
 S.mdR np (fun (j : Nat) => tp (j + ap)) (fun (j : Nat) => vp (j + ap)) j))
 (fun (j : Nat) =>
 Prod.fst
 (S.at'
 (S.mkl (S.mdN np) fun (j : Nat) =>
 S.mdR np (fun (j : Nat) => tp (j + ap)) (fun (j : Nat) => vp (j + ap)) j)
 j))
 (fun (j : Nat) =>
 Prod.fst
 (Prod.snd
 (S.at'
 (S.mkl (S.mdN np) fun (j : Nat) =>
 S.mdR np (fun (j : Nat) => tp (j + ap)) (fun (j : Nat) => vp (j + ap)) j)
 j)))
 (fun (j : Nat) =>
 Prod.snd
 (Prod.snd
 (S.at'
 (S.mkl (S.mdN np) fun (j : Nat) =>
 S.mdR np (fun (j : Nat) => tp (j + ap)) (fun (j : Nat) => vp (j + ap)) j)
 j)))
 (List.length (S.mkl (S.mdN np) fun (j : Nat) => S.mdB o j)))]
 (0 : Int) j) ==
 (0 : Int))
 (test (Prod.fst
 (S.histS
 (List.length
 (S.mkl (S.mdN np) fun (j : Nat) =>
 S.mdR np (fun (j : Nat) => tp (j + ap)) (fun (j : Nat) => vp (j + ap)) j))
 (fun (j : Nat) =>
 Prod.fst
 (S.at'
 (S.mkl (S.mdN np) fun (j : Nat) =>
 S.mdR np (fun (j : Nat) => tp (j + ap)) (fun (j : Nat) => vp (j + ap)) j)
 j))
 (fun (j : Nat) =>
 Prod.fst
 (Prod.snd
 (S.at'
 (S.mkl (S.mdN np) fun (j : Nat) =>
 S.mdR np (fun (j : Nat) => tp (j + ap)) (fun (j : Nat) => vp (j + ap)) j)
 j)))
 (fun (j : Nat) =>
 Prod.snd
 (Prod.snd
 (S.at'
 (S.mkl (S.mdN np) fun (j : Nat) =>
 S.mdR np (fun (j : Nat) => tp (j + ap)) (fun (j : Nat) => vp (j + ap)) j)
 j)))
 (List.length (S.mkl (S.mdN np) fun (j : Nat) => S.mdB o j))
 (fun (j : Nat) => S.at' (S.mkl (S.mdN np) fun (j : Nat) => S.mdB o j) j) (1)
 fun (j : Nat) =>
 S.lit
 [Prod.fst
 (Prod.snd
 (S.satS
 (List.length
 (S.mkl (S.mdN np) fun (j : Nat) =>
 S.mdR np (fun (j : Nat) => tp (j + ap)) (fun (j : Nat) => vp (j + ap)) j))
 (fun (j : Nat) =>
 Prod.fst
 (S.at'
 (S.mkl (S.mdN np) fun (j : Nat) =>
 S.mdR np (fun (j : Nat) => tp (j + ap)) (fun (j : Nat) => vp (j + ap)) j)
 j))
 (fun (j : Nat) =>
 Prod.fst
 (Prod.snd
 (S.at'
 (S.mkl (S.mdN np) fun (j : Nat) =>
 S.mdR np (fun (j : Nat) => tp (j + ap)) (fun (j : Nat) => vp (j + ap)) j)
 j)))
 (fun (j : Nat) =>
 Prod.snd
 (Prod.snd
 (S.at'
 (S.mkl (S.mdN np) fun (j : Nat) =>
 S.mdR np (fun (j : Nat) => tp (j + ap)) (fun (j : Nat) => vp (j + ap)) j)
 j)))
 (List.length (S.mkl (S.mdN np) fun (j : Nat) => S.mdB o j))))]
 (0 : Int) j) ==
 (0 : Int))
 (test ((↑(List.length
 (Prod.snd
 (Prod.snd
 (S.histS
 (List.length
 (S.mkl (S.mdN np) fun (j : Nat) =>
 S.mdR np (fun (j : Nat) => tp (j + ap)) (fun (j : Nat) => vp (j + ap)) j))
 (fun (j : Nat) =>
 Prod.fst
 (S.at'
 (S.mkl (S.mdN np) fun (j : Nat) =>
 S.mdR np (fun (j : Nat) => tp (j + ap)) (fun (j : Nat) => vp (j + ap)) j)
 j))
 (fun (j : Nat) =>
 Prod.fst
 (Prod.snd
 (S.at'
 (S.mkl (S.mdN np) fun (j : Nat) =>
 S.mdR np (fun (j : Nat) => tp (j + ap)) (fun (j : Nat) => vp (j + ap)) j)
 j)))
 (fun (j : Nat) =>
 Prod.snd
 (Prod.snd
 (S.at'
 (S.mkl (S.mdN np) fun (j : Nat) =>
 S.mdR np (fun (j : Nat) => tp (j + ap)) (fun (j : Nat) => vp (j + ap)) j)
 j)))
 (List.length (S.mkl (S.mdN np) fun (j : Nat) => S.mdB o j))
 (fun (j : Nat) => S.at' (S.mkl (S.mdN np) fun (j : Nat) => S.mdB o j) j)
 (1) fun (j : Nat) =>
 S.lit
 [Prod.fst
 (S.satS
 (List.length
 (S.mkl (S.mdN np) fun (j : Nat) =>
 S.mdR np (fun (j : Nat) => tp (j + ap)) (fun (j : Nat) => vp (j + ap)) j))
 (fun (j : Nat) =>
 Prod.fst
 (S.at'
 (S.mkl (S.mdN np) fun (j : Nat) =>
 S.mdR np (fun (j : Nat) => tp (j + ap)) (fun (j : Nat) => vp (j + ap)) j)
 j))
 (fun (j : Nat) =>
 Prod.fst
 (Prod.snd
 (S.at'
 (S.mkl (S.mdN np) fun (j : Nat) =>
 S.mdR np (fun (j : Nat) => tp (j + ap)) (fun (j : Nat) => vp (j + ap)) j)
 j)))
 (fun (j : Nat) =>
 Prod.snd
 (Prod.snd
 (S.at'
 (S.mkl (S.mdN np) fun (j : Nat) =>
 S.mdR np (fun (j : Nat) => tp (j + ap)) (fun (j : Nat) => vp (j + ap)) j)
 j)))
 (List.length (S.mkl (S.mdN np) fun (j : Nat) => S.mdB o j)))]
 (0 : Int) j)))) :
 Int) ==
 (↑(List.length (S.mkl (S.mdN np) fun (j : Nat) => S.mdB o j)) : Int))
 (test ((↑(List.length
 (Prod.snd
 (Prod.snd
 (S.histS
 (List.length
 (S.mkl (S.mdN np) fun (j : Nat) =>
 S.mdR np (fun (j : Nat) => tp (j + ap)) (fun (j : Nat) => vp (j + ap)) j))
 (fun (j : Nat) =>
 Prod.fst
 (S.at'
 (S.mkl (S.mdN np) fun (j : Nat) =>
 S.mdR np (fun (j : Nat) => tp (j + ap)) (fun (j : Nat) => vp (j + ap)) j)
 j))
 (fun (j : Nat) =>
 Prod.fst
 (Prod.snd
 (S.at'
 (S.mkl (S.mdN np) fun (j : Nat) =>
 S.mdR np (fun (j : Nat) => tp (j + ap)) (fun (j : Nat) => vp (j + ap)) j)
 j)))
 (fun (j : Nat) =>
 Prod.snd
 (Prod.snd
 (S.at'
 (S.mkl (S.mdN np) fun (j : Nat) =>
 S.mdR np (fun (j : Nat) => tp (j + ap)) (fun (j : Nat) => vp (j + ap)) j)
 j)))
 (List.length (S.mkl (S.mdN np) fun (j : Nat) => S.mdB o j))
 (fun (j : Nat) => S.at' (S.mkl (S.mdN np) fun (j : Nat) => S.mdB o j) j)
 (1) fun (j : Nat) =>
 S.lit
 [Prod.fst
 (Prod.snd
 (S.satS
 (List.length
 (S.mkl (S.mdN np) fun (j : Nat) =>
 S.mdR np (fun (j : Nat) => tp (j + ap)) (fun (j : Nat) => vp (j + ap)) j))
 (fun (j : Nat) =>
 Prod.fst
 (S.at'
 (S.mkl (S.mdN np) fun (j : Nat) =>
 S.mdR np (fun (j : Nat) => tp (j + ap)) (fun (j : Nat) => vp (j + ap)) j)
 j))
 (fun (j : Nat) =>
 Prod.fst
 (Prod.snd
 (S.at'
 (S.mkl (S.mdN np) fun (j : Nat) =>
 S.mdR np (fun (j : Nat) => tp (j + ap)) (fun (j : Nat) => vp (j + ap)) j)
 j)))
 (fun (j : Nat) =>
 Prod.snd
 (Prod.snd
 (S.at'
 (S.mkl (S.mdN np) fun (j : Nat) =>
 S.mdR np (fun (j : Nat) => tp (j + ap)) (fun (j : Nat) => vp (j + ap)) j)
 j)))
 (List.length (S.mkl (S.mdN np) fun (j : Nat) => S.mdB o j))))]
 (0 : Int) j)))) :
 Int) ==
 (↑(List.length (S.mkl (S.mdN np) fun (j : Nat) => S.mdB o j)) : Int))
 (test (decide
 (0 +
 List.length
 (Prod.snd
 (Prod.snd
 (S.histS
 (List.length
 (S.mkl (S.mdN np) fun (j : Nat) =>
 S.mdR np (fun (j : Nat) => tp (j + ap)) (fun (j : Nat) => vp (j + ap)) j))
 (fun (j : Nat) =>
 Prod.fst
 (S.at'
 (S.mkl (S.mdN np) fun (j : Nat) =>
 S.mdR np (fun (j : Nat) => tp (j + ap)) (fun (j : Nat) => vp (j + ap)) j)
 j))
 (fun (j : Nat) =>
 Prod.fst
 (Prod.snd
 (S.at'
 (S.mkl (S.mdN np) fun (j : Nat) =>
 S.mdR np (fun (j : Nat) => tp (j + ap)) (fun (j : Nat) => vp (j + ap)) j)
 j)))
 (fun (j : Nat) =>
 Prod.snd
 (Prod.snd
 (S.at'
 (S.mkl (S.mdN np) fun (j : Nat) =>
 S.mdR np (fun (j : Nat) => tp (j + ap)) (fun (j : Nat) => vp (j + ap)) j)
 j)))
 (List.length (S.mkl (S.mdN np) fun (j : Nat) => S.mdB o j))
 (fun (j : Nat) => S.at' (S.mkl (S.mdN np) fun (j : Nat) => S.mdB o j) j)
 (1) fun (j : Nat) =>
 S.lit
 [Prod.fst
 (S.satS
 (List.length
 (S.mkl (S.mdN np) fun (j : Nat) =>
 S.mdR np (fun (j : Nat) => tp (j + ap)) (fun (j : Nat) => vp (j + ap)) j))
 (fun (j : Nat) =>
 Prod.fst
 (S.at'
 (S.mkl (S.mdN np) fun (j : Nat) =>
 S.mdR np (fun (j : Nat) => tp (j + ap)) (fun (j : Nat) => vp (j + ap)) j)
 j))
 (fun (j : Nat) =>
 Prod.fst
 (Prod.snd
 (S.at'
 (S.mkl (S.mdN np) fun (j : Nat) =>
 S.mdR np (fun (j : Nat) => tp (j + ap)) (fun (j : Nat) => vp (j + ap)) j)
 j)))
 (fun (j : Nat) =>
 Prod.snd
 (Prod.snd
 (S.at'
 (S.mkl (S.mdN np) fun (j : Nat) =>
 S.mdR np (fun (j : Nat) => tp (j + ap)) (fun (j : Nat) => vp (j + ap)) j)
 j)))
 (List.length (S.mkl (S.mdN np) fun (j : Nat) => S.mdB o j)))]
 (0 : Int) j))) ≤
 List.length
 (Prod.snd
 (Prod.snd
 (S.histS
 (List.length
 (S.mkl (S.mdN np) fun (j : Nat) =>
 S.mdR np (fun (j : Nat) => tp (j + ap)) (fun (j : Nat) => vp (j + ap)) j))
 (fun (j : Nat) =>
 Prod.fst
 (S.at'
 (S.mkl (S.mdN np) fun (j : Nat) =>
 S.mdR np (fun (j : Nat) => tp (j + ap)) (fun (j : Nat) => vp (j + ap)) j)
 j))
 (fun (j : Nat) =>
 Prod.fst
 (Prod.snd
 (S.at'
 (S.mkl (S.mdN np) fun (j : Nat) =>
 S.mdR np (fun (j : Nat) => tp (j + ap)) (fun (j : Nat) => vp (j + ap)) j)
 j)))
 (fun (j : Nat) =>
 Prod.snd
 (Prod.snd
 (S.at'
 (S.mkl (S.mdN np) fun (j : Nat) =>
 S.mdR np (fun (j : Nat) => tp (j + ap)) (fun (j : Nat) => vp (j + ap)) j)
 j)))
 (List.length (S.mkl (S.mdN np) fun (j : Nat) => S.mdB o j))
 (fun (j : Nat) => S.at' (S.mkl (S.mdN np) fun (j : Nat) => S.mdB o j) j)
 (1) fun (j : Nat) =>
 S.lit
 [Prod.fst
 (S.satS
 (List.length
 (S.mkl (S.mdN np) fun (j : Nat) =>
 S.mdR np (fun (j : Nat) => tp (j + ap)) (fun (j : Nat) => vp (j + ap)) j))
 (fun (j : Nat) =>
 Prod.fst
 (S.at'
 (S.mkl (S.mdN np) fun (j : Nat) =>
 S.mdR np (fun (j : Nat) => tp (j + ap)) (fun (j : Nat) => vp (j + ap)) j)
 j))
 (fun (j : Nat) =>
 Prod.fst
 (Prod.snd
 (S.at'
 (S.mkl (S.mdN np) fun (j : Nat) =>
 S.mdR np (fun (j : Nat) => tp (j + ap)) (fun (j : Nat) => vp (j + ap)) j)
 j)))
 (fun (j : Nat) =>
 Prod.snd
 (Prod.snd
 (S.at'
 (S.mkl (S.mdN np) fun (j : Nat) =>
 S.mdR np (fun (j : Nat) => tp (j + ap)) (fun (j : Nat) => vp (j + ap)) j)
 j)))
 (List.length (S.mkl (S.mdN np) fun (j : Nat) => S.mdB o j)))]
 (0 : Int) j))) ∧
 List.length
 (Prod.snd
 (Prod.snd
 (S.histS
 (List.length
 (S.mkl (S.mdN np) fun (j : Nat) =>
 S.mdR np (fun (j : Nat) => tp (j + ap)) (fun (j : Nat) => vp (j + ap)) j))
 (fun (j : Nat) =>
 Prod.fst
 (S.at'
 (S.mkl (S.mdN np) fun (j : Nat) =>
 S.mdR np (fun (j : Nat) => tp (j + ap)) (fun (j : Nat) => vp (j + ap)) j)
 j))
 (fun (j : Nat) =>
 Prod.fst
 (Prod.snd
 (S.at'
 (S.mkl (S.mdN np) fun (j : Nat) =>
 S.mdR np (fun (j : Nat) => tp (j + ap)) (fun (j : Nat) => vp (j + ap)) j)
 j)))
 (fun (j : Nat) =>
 Prod.snd
 (Prod.snd
 (S.at'
 (S.mkl (S.mdN np) fun (j : Nat) =>
 S.mdR np (fun (j : Nat) => tp (j + ap)) (fun (j : Nat) => vp (j + ap)) j)
 j)))
 (List.length (S.mkl (S.mdN np) fun (j : Nat) => S.mdB o j))
 (fun (j : Nat) => S.at' (S.mkl (S.mdN np) fun (j : Nat) => S.mdB o j) j)
 (1) fun (j : Nat) =>
 S.lit
 [Prod.fst
 (S.satS
 (List.length
 (S.mkl (S.mdN np) fun (j : Nat) =>
 S.mdR np (fun (j : Nat) => tp (j + ap)) (fun (j : Nat) => vp (j + ap)) j))
 (fun (j : Nat) =>
 Prod.fst
 (S.at'
 (S.mkl (S.mdN np) fun (j : Nat) =>
 S.mdR np (fun (j : Nat) => tp (j + ap)) (fun (j : Nat) => vp (j + ap)) j)
 j))
 (fun (j : Nat) =>
 Prod.fst
 (Prod.snd
 (S.at'
 (S.mkl (S.mdN np) fun (j : Nat) =>
 S.mdR np (fun (j : Nat) => tp (j + ap)) (fun (j : Nat) => vp (j + ap)) j)
 j)))
 (fun (j : Nat) =>
 Prod.snd
 (Prod.snd
 (S.at'
 (S.mkl (S.mdN np) fun (j : Nat) =>
 S.mdR np (fun (j : Nat) => tp (j + ap)) (fun (j : Nat) => vp (j + ap)) j)
 j)))
 (List.length (S.mkl (S.mdN np) fun (j : Nat) => S.mdB o j)))]
 (0 : Int) j))) ≤
 1000000))
 (test (S.any
 (fun (j : Nat) =>
 decide
 (S.at'
 (Prod.snd
 (Prod.snd
 (S.histS
 (List.length
 (S.mkl (S.mdN np) fun (j : Nat) =>
 S.mdR np (fun (j : Nat) => tp (j + ap)) (fun (j : Nat) => vp (j + ap)) j))
 (fun (j : Nat) =>
 Prod.fst
 (S.at'
 (S.mkl (S.mdN np) fun (j : Nat) =>
 S.mdR np (fun (j : Nat) => tp (j + ap)) (fun (j : Nat) => vp (j + ap)) j)
 j))
 (fun (j : Nat) =>
 Prod.fst
 (Prod.snd
 (S.at'
 (S.mkl (S.mdN np) fun (j : Nat) =>
 S.mdR np (fun (j : Nat) => tp (j + ap)) (fun (j : Nat) => vp (j + ap)) j)
 j)))
 (fun (j : Nat) =>
 Prod.snd
 (Prod.snd
 (S.at'
 (S.mkl (S.mdN np) fun (j : Nat) =>
 S.mdR np (fun (j : Nat) => tp (j + ap)) (fun (j : Nat) => vp (j + ap)) j)
 j)))
 (List.length (S.mkl (S.mdN np) fun (j : Nat) => S.mdB o j))
 (fun (j : Nat) => S.at' (S.mkl (S.mdN np) fun (j : Nat) => S.mdB o j) j)
 (1) fun (j : Nat) =>
 S.lit
 [Prod.fst
 (S.satS
 (List.length
 (S.mkl (S.mdN np) fun (j : Nat) =>
 S.mdR np (fun (j : Nat) => tp (j + ap)) (fun (j : Nat) => vp (j + ap)) j))
 (fun (j : Nat) =>
 Prod.fst
 (S.at'
 (S.mkl (S.mdN np) fun (j : Nat) =>
 S.mdR np (fun (j : Nat) => tp (j + ap)) (fun (j : Nat) => vp (j + ap)) j)
 j))
 (fun (j : Nat) =>
 Prod.fst
 (Prod.snd
 (S.at'
 (S.mkl (S.mdN np) fun (j : Nat) =>
 S.mdR np (fun (j : Nat) => tp (j + ap)) (fun (j : Nat) => vp (j + ap)) j)
 j)))
 (fun (j : Nat) =>
 Prod.snd
 (Prod.snd
 (S.at'
 (S.mkl (S.mdN np) fun (j : Nat) =>
 S.mdR np (fun (j : Nat) => tp (j + ap)) (fun (j : Nat) => vp (j + ap)) j)
 j)))
 (List.length (S.mkl (S.mdN np) fun (j : Nat) => S.mdB o j)))]
 (0 : Int) j)))
 j =
 true))
 (List.length
 (Prod.snd
 (Prod.snd
 (S.histS
 (List.length
 (S.mkl (S.mdN np) fun (j : Nat) =>
 S.mdR np (fun (j : Nat) => tp (j + ap)) (fun (j : Nat) => vp (j + ap)) j))
 (fun (j : Nat) =>
 Prod.fst
 (S.at'
 (S.mkl (S.mdN np) fun (j : Nat) =>
 S.mdR np (fun (j : Nat) => tp (j + ap)) (fun (j : Nat) => vp (j + ap)) j)
 j))
 (fun (j : Nat) =>
 Prod.fst
 (Prod.snd
 (S.at'
 (S.mkl (S.mdN np) fun (j : Nat) =>
 S.mdR np (fun (j : Nat) => tp (j + ap)) (fun (j : Nat) => vp (j + ap)) j)
 j)))
 (fun (j : Nat) =>
 Prod.snd
 (Prod.snd
 (S.at'
 (S.mkl (S.mdN np) fun (j : Nat) =>
 S.mdR np (fun (j : Nat) => tp (j + ap)) (fun (j : Nat) => vp (j + ap)) j)
 j)))
 (List.length (S.mkl (S.mdN np) fun (j : Nat) => S.mdB o j))
 (fun (j : Nat) => S.at' (S.mkl (S.mdN np) fun (j : Nat) => S.mdB o j) j) (1)
 fun (j : Nat) =>
 S.lit
 [Prod.fst
 (S.satS
 (List.length
 (S.mkl (S.mdN np) fun (j : Nat) =>
 S.mdR np (fun (j : Nat) => tp (j + ap)) (fun (j : Nat) => vp (j + ap)) j))
 (fun (j : Nat) =>
 Prod.fst
 (S.at'
 (S.mkl (S.mdN np) fun (j : Nat) =>
 S.mdR np (fun (j : Nat) => tp (j + ap)) (fun (j : Nat) => vp (j + ap)) j)
 j))
 (fun (j : Nat) =>
 Prod.fst
 (Prod.snd
 (S.at'
 (S.mkl (S.mdN np) fun (j : Nat) =>
 S.mdR np (fun (j : Nat) => tp (j + ap)) (fun (j : Nat) => vp (j + ap)) j)
 j)))
 (fun (j : Nat) =>
 Prod.snd
 (Prod.snd
 (S.at'
 (S.mkl (S.mdN np) fun (j : Nat) =>
 S.mdR np (fun (j : Nat) => tp (j + ap)) (fun (j : Nat) => vp (j + ap)) j)
 j)))
 (List.length (S.mkl (S.mdN np) fun (j : Nat) => S.mdB o j)))]
 (0 : Int) j)))))
 (Kret (PV.tf false) ([[(0, false, Blk.cols mp [Col.int IntKind.u8 tp, Col.int IntKind.u8 vp])]]) (17))
 (test (decide
 (0 +
 List.length
 (Prod.snd
 (Prod.snd
 (S.histS
 (List.length
 (S.mkl (S.mdN np) fun (j : Nat) =>
 S.mdR np (fun (j : Nat) => tp (j + ap)) (fun (j : Nat) => vp (j + ap)) j))
 (fun (j : Nat) =>
 Prod.fst
 (S.at'
 (S.mkl (S.mdN np) fun (j : Nat) =>
 S.mdR np (fun (j : Nat) => tp (j + ap)) (fun (j : Nat) => vp (j + ap)) j)
 j))
 (fun (j : Nat) =>
 Prod.fst
 (Prod.snd
 (S.at'
 (S.mkl (S.mdN np) fun (j : Nat) =>
 S.mdR np (fun (j : Nat) => tp (j + ap)) (fun (j : Nat) => vp (j + ap)) j)
 j)))
 (fun (j : Nat) =>
 Prod.snd
 (Prod.snd
 (S.at'
 (S.mkl (S.mdN np) fun (j : Nat) =>
 S.mdR np (fun (j : Nat) => tp (j + ap)) (fun (j : Nat) => vp (j + ap)) j)
 j)))
 (List.length (S.mkl (S.mdN np) fun (j : Nat) => S.mdB o j))
 (fun (j : Nat) => S.at' (S.mkl (S.mdN np) fun (j : Nat) => S.mdB o j) j)
 (1) fun (j : Nat) =>
 S.lit
 [Prod.fst
 (Prod.snd
 (S.satS
 (List.length
 (S.mkl (S.mdN np) fun (j : Nat) =>
 S.mdR np (fun (j : Nat) => tp (j + ap)) (fun (j : Nat) => vp (j + ap)) j))
 (fun (j : Nat) =>
 Prod.fst
 (S.at'
 (S.mkl (S.mdN np) fun (j : Nat) =>
 S.mdR np (fun (j : Nat) => tp (j + ap)) (fun (j : Nat) => vp (j + ap)) j)
 j))
 (fun (j : Nat) =>
 Prod.fst
 (Prod.snd
 (S.at'
 (S.mkl (S.mdN np) fun (j : Nat) =>
 S.mdR np (fun (j : Nat) => tp (j + ap)) (fun (j : Nat) => vp (j + ap)) j)
 j)))
 (fun (j : Nat) =>
 Prod.snd
 (Prod.snd
 (S.at'
 (S.mkl (S.mdN np) fun (j : Nat) =>
 S.mdR np (fun (j : Nat) => tp (j + ap)) (fun (j : Nat) => vp (j + ap)) j)
 j)))
 (List.length (S.mkl (S.mdN np) fun (j : Nat) => S.mdB o j))))]
 (0 : Int) j))) ≤
 List.length
 (Prod.snd
 (Prod.snd
 (S.histS
 (List.length
 (S.mkl (S.mdN np) fun (j : Nat) =>
 S.mdR np (fun (j : Nat) => tp (j + ap)) (fun (j : Nat) => vp (j + ap)) j))
 (fun (j : Nat) =>
 Prod.fst
 (S.at'
 (S.mkl (S.mdN np) fun (j : Nat) =>
 S.mdR np (fun (j : Nat) => tp (j + ap)) (fun (j : Nat) => vp (j + ap)) j)
 j))
 (fun (j : Nat) =>
 Prod.fst
 (Prod.snd
 (S.at'
 (S.mkl (S.mdN np) fun (j : Nat) =>
 S.mdR np (fun (j : Nat) => tp (j + ap)) (fun (j : Nat) => vp (j + ap)) j)
 j)))
 (fun (j : Nat) =>
 Prod.snd
 (Prod.snd
 (S.at'
 (S.mkl (S.mdN np) fun (j : Nat) =>
 S.mdR np (fun (j : Nat) => tp (j + ap)) (fun (j : Nat) => vp (j + ap)) j)
 j)))
 (List.length (S.mkl (S.mdN np) fun (j : Nat) => S.mdB o j))
 (fun (j : Nat) => S.at' (S.mkl (S.mdN np) fun (j : Nat) => S.mdB o j) j)
 (1) fun (j : Nat) =>
 S.lit
 [Prod.fst
 (Prod.snd
 (S.satS
 (List.length
 (S.mkl (S.mdN np) fun (j : Nat) =>
 S.mdR np (fun (j : Nat) => tp (j + ap)) (fun (j : Nat) => vp (j + ap)) j))
 (fun (j : Nat) =>
 Prod.fst
 (S.at'
 (S.mkl (S.mdN np) fun (j : Nat) =>
 S.mdR np (fun (j : Nat) => tp (j + ap)) (fun (j : Nat) => vp (j + ap)) j)
 j))
 (fun (j : Nat) =>
 Prod.fst
 (Prod.snd
 (S.at'
 (S.mkl (S.mdN np) fun (j : Nat) =>
 S.mdR np (fun (j : Nat) => tp (j + ap)) (fun (j : Nat) => vp (j + ap)) j)
 j)))
 (fun (j : Nat) =>
 Prod.snd
 (Prod.snd
 (S.at'
 (S.mkl (S.mdN np) fun (j : Nat) =>
 S.mdR np (fun (j : Nat) => tp (j + ap)) (fun (j : Nat) => vp (j + ap)) j)
 j)))
 (List.length (S.mkl (S.mdN np) fun (j : Nat) => S.mdB o j))))]
 (0 : Int) j))) ∧
 List.length
 (Prod.snd
 (Prod.snd
 (S.histS
 (List.length
 (S.mkl (S.mdN np) fun (j : Nat) =>
 S.mdR np (fun (j : Nat) => tp (j + ap)) (fun (j : Nat) => vp (j + ap)) j))
 (fun (j : Nat) =>
 Prod.fst
 (S.at'
 (S.mkl (S.mdN np) fun (j : Nat) =>
 S.mdR np (fun (j : Nat) => tp (j + ap)) (fun (j : Nat) => vp (j + ap)) j)
 j))
 (fun (j : Nat) =>
 Prod.fst
 (Prod.snd
 (S.at'
 (S.mkl (S.mdN np) fun (j : Nat) =>
 S.mdR np (fun (j : Nat) => tp (j + ap)) (fun (j : Nat) => vp (j + ap)) j)
 j)))
 (fun (j : Nat) =>
 Prod.snd
 (Prod.snd
 (S.at'
 (S.mkl (S.mdN np) fun (j : Nat) =>
 S.mdR np (fun (j : Nat) => tp (j + ap)) (fun (j : Nat) => vp (j + ap)) j)
 j)))
 (List.length (S.mkl (S.mdN np) fun (j : Nat) => S.mdB o j))
 (fun (j : Nat) => S.at' (S.mkl (S.mdN np) fun (j : Nat) => S.mdB o j) j)
 (1) fun (j : Nat) =>
 S.lit
 [Prod.fst
 (Prod.snd
 (S.satS
 (List.length
 (S.mkl (S.mdN np) fun (j : Nat) =>
 S.mdR np (fun (j : Nat) => tp (j + ap)) (fun (j : Nat) => vp (j + ap)) j))
 (fun (j : Nat) =>
 Prod.fst
 (S.at'
 (S.mkl (S.mdN np) fun (j : Nat) =>
 S.mdR np (fun (j : Nat) => tp (j + ap)) (fun (j : Nat) => vp (j + ap)) j)
 j))
 (fun (j : Nat) =>
 Prod.fst
 (Prod.snd
 (S.at'
 (S.mkl (S.mdN np) fun (j : Nat) =>
 S.mdR np (fun (j : Nat) => tp (j + ap)) (fun (j : Nat) => vp (j + ap)) j)
 j)))
 (fun (j : Nat) =>
 Prod.snd
 (Prod.snd
 (S.at'
 (S.mkl (S.mdN np) fun (j : Nat) =>
 S.mdR np (fun (j : Nat) => tp (j + ap)) (fun (j : Nat) => vp (j + ap)) j)
 j)))
 (List.length (S.mkl (S.mdN np) fun (j : Nat) => S.mdB o j))))]
 (0 : Int) j))) ≤
 1000000))
 (test (S.any
 (fun (j : Nat) =>
 decide
 (S.at'
 (Prod.snd
 (Prod.snd
 (S.histS
 (List.length
 (S.mkl (S.mdN np) fun (j : Nat) =>
 S.mdR np (fun (j : Nat) => tp (j + ap)) (fun (j : Nat) => vp (j + ap)) j))
 (fun (j : Nat) =>
 Prod.fst
 (S.at'
 (S.mkl (S.mdN np) fun (j : Nat) =>
 S.mdR np (fun (j : Nat) => tp (j + ap)) (fun (j : Nat) => vp (j + ap)) j)
 j))
 (fun (j : Nat) =>
 Prod.fst
 (Prod.snd
 (S.at'
 (S.mkl (S.mdN np) fun (j : Nat) =>
 S.mdR np (fun (j : Nat) => tp (j + ap)) (fun (j : Nat) => vp (j + ap)) j)
 j)))
 (fun (j : Nat) =>
 Prod.snd
 (Prod.snd
 (S.at'
 (S.mkl (S.mdN np) fun (j : Nat) =>
 S.mdR np (fun (j : Nat) => tp (j + ap)) (fun (j : Nat) => vp (j + ap)) j)
 j)))
 (List.length (S.mkl (S.mdN np) fun (j : Nat) => S.mdB o j))
 (fun (j : Nat) => S.at' (S.mkl (S.mdN np) fun (j : Nat) => S.mdB o j) j)
 (1) fun (j : Nat) =>
 S.lit
 [Prod.fst
 (Prod.snd
 (S.satS
 (List.length
 (S.mkl (S.mdN np) fun (j : Nat) =>
 S.mdR np (fun (j : Nat) => tp (j + ap)) (fun (j : Nat) => vp (j + ap)) j))
 (fun (j : Nat) =>
 Prod.fst
 (S.at'
 (S.mkl (S.mdN np) fun (j : Nat) =>
 S.mdR np (fun (j : Nat) => tp (j + ap)) (fun (j : Nat) => vp (j + ap)) j)
 j))
 (fun (j : Nat) =>
 Prod.fst
 (Prod.snd
 (S.at'
 (S.mkl (S.mdN np) fun (j : Nat) =>
 S.mdR np (fun (j : Nat) => tp (j + ap)) (fun (j : Nat) => vp (j + ap)) j)
 j)))
 (fun (j : Nat) =>
 Prod.snd
 (Prod.snd
 (S.at'
 (S.mkl (S.mdN np) fun (j : Nat) =>
 S.mdR np (fun (j : Nat) => tp (j + ap)) (fun (j : Nat) => vp (j + ap)) j)
 j)))
 (List.length (S.mkl (S.mdN np) fun (j : Nat) => S.mdB o j))))]
 (0 : Int) j)))
 j =
 false))
 (List.length
 (Prod.snd
 (Prod.snd
 (S.histS
 (List.length
 (S.mkl (S.mdN np) fun (j : Nat) =>
 S.mdR np (fun (j : Nat) => tp (j + ap)) (fun (j : Nat) => vp (j + ap)) j))
 (fun (j : Nat) =>
 Prod.fst
 (S.at'
 (S.mkl (S.mdN np) fun (j : Nat) =>
 S.mdR np (fun (j : Nat) => tp (j + ap)) (fun (j : Nat) => vp (j + ap)) j)
 j))
 (fun (j : Nat) =>
 Prod.fst
 (Prod.snd
 (S.at'
 (S.mkl (S.mdN np) fun (j : Nat) =>
 S.mdR np (fun (j : Nat) => tp (j + ap)) (fun (j : Nat) => vp (j + ap)) j)
 j)))
 (fun (j : Nat) =>
 Prod.snd
 (Prod.snd
 (S.at'
 (S.mkl (S.mdN np) fun (j : Nat) =>
 S.mdR np (fun (j : Nat) => tp (j + ap)) (fun (j : Nat) => vp (j + ap)) j)
 j)))
 (List.length (S.mkl (S.mdN np) fun (j : Nat) => S.mdB o j))
 (fun (j : Nat) => S.at' (S.mkl (S.mdN np) fun (j : Nat) => S.mdB o j) j) (1)
 fun (j : Nat) =>
 S.lit
 [Prod.fst
 (Prod.snd
 (S.satS
 (List.length
 (S.mkl (S.mdN np) fun (j : Nat) =>
 S.mdR np (fun (j : Nat) => tp (j + ap)) (fun (j : Nat) => vp (j + ap)) j))
 (fun (j : Nat) =>
 Prod.fst
 (S.at'
 (S.mkl (S.mdN np) fun (j : Nat) =>
 S.mdR np (fun (j : Nat) => tp (j + ap)) (fun (j : Nat) => vp (j + ap)) j)
 j))
 (fun (j : Nat) =>
 Prod.fst
 (Prod.snd
 (S.at'
 (S.mkl (S.mdN np) fun (j : Nat) =>
 S.mdR np (fun (j : Nat) => tp (j + ap)) (fun (j : Nat) => vp (j + ap)) j)
 j)))
 (fun (j : Nat) =>
 Prod.snd
 (Prod.snd
 (S.at'
 (S.mkl (S.mdN np) fun (j : Nat) =>
 S.mdR np (fun (j : Nat) => tp (j + ap)) (fun (j : Nat) => vp (j + ap)) j)
 j)))
 (List.length (S.mkl (S.mdN np) fun (j : Nat) => S.mdB o j))))]
 (0 : Int) j)))))
 (Kret (PV.tf false) ([[(0, false, Blk.cols mp [Col.int IntKind.u8 tp, Col.int IntKind.u8 vp])]]) (18))
 (Kret (PV.tf true) ([[(0, false, Blk.cols mp [Col.int IntKind.u8 tp, Col.int IntKind.u8 vp])]]) (18)))
 (False)))
 (False))
 (Kret (PV.tf false) ([[(0, false, Blk.cols mp [Col.int IntKind.u8 tp, Col.int IntKind.u8 vp])]]) (16)))
 (Kret (PV.tf false) ([[(0, false, Blk.cols mp [Col.int IntKind.u8 tp, Col.int IntKind.u8 vp])]]) (16)))
 (Kret (PV.tf false) ([[(0, false, Blk.cols mp [Col.int IntKind.u8 tp, Col.int IntKind.u8 vp])]]) (16)))
 (Kret (PV.tf false) ([[(0, false, Blk.cols mp [Col.int IntKind.u8 tp, Col.int IntKind.u8 vp])]]) (16)))
 (Kret (PV.tf false) ([[(0, false, Blk.cols mp [Col.int IntKind.u8 tp, Col.int IntKind.u8 vp])]]) (16)))
 (False))
 (False))
 (False))
 (False))
 (Kret (PV.tf false) ([[(0, false, Blk.cols mp [Col.int IntKind.u8 tp, Col.int IntKind.u8 vp])]]) (3)))
 (False)
set_option maxRecDepth 100000 in
theorem te11 (test : Bool → Prop → Prop → Prop) (Kst : KS) (Kret : KR) (ap np mp : Nat) (tp : Nat → Int) (vp : Nat → Int) (o : Int) : run test Try.env true (yE2 test) true 400 ⟨11, [.cd (mkFn Try.f11).body], argT 0 [.agg [.loose ⟨0, 2, ap, 0⟩ np, .int .u32 o]], [[], [(0, (false, .cols mp [.int .u8 tp, .int .u8 vp]))]], 1⟩ (proj 1 [] Kst Kret) =
  Te11 test Kst Kret ap np mp tp vp o := by kernel_rfl
set_option maxRecDepth 100000 in
theorem be11 (ap np mp : Nat) (tp : Nat → Int) (vp : Nat → Int) (o : Int) (Kst : KS) (Kret : KR) (x : St11 ⊕ Rt11) (hS : HS 1 400 ((I11 ap np mp tp vp o)) Kst x) (hR : HR 1 400 ((V11 ap np mp tp vp o)) (fun r => [newL (1 + 1) ((N11 ap np mp tp vp o) r) ++ [(0, (false, .cols mp [.int .u8 tp, .int .u8 vp]))]]) Kret x) (h : (bif (decide
 (ap + np ≤ mp ∧
 (S.bytes np fun (j : Nat) => tp (j + ap)) = true ∧
 (S.bytes np fun (j : Nat) => vp (j + ap)) = true))
 then (bif (decide
 (0 +
 List.length
 (S.mkl (S.mdN np) fun (j : Nat) =>
 S.mdR np (fun (j : Nat) => tp (j + ap)) (fun (j : Nat) => vp (j + ap)) j) ≤
 List.length
 (S.mkl (S.mdN np) fun (j : Nat) =>
 S.mdR np (fun (j : Nat) => tp (j + ap)) (fun (j : Nat) => vp (j + ap)) j) ∧
 List.length
 (S.mkl (S.mdN np) fun (j : Nat) =>
 S.mdR np (fun (j : Nat) => tp (j + ap)) (fun (j : Nat) => vp (j + ap)) j) ≤
 1000000 ∧
 0 + List.length (S.mkl (S.mdN np) fun (j : Nat) => S.mdB o j) ≤
 List.length (S.mkl (S.mdN np) fun (j : Nat) => S.mdB o j) ∧
 List.length (S.mkl (S.mdN np) fun (j : Nat) => S.mdB o j) ≤ 1000000))
 then (bif (Prod.snd
 (Prod.snd
 (S.satS
 (List.length
 (S.mkl (S.mdN np) fun (j : Nat) =>
 S.mdR np (fun (j : Nat) => tp (j + ap)) (fun (j : Nat) => vp (j + ap)) j))
 (fun (j : Nat) =>
 Prod.fst
 (S.at'
 (S.mkl (S.mdN np) fun (j : Nat) =>
 S.mdR np (fun (j : Nat) => tp (j + ap)) (fun (j : Nat) => vp (j + ap)) j)
 j))
 (fun (j : Nat) =>
 Prod.fst
 (Prod.snd
 (S.at'
 (S.mkl (S.mdN np) fun (j : Nat) =>
 S.mdR np (fun (j : Nat) => tp (j + ap)) (fun (j : Nat) => vp (j + ap)) j)
 j)))
 (fun (j : Nat) =>
 Prod.snd
 (Prod.snd
 (S.at'
 (S.mkl (S.mdN np) fun (j : Nat) =>
 S.mdR np (fun (j : Nat) => tp (j + ap)) (fun (j : Nat) => vp (j + ap)) j)
 j)))
 (List.length (S.mkl (S.mdN np) fun (j : Nat) => S.mdB o j)))) ==
 (0 : Int))
 then (bif (Prod.fst
 (S.histS
 (List.length
 (S.mkl (S.mdN np) fun (j : Nat) =>
 S.mdR np (fun (j : Nat) => tp (j + ap)) (fun (j : Nat) => vp (j + ap)) j))
 (fun (j : Nat) =>
 Prod.fst
 (S.at'
 (S.mkl (S.mdN np) fun (j : Nat) =>
 S.mdR np (fun (j : Nat) => tp (j + ap)) (fun (j : Nat) => vp (j + ap)) j)
 j))
 (fun (j : Nat) =>
 Prod.fst
 (Prod.snd
 (S.at'
 (S.mkl (S.mdN np) fun (j : Nat) =>
 S.mdR np (fun (j : Nat) => tp (j + ap)) (fun (j : Nat) => vp (j + ap)) j)
 j)))
 (fun (j : Nat) =>
 Prod.snd
 (Prod.snd
 (S.at'
 (S.mkl (S.mdN np) fun (j : Nat) =>
 S.mdR np (fun (j : Nat) => tp (j + ap)) (fun (j : Nat) => vp (j + ap)) j)
 j)))
 (List.length (S.mkl (S.mdN np) fun (j : Nat) => S.mdB o j))
 (fun (j : Nat) => S.at' (S.mkl (S.mdN np) fun (j : Nat) => S.mdB o j) j) (1)
 fun (j : Nat) =>
 S.lit
 [Prod.fst
 (S.satS
 (List.length
 (S.mkl (S.mdN np) fun (j : Nat) =>
 S.mdR np (fun (j : Nat) => tp (j + ap)) (fun (j : Nat) => vp (j + ap)) j))
 (fun (j : Nat) =>
 Prod.fst
 (S.at'
 (S.mkl (S.mdN np) fun (j : Nat) =>
 S.mdR np (fun (j : Nat) => tp (j + ap)) (fun (j : Nat) => vp (j + ap)) j)
 j))
 (fun (j : Nat) =>
 Prod.fst
 (Prod.snd
 (S.at'
 (S.mkl (S.mdN np) fun (j : Nat) =>
 S.mdR np (fun (j : Nat) => tp (j + ap)) (fun (j : Nat) => vp (j + ap)) j)
 j)))
 (fun (j : Nat) =>
 Prod.snd
 (Prod.snd
 (S.at'
 (S.mkl (S.mdN np) fun (j : Nat) =>
 S.mdR np (fun (j : Nat) => tp (j + ap)) (fun (j : Nat) => vp (j + ap)) j)
 j)))
 (List.length (S.mkl (S.mdN np) fun (j : Nat) => S.mdB o j)))]
 (0 : Int) j) ==
 (0 : Int))
 then (bif (Prod.fst
 (S.histS
 (List.length
 (S.mkl (S.mdN np) fun (j : Nat) =>
 S.mdR np (fun (j : Nat) => tp (j + ap)) (fun (j : Nat) => vp (j + ap)) j))
 (fun (j : Nat) =>
 Prod.fst
 (S.at'
 (S.mkl (S.mdN np) fun (j : Nat) =>
 S.mdR np (fun (j : Nat) => tp (j + ap)) (fun (j : Nat) => vp (j + ap)) j)
 j))
 (fun (j : Nat) =>
 Prod.fst
 (Prod.snd
 (S.at'
 (S.mkl (S.mdN np) fun (j : Nat) =>
 S.mdR np (fun (j : Nat) => tp (j + ap)) (fun (j : Nat) => vp (j + ap)) j)
 j)))
 (fun (j : Nat) =>
 Prod.snd
 (Prod.snd
 (S.at'
 (S.mkl (S.mdN np) fun (j : Nat) =>
 S.mdR np (fun (j : Nat) => tp (j + ap)) (fun (j : Nat) => vp (j + ap)) j)
 j)))
 (List.length (S.mkl (S.mdN np) fun (j : Nat) => S.mdB o j))
 (fun (j : Nat) => S.at' (S.mkl (S.mdN np) fun (j : Nat) => S.mdB o j) j) (1)
 fun (j : Nat) =>
 S.lit
 [Prod.fst
 (Prod.snd
 (S.satS
 (List.length
 (S.mkl (S.mdN np) fun (j : Nat) =>
 S.mdR np (fun (j : Nat) => tp (j + ap)) (fun (j : Nat) => vp (j + ap)) j))
 (fun (j : Nat) =>
 Prod.fst
 (S.at'
 (S.mkl (S.mdN np) fun (j : Nat) =>
 S.mdR np (fun (j : Nat) => tp (j + ap)) (fun (j : Nat) => vp (j + ap)) j)
 j))
 (fun (j : Nat) =>
 Prod.fst
 (Prod.snd
 (S.at'
 (S.mkl (S.mdN np) fun (j : Nat) =>
 S.mdR np (fun (j : Nat) => tp (j + ap)) (fun (j : Nat) => vp (j + ap)) j)
 j)))
 (fun (j : Nat) =>
 Prod.snd
 (Prod.snd
 (S.at'
 (S.mkl (S.mdN np) fun (j : Nat) =>
 S.mdR np (fun (j : Nat) => tp (j + ap)) (fun (j : Nat) => vp (j + ap)) j)
 j)))
 (List.length (S.mkl (S.mdN np) fun (j : Nat) => S.mdB o j))))]
 (0 : Int) j) ==
 (0 : Int))
 then (bif ((↑(List.length
 (Prod.snd
 (Prod.snd
 (S.histS
 (List.length
 (S.mkl (S.mdN np) fun (j : Nat) =>
 S.mdR np (fun (j : Nat) => tp (j + ap)) (fun (j : Nat) => vp (j + ap)) j))
 (fun (j : Nat) =>
 Prod.fst
 (S.at'
 (S.mkl (S.mdN np) fun (j : Nat) =>
 S.mdR np (fun (j : Nat) => tp (j + ap)) (fun (j : Nat) => vp (j + ap)) j)
 j))
 (fun (j : Nat) =>
 Prod.fst
 (Prod.snd
 (S.at'
 (S.mkl (S.mdN np) fun (j : Nat) =>
 S.mdR np (fun (j : Nat) => tp (j + ap)) (fun (j : Nat) => vp (j + ap)) j)
 j)))
 (fun (j : Nat) =>
 Prod.snd
 (Prod.snd
 (S.at'
 (S.mkl (S.mdN np) fun (j : Nat) =>
 S.mdR np (fun (j : Nat) => tp (j + ap)) (fun (j : Nat) => vp (j + ap)) j)
 j)))
 (List.length (S.mkl (S.mdN np) fun (j : Nat) => S.mdB o j))
 (fun (j : Nat) => S.at' (S.mkl (S.mdN np) fun (j : Nat) => S.mdB o j) j)
 (1) fun (j : Nat) =>
 S.lit
 [Prod.fst
 (S.satS
 (List.length
 (S.mkl (S.mdN np) fun (j : Nat) =>
 S.mdR np (fun (j : Nat) => tp (j + ap)) (fun (j : Nat) => vp (j + ap)) j))
 (fun (j : Nat) =>
 Prod.fst
 (S.at'
 (S.mkl (S.mdN np) fun (j : Nat) =>
 S.mdR np (fun (j : Nat) => tp (j + ap)) (fun (j : Nat) => vp (j + ap)) j)
 j))
 (fun (j : Nat) =>
 Prod.fst
 (Prod.snd
 (S.at'
 (S.mkl (S.mdN np) fun (j : Nat) =>
 S.mdR np (fun (j : Nat) => tp (j + ap)) (fun (j : Nat) => vp (j + ap)) j)
 j)))
 (fun (j : Nat) =>
 Prod.snd
 (Prod.snd
 (S.at'
 (S.mkl (S.mdN np) fun (j : Nat) =>
 S.mdR np (fun (j : Nat) => tp (j + ap)) (fun (j : Nat) => vp (j + ap)) j)
 j)))
 (List.length (S.mkl (S.mdN np) fun (j : Nat) => S.mdB o j)))]
 (0 : Int) j)))) :
 Int) ==
 (↑(List.length (S.mkl (S.mdN np) fun (j : Nat) => S.mdB o j)) : Int))
 then (bif ((↑(List.length
 (Prod.snd
 (Prod.snd
 (S.histS
 (List.length
 (S.mkl (S.mdN np) fun (j : Nat) =>
 S.mdR np (fun (j : Nat) => tp (j + ap)) (fun (j : Nat) => vp (j + ap)) j))
 (fun (j : Nat) =>
 Prod.fst
 (S.at'
 (S.mkl (S.mdN np) fun (j : Nat) =>
 S.mdR np (fun (j : Nat) => tp (j + ap)) (fun (j : Nat) => vp (j + ap)) j)
 j))
 (fun (j : Nat) =>
 Prod.fst
 (Prod.snd
 (S.at'
 (S.mkl (S.mdN np) fun (j : Nat) =>
 S.mdR np (fun (j : Nat) => tp (j + ap)) (fun (j : Nat) => vp (j + ap)) j)
 j)))
 (fun (j : Nat) =>
 Prod.snd
 (Prod.snd
 (S.at'
 (S.mkl (S.mdN np) fun (j : Nat) =>
 S.mdR np (fun (j : Nat) => tp (j + ap)) (fun (j : Nat) => vp (j + ap)) j)
 j)))
 (List.length (S.mkl (S.mdN np) fun (j : Nat) => S.mdB o j))
 (fun (j : Nat) => S.at' (S.mkl (S.mdN np) fun (j : Nat) => S.mdB o j) j)
 (1) fun (j : Nat) =>
 S.lit
 [Prod.fst
 (Prod.snd
 (S.satS
 (List.length
 (S.mkl (S.mdN np) fun (j : Nat) =>
 S.mdR np (fun (j : Nat) => tp (j + ap)) (fun (j : Nat) => vp (j + ap)) j))
 (fun (j : Nat) =>
 Prod.fst
 (S.at'
 (S.mkl (S.mdN np) fun (j : Nat) =>
 S.mdR np (fun (j : Nat) => tp (j + ap)) (fun (j : Nat) => vp (j + ap)) j)
 j))
 (fun (j : Nat) =>
 Prod.fst
 (Prod.snd
 (S.at'
 (S.mkl (S.mdN np) fun (j : Nat) =>
 S.mdR np (fun (j : Nat) => tp (j + ap)) (fun (j : Nat) => vp (j + ap)) j)
 j)))
 (fun (j : Nat) =>
 Prod.snd
 (Prod.snd
 (S.at'
 (S.mkl (S.mdN np) fun (j : Nat) =>
 S.mdR np (fun (j : Nat) => tp (j + ap)) (fun (j : Nat) => vp (j + ap)) j)
 j)))
 (List.length (S.mkl (S.mdN np) fun (j : Nat) => S.mdB o j))))]
 (0 : Int) j)))) :
 Int) ==
 (↑(List.length (S.mkl (S.mdN np) fun (j : Nat) => S.mdB o j)) : Int))
 then (bif (decide
 (0 +
 List.length
 (Prod.snd
 (Prod.snd
 (S.histS
 (List.length
 (S.mkl (S.mdN np) fun (j : Nat) =>
 S.mdR np (fun (j : Nat) => tp (j + ap)) (fun (j : Nat) => vp (j + ap)) j))
 (fun (j : Nat) =>
 Prod.fst
 (S.at'
 (S.mkl (S.mdN np) fun (j : Nat) =>
 S.mdR np (fun (j : Nat) => tp (j + ap)) (fun (j : Nat) => vp (j + ap)) j)
 j))
 (fun (j : Nat) =>
 Prod.fst
 (Prod.snd
 (S.at'
 (S.mkl (S.mdN np) fun (j : Nat) =>
 S.mdR np (fun (j : Nat) => tp (j + ap)) (fun (j : Nat) => vp (j + ap)) j)
 j)))
 (fun (j : Nat) =>
 Prod.snd
 (Prod.snd
 (S.at'
 (S.mkl (S.mdN np) fun (j : Nat) =>
 S.mdR np (fun (j : Nat) => tp (j + ap)) (fun (j : Nat) => vp (j + ap)) j)
 j)))
 (List.length (S.mkl (S.mdN np) fun (j : Nat) => S.mdB o j))
 (fun (j : Nat) => S.at' (S.mkl (S.mdN np) fun (j : Nat) => S.mdB o j) j)
 (1) fun (j : Nat) =>
 S.lit
 [Prod.fst
 (S.satS
 (List.length
 (S.mkl (S.mdN np) fun (j : Nat) =>
 S.mdR np (fun (j : Nat) => tp (j + ap)) (fun (j : Nat) => vp (j + ap)) j))
 (fun (j : Nat) =>
 Prod.fst
 (S.at'
 (S.mkl (S.mdN np) fun (j : Nat) =>
 S.mdR np (fun (j : Nat) => tp (j + ap)) (fun (j : Nat) => vp (j + ap)) j)
 j))
 (fun (j : Nat) =>
 Prod.fst
 (Prod.snd
 (S.at'
 (S.mkl (S.mdN np) fun (j : Nat) =>
 S.mdR np (fun (j : Nat) => tp (j + ap)) (fun (j : Nat) => vp (j + ap)) j)
 j)))
 (fun (j : Nat) =>
 Prod.snd
 (Prod.snd
 (S.at'
 (S.mkl (S.mdN np) fun (j : Nat) =>
 S.mdR np (fun (j : Nat) => tp (j + ap)) (fun (j : Nat) => vp (j + ap)) j)
 j)))
 (List.length (S.mkl (S.mdN np) fun (j : Nat) => S.mdB o j)))]
 (0 : Int) j))) ≤
 List.length
 (Prod.snd
 (Prod.snd
 (S.histS
 (List.length
 (S.mkl (S.mdN np) fun (j : Nat) =>
 S.mdR np (fun (j : Nat) => tp (j + ap)) (fun (j : Nat) => vp (j + ap)) j))
 (fun (j : Nat) =>
 Prod.fst
 (S.at'
 (S.mkl (S.mdN np) fun (j : Nat) =>
 S.mdR np (fun (j : Nat) => tp (j + ap)) (fun (j : Nat) => vp (j + ap)) j)
 j))
 (fun (j : Nat) =>
 Prod.fst
 (Prod.snd
 (S.at'
 (S.mkl (S.mdN np) fun (j : Nat) =>
 S.mdR np (fun (j : Nat) => tp (j + ap)) (fun (j : Nat) => vp (j + ap)) j)
 j)))
 (fun (j : Nat) =>
 Prod.snd
 (Prod.snd
 (S.at'
 (S.mkl (S.mdN np) fun (j : Nat) =>
 S.mdR np (fun (j : Nat) => tp (j + ap)) (fun (j : Nat) => vp (j + ap)) j)
 j)))
 (List.length (S.mkl (S.mdN np) fun (j : Nat) => S.mdB o j))
 (fun (j : Nat) => S.at' (S.mkl (S.mdN np) fun (j : Nat) => S.mdB o j) j)
 (1) fun (j : Nat) =>
 S.lit
 [Prod.fst
 (S.satS
 (List.length
 (S.mkl (S.mdN np) fun (j : Nat) =>
 S.mdR np (fun (j : Nat) => tp (j + ap)) (fun (j : Nat) => vp (j + ap)) j))
 (fun (j : Nat) =>
 Prod.fst
 (S.at'
 (S.mkl (S.mdN np) fun (j : Nat) =>
 S.mdR np (fun (j : Nat) => tp (j + ap)) (fun (j : Nat) => vp (j + ap)) j)
 j))
 (fun (j : Nat) =>
 Prod.fst
 (Prod.snd
 (S.at'
 (S.mkl (S.mdN np) fun (j : Nat) =>
 S.mdR np (fun (j : Nat) => tp (j + ap)) (fun (j : Nat) => vp (j + ap)) j)
 j)))
 (fun (j : Nat) =>
 Prod.snd
 (Prod.snd
 (S.at'
 (S.mkl (S.mdN np) fun (j : Nat) =>
 S.mdR np (fun (j : Nat) => tp (j + ap)) (fun (j : Nat) => vp (j + ap)) j)
 j)))
 (List.length (S.mkl (S.mdN np) fun (j : Nat) => S.mdB o j)))]
 (0 : Int) j))) ∧
 List.length
 (Prod.snd
 (Prod.snd
 (S.histS
 (List.length
 (S.mkl (S.mdN np) fun (j : Nat) =>
 S.mdR np (fun (j : Nat) => tp (j + ap)) (fun (j : Nat) => vp (j + ap)) j))
 (fun (j : Nat) =>
 Prod.fst
 (S.at'
 (S.mkl (S.mdN np) fun (j : Nat) =>
 S.mdR np (fun (j : Nat) => tp (j + ap)) (fun (j : Nat) => vp (j + ap)) j)
 j))
 (fun (j : Nat) =>
 Prod.fst
 (Prod.snd
 (S.at'
 (S.mkl (S.mdN np) fun (j : Nat) =>
 S.mdR np (fun (j : Nat) => tp (j + ap)) (fun (j : Nat) => vp (j + ap)) j)
 j)))
 (fun (j : Nat) =>
 Prod.snd
 (Prod.snd
 (S.at'
 (S.mkl (S.mdN np) fun (j : Nat) =>
 S.mdR np (fun (j : Nat) => tp (j + ap)) (fun (j : Nat) => vp (j + ap)) j)
 j)))
 (List.length (S.mkl (S.mdN np) fun (j : Nat) => S.mdB o j))
 (fun (j : Nat) => S.at' (S.mkl (S.mdN np) fun (j : Nat) => S.mdB o j) j)
 (1) fun (j : Nat) =>
 S.lit
 [Prod.fst
 (S.satS
 (List.length
 (S.mkl (S.mdN np) fun (j : Nat) =>
 S.mdR np (fun (j : Nat) => tp (j + ap)) (fun (j : Nat) => vp (j + ap)) j))
 (fun (j : Nat) =>
 Prod.fst
 (S.at'
 (S.mkl (S.mdN np) fun (j : Nat) =>
 S.mdR np (fun (j : Nat) => tp (j + ap)) (fun (j : Nat) => vp (j + ap)) j)
 j))
 (fun (j : Nat) =>
 Prod.fst
 (Prod.snd
 (S.at'
 (S.mkl (S.mdN np) fun (j : Nat) =>
 S.mdR np (fun (j : Nat) => tp (j + ap)) (fun (j : Nat) => vp (j + ap)) j)
 j)))
 (fun (j : Nat) =>
 Prod.snd
 (Prod.snd
 (S.at'
 (S.mkl (S.mdN np) fun (j : Nat) =>
 S.mdR np (fun (j : Nat) => tp (j + ap)) (fun (j : Nat) => vp (j + ap)) j)
 j)))
 (List.length (S.mkl (S.mdN np) fun (j : Nat) => S.mdB o j)))]
 (0 : Int) j))) ≤
 1000000))
 then (bif (S.any
 (fun (j : Nat) =>
 decide
 (S.at'
 (Prod.snd
 (Prod.snd
 (S.histS
 (List.length
 (S.mkl (S.mdN np) fun (j : Nat) =>
 S.mdR np (fun (j : Nat) => tp (j + ap)) (fun (j : Nat) => vp (j + ap)) j))
 (fun (j : Nat) =>
 Prod.fst
 (S.at'
 (S.mkl (S.mdN np) fun (j : Nat) =>
 S.mdR np (fun (j : Nat) => tp (j + ap)) (fun (j : Nat) => vp (j + ap)) j)
 j))
 (fun (j : Nat) =>
 Prod.fst
 (Prod.snd
 (S.at'
 (S.mkl (S.mdN np) fun (j : Nat) =>
 S.mdR np (fun (j : Nat) => tp (j + ap)) (fun (j : Nat) => vp (j + ap)) j)
 j)))
 (fun (j : Nat) =>
 Prod.snd
 (Prod.snd
 (S.at'
 (S.mkl (S.mdN np) fun (j : Nat) =>
 S.mdR np (fun (j : Nat) => tp (j + ap)) (fun (j : Nat) => vp (j + ap)) j)
 j)))
 (List.length (S.mkl (S.mdN np) fun (j : Nat) => S.mdB o j))
 (fun (j : Nat) => S.at' (S.mkl (S.mdN np) fun (j : Nat) => S.mdB o j) j)
 (1) fun (j : Nat) =>
 S.lit
 [Prod.fst
 (S.satS
 (List.length
 (S.mkl (S.mdN np) fun (j : Nat) =>
 S.mdR np (fun (j : Nat) => tp (j + ap)) (fun (j : Nat) => vp (j + ap)) j))
 (fun (j : Nat) =>
 Prod.fst
 (S.at'
 (S.mkl (S.mdN np) fun (j : Nat) =>
 S.mdR np (fun (j : Nat) => tp (j + ap)) (fun (j : Nat) => vp (j + ap)) j)
 j))
 (fun (j : Nat) =>
 Prod.fst
 (Prod.snd
 (S.at'
 (S.mkl (S.mdN np) fun (j : Nat) =>
 S.mdR np (fun (j : Nat) => tp (j + ap)) (fun (j : Nat) => vp (j + ap)) j)
 j)))
 (fun (j : Nat) =>
 Prod.snd
 (Prod.snd
 (S.at'
 (S.mkl (S.mdN np) fun (j : Nat) =>
 S.mdR np (fun (j : Nat) => tp (j + ap)) (fun (j : Nat) => vp (j + ap)) j)
 j)))
 (List.length (S.mkl (S.mdN np) fun (j : Nat) => S.mdB o j)))]
 (0 : Int) j)))
 j =
 true))
 (List.length
 (Prod.snd
 (Prod.snd
 (S.histS
 (List.length
 (S.mkl (S.mdN np) fun (j : Nat) =>
 S.mdR np (fun (j : Nat) => tp (j + ap)) (fun (j : Nat) => vp (j + ap)) j))
 (fun (j : Nat) =>
 Prod.fst
 (S.at'
 (S.mkl (S.mdN np) fun (j : Nat) =>
 S.mdR np (fun (j : Nat) => tp (j + ap)) (fun (j : Nat) => vp (j + ap)) j)
 j))
 (fun (j : Nat) =>
 Prod.fst
 (Prod.snd
 (S.at'
 (S.mkl (S.mdN np) fun (j : Nat) =>
 S.mdR np (fun (j : Nat) => tp (j + ap)) (fun (j : Nat) => vp (j + ap)) j)
 j)))
 (fun (j : Nat) =>
 Prod.snd
 (Prod.snd
 (S.at'
 (S.mkl (S.mdN np) fun (j : Nat) =>
 S.mdR np (fun (j : Nat) => tp (j + ap)) (fun (j : Nat) => vp (j + ap)) j)
 j)))
 (List.length (S.mkl (S.mdN np) fun (j : Nat) => S.mdB o j))
 (fun (j : Nat) => S.at' (S.mkl (S.mdN np) fun (j : Nat) => S.mdB o j) j) (1)
 fun (j : Nat) =>
 S.lit
 [Prod.fst
 (S.satS
 (List.length
 (S.mkl (S.mdN np) fun (j : Nat) =>
 S.mdR np (fun (j : Nat) => tp (j + ap)) (fun (j : Nat) => vp (j + ap)) j))
 (fun (j : Nat) =>
 Prod.fst
 (S.at'
 (S.mkl (S.mdN np) fun (j : Nat) =>
 S.mdR np (fun (j : Nat) => tp (j + ap)) (fun (j : Nat) => vp (j + ap)) j)
 j))
 (fun (j : Nat) =>
 Prod.fst
 (Prod.snd
 (S.at'
 (S.mkl (S.mdN np) fun (j : Nat) =>
 S.mdR np (fun (j : Nat) => tp (j + ap)) (fun (j : Nat) => vp (j + ap)) j)
 j)))
 (fun (j : Nat) =>
 Prod.snd
 (Prod.snd
 (S.at'
 (S.mkl (S.mdN np) fun (j : Nat) =>
 S.mdR np (fun (j : Nat) => tp (j + ap)) (fun (j : Nat) => vp (j + ap)) j)
 j)))
 (List.length (S.mkl (S.mdN np) fun (j : Nat) => S.mdB o j)))]
 (0 : Int) j)))))
 then (some (.inr (false)))
 else (bif (decide
 (0 +
 List.length
 (Prod.snd
 (Prod.snd
 (S.histS
 (List.length
 (S.mkl (S.mdN np) fun (j : Nat) =>
 S.mdR np (fun (j : Nat) => tp (j + ap)) (fun (j : Nat) => vp (j + ap)) j))
 (fun (j : Nat) =>
 Prod.fst
 (S.at'
 (S.mkl (S.mdN np) fun (j : Nat) =>
 S.mdR np (fun (j : Nat) => tp (j + ap)) (fun (j : Nat) => vp (j + ap)) j)
 j))
 (fun (j : Nat) =>
 Prod.fst
 (Prod.snd
 (S.at'
 (S.mkl (S.mdN np) fun (j : Nat) =>
 S.mdR np (fun (j : Nat) => tp (j + ap)) (fun (j : Nat) => vp (j + ap)) j)
 j)))
 (fun (j : Nat) =>
 Prod.snd
 (Prod.snd
 (S.at'
 (S.mkl (S.mdN np) fun (j : Nat) =>
 S.mdR np (fun (j : Nat) => tp (j + ap)) (fun (j : Nat) => vp (j + ap)) j)
 j)))
 (List.length (S.mkl (S.mdN np) fun (j : Nat) => S.mdB o j))
 (fun (j : Nat) => S.at' (S.mkl (S.mdN np) fun (j : Nat) => S.mdB o j) j)
 (1) fun (j : Nat) =>
 S.lit
 [Prod.fst
 (Prod.snd
 (S.satS
 (List.length
 (S.mkl (S.mdN np) fun (j : Nat) =>
 S.mdR np (fun (j : Nat) => tp (j + ap)) (fun (j : Nat) => vp (j + ap)) j))
 (fun (j : Nat) =>
 Prod.fst
 (S.at'
 (S.mkl (S.mdN np) fun (j : Nat) =>
 S.mdR np (fun (j : Nat) => tp (j + ap)) (fun (j : Nat) => vp (j + ap)) j)
 j))
 (fun (j : Nat) =>
 Prod.fst
 (Prod.snd
 (S.at'
 (S.mkl (S.mdN np) fun (j : Nat) =>
 S.mdR np (fun (j : Nat) => tp (j + ap)) (fun (j : Nat) => vp (j + ap)) j)
 j)))
 (fun (j : Nat) =>
 Prod.snd
 (Prod.snd
 (S.at'
 (S.mkl (S.mdN np) fun (j : Nat) =>
 S.mdR np (fun (j : Nat) => tp (j + ap)) (fun (j : Nat) => vp (j + ap)) j)
 j)))
 (List.length (S.mkl (S.mdN np) fun (j : Nat) => S.mdB o j))))]
 (0 : Int) j))) ≤
 List.length
 (Prod.snd
 (Prod.snd
 (S.histS
 (List.length
 (S.mkl (S.mdN np) fun (j : Nat) =>
 S.mdR np (fun (j : Nat) => tp (j + ap)) (fun (j : Nat) => vp (j + ap)) j))
 (fun (j : Nat) =>
 Prod.fst
 (S.at'
 (S.mkl (S.mdN np) fun (j : Nat) =>
 S.mdR np (fun (j : Nat) => tp (j + ap)) (fun (j : Nat) => vp (j + ap)) j)
 j))
 (fun (j : Nat) =>
 Prod.fst
 (Prod.snd
 (S.at'
 (S.mkl (S.mdN np) fun (j : Nat) =>
 S.mdR np (fun (j : Nat) => tp (j + ap)) (fun (j : Nat) => vp (j + ap)) j)
 j)))
 (fun (j : Nat) =>
 Prod.snd
 (Prod.snd
 (S.at'
 (S.mkl (S.mdN np) fun (j : Nat) =>
 S.mdR np (fun (j : Nat) => tp (j + ap)) (fun (j : Nat) => vp (j + ap)) j)
 j)))
 (List.length (S.mkl (S.mdN np) fun (j : Nat) => S.mdB o j))
 (fun (j : Nat) => S.at' (S.mkl (S.mdN np) fun (j : Nat) => S.mdB o j) j)
 (1) fun (j : Nat) =>
 S.lit
 [Prod.fst
 (Prod.snd
 (S.satS
 (List.length
 (S.mkl (S.mdN np) fun (j : Nat) =>
 S.mdR np (fun (j : Nat) => tp (j + ap)) (fun (j : Nat) => vp (j + ap)) j))
 (fun (j : Nat) =>
 Prod.fst
 (S.at'
 (S.mkl (S.mdN np) fun (j : Nat) =>
 S.mdR np (fun (j : Nat) => tp (j + ap)) (fun (j : Nat) => vp (j + ap)) j)
 j))
 (fun (j : Nat) =>
 Prod.fst
 (Prod.snd
 (S.at'
 (S.mkl (S.mdN np) fun (j : Nat) =>
 S.mdR np (fun (j : Nat) => tp (j + ap)) (fun (j : Nat) => vp (j + ap)) j)
 j)))
 (fun (j : Nat) =>
 Prod.snd
 (Prod.snd
 (S.at'
 (S.mkl (S.mdN np) fun (j : Nat) =>
 S.mdR np (fun (j : Nat) => tp (j + ap)) (fun (j : Nat) => vp (j + ap)) j)
 j)))
 (List.length (S.mkl (S.mdN np) fun (j : Nat) => S.mdB o j))))]
 (0 : Int) j))) ∧
 List.length
 (Prod.snd
 (Prod.snd
 (S.histS
 (List.length
 (S.mkl (S.mdN np) fun (j : Nat) =>
 S.mdR np (fun (j : Nat) => tp (j + ap)) (fun (j : Nat) => vp (j + ap)) j))
 (fun (j : Nat) =>
 Prod.fst
 (S.at'
 (S.mkl (S.mdN np) fun (j : Nat) =>
 S.mdR np (fun (j : Nat) => tp (j + ap)) (fun (j : Nat) => vp (j + ap)) j)
 j))
 (fun (j : Nat) =>
 Prod.fst
 (Prod.snd
 (S.at'
 (S.mkl (S.mdN np) fun (j : Nat) =>
 S.mdR np (fun (j : Nat) => tp (j + ap)) (fun (j : Nat) => vp (j + ap)) j)
 j)))
 (fun (j : Nat) =>
 Prod.snd
 (Prod.snd
 (S.at'
 (S.mkl (S.mdN np) fun (j : Nat) =>
 S.mdR np (fun (j : Nat) => tp (j + ap)) (fun (j : Nat) => vp (j + ap)) j)
 j)))
 (List.length (S.mkl (S.mdN np) fun (j : Nat) => S.mdB o j))
 (fun (j : Nat) => S.at' (S.mkl (S.mdN np) fun (j : Nat) => S.mdB o j) j)
 (1) fun (j : Nat) =>
 S.lit
 [Prod.fst
 (Prod.snd
 (S.satS
 (List.length
 (S.mkl (S.mdN np) fun (j : Nat) =>
 S.mdR np (fun (j : Nat) => tp (j + ap)) (fun (j : Nat) => vp (j + ap)) j))
 (fun (j : Nat) =>
 Prod.fst
 (S.at'
 (S.mkl (S.mdN np) fun (j : Nat) =>
 S.mdR np (fun (j : Nat) => tp (j + ap)) (fun (j : Nat) => vp (j + ap)) j)
 j))
 (fun (j : Nat) =>
 Prod.fst
 (Prod.snd
 (S.at'
 (S.mkl (S.mdN np) fun (j : Nat) =>
 S.mdR np (fun (j : Nat) => tp (j + ap)) (fun (j : Nat) => vp (j + ap)) j)
 j)))
 (fun (j : Nat) =>
 Prod.snd
 (Prod.snd
 (S.at'
 (S.mkl (S.mdN np) fun (j : Nat) =>
 S.mdR np (fun (j : Nat) => tp (j + ap)) (fun (j : Nat) => vp (j + ap)) j)
 j)))
 (List.length (S.mkl (S.mdN np) fun (j : Nat) => S.mdB o j))))]
 (0 : Int) j))) ≤
 1000000))
 then (bif (S.any
 (fun (j : Nat) =>
 decide
 (S.at'
 (Prod.snd
 (Prod.snd
 (S.histS
 (List.length
 (S.mkl (S.mdN np) fun (j : Nat) =>
 S.mdR np (fun (j : Nat) => tp (j + ap)) (fun (j : Nat) => vp (j + ap)) j))
 (fun (j : Nat) =>
 Prod.fst
 (S.at'
 (S.mkl (S.mdN np) fun (j : Nat) =>
 S.mdR np (fun (j : Nat) => tp (j + ap)) (fun (j : Nat) => vp (j + ap)) j)
 j))
 (fun (j : Nat) =>
 Prod.fst
 (Prod.snd
 (S.at'
 (S.mkl (S.mdN np) fun (j : Nat) =>
 S.mdR np (fun (j : Nat) => tp (j + ap)) (fun (j : Nat) => vp (j + ap)) j)
 j)))
 (fun (j : Nat) =>
 Prod.snd
 (Prod.snd
 (S.at'
 (S.mkl (S.mdN np) fun (j : Nat) =>
 S.mdR np (fun (j : Nat) => tp (j + ap)) (fun (j : Nat) => vp (j + ap)) j)
 j)))
 (List.length (S.mkl (S.mdN np) fun (j : Nat) => S.mdB o j))
 (fun (j : Nat) => S.at' (S.mkl (S.mdN np) fun (j : Nat) => S.mdB o j) j)
 (1) fun (j : Nat) =>
 S.lit
 [Prod.fst
 (Prod.snd
 (S.satS
 (List.length
 (S.mkl (S.mdN np) fun (j : Nat) =>
 S.mdR np (fun (j : Nat) => tp (j + ap)) (fun (j : Nat) => vp (j + ap)) j))
 (fun (j : Nat) =>
 Prod.fst
 (S.at'
 (S.mkl (S.mdN np) fun (j : Nat) =>
 S.mdR np (fun (j : Nat) => tp (j + ap)) (fun (j : Nat) => vp (j + ap)) j)
 j))
 (fun (j : Nat) =>
 Prod.fst
 (Prod.snd
 (S.at'
 (S.mkl (S.mdN np) fun (j : Nat) =>
 S.mdR np (fun (j : Nat) => tp (j + ap)) (fun (j : Nat) => vp (j + ap)) j)
 j)))
 (fun (j : Nat) =>
 Prod.snd
 (Prod.snd
 (S.at'
 (S.mkl (S.mdN np) fun (j : Nat) =>
 S.mdR np (fun (j : Nat) => tp (j + ap)) (fun (j : Nat) => vp (j + ap)) j)
 j)))
 (List.length (S.mkl (S.mdN np) fun (j : Nat) => S.mdB o j))))]
 (0 : Int) j)))
 j =
 false))
 (List.length
 (Prod.snd
 (Prod.snd
 (S.histS
 (List.length
 (S.mkl (S.mdN np) fun (j : Nat) =>
 S.mdR np (fun (j : Nat) => tp (j + ap)) (fun (j : Nat) => vp (j + ap)) j))
 (fun (j : Nat) =>
 Prod.fst
 (S.at'
 (S.mkl (S.mdN np) fun (j : Nat) =>
 S.mdR np (fun (j : Nat) => tp (j + ap)) (fun (j : Nat) => vp (j + ap)) j)
 j))
 (fun (j : Nat) =>
 Prod.fst
 (Prod.snd
 (S.at'
 (S.mkl (S.mdN np) fun (j : Nat) =>
 S.mdR np (fun (j : Nat) => tp (j + ap)) (fun (j : Nat) => vp (j + ap)) j)
 j)))
 (fun (j : Nat) =>
 Prod.snd
 (Prod.snd
 (S.at'
 (S.mkl (S.mdN np) fun (j : Nat) =>
 S.mdR np (fun (j : Nat) => tp (j + ap)) (fun (j : Nat) => vp (j + ap)) j)
 j)))
 (List.length (S.mkl (S.mdN np) fun (j : Nat) => S.mdB o j))
 (fun (j : Nat) => S.at' (S.mkl (S.mdN np) fun (j : Nat) => S.mdB o j) j) (1)
 fun (j : Nat) =>
 S.lit
 [Prod.fst
 (Prod.snd
 (S.satS
 (List.length
 (S.mkl (S.mdN np) fun (j : Nat) =>
 S.mdR np (fun (j : Nat) => tp (j + ap)) (fun (j : Nat) => vp (j + ap)) j))
 (fun (j : Nat) =>
 Prod.fst
 (S.at'
 (S.mkl (S.mdN np) fun (j : Nat) =>
 S.mdR np (fun (j : Nat) => tp (j + ap)) (fun (j : Nat) => vp (j + ap)) j)
 j))
 (fun (j : Nat) =>
 Prod.fst
 (Prod.snd
 (S.at'
 (S.mkl (S.mdN np) fun (j : Nat) =>
 S.mdR np (fun (j : Nat) => tp (j + ap)) (fun (j : Nat) => vp (j + ap)) j)
 j)))
 (fun (j : Nat) =>
 Prod.snd
 (Prod.snd
 (S.at'
 (S.mkl (S.mdN np) fun (j : Nat) =>
 S.mdR np (fun (j : Nat) => tp (j + ap)) (fun (j : Nat) => vp (j + ap)) j)
 j)))
 (List.length (S.mkl (S.mdN np) fun (j : Nat) => S.mdB o j))))]
 (0 : Int) j)))))
 then (some (.inr (false)))
 else (some (.inr (true))))
 else (none)))
 else (none))
 else (some (.inr (false))))
 else (some (.inr (false))))
 else (some (.inr (false))))
 else (some (.inr (false))))
 else (some (.inr (false))))
 else (none))
 else (none) : Option (St11 ⊕ Rt11)) = some x) : Te11 cond Kst Kret ap np mp tp vp o := by
  unfold Te11
  exact cond_yes rfl (cond_yes rfl (bif_split h
   (fun c0 h => bif_split h
   (fun c1 h => cond_yes c1 (cond_yes c1 (bif_split h
   (fun c2 h => bif_split h
   (fun c3 h => bif_split h
   (fun c4 h => bif_split h
   (fun c5 h => bif_split h
   (fun c6 h => bif_split h
   (fun c7 h => bif_split h
   (fun c8 h => ret_at hR _ h (fun n => n) rfl rfl rfl (rn_bool_tf rfl) rfl (entl_bor (use_lo rfl) rfl rfl entl_nil))
   (fun c8 h => bif_split h
   (fun c9 h => bif_split h
   (fun c10 h => ret_at hR _ h (fun n => n) rfl rfl rfl (rn_bool_tf rfl) rfl (entl_bor (use_lo rfl) rfl rfl entl_nil))
   (fun c10 h => ret_at hR _ h (fun n => n) rfl rfl rfl (rn_bool_tf rfl) rfl (entl_bor (use_lo rfl) rfl rfl entl_nil)))
   (fun c9 h => no_some h)))
   (fun c7 h => no_some h))
   (fun c6 h => ret_at hR _ h (fun n => n) rfl rfl rfl (rn_bool_tf rfl) rfl (entl_bor (use_lo rfl) rfl rfl entl_nil)))
   (fun c5 h => ret_at hR _ h (fun n => n) rfl rfl rfl (rn_bool_tf rfl) rfl (entl_bor (use_lo rfl) rfl rfl entl_nil)))
   (fun c4 h => ret_at hR _ h (fun n => n) rfl rfl rfl (rn_bool_tf rfl) rfl (entl_bor (use_lo rfl) rfl rfl entl_nil)))
   (fun c3 h => ret_at hR _ h (fun n => n) rfl rfl rfl (rn_bool_tf rfl) rfl (entl_bor (use_lo rfl) rfl rfl entl_nil)))
   (fun c2 h => ret_at hR _ h (fun n => n) rfl rfl rfl (rn_bool_tf rfl) rfl (entl_bor (use_lo rfl) rfl rfl entl_nil)))))
   (fun c1 h => no_some h))
   (fun c0 h => no_some h)))
theorem a11 (ap np mp : Nat) (tp : Nat → Int) (vp : Nat → Int) (o : Int) {r : Rt11} (h : Goes ((q11 ap np mp tp vp o)) ((p11 ap np mp tp vp o)) r) : CallR Try.prog 11 [.agg [.loose ⟨0, 2, ap, 0⟩ np, .int .u32 o]] [[(0, (false, .cols mp [.int .u8 tp, .int .u8 vp]))]] 1 ((V11 ap np mp tp vp o) r) ((fun r => [newL (1 + 1) ((N11 ap np mp tp vp o) r) ++ [(0, (false, .cols mp [.int .u8 tp, .int .u8 vp]))]]) r) 400 ∧ ∃ F, Try.prog.funcs[11]? = some F ∧ F.body.isSome = true ∧ (F.name == "runtime.NumGoroutine") = false := by
  refine dec_calls (f := 11) (lo := 1) (hi := 400) (H := [[(0, (false, .cols mp [.int .u8 tp, .int .u8 vp]))]]) (args := [.agg [.loose ⟨0, 2, ap, 0⟩ np, .int .u32 o]]) Try.envOk Try.mixed yE2_ok ((I11 ap np mp tp vp o)) ((V11 ap np mp tp vp o)) (fun r => [newL (1 + 1) ((N11 ap np mp tp vp o) r) ++ [(0, (false, .cols mp [.int .u8 tp, .int .u8 vp]))]]) (fn := mkFn Try.f11) (ts := []) (n := 400) rfl (by decide) (by simp) (names_of rfl) ?_ ?_ ?_ h
  · intro s; exact s.elim
  · intro Kst Kret x hS hR h
    exact Holds.eq (te11 cond Kst Kret ap np mp tp vp o) (be11 ap np mp tp vp o Kst Kret x hS hR h)
  · intro Kst Kret x hS hR s h; exact s.elim
noncomputable def k11 : Con := ⟨11, [.agg [.list [.int .u8, .int .u8], .plain (.int .u32)]], fun (x : ((Nat × Nat × Nat × (Nat → Int) × (Nat → Int) × Unit) × Int × Unit) × Unit) => (fun (ap np mp : Nat) (tp : Nat → Int) (vp : Nat → Int) (o : Int) => decide (ap + np ≤ mp ∧ S.bytes np (fun j => tp (j + ap)) = true ∧ S.bytes np (fun j => vp (j + ap)) = true)) x.1.1.1 x.1.1.2.1 x.1.1.2.2.1 x.1.1.2.2.2.1 x.1.1.2.2.2.2.1 x.1.2.1, fun (x : ((Nat × Nat × Nat × (Nat → Int) × (Nat → Int) × Unit) × Int × Unit) × Unit) => (fun (ap np mp : Nat) (tp : Nat → Int) (vp : Nat → Int) (o : Int) => (V11 ap np mp tp vp o) (true)) x.1.1.1 x.1.1.2.1 x.1.1.2.2.1 x.1.1.2.2.2.1 x.1.1.2.2.2.2.1 x.1.2.1, fun (x : ((Nat × Nat × Nat × (Nat → Int) × (Nat → Int) × Unit) × Int × Unit) × Unit) => (fun (ap np mp : Nat) (tp : Nat → Int) (vp : Nat → Int) (o : Int) => (N11 ap np mp tp vp o) (true)) x.1.1.1 x.1.1.2.1 x.1.1.2.2.1 x.1.1.2.2.2.1 x.1.1.2.2.2.2.1 x.1.2.1, fun _ _ => .dead⟩
theorem s11 (ap np mp : Nat) (tp : Nat → Int) (vp : Nat → Int) (o : Int) (hp : ap + np ≤ mp ∧ S.bytes np (fun j => tp (j + ap)) = true ∧ S.bytes np (fun j => vp (j + ap)) = true) : Goes ((q11 ap np mp tp vp o)) ((p11 ap np mp tp vp o)) (true) := by
  obtain ⟨hp1, hp2, hp3⟩ := hp
  unfold p11
  obtain ⟨n1, n2, -⟩ := mdN_le (np := np)
  have hlt := made_lt hp2 hp3
  have hmin := (le_minN (t := fun j => (S.mdR np (fun j => tp (j + ap)) (fun j => vp (j + ap)) j).2.1) (v := S.minN (fun j => (S.mdR np (fun j => tp (j + ap)) (fun j => vp (j + ap)) j).2.1) (S.mdN np - 1)) (n := S.mdN np - 1)).mp (Int.le_refl _)
  have hmax := (maxN_le (t := fun j => (S.mdR np (fun j => tp (j + ap)) (fun j => vp (j + ap)) j).1) (v := S.maxN (fun j => (S.mdR np (fun j => tp (j + ap)) (fun j => vp (j + ap)) j).1) (S.mdN np - 1)) (n := S.mdN np - 1)).mp (Int.le_refl _)
  have rmin : -1099511627776 ≤ S.minN (fun j => (S.mdR np (fun j => tp (j + ap)) (fun j => vp (j + ap)) j).2.1) (S.mdN np - 1) ∧ S.minN (fun j => (S.mdR np (fun j => tp (j + ap)) (fun j => vp (j + ap)) j).2.1) (S.mdN np - 1) ≤ 1099511627776 := ⟨le_minN.mpr fun j hj => by have := hlt j (by omega); omega, by have := hmin 0 (by omega); have := hlt 0 (by omega); omega⟩
  have rmax : -1099511627776 ≤ S.maxN (fun j => (S.mdR np (fun j => tp (j + ap)) (fun j => vp (j + ap)) j).1) (S.mdN np - 1) ∧ S.maxN (fun j => (S.mdR np (fun j => tp (j + ap)) (fun j => vp (j + ap)) j).1) (S.mdN np - 1) ≤ 1099511627776 := ⟨by have := hmax 0 (by omega); have := hlt 0 (by omega); omega, maxN_le.mpr fun j hj => by have := hlt j (by omega); omega⟩
  have es := made_sat hp2 hp3 (fun j => S.mdB o j)
  simp only [es]
  generalize S.minN (fun j => (S.mdR np (fun j => tp (j + ap)) (fun j => vp (j + ap)) j).2.1) (S.mdN np - 1) = mn at *
  generalize S.maxN (fun j => (S.mdR np (fun j => tp (j + ap)) (fun j => vp (j + ap)) j).1) (S.mdN np - 1) = mx at *
  have e1 := made_one hp2 hp3 mn (fun j => S.mdB o j) rmin
  have e2 := made_one hp2 hp3 mx (fun j => S.mdB o j) rmax
  have f1 : (S.mkl (S.mdN np) fun j => S.aft ((S.mdR np (fun j => tp (j + ap)) (fun j => vp (j + ap)) j).1) ((S.mdR np (fun j => tp (j + ap)) (fun j => vp (j + ap)) j).2.1) (S.mdB o j) mn) = S.mkl (S.mdN np) fun j => false := mkl_congr fun j hj => by
    have := hmin j (by omega); have := hlt j hj
    simp only [S.aft, Bool.cond_eq_ite, decide_eq_true_eq]
    rw [if_neg (by omega), if_pos (by omega)]
  have f2 : (S.mkl (S.mdN np) fun j => S.aft ((S.mdR np (fun j => tp (j + ap)) (fun j => vp (j + ap)) j).1) ((S.mdR np (fun j => tp (j + ap)) (fun j => vp (j + ap)) j).2.1) (S.mdB o j) mx) = S.mkl (S.mdN np) fun j => true := mkl_congr fun j hj => by
    have := hmax j (by omega); have := hlt j hj
    simp only [S.aft, Bool.cond_eq_ite, decide_eq_true_eq]
    rw [if_pos (by omega)]
  rw [f1] at e1
  rw [f2] at e2
  simp only [e1, e2]
  have a1 : S.any (fun j => decide (S.at' (S.mkl (S.mdN np) fun j => false) j = true)) (S.mkl (S.mdN np) fun j => false).length = false := any_no.mpr fun j hj => by rw [mkl_len] at hj; rw [at_mkl hj]; rfl
  have a2 : S.any (fun j => decide (S.at' (S.mkl (S.mdN np) fun j => true) j = false)) (S.mkl (S.mdN np) fun j => true).length = false := any_no.mpr fun j hj => by rw [mkl_len] at hj; rw [at_mkl hj]; rfl
  simp only [mkl_len] at a1 a2 ⊢
  simp only [a1, a2]
  refine goes_ok (decide_eq_true ⟨hp1, hp2, hp3⟩) ?_
  repeat' first
    | with_reducible exact goes_inr.mpr rfl
    | (refine goes_ok ?_ ?_; first | with_reducible exact beq_self_eq_true _ | with_reducible exact decide_eq_true trivial | with_reducible exact decide_eq_true rfl | (simp only [eq_self, decide_true, Bool.and_self, Bool.and_true, Bool.true_and]; done) | (apply decide_eq_true; omega) | (rw [lim64]; apply decide_eq_true; omega) | (apply decide_eq_true; simp only [mkl_len, mkl_zero, List.length_nil, true_and, and_true, and_self, Nat.zero_add, Nat.add_zero, Nat.le_refl]; done) | (apply decide_eq_true; simp only [mkl_len, mkl_zero, List.length_nil, true_and, and_true, and_self, Nat.zero_add, Nat.add_zero, Nat.le_refl]; omega) | (simp only [Bool.and_eq_true, decide_eq_true_eq, and_self, eq_self]; done) | decide)
    | (refine goes_no ?_ ?_; first | with_reducible exact bne_self_eq_false _ | (apply decide_eq_false; omega) | decide | rfl)

theorem k11_ok : k11.ok Try.prog := by
  intro x hx
  obtain ⟨⟨⟨ap, np, mp, tp, vp, _⟩, o, _⟩, _⟩ := x
  obtain ⟨h1, h2⟩ := a11 ap np mp tp vp o (s11 ap np mp tp vp o (of_decide_eq_true hx))
  exact ⟨⟨400, (by decide : 1 + 1 + 0 ≤ 400), h1⟩, h2⟩


end Go.Ev
