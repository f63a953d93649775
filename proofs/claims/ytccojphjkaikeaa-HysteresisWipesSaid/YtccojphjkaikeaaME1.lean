/-
  The law of Wipes.
-/
import Derived.Test.YtccojphjkaikeaaME1a
import Derived.Test.YtccojphjkaikeaaMD2
import Derived.Test.YtccojphjkaikeaaMA8
import Derived.Test.YtccojphjkaikeaaMB6
namespace Go.Ev
open Go.Proofs
set_option linter.unusedVariables false
set_option linter.unusedSimpArgs false
set_option maxRecDepth 100000
noncomputable def yE1 (test : Bool → Prop → Prop → Prop) : Ext := consX test [k12, k30, k31, k24, k27, k23]
theorem yE1_ok : ExtOk Try.prog (yE1 cond) := consX_ok (l := [k12, k30, k31, k24, k27, k23]) ⟨k12_ok, k30_ok, k31_ok, k24_ok, k27_ok, k23_ok, trivial⟩
abbrev St6 := Empty
abbrev Rt6 := Bool
noncomputable def V6 (ap np mp : Nat) (tp : Nat → Int) (vp : Nat → Int) (o : Int) (al nl ml : Nat) (tl : Nat → Int) (r : Rt6) : PV := PV.bool r
noncomputable def N6 (ap np mp : Nat) (tp : Nat → Int) (vp : Nat → Int) (o : Int) (al nl ml : Nat) (tl : Nat → Int) (r : Rt6) : List Blk := []
noncomputable def I6 (ap np mp : Nat) (tp : Nat → Int) (vp : Nat → Int) (o : Int) (al nl ml : Nat) (tl : Nat → Int) : St6 → Hd := fun s => s.elim
noncomputable def q6 (ap np mp : Nat) (tp : Nat → Int) (vp : Nat → Int) (o : Int) (al nl ml : Nat) (tl : Nat → Int) : St6 → Option (St6 ⊕ Rt6) := fun s => s.elim
noncomputable def p6 (ap np mp : Nat) (tp : Nat → Int) (vp : Nat → Int) (o : Int) (al nl ml : Nat) (tl : Nat → Int) : Option (St6 ⊕ Rt6) := bif (decide ((↑nl : Int) > (200 : Int)))
 then (some (.inr (true)))
 else (bif (decide
 (ap + np ≤ mp ∧
 (S.bytes np fun (j : Nat) => tp (j + ap)) = true ∧
 (S.bytes np fun (j : Nat) => vp (j + ap)) = true))
 then (bif (decide (al + nl ≤ ml ∧ nl ≤ 999999 ∧ (S.bytes nl fun (j : Nat) => tl (j + al)) = true))
 then (bif (decide
 (0 +
 List.length
 (S.mkl (S.mdN np) fun (j : Nat) =>
 S.mdR np (fun (j : Nat) => tp (j + ap)) (fun (j : Nat) => vp (j + ap)) j) ≤
 List.length
 (S.mkl (S.mdN np) fun (j : Nat) =>
 S.mdR np (fun (j : Nat) => tp (j + ap)) (fun (j : Nat) => vp (j + ap)) j) ∧
 List.length
 (S.mkl (S.mdN np) fun (j : Nat) =>
 S.mdR np (fun (j : Nat) => tp (j + ap)) (fun (j : Nat) => vp (j + ap)) j) ≤
 1000000 ∧
 0 + List.length (S.mkl (S.mdN np) fun (j : Nat) => S.mdB o j) ≤
 List.length (S.mkl (S.mdN np) fun (j : Nat) => S.mdB o j) ∧
 List.length (S.mkl (S.mdN np) fun (j : Nat) => S.mdB o j) ≤ 1000000 ∧
 0 + List.length (S.mkl nl fun (j : Nat) => S.inp (tl (j + al))) ≤
 List.length (S.mkl nl fun (j : Nat) => S.inp (tl (j + al))) ∧
 List.length (S.mkl nl fun (j : Nat) => S.inp (tl (j + al))) ≤ 1000000))
 then (bif (decide
 (0 + List.length (S.mkl nl fun (j : Nat) => S.inp (tl (j + al))) ≤
 List.length (S.mkl nl fun (j : Nat) => S.inp (tl (j + al))) ∧
 List.length (S.mkl nl fun (j : Nat) => S.inp (tl (j + al))) ≤ 999999))
 then (bif (decide
 (0 +
 List.length
 (S.mkl (S.mdN np) fun (j : Nat) =>
 S.mdR np (fun (j : Nat) => tp (j + ap)) (fun (j : Nat) => vp (j + ap)) j) ≤
 List.length
 (S.mkl (S.mdN np) fun (j : Nat) =>
 S.mdR np (fun (j : Nat) => tp (j + ap)) (fun (j : Nat) => vp (j + ap)) j) ∧
 List.length
 (S.mkl (S.mdN np) fun (j : Nat) =>
 S.mdR np (fun (j : Nat) => tp (j + ap)) (fun (j : Nat) => vp (j + ap)) j) ≤
 1000000 ∧
 0 + List.length (S.mkl (S.mdN np) fun (j : Nat) => S.mdB o j) ≤
 List.length (S.mkl (S.mdN np) fun (j : Nat) => S.mdB o j) ∧
 List.length (S.mkl (S.mdN np) fun (j : Nat) => S.mdB o j) ≤ 1000000 ∧
 0 +
 List.length
 (S.redP
 (fun (j : Nat) => S.at' (S.mkl nl fun (j : Nat) => S.inp (tl (j + al))) j)
 (List.length (S.mkl nl fun (j : Nat) => S.inp (tl (j + al))))
 (List.length (S.mkl nl fun (j : Nat) => S.inp (tl (j + al))))) ≤
 List.length
 (S.redP
 (fun (j : Nat) => S.at' (S.mkl nl fun (j : Nat) => S.inp (tl (j + al))) j)
 (List.length (S.mkl nl fun (j : Nat) => S.inp (tl (j + al))))
 (List.length (S.mkl nl fun (j : Nat) => S.inp (tl (j + al))))) ∧
 List.length
 (S.redP
 (fun (j : Nat) => S.at' (S.mkl nl fun (j : Nat) => S.inp (tl (j + al))) j)
 (List.length (S.mkl nl fun (j : Nat) => S.inp (tl (j + al))))
 (List.length (S.mkl nl fun (j : Nat) => S.inp (tl (j + al))))) ≤
 1000000))
 then (bif (Prod.fst
 (S.histS
 (List.length
 (S.mkl (S.mdN np) fun (j : Nat) =>
 S.mdR np (fun (j : Nat) => tp (j + ap)) (fun (j : Nat) => vp (j + ap)) j))
 (fun (j : Nat) =>
 Prod.fst
 (S.at'
 (S.mkl (S.mdN np) fun (j : Nat) =>
 S.mdR np (fun (j : Nat) => tp (j + ap)) (fun (j : Nat) => vp (j + ap)) j)
 j))
 (fun (j : Nat) =>
 Prod.fst
 (Prod.snd
 (S.at'
 (S.mkl (S.mdN np) fun (j : Nat) =>
 S.mdR np (fun (j : Nat) => tp (j + ap)) (fun (j : Nat) => vp (j + ap)) j)
 j)))
 (fun (j : Nat) =>
 Prod.snd
 (Prod.snd
 (S.at'
 (S.mkl (S.mdN np) fun (j : Nat) =>
 S.mdR np (fun (j : Nat) => tp (j + ap)) (fun (j : Nat) => vp (j + ap)) j)
 j)))
 (List.length (S.mkl (S.mdN np) fun (j : Nat) => S.mdB o j))
 (fun (j : Nat) => S.at' (S.mkl (S.mdN np) fun (j : Nat) => S.mdB o j) j)
 (List.length (S.mkl nl fun (j : Nat) => S.inp (tl (j + al)))) fun (j : Nat) =>
 S.at' (S.mkl nl fun (j : Nat) => S.inp (tl (j + al))) j) ==
 (0 : Int))
 then (bif (Prod.fst
 (S.histS
 (List.length
 (S.mkl (S.mdN np) fun (j : Nat) =>
 S.mdR np (fun (j : Nat) => tp (j + ap)) (fun (j : Nat) => vp (j + ap)) j))
 (fun (j : Nat) =>
 Prod.fst
 (S.at'
 (S.mkl (S.mdN np) fun (j : Nat) =>
 S.mdR np (fun (j : Nat) => tp (j + ap)) (fun (j : Nat) => vp (j + ap)) j)
 j))
 (fun (j : Nat) =>
 Prod.fst
 (Prod.snd
 (S.at'
 (S.mkl (S.mdN np) fun (j : Nat) =>
 S.mdR np (fun (j : Nat) => tp (j + ap)) (fun (j : Nat) => vp (j + ap)) j)
 j)))
 (fun (j : Nat) =>
 Prod.snd
 (Prod.snd
 (S.at'
 (S.mkl (S.mdN np) fun (j : Nat) =>
 S.mdR np (fun (j : Nat) => tp (j + ap)) (fun (j : Nat) => vp (j + ap)) j)
 j)))
 (List.length (S.mkl (S.mdN np) fun (j : Nat) => S.mdB o j))
 (fun (j : Nat) => S.at' (S.mkl (S.mdN np) fun (j : Nat) => S.mdB o j) j)
 (List.length
 (S.redP (fun (j : Nat) => S.at' (S.mkl nl fun (j : Nat) => S.inp (tl (j + al))) j)
 (List.length (S.mkl nl fun (j : Nat) => S.inp (tl (j + al))))
 (List.length (S.mkl nl fun (j : Nat) => S.inp (tl (j + al))))))
 fun (j : Nat) =>
 S.at'
 (S.redP (fun (j : Nat) => S.at' (S.mkl nl fun (j : Nat) => S.inp (tl (j + al))) j)
 (List.length (S.mkl nl fun (j : Nat) => S.inp (tl (j + al))))
 (List.length (S.mkl nl fun (j : Nat) => S.inp (tl (j + al)))))
 j) ==
 (0 : Int))
 then (bif (decide
 (0 +
 List.length
 (Prod.fst
 (Prod.snd
 (S.histS
 (List.length
 (S.mkl (S.mdN np) fun (j : Nat) =>
 S.mdR np (fun (j : Nat) => tp (j + ap)) (fun (j : Nat) => vp (j + ap)) j))
 (fun (j : Nat) =>
 Prod.fst
 (S.at'
 (S.mkl (S.mdN np) fun (j : Nat) =>
 S.mdR np (fun (j : Nat) => tp (j + ap)) (fun (j : Nat) => vp (j + ap)) j)
 j))
 (fun (j : Nat) =>
 Prod.fst
 (Prod.snd
 (S.at'
 (S.mkl (S.mdN np) fun (j : Nat) =>
 S.mdR np (fun (j : Nat) => tp (j + ap)) (fun (j : Nat) => vp (j + ap)) j)
 j)))
 (fun (j : Nat) =>
 Prod.snd
 (Prod.snd
 (S.at'
 (S.mkl (S.mdN np) fun (j : Nat) =>
 S.mdR np (fun (j : Nat) => tp (j + ap)) (fun (j : Nat) => vp (j + ap)) j)
 j)))
 (List.length (S.mkl (S.mdN np) fun (j : Nat) => S.mdB o j))
 (fun (j : Nat) => S.at' (S.mkl (S.mdN np) fun (j : Nat) => S.mdB o j) j)
 (List.length (S.mkl nl fun (j : Nat) => S.inp (tl (j + al)))) fun (j : Nat) =>
 S.at' (S.mkl nl fun (j : Nat) => S.inp (tl (j + al))) j))) ≤
 List.length
 (Prod.fst
 (Prod.snd
 (S.histS
 (List.length
 (S.mkl (S.mdN np) fun (j : Nat) =>
 S.mdR np (fun (j : Nat) => tp (j + ap)) (fun (j : Nat) => vp (j + ap)) j))
 (fun (j : Nat) =>
 Prod.fst
 (S.at'
 (S.mkl (S.mdN np) fun (j : Nat) =>
 S.mdR np (fun (j : Nat) => tp (j + ap)) (fun (j : Nat) => vp (j + ap)) j)
 j))
 (fun (j : Nat) =>
 Prod.fst
 (Prod.snd
 (S.at'
 (S.mkl (S.mdN np) fun (j : Nat) =>
 S.mdR np (fun (j : Nat) => tp (j + ap)) (fun (j : Nat) => vp (j + ap)) j)
 j)))
 (fun (j : Nat) =>
 Prod.snd
 (Prod.snd
 (S.at'
 (S.mkl (S.mdN np) fun (j : Nat) =>
 S.mdR np (fun (j : Nat) => tp (j + ap)) (fun (j : Nat) => vp (j + ap)) j)
 j)))
 (List.length (S.mkl (S.mdN np) fun (j : Nat) => S.mdB o j))
 (fun (j : Nat) => S.at' (S.mkl (S.mdN np) fun (j : Nat) => S.mdB o j) j)
 (List.length (S.mkl nl fun (j : Nat) => S.inp (tl (j + al)))) fun (j : Nat) =>
 S.at' (S.mkl nl fun (j : Nat) => S.inp (tl (j + al))) j))) ∧
 List.length
 (Prod.fst
 (Prod.snd
 (S.histS
 (List.length
 (S.mkl (S.mdN np) fun (j : Nat) =>
 S.mdR np (fun (j : Nat) => tp (j + ap)) (fun (j : Nat) => vp (j + ap)) j))
 (fun (j : Nat) =>
 Prod.fst
 (S.at'
 (S.mkl (S.mdN np) fun (j : Nat) =>
 S.mdR np (fun (j : Nat) => tp (j + ap)) (fun (j : Nat) => vp (j + ap)) j)
 j))
 (fun (j : Nat) =>
 Prod.fst
 (Prod.snd
 (S.at'
 (S.mkl (S.mdN np) fun (j : Nat) =>
 S.mdR np (fun (j : Nat) => tp (j + ap)) (fun (j : Nat) => vp (j + ap)) j)
 j)))
 (fun (j : Nat) =>
 Prod.snd
 (Prod.snd
 (S.at'
 (S.mkl (S.mdN np) fun (j : Nat) =>
 S.mdR np (fun (j : Nat) => tp (j + ap)) (fun (j : Nat) => vp (j + ap)) j)
 j)))
 (List.length (S.mkl (S.mdN np) fun (j : Nat) => S.mdB o j))
 (fun (j : Nat) => S.at' (S.mkl (S.mdN np) fun (j : Nat) => S.mdB o j) j)
 (List.length (S.mkl nl fun (j : Nat) => S.inp (tl (j + al)))) fun (j : Nat) =>
 S.at' (S.mkl nl fun (j : Nat) => S.inp (tl (j + al))) j))) ≤
 1000000 ∧
 0 +
 List.length
 (Prod.snd
 (Prod.snd
 (S.histS
 (List.length
 (S.mkl (S.mdN np) fun (j : Nat) =>
 S.mdR np (fun (j : Nat) => tp (j + ap)) (fun (j : Nat) => vp (j + ap)) j))
 (fun (j : Nat) =>
 Prod.fst
 (S.at'
 (S.mkl (S.mdN np) fun (j : Nat) =>
 S.mdR np (fun (j : Nat) => tp (j + ap)) (fun (j : Nat) => vp (j + ap)) j)
 j))
 (fun (j : Nat) =>
 Prod.fst
 (Prod.snd
 (S.at'
 (S.mkl (S.mdN np) fun (j : Nat) =>
 S.mdR np (fun (j : Nat) => tp (j + ap)) (fun (j : Nat) => vp (j + ap)) j)
 j)))
 (fun (j : Nat) =>
 Prod.snd
 (Prod.snd
 (S.at'
 (S.mkl (S.mdN np) fun (j : Nat) =>
 S.mdR np (fun (j : Nat) => tp (j + ap)) (fun (j : Nat) => vp (j + ap)) j)
 j)))
 (List.length (S.mkl (S.mdN np) fun (j : Nat) => S.mdB o j))
 (fun (j : Nat) => S.at' (S.mkl (S.mdN np) fun (j : Nat) => S.mdB o j) j)
 (List.length (S.mkl nl fun (j : Nat) => S.inp (tl (j + al)))) fun (j : Nat) =>
 S.at' (S.mkl nl fun (j : Nat) => S.inp (tl (j + al))) j))) ≤
 List.length
 (Prod.snd
 (Prod.snd
 (S.histS
 (List.length
 (S.mkl (S.mdN np) fun (j : Nat) =>
 S.mdR np (fun (j : Nat) => tp (j + ap)) (fun (j : Nat) => vp (j + ap)) j))
 (fun (j : Nat) =>
 Prod.fst
 (S.at'
 (S.mkl (S.mdN np) fun (j : Nat) =>
 S.mdR np (fun (j : Nat) => tp (j + ap)) (fun (j : Nat) => vp (j + ap)) j)
 j))
 (fun (j : Nat) =>
 Prod.fst
 (Prod.snd
 (S.at'
 (S.mkl (S.mdN np) fun (j : Nat) =>
 S.mdR np (fun (j : Nat) => tp (j + ap)) (fun (j : Nat) => vp (j + ap)) j)
 j)))
 (fun (j : Nat) =>
 Prod.snd
 (Prod.snd
 (S.at'
 (S.mkl (S.mdN np) fun (j : Nat) =>
 S.mdR np (fun (j : Nat) => tp (j + ap)) (fun (j : Nat) => vp (j + ap)) j)
 j)))
 (List.length (S.mkl (S.mdN np) fun (j : Nat) => S.mdB o j))
 (fun (j : Nat) => S.at' (S.mkl (S.mdN np) fun (j : Nat) => S.mdB o j) j)
 (List.length (S.mkl nl fun (j : Nat) => S.inp (tl (j + al)))) fun (j : Nat) =>
 S.at' (S.mkl nl fun (j : Nat) => S.inp (tl (j + al))) j))) ∧
 List.length
 (Prod.snd
 (Prod.snd
 (S.histS
 (List.length
 (S.mkl (S.mdN np) fun (j : Nat) =>
 S.mdR np (fun (j : Nat) => tp (j + ap)) (fun (j : Nat) => vp (j + ap)) j))
 (fun (j : Nat) =>
 Prod.fst
 (S.at'
 (S.mkl (S.mdN np) fun (j : Nat) =>
 S.mdR np (fun (j : Nat) => tp (j + ap)) (fun (j : Nat) => vp (j + ap)) j)
 j))
 (fun (j : Nat) =>
 Prod.fst
 (Prod.snd
 (S.at'
 (S.mkl (S.mdN np) fun (j : Nat) =>
 S.mdR np (fun (j : Nat) => tp (j + ap)) (fun (j : Nat) => vp (j + ap)) j)
 j)))
 (fun (j : Nat) =>
 Prod.snd
 (Prod.snd
 (S.at'
 (S.mkl (S.mdN np) fun (j : Nat) =>
 S.mdR np (fun (j : Nat) => tp (j + ap)) (fun (j : Nat) => vp (j + ap)) j)
 j)))
 (List.length (S.mkl (S.mdN np) fun (j : Nat) => S.mdB o j))
 (fun (j : Nat) => S.at' (S.mkl (S.mdN np) fun (j : Nat) => S.mdB o j) j)
 (List.length (S.mkl nl fun (j : Nat) => S.inp (tl (j + al)))) fun (j : Nat) =>
 S.at' (S.mkl nl fun (j : Nat) => S.inp (tl (j + al))) j))) ≤
 1000000 ∧
 0 +
 List.length
 (Prod.fst
 (Prod.snd
 (S.histS
 (List.length
 (S.mkl (S.mdN np) fun (j : Nat) =>
 S.mdR np (fun (j : Nat) => tp (j + ap)) (fun (j : Nat) => vp (j + ap)) j))
 (fun (j : Nat) =>
 Prod.fst
 (S.at'
 (S.mkl (S.mdN np) fun (j : Nat) =>
 S.mdR np (fun (j : Nat) => tp (j + ap)) (fun (j : Nat) => vp (j + ap)) j)
 j))
 (fun (j : Nat) =>
 Prod.fst
 (Prod.snd
 (S.at'
 (S.mkl (S.mdN np) fun (j : Nat) =>
 S.mdR np (fun (j : Nat) => tp (j + ap)) (fun (j : Nat) => vp (j + ap)) j)
 j)))
 (fun (j : Nat) =>
 Prod.snd
 (Prod.snd
 (S.at'
 (S.mkl (S.mdN np) fun (j : Nat) =>
 S.mdR np (fun (j : Nat) => tp (j + ap)) (fun (j : Nat) => vp (j + ap)) j)
 j)))
 (List.length (S.mkl (S.mdN np) fun (j : Nat) => S.mdB o j))
 (fun (j : Nat) => S.at' (S.mkl (S.mdN np) fun (j : Nat) => S.mdB o j) j)
 (List.length
 (S.redP
 (fun (j : Nat) => S.at' (S.mkl nl fun (j : Nat) => S.inp (tl (j + al))) j)
 (List.length (S.mkl nl fun (j : Nat) => S.inp (tl (j + al))))
 (List.length (S.mkl nl fun (j : Nat) => S.inp (tl (j + al))))))
 fun (j : Nat) =>
 S.at'
 (S.redP
 (fun (j : Nat) => S.at' (S.mkl nl fun (j : Nat) => S.inp (tl (j + al))) j)
 (List.length (S.mkl nl fun (j : Nat) => S.inp (tl (j + al))))
 (List.length (S.mkl nl fun (j : Nat) => S.inp (tl (j + al)))))
 j))) ≤
 List.length
 (Prod.fst
 (Prod.snd
 (S.histS
 (List.length
 (S.mkl (S.mdN np) fun (j : Nat) =>
 S.mdR np (fun (j : Nat) => tp (j + ap)) (fun (j : Nat) => vp (j + ap)) j))
 (fun (j : Nat) =>
 Prod.fst
 (S.at'
 (S.mkl (S.mdN np) fun (j : Nat) =>
 S.mdR np (fun (j : Nat) => tp (j + ap)) (fun (j : Nat) => vp (j + ap)) j)
 j))
 (fun (j : Nat) =>
 Prod.fst
 (Prod.snd
 (S.at'
 (S.mkl (S.mdN np) fun (j : Nat) =>
 S.mdR np (fun (j : Nat) => tp (j + ap)) (fun (j : Nat) => vp (j + ap)) j)
 j)))
 (fun (j : Nat) =>
 Prod.snd
 (Prod.snd
 (S.at'
 (S.mkl (S.mdN np) fun (j : Nat) =>
 S.mdR np (fun (j : Nat) => tp (j + ap)) (fun (j : Nat) => vp (j + ap)) j)
 j)))
 (List.length (S.mkl (S.mdN np) fun (j : Nat) => S.mdB o j))
 (fun (j : Nat) => S.at' (S.mkl (S.mdN np) fun (j : Nat) => S.mdB o j) j)
 (List.length
 (S.redP
 (fun (j : Nat) => S.at' (S.mkl nl fun (j : Nat) => S.inp (tl (j + al))) j)
 (List.length (S.mkl nl fun (j : Nat) => S.inp (tl (j + al))))
 (List.length (S.mkl nl fun (j : Nat) => S.inp (tl (j + al))))))
 fun (j : Nat) =>
 S.at'
 (S.redP
 (fun (j : Nat) => S.at' (S.mkl nl fun (j : Nat) => S.inp (tl (j + al))) j)
 (List.length (S.mkl nl fun (j : Nat) => S.inp (tl (j + al))))
 (List.length (S.mkl nl fun (j : Nat) => S.inp (tl (j + al)))))
 j))) ∧
 List.length
 (Prod.fst
 (Prod.snd
 (S.histS
 (List.length
 (S.mkl (S.mdN np) fun (j : Nat) =>
 S.mdR np (fun (j : Nat) => tp (j + ap)) (fun (j : Nat) => vp (j + ap)) j))
 (fun (j : Nat) =>
 Prod.fst
 (S.at'
 (S.mkl (S.mdN np) fun (j : Nat) =>
 S.mdR np (fun (j : Nat) => tp (j + ap)) (fun (j : Nat) => vp (j + ap)) j)
 j))
 (fun (j : Nat) =>
 Prod.fst
 (Prod.snd
 (S.at'
 (S.mkl (S.mdN np) fun (j : Nat) =>
 S.mdR np (fun (j : Nat) => tp (j + ap)) (fun (j : Nat) => vp (j + ap)) j)
 j)))
 (fun (j : Nat) =>
 Prod.snd
 (Prod.snd
 (S.at'
 (S.mkl (S.mdN np) fun (j : Nat) =>
 S.mdR np (fun (j : Nat) => tp (j + ap)) (fun (j : Nat) => vp (j + ap)) j)
 j)))
 (List.length (S.mkl (S.mdN np) fun (j : Nat) => S.mdB o j))
 (fun (j : Nat) => S.at' (S.mkl (S.mdN np) fun (j : Nat) => S.mdB o j) j)
 (List.length
 (S.redP
 (fun (j : Nat) => S.at' (S.mkl nl fun (j : Nat) => S.inp (tl (j + al))) j)
 (List.length (S.mkl nl fun (j : Nat) => S.inp (tl (j + al))))
 (List.length (S.mkl nl fun (j : Nat) => S.inp (tl (j + al))))))
 fun (j : Nat) =>
 S.at'
 (S.redP
 (fun (j : Nat) => S.at' (S.mkl nl fun (j : Nat) => S.inp (tl (j + al))) j)
 (List.length (S.mkl nl fun (j : Nat) => S.inp (tl (j + al))))
 (List.length (S.mkl nl fun (j : Nat) => S.inp (tl (j + al)))))
 j))) ≤
 1000000 ∧
 0 +
 List.length
 (Prod.snd
 (Prod.snd
 (S.histS
 (List.length
 (S.mkl (S.mdN np) fun (j : Nat) =>
 S.mdR np (fun (j : Nat) => tp (j + ap)) (fun (j : Nat) => vp (j + ap)) j))
 (fun (j : Nat) =>
 Prod.fst
 (S.at'
 (S.mkl (S.mdN np) fun (j : Nat) =>
 S.mdR np (fun (j : Nat) => tp (j + ap)) (fun (j : Nat) => vp (j + ap)) j)
 j))
 (fun (j : Nat) =>
 Prod.fst
 (Prod.snd
 (S.at'
 (S.mkl (S.mdN np) fun (j : Nat) =>
 S.mdR np (fun (j : Nat) => tp (j + ap)) (fun (j : Nat) => vp (j + ap)) j)
 j)))
 (fun (j : Nat) =>
 Prod.snd
 (Prod.snd
 (S.at'
 (S.mkl (S.mdN np) fun (j : Nat) =>
 S.mdR np (fun (j : Nat) => tp (j + ap)) (fun (j : Nat) => vp (j + ap)) j)
 j)))
 (List.length (S.mkl (S.mdN np) fun (j : Nat) => S.mdB o j))
 (fun (j : Nat) =>
 S.at' (S.mkl (S.mdN np) fun (j : Nat) => S.mdB o j) j)
 (List.length
 (S.redP
 (fun (j : Nat) =>
 S.at' (S.mkl nl fun (j : Nat) => S.inp (tl (j + al))) j)
 (List.length (S.mkl nl fun (j : Nat) => S.inp (tl (j + al))))
 (List.length (S.mkl nl fun (j : Nat) => S.inp (tl (j + al))))))
 fun (j : Nat) =>
 S.at'
 (S.redP
 (fun (j : Nat) =>
 S.at' (S.mkl nl fun (j : Nat) => S.inp (tl (j + al))) j)
 (List.length (S.mkl nl fun (j : Nat) => S.inp (tl (j + al))))
 (List.length (S.mkl nl fun (j : Nat) => S.inp (tl (j + al)))))
 j))) ≤
 List.length
 (Prod.snd
 (Prod.snd
 (S.histS
 (List.length
 (S.mkl (S.mdN np) fun (j : Nat) =>
 S.mdR np (fun (j : Nat) => tp (j + ap)) (fun (j : Nat) => vp (j + ap)) j))
 (fun (j : Nat) =>
 Prod.fst
 (S.at'
 (S.mkl (S.mdN np) fun (j : Nat) =>
 S.mdR np (fun (j : Nat) => tp (j + ap)) (fun (j : Nat) => vp (j + ap)) j)
 j))
 (fun (j : Nat) =>
 Prod.fst
 (Prod.snd
 (S.at'
 (S.mkl (S.mdN np) fun (j : Nat) =>
 S.mdR np (fun (j : Nat) => tp (j + ap)) (fun (j : Nat) => vp (j + ap)) j)
 j)))
 (fun (j : Nat) =>
 Prod.snd
 (Prod.snd
 (S.at'
 (S.mkl (S.mdN np) fun (j : Nat) =>
 S.mdR np (fun (j : Nat) => tp (j + ap)) (fun (j : Nat) => vp (j + ap)) j)
 j)))
 (List.length (S.mkl (S.mdN np) fun (j : Nat) => S.mdB o j))
 (fun (j : Nat) =>
 S.at' (S.mkl (S.mdN np) fun (j : Nat) => S.mdB o j) j)
 (List.length
 (S.redP
 (fun (j : Nat) =>
 S.at' (S.mkl nl fun (j : Nat) => S.inp (tl (j + al))) j)
 (List.length (S.mkl nl fun (j : Nat) => S.inp (tl (j + al))))
 (List.length (S.mkl nl fun (j : Nat) => S.inp (tl (j + al))))))
 fun (j : Nat) =>
 S.at'
 (S.redP
 (fun (j : Nat) =>
 S.at' (S.mkl nl fun (j : Nat) => S.inp (tl (j + al))) j)
 (List.length (S.mkl nl fun (j : Nat) => S.inp (tl (j + al))))
 (List.length (S.mkl nl fun (j : Nat) => S.inp (tl (j + al)))))
 j))) ∧
 List.length
 (Prod.snd
 (Prod.snd
 (S.histS
 (List.length
 (S.mkl (S.mdN np) fun (j : Nat) =>
 S.mdR np (fun (j : Nat) => tp (j + ap)) (fun (j : Nat) => vp (j + ap)) j))
 (fun (j : Nat) =>
 Prod.fst
 (S.at'
 (S.mkl (S.mdN np) fun (j : Nat) =>
 S.mdR np (fun (j : Nat) => tp (j + ap)) (fun (j : Nat) => vp (j + ap)) j)
 j))
 (fun (j : Nat) =>
 Prod.fst
 (Prod.snd
 (S.at'
 (S.mkl (S.mdN np) fun (j : Nat) =>
 S.mdR np (fun (j : Nat) => tp (j + ap)) (fun (j : Nat) => vp (j + ap)) j)
 j)))
 (fun (j : Nat) =>
 Prod.snd
 (Prod.snd
 (S.at'
 (S.mkl (S.mdN np) fun (j : Nat) =>
 S.mdR np (fun (j : Nat) => tp (j + ap)) (fun (j : Nat) => vp (j + ap)) j)
 j)))
 (List.length (S.mkl (S.mdN np) fun (j : Nat) => S.mdB o j))
 (fun (j : Nat) =>
 S.at' (S.mkl (S.mdN np) fun (j : Nat) => S.mdB o j) j)
 (List.length
 (S.redP
 (fun (j : Nat) =>
 S.at' (S.mkl nl fun (j : Nat) => S.inp (tl (j + al))) j)
 (List.length (S.mkl nl fun (j : Nat) => S.inp (tl (j + al))))
 (List.length (S.mkl nl fun (j : Nat) => S.inp (tl (j + al))))))
 fun (j : Nat) =>
 S.at'
 (S.redP
 (fun (j : Nat) =>
 S.at' (S.mkl nl fun (j : Nat) => S.inp (tl (j + al))) j)
 (List.length (S.mkl nl fun (j : Nat) => S.inp (tl (j + al))))
 (List.length (S.mkl nl fun (j : Nat) => S.inp (tl (j + al)))))
 j))) ≤
 1000000))
 then (bif (decide
 ((S.mkl
 (List.length
 (Prod.fst
 (Prod.snd
 (S.histS
 (List.length
 (S.mkl (S.mdN np) fun (j : Nat) =>
 S.mdR np (fun (j : Nat) => tp (j + ap)) (fun (j : Nat) => vp (j + ap)) j))
 (fun (j : Nat) =>
 Prod.fst
 (S.at'
 (S.mkl (S.mdN np) fun (j : Nat) =>
 S.mdR np (fun (j : Nat) => tp (j + ap)) (fun (j : Nat) => vp (j + ap)) j)
 j))
 (fun (j : Nat) =>
 Prod.fst
 (Prod.snd
 (S.at'
 (S.mkl (S.mdN np) fun (j : Nat) =>
 S.mdR np (fun (j : Nat) => tp (j + ap)) (fun (j : Nat) => vp (j + ap)) j)
 j)))
 (fun (j : Nat) =>
 Prod.snd
 (Prod.snd
 (S.at'
 (S.mkl (S.mdN np) fun (j : Nat) =>
 S.mdR np (fun (j : Nat) => tp (j + ap)) (fun (j : Nat) => vp (j + ap)) j)
 j)))
 (List.length (S.mkl (S.mdN np) fun (j : Nat) => S.mdB o j))
 (fun (j : Nat) => S.at' (S.mkl (S.mdN np) fun (j : Nat) => S.mdB o j) j)
 (List.length (S.mkl nl fun (j : Nat) => S.inp (tl (j + al)))) fun (j : Nat) =>
 S.at' (S.mkl nl fun (j : Nat) => S.inp (tl (j + al))) j))))
 fun (j : Nat) =>
 (Prod.fst
 (S.at'
 (Prod.fst
 (Prod.snd
 (S.histS
 (List.length
 (S.mkl (S.mdN np) fun (j : Nat) =>
 S.mdR np (fun (j : Nat) => tp (j + ap)) (fun (j : Nat) => vp (j + ap)) j))
 (fun (j : Nat) =>
 Prod.fst
 (S.at'
 (S.mkl (S.mdN np) fun (j : Nat) =>
 S.mdR np (fun (j : Nat) => tp (j + ap)) (fun (j : Nat) => vp (j + ap)) j)
 j))
 (fun (j : Nat) =>
 Prod.fst
 (Prod.snd
 (S.at'
 (S.mkl (S.mdN np) fun (j : Nat) =>
 S.mdR np (fun (j : Nat) => tp (j + ap)) (fun (j : Nat) => vp (j + ap)) j)
 j)))
 (fun (j : Nat) =>
 Prod.snd
 (Prod.snd
 (S.at'
 (S.mkl (S.mdN np) fun (j : Nat) =>
 S.mdR np (fun (j : Nat) => tp (j + ap)) (fun (j : Nat) => vp (j + ap)) j)
 j)))
 (List.length (S.mkl (S.mdN np) fun (j : Nat) => S.mdB o j))
 (fun (j : Nat) => S.at' (S.mkl (S.mdN np) fun (j : Nat) => S.mdB o j) j)
 (List.length (S.mkl nl fun (j : Nat) => S.inp (tl (j + al)))) fun (j : Nat) =>
 S.at' (S.mkl nl fun (j : Nat) => S.inp (tl (j + al))) j)))
 j),
 Prod.fst
 (Prod.snd
 (S.at'
 (Prod.fst
 (Prod.snd
 (S.histS
 (List.length
 (S.mkl (S.mdN np) fun (j : Nat) =>
 S.mdR np (fun (j : Nat) => tp (j + ap)) (fun (j : Nat) => vp (j + ap)) j))
 (fun (j : Nat) =>
 Prod.fst
 (S.at'
 (S.mkl (S.mdN np) fun (j : Nat) =>
 S.mdR np (fun (j : Nat) => tp (j + ap)) (fun (j : Nat) => vp (j + ap)) j)
 j))
 (fun (j : Nat) =>
 Prod.fst
 (Prod.snd
 (S.at'
 (S.mkl (S.mdN np) fun (j : Nat) =>
 S.mdR np (fun (j : Nat) => tp (j + ap)) (fun (j : Nat) => vp (j + ap)) j)
 j)))
 (fun (j : Nat) =>
 Prod.snd
 (Prod.snd
 (S.at'
 (S.mkl (S.mdN np) fun (j : Nat) =>
 S.mdR np (fun (j : Nat) => tp (j + ap)) (fun (j : Nat) => vp (j + ap)) j)
 j)))
 (List.length (S.mkl (S.mdN np) fun (j : Nat) => S.mdB o j))
 (fun (j : Nat) => S.at' (S.mkl (S.mdN np) fun (j : Nat) => S.mdB o j) j)
 (List.length (S.mkl nl fun (j : Nat) => S.inp (tl (j + al)))) fun (j : Nat) =>
 S.at' (S.mkl nl fun (j : Nat) => S.inp (tl (j + al))) j)))
 j)),
 Prod.snd
 (Prod.snd
 (S.at'
 (Prod.fst
 (Prod.snd
 (S.histS
 (List.length
 (S.mkl (S.mdN np) fun (j : Nat) =>
 S.mdR np (fun (j : Nat) => tp (j + ap)) (fun (j : Nat) => vp (j + ap)) j))
 (fun (j : Nat) =>
 Prod.fst
 (S.at'
 (S.mkl (S.mdN np) fun (j : Nat) =>
 S.mdR np (fun (j : Nat) => tp (j + ap)) (fun (j : Nat) => vp (j + ap)) j)
 j))
 (fun (j : Nat) =>
 Prod.fst
 (Prod.snd
 (S.at'
 (S.mkl (S.mdN np) fun (j : Nat) =>
 S.mdR np (fun (j : Nat) => tp (j + ap)) (fun (j : Nat) => vp (j + ap)) j)
 j)))
 (fun (j : Nat) =>
 Prod.snd
 (Prod.snd
 (S.at'
 (S.mkl (S.mdN np) fun (j : Nat) =>
 S.mdR np (fun (j : Nat) => tp (j + ap)) (fun (j : Nat) => vp (j + ap)) j)
 j)))
 (List.length (S.mkl (S.mdN np) fun (j : Nat) => S.mdB o j))
 (fun (j : Nat) => S.at' (S.mkl (S.mdN np) fun (j : Nat) => S.mdB o j) j)
 (List.length (S.mkl nl fun (j : Nat) => S.inp (tl (j + al)))) fun (j : Nat) =>
 S.at' (S.mkl nl fun (j : Nat) => S.inp (tl (j + al))) j)))
 j)))) =
 S.mkl
 (List.length
 (Prod.fst
 (Prod.snd
 (S.histS
 (List.length
 (S.mkl (S.mdN np) fun (j : Nat) =>
 S.mdR np (fun (j : Nat) => tp (j + ap)) (fun (j : Nat) => vp (j + ap)) j))
 (fun (j : Nat) =>
 Prod.fst
 (S.at'
 (S.mkl (S.mdN np) fun (j : Nat) =>
 S.mdR np (fun (j : Nat) => tp (j + ap)) (fun (j : Nat) => vp (j + ap)) j)
 j))
 (fun (j : Nat) =>
 Prod.fst
 (Prod.snd
 (S.at'
 (S.mkl (S.mdN np) fun (j : Nat) =>
 S.mdR np (fun (j : Nat) => tp (j + ap)) (fun (j : Nat) => vp (j + ap)) j)
 j)))
 (fun (j : Nat) =>
 Prod.snd
 (Prod.snd
 (S.at'
 (S.mkl (S.mdN np) fun (j : Nat) =>
 S.mdR np (fun (j : Nat) => tp (j + ap)) (fun (j : Nat) => vp (j + ap)) j)
 j)))
 (List.length (S.mkl (S.mdN np) fun (j : Nat) => S.mdB o j))
 (fun (j : Nat) => S.at' (S.mkl (S.mdN np) fun (j : Nat) => S.mdB o j) j)
 (List.length
 (S.redP
 (fun (j : Nat) => S.at' (S.mkl nl fun (j : Nat) => S.inp (tl (j + al))) j)
 (List.length (S.mkl nl fun (j : Nat) => S.inp (tl (j + al))))
 (List.length (S.mkl nl fun (j : Nat) => S.inp (tl (j + al))))))
 fun (j : Nat) =>
 S.at'
 (S.redP
 (fun (j : Nat) => S.at' (S.mkl nl fun (j : Nat) => S.inp (tl (j + al))) j)
 (List.length (S.mkl nl fun (j : Nat) => S.inp (tl (j + al))))
 (List.length (S.mkl nl fun (j : Nat) => S.inp (tl (j + al)))))
 j))))
 fun (j : Nat) =>
 (Prod.fst
 (S.at'
 (Prod.fst
 (Prod.snd
 (S.histS
 (List.length
 (S.mkl (S.mdN np) fun (j : Nat) =>
 S.mdR np (fun (j : Nat) => tp (j + ap)) (fun (j : Nat) => vp (j + ap)) j))
 (fun (j : Nat) =>
 Prod.fst
 (S.at'
 (S.mkl (S.mdN np) fun (j : Nat) =>
 S.mdR np (fun (j : Nat) => tp (j + ap)) (fun (j : Nat) => vp (j + ap)) j)
 j))
 (fun (j : Nat) =>
 Prod.fst
 (Prod.snd
 (S.at'
 (S.mkl (S.mdN np) fun (j : Nat) =>
 S.mdR np (fun (j : Nat) => tp (j + ap)) (fun (j : Nat) => vp (j + ap)) j)
 j)))
 (fun (j : Nat) =>
 Prod.snd
 (Prod.snd
 (S.at'
 (S.mkl (S.mdN np) fun (j : Nat) =>
 S.mdR np (fun (j : Nat) => tp (j + ap)) (fun (j : Nat) => vp (j + ap)) j)
 j)))
 (List.length (S.mkl (S.mdN np) fun (j : Nat) => S.mdB o j))
 (fun (j : Nat) => S.at' (S.mkl (S.mdN np) fun (j : Nat) => S.mdB o j) j)
 (List.length
 (S.redP
 (fun (j : Nat) => S.at' (S.mkl nl fun (j : Nat) => S.inp (tl (j + al))) j)
 (List.length (S.mkl nl fun (j : Nat) => S.inp (tl (j + al))))
 (List.length (S.mkl nl fun (j : Nat) => S.inp (tl (j + al))))))
 fun (j : Nat) =>
 S.at'
 (S.redP
 (fun (j : Nat) => S.at' (S.mkl nl fun (j : Nat) => S.inp (tl (j + al))) j)
 (List.length (S.mkl nl fun (j : Nat) => S.inp (tl (j + al))))
 (List.length (S.mkl nl fun (j : Nat) => S.inp (tl (j + al)))))
 j)))
 j),
 Prod.fst
 (Prod.snd
 (S.at'
 (Prod.fst
 (Prod.snd
 (S.histS
 (List.length
 (S.mkl (S.mdN np) fun (j : Nat) =>
 S.mdR np (fun (j : Nat) => tp (j + ap)) (fun (j : Nat) => vp (j + ap)) j))
 (fun (j : Nat) =>
 Prod.fst
 (S.at'
 (S.mkl (S.mdN np) fun (j : Nat) =>
 S.mdR np (fun (j : Nat) => tp (j + ap)) (fun (j : Nat) => vp (j + ap)) j)
 j))
 (fun (j : Nat) =>
 Prod.fst
 (Prod.snd
 (S.at'
 (S.mkl (S.mdN np) fun (j : Nat) =>
 S.mdR np (fun (j : Nat) => tp (j + ap)) (fun (j : Nat) => vp (j + ap)) j)
 j)))
 (fun (j : Nat) =>
 Prod.snd
 (Prod.snd
 (S.at'
 (S.mkl (S.mdN np) fun (j : Nat) =>
 S.mdR np (fun (j : Nat) => tp (j + ap)) (fun (j : Nat) => vp (j + ap)) j)
 j)))
 (List.length (S.mkl (S.mdN np) fun (j : Nat) => S.mdB o j))
 (fun (j : Nat) => S.at' (S.mkl (S.mdN np) fun (j : Nat) => S.mdB o j) j)
 (List.length
 (S.redP
 (fun (j : Nat) => S.at' (S.mkl nl fun (j : Nat) => S.inp (tl (j + al))) j)
 (List.length (S.mkl nl fun (j : Nat) => S.inp (tl (j + al))))
 (List.length (S.mkl nl fun (j : Nat) => S.inp (tl (j + al))))))
 fun (j : Nat) =>
 S.at'
 (S.redP
 (fun (j : Nat) => S.at' (S.mkl nl fun (j : Nat) => S.inp (tl (j + al))) j)
 (List.length (S.mkl nl fun (j : Nat) => S.inp (tl (j + al))))
 (List.length (S.mkl nl fun (j : Nat) => S.inp (tl (j + al)))))
 j)))
 j)),
 Prod.snd
 (Prod.snd
 (S.at'
 (Prod.fst
 (Prod.snd
 (S.histS
 (List.length
 (S.mkl (S.mdN np) fun (j : Nat) =>
 S.mdR np (fun (j : Nat) => tp (j + ap)) (fun (j : Nat) => vp (j + ap)) j))
 (fun (j : Nat) =>
 Prod.fst
 (S.at'
 (S.mkl (S.mdN np) fun (j : Nat) =>
 S.mdR np (fun (j : Nat) => tp (j + ap)) (fun (j : Nat) => vp (j + ap)) j)
 j))
 (fun (j : Nat) =>
 Prod.fst
 (Prod.snd
 (S.at'
 (S.mkl (S.mdN np) fun (j : Nat) =>
 S.mdR np (fun (j : Nat) => tp (j + ap)) (fun (j : Nat) => vp (j + ap)) j)
 j)))
 (fun (j : Nat) =>
 Prod.snd
 (Prod.snd
 (S.at'
 (S.mkl (S.mdN np) fun (j : Nat) =>
 S.mdR np (fun (j : Nat) => tp (j + ap)) (fun (j : Nat) => vp (j + ap)) j)
 j)))
 (List.length (S.mkl (S.mdN np) fun (j : Nat) => S.mdB o j))
 (fun (j : Nat) => S.at' (S.mkl (S.mdN np) fun (j : Nat) => S.mdB o j) j)
 (List.length
 (S.redP
 (fun (j : Nat) => S.at' (S.mkl nl fun (j : Nat) => S.inp (tl (j + al))) j)
 (List.length (S.mkl nl fun (j : Nat) => S.inp (tl (j + al))))
 (List.length (S.mkl nl fun (j : Nat) => S.inp (tl (j + al))))))
 fun (j : Nat) =>
 S.at'
 (S.redP
 (fun (j : Nat) => S.at' (S.mkl nl fun (j : Nat) => S.inp (tl (j + al))) j)
 (List.length (S.mkl nl fun (j : Nat) => S.inp (tl (j + al))))
 (List.length (S.mkl nl fun (j : Nat) => S.inp (tl (j + al)))))
 j)))
 j)))) &&
 decide
 ((S.mkl
 (List.length
 (Prod.snd
 (Prod.snd
 (S.histS
 (List.length
 (S.mkl (S.mdN np) fun (j : Nat) =>
 S.mdR np (fun (j : Nat) => tp (j + ap)) (fun (j : Nat) => vp (j + ap)) j))
 (fun (j : Nat) =>
 Prod.fst
 (S.at'
 (S.mkl (S.mdN np) fun (j : Nat) =>
 S.mdR np (fun (j : Nat) => tp (j + ap)) (fun (j : Nat) => vp (j + ap)) j)
 j))
 (fun (j : Nat) =>
 Prod.fst
 (Prod.snd
 (S.at'
 (S.mkl (S.mdN np) fun (j : Nat) =>
 S.mdR np (fun (j : Nat) => tp (j + ap)) (fun (j : Nat) => vp (j + ap)) j)
 j)))
 (fun (j : Nat) =>
 Prod.snd
 (Prod.snd
 (S.at'
 (S.mkl (S.mdN np) fun (j : Nat) =>
 S.mdR np (fun (j : Nat) => tp (j + ap)) (fun (j : Nat) => vp (j + ap)) j)
 j)))
 (List.length (S.mkl (S.mdN np) fun (j : Nat) => S.mdB o j))
 (fun (j : Nat) => S.at' (S.mkl (S.mdN np) fun (j : Nat) => S.mdB o j) j)
 (List.length (S.mkl nl fun (j : Nat) => S.inp (tl (j + al)))) fun (j : Nat) =>
 S.at' (S.mkl nl fun (j : Nat) => S.inp (tl (j + al))) j))))
 fun (j : Nat) =>
 S.at'
 (Prod.snd
 (Prod.snd
 (S.histS
 (List.length
 (S.mkl (S.mdN np) fun (j : Nat) =>
 S.mdR np (fun (j : Nat) => tp (j + ap)) (fun (j : Nat) => vp (j + ap)) j))
 (fun (j : Nat) =>
 Prod.fst
 (S.at'
 (S.mkl (S.mdN np) fun (j : Nat) =>
 S.mdR np (fun (j : Nat) => tp (j + ap)) (fun (j : Nat) => vp (j + ap)) j)
 j))
 (fun (j : Nat) =>
 Prod.fst
 (Prod.snd
 (S.at'
 (S.mkl (S.mdN np) fun (j : Nat) =>
 S.mdR np (fun (j : Nat) => tp (j + ap)) (fun (j : Nat) => vp (j + ap)) j)
 j)))
 (fun (j : Nat) =>
 Prod.snd
 (Prod.snd
 (S.at'
 (S.mkl (S.mdN np) fun (j : Nat) =>
 S.mdR np (fun (j : Nat) => tp (j + ap)) (fun (j : Nat) => vp (j + ap)) j)
 j)))
 (List.length (S.mkl (S.mdN np) fun (j : Nat) => S.mdB o j))
 (fun (j : Nat) => S.at' (S.mkl (S.mdN np) fun (j : Nat) => S.mdB o j) j)
 (List.length (S.mkl nl fun (j : Nat) => S.inp (tl (j + al)))) fun (j : Nat) =>
 S.at' (S.mkl nl fun (j : Nat) => S.inp (tl (j + al))) j)))
 j) =
 S.mkl
 (List.length
 (Prod.snd
 (Prod.snd
 (S.histS
 (List.length
 (S.mkl (S.mdN np) fun (j : Nat) =>
 S.mdR np (fun (j : Nat) => tp (j + ap)) (fun (j : Nat) => vp (j + ap)) j))
 (fun (j : Nat) =>
 Prod.fst
 (S.at'
 (S.mkl (S.mdN np) fun (j : Nat) =>
 S.mdR np (fun (j : Nat) => tp (j + ap)) (fun (j : Nat) => vp (j + ap)) j)
 j))
 (fun (j : Nat) =>
 Prod.fst
 (Prod.snd
 (S.at'
 (S.mkl (S.mdN np) fun (j : Nat) =>
 S.mdR np (fun (j : Nat) => tp (j + ap)) (fun (j : Nat) => vp (j + ap)) j)
 j)))
 (fun (j : Nat) =>
 Prod.snd
 (Prod.snd
 (S.at'
 (S.mkl (S.mdN np) fun (j : Nat) =>
 S.mdR np (fun (j : Nat) => tp (j + ap)) (fun (j : Nat) => vp (j + ap)) j)
 j)))
 (List.length (S.mkl (S.mdN np) fun (j : Nat) => S.mdB o j))
 (fun (j : Nat) => S.at' (S.mkl (S.mdN np) fun (j : Nat) => S.mdB o j) j)
 (List.length
 (S.redP
 (fun (j : Nat) => S.at' (S.mkl nl fun (j : Nat) => S.inp (tl (j + al))) j)
 (List.length (S.mkl nl fun (j : Nat) => S.inp (tl (j + al))))
 (List.length (S.mkl nl fun (j : Nat) => S.inp (tl (j + al))))))
 fun (j : Nat) =>
 S.at'
 (S.redP
 (fun (j : Nat) => S.at' (S.mkl nl fun (j : Nat) => S.inp (tl (j + al))) j)
 (List.length (S.mkl nl fun (j : Nat) => S.inp (tl (j + al))))
 (List.length (S.mkl nl fun (j : Nat) => S.inp (tl (j + al)))))
 j))))
 fun (j : Nat) =>
 S.at'
 (Prod.snd
 (Prod.snd
 (S.histS
 (List.length
 (S.mkl (S.mdN np) fun (j : Nat) =>
 S.mdR np (fun (j : Nat) => tp (j + ap)) (fun (j : Nat) => vp (j + ap)) j))
 (fun (j : Nat) =>
 Prod.fst
 (S.at'
 (S.mkl (S.mdN np) fun (j : Nat) =>
 S.mdR np (fun (j : Nat) => tp (j + ap)) (fun (j : Nat) => vp (j + ap)) j)
 j))
 (fun (j : Nat) =>
 Prod.fst
 (Prod.snd
 (S.at'
 (S.mkl (S.mdN np) fun (j : Nat) =>
 S.mdR np (fun (j : Nat) => tp (j + ap)) (fun (j : Nat) => vp (j + ap)) j)
 j)))
 (fun (j : Nat) =>
 Prod.snd
 (Prod.snd
 (S.at'
 (S.mkl (S.mdN np) fun (j : Nat) =>
 S.mdR np (fun (j : Nat) => tp (j + ap)) (fun (j : Nat) => vp (j + ap)) j)
 j)))
 (List.length (S.mkl (S.mdN np) fun (j : Nat) => S.mdB o j))
 (fun (j : Nat) => S.at' (S.mkl (S.mdN np) fun (j : Nat) => S.mdB o j) j)
 (List.length
 (S.redP
 (fun (j : Nat) => S.at' (S.mkl nl fun (j : Nat) => S.inp (tl (j + al))) j)
 (List.length (S.mkl nl fun (j : Nat) => S.inp (tl (j + al))))
 (List.length (S.mkl nl fun (j : Nat) => S.inp (tl (j + al))))))
 fun (j : Nat) =>
 S.at'
 (S.redP
 (fun (j : Nat) => S.at' (S.mkl nl fun (j : Nat) => S.inp (tl (j + al))) j)
 (List.length (S.mkl nl fun (j : Nat) => S.inp (tl (j + al))))
 (List.length (S.mkl nl fun (j : Nat) => S.inp (tl (j + al)))))
 j)))
 j))
 then (some (.inr (true)))
 else (some (.inr (false))))
 else (none))
 else (some (.inr (false))))
 else (some (.inr (false))))
 else (none))
 else (none))
 else (none))
 else (none))
 else (none))
noncomputable def Te6 (test : Bool → Prop → Prop → Prop) (Kst : KS) (Kret : KR) (ap np mp : Nat) (tp : Nat → Int) (vp : Nat → Int) (o : Int) (al nl ml : Nat) (tl : Nat → Int) : Prop :=
  test (true)
 (test (true)
 (test (decide ((↑nl : Int) > (200 : Int)))
 (test (true)
 (test (true)
 (Kret (PV.tf true) ([[(1, false, Blk.cols ml [Col.int IntKind.u8 tl]),
 (0, false, Blk.cols mp [Col.int IntKind.u8 tp, Col.int IntKind.u8 vp])]]) (5))
 (Kret (PV.tf false) ([[(1, false, Blk.cols ml [Col.int IntKind.u8 tl]),
 (0, false, Blk.cols mp [Col.int IntKind.u8 tp, Col.int IntKind.u8 vp])]]) (5)))
 (False))
 (test (decide
 (ap + np ≤ mp ∧
 (S.bytes np fun (j : Nat) => tp (j + ap)) = true ∧
 (S.bytes np fun (j : Nat) => vp (j + ap)) = true))
 (test (decide (al + nl ≤ ml ∧ nl ≤ 999999 ∧ (S.bytes nl fun (j : Nat) => tl (j + al)) = true))
 (test (decide
 (0 +
 List.length
 (S.mkl (S.mdN np) fun (j : Nat) =>
 S.mdR np (fun (j : Nat) => tp (j + ap)) (fun (j : Nat) => vp (j + ap)) j) ≤
 List.length
 (S.mkl (S.mdN np) fun (j : Nat) =>
 S.mdR np (fun (j : Nat) => tp (j + ap)) (fun (j : Nat) => vp (j + ap)) j) ∧
 List.length
 (S.mkl (S.mdN np) fun (j : Nat) =>
 S.mdR np (fun (j : Nat) => tp (j + ap)) (fun (j : Nat) => vp (j + ap)) j) ≤
 1000000 ∧
 0 + List.length (S.mkl (S.mdN np) fun (j : Nat) => S.mdB o j) ≤
 List.length (S.mkl (S.mdN np) fun (j : Nat) => S.mdB o j) ∧
 List.length (S.mkl (S.mdN np) fun (j : Nat) => S.mdB o j) ≤ 1000000 ∧
 0 + List.length (S.mkl nl fun (j : Nat) => S.inp (tl (j + al))) ≤
 List.length (S.mkl nl fun (j : Nat) => S.inp (tl (j + al))) ∧
 List.length (S.mkl nl fun (j : Nat) => S.inp (tl (j + al))) ≤ 1000000))
 (test (decide
 (0 + List.length (S.mkl nl fun (j : Nat) => S.inp (tl (j + al))) ≤
 List.length (S.mkl nl fun (j : Nat) => S.inp (tl (j + al))) ∧
 List.length (S.mkl nl fun (j : Nat) => S.inp (tl (j + al))) ≤ 999999))
 (test (decide
 (0 +
 List.length
 (S.mkl (S.mdN np) fun (j : Nat) =>
 S.mdR np (fun (j : Nat) => tp (j + ap)) (fun (j : Nat) => vp (j + ap)) j) ≤
 List.length
 (S.mkl (S.mdN np) fun (j : Nat) =>
 S.mdR np (fun (j : Nat) => tp (j + ap)) (fun (j : Nat) => vp (j + ap)) j) ∧
 List.length
 (S.mkl (S.mdN np) fun (j : Nat) =>
 S.mdR np (fun (j : Nat) => tp (j + ap)) (fun (j : Nat) => vp (j + ap)) j) ≤
 1000000 ∧
 0 + List.length (S.mkl (S.mdN np) fun (j : Nat) => S.mdB o j) ≤
 List.length (S.mkl (S.mdN np) fun (j : Nat) => S.mdB o j) ∧
 List.length (S.mkl (S.mdN np) fun (j : Nat) => S.mdB o j) ≤ 1000000 ∧
 0 +
 List.length
 (S.redP
 (fun (j : Nat) => S.at' (S.mkl nl fun (j : Nat) => S.inp (tl (j + al))) j)
 (List.length (S.mkl nl fun (j : Nat) => S.inp (tl (j + al))))
 (List.length (S.mkl nl fun (j : Nat) => S.inp (tl (j + al))))) ≤
 List.length
 (S.redP
 (fun (j : Nat) => S.at' (S.mkl nl fun (j : Nat) => S.inp (tl (j + al))) j)
 (List.length (S.mkl nl fun (j : Nat) => S.inp (tl (j + al))))
 (List.length (S.mkl nl fun (j : Nat) => S.inp (tl (j + al))))) ∧
 List.length
 (S.redP
 (fun (j : Nat) => S.at' (S.mkl nl fun (j : Nat) => S.inp (tl (j + al))) j)
 (List.length (S.mkl nl fun (j : Nat) => S.inp (tl (j + al))))
 (List.length (S.mkl nl fun (j : Nat) => S.inp (tl (j + al))))) ≤
 1000000))
 (test (Prod.fst
 (S.histS
 (List.length
 (S.mkl (S.mdN np) fun (j : Nat) =>
 S.mdR np (fun (j : Nat) => tp (j + ap)) (fun (j : Nat) => vp (j + ap)) j))
 (fun (j : Nat) =>
 Prod.fst
 (S.at'
 (S.mkl (S.mdN np) fun (j : Nat) =>
 S.mdR np (fun (j : Nat) => tp (j + ap)) (fun (j : Nat) => vp (j + ap)) j)
 j))
 (fun (j : Nat) =>
 Prod.fst
 (Prod.snd
 (S.at'
 (S.mkl (S.mdN np) fun (j : Nat) =>
 S.mdR np (fun (j : Nat) => tp (j + ap)) (fun (j : Nat) => vp (j + ap)) j)
 j)))
 (fun (j : Nat) =>
 Prod.snd
 (Prod.snd
 (S.at'
 (S.mkl (S.mdN np) fun (j : Nat) =>
 S.mdR np (fun (j : Nat) => tp (j + ap)) (fun (j : Nat) => vp (j + ap)) j)
 j)))
 (List.length (S.mkl (S.mdN np) fun (j : Nat) => S.mdB o j))
 (fun (j : Nat) => S.at' (S.mkl (S.mdN np) fun (j : Nat) => S.mdB o j) j)
 (List.length (S.mkl nl fun (j : Nat) => S.inp (tl (j + al)))) fun (j : Nat) =>
 S.at' (S.mkl nl fun (j : Nat) => S.inp (tl (j + al))) j) ==
 (0 : Int))
 (test (Prod.fst
 (S.histS
 (List.length
 (S.mkl (S.mdN np) fun (j : Nat) =>
 S.mdR np (fun (j : Nat) => tp (j + ap)) (fun (j : Nat) => vp (j + ap)) j))
 (fun (j : Nat) =>
 Prod.fst
 (S.at'
 (S.mkl (S.mdN np) fun (j : Nat) =>
 S.mdR np (fun (j : Nat) => tp (j + ap)) (fun (j : Nat) => vp (j + ap)) j)
 j))
 (fun (j : Nat) =>
 Prod.fst
 (Prod.snd
 (S.at'
 (S.mkl (S.mdN np) fun (j : Nat) =>
 S.mdR np (fun (j : Nat) => tp (j + ap)) (fun (j : Nat) => vp (j + ap)) j)
 j)))
 (fun (j : Nat) =>
 Prod.snd
 (Prod.snd
 (S.at'
 (S.mkl (S.mdN np) fun (j : Nat) =>
 S.mdR np (fun (j : Nat) => tp (j + ap)) (fun (j : Nat) => vp (j + ap)) j)
 j)))
 (List.length (S.mkl (S.mdN np) fun (j : Nat) => S.mdB o j))
 (fun (j : Nat) => S.at' (S.mkl (S.mdN np) fun (j : Nat) => S.mdB o j) j)
 (List.length
 (S.redP (fun (j : Nat) => S.at' (S.mkl nl fun (j : Nat) => S.inp (tl (j + al))) j)
 (List.length (S.mkl nl fun (j : Nat) => S.inp (tl (j + al))))
 (List.length (S.mkl nl fun (j : Nat) => S.inp (tl (j + al))))))
 fun (j : Nat) =>
 S.at'
 (S.redP (fun (j : Nat) => S.at' (S.mkl nl fun (j : Nat) => S.inp (tl (j + al))) j)
 (List.length (S.mkl nl fun (j : Nat) => S.inp (tl (j + al))))
 (List.length (S.mkl nl fun (j : Nat) => S.inp (tl (j + al)))))
 j) ==
 (0 : Int))
 (test (decide
 (0 +
 List.length
 (Prod.fst
 (Prod.snd
 (S.histS
 (List.length
 (S.mkl (S.mdN np) fun (j : Nat) =>
 S.mdR np (fun (j : Nat) => tp (j + ap)) (fun (j : Nat) => vp (j + ap)) j))
 (fun (j : Nat) =>
 Prod.fst
 (S.at'
 (S.mkl (S.mdN np) fun (j : Nat) =>
 S.mdR np (fun (j : Nat) => tp (j + ap)) (fun (j : Nat) => vp (j + ap)) j)
 j))
 (fun (j : Nat) =>
 Prod.fst
 (Prod.snd
 (S.at'
 (S.mkl (S.mdN np) fun (j : Nat) =>
 S.mdR np (fun (j : Nat) => tp (j + ap)) (fun (j : Nat) => vp (j + ap)) j)
 j)))
 (fun (j : Nat) =>
 Prod.snd
 (Prod.snd
 (S.at'
 (S.mkl (S.mdN np) fun (j : Nat) =>
 S.mdR np (fun (j : Nat) => tp (j + ap)) (fun (j : Nat) => vp (j + ap)) j)
 j)))
 (List.length (S.mkl (S.mdN np) fun (j : Nat) => S.mdB o j))
 (fun (j : Nat) => S.at' (S.mkl (S.mdN np) fun (j : Nat) => S.mdB o j) j)
 (List.length (S.mkl nl fun (j : Nat) => S.inp (tl (j + al)))) fun (j : Nat) =>
 S.at' (S.mkl nl fun (j : Nat) => S.inp (tl (j + al))) j))) ≤
 List.length
 (Prod.fst
 (Prod.snd
 (S.histS
 (List.length
 (S.mkl (S.mdN np) fun (j : Nat) =>
 S.mdR np (fun (j : Nat) => tp (j + ap)) (fun (j : Nat) => vp (j + ap)) j))
 (fun (j : Nat) =>
 Prod.fst
 (S.at'
 (S.mkl (S.mdN np) fun (j : Nat) =>
 S.mdR np (fun (j : Nat) => tp (j + ap)) (fun (j : Nat) => vp (j + ap)) j)
 j))
 (fun (j : Nat) =>
 Prod.fst
 (Prod.snd
 (S.at'
 (S.mkl (S.mdN np) fun (j : Nat) =>
 S.mdR np (fun (j : Nat) => tp (j + ap)) (fun (j : Nat) => vp (j + ap)) j)
 j)))
 (fun (j : Nat) =>
 Prod.snd
 (Prod.snd
 (S.at'
 (S.mkl (S.mdN np) fun (j : Nat) =>
 S.mdR np (fun (j : Nat) => tp (j + ap)) (fun (j : Nat) => vp (j + ap)) j)
 j)))
 (List.length (S.mkl (S.mdN np) fun (j : Nat) => S.mdB o j))
 (fun (j : Nat) => S.at' (S.mkl (S.mdN np) fun (j : Nat) => S.mdB o j) j)
 (List.length (S.mkl nl fun (j : Nat) => S.inp (tl (j + al)))) fun (j : Nat) =>
 S.at' (S.mkl nl fun (j : Nat) => S.inp (tl (j + al))) j))) ∧
 List.length
 (Prod.fst
 (Prod.snd
 (S.histS
 (List.length
 (S.mkl (S.mdN np) fun (j : Nat) =>
 S.mdR np (fun (j : Nat) => tp (j + ap)) (fun (j : Nat) => vp (j + ap)) j))
 (fun (j : Nat) =>
 Prod.fst
 (S.at'
 (S.mkl (S.mdN np) fun (j : Nat) =>
 S.mdR np (fun (j : Nat) => tp (j + ap)) (fun (j : Nat) => vp (j + ap)) j)
 j))
 (fun (j : Nat) =>
 Prod.fst
 (Prod.snd
 (S.at'
 (S.mkl (S.mdN np) fun (j : Nat) =>
 S.mdR np (fun (j : Nat) => tp (j + ap)) (fun (j : Nat) => vp (j + ap)) j)
 j)))
 (fun (j : Nat) =>
 Prod.snd
 (Prod.snd
 (S.at'
 (S.mkl (S.mdN np) fun (j : Nat) =>
 S.mdR np (fun (j : Nat) => tp (j + ap)) (fun (j : Nat) => vp (j + ap)) j)
 j)))
 (List.length (S.mkl (S.mdN np) fun (j : Nat) => S.mdB o j))
 (fun (j : Nat) => S.at' (S.mkl (S.mdN np) fun (j : Nat) => S.mdB o j) j)
 (List.length (S.mkl nl fun (j : Nat) => S.inp (tl (j + al)))) fun (j : Nat) =>
 S.at' (S.mkl nl fun (j : Nat) => S.inp (tl (j + al))) j))) ≤
 1000000 ∧
 0 +
 List.length
 (Prod.snd
 (Prod.snd
 (S.histS
 (List.length
 (S.mkl (S.mdN np) fun (j : Nat) =>
 S.mdR np (fun (j : Nat) => tp (j + ap)) (fun (j : Nat) => vp (j + ap)) j))
 (fun (j : Nat) =>
 Prod.fst
 (S.at'
 (S.mkl (S.mdN np) fun (j : Nat) =>
 S.mdR np (fun (j : Nat) => tp (j + ap)) (fun (j : Nat) => vp (j + ap)) j)
 j))
 (fun (j : Nat) =>
 Prod.fst
 (Prod.snd
 (S.at'
 (S.mkl (S.mdN np) fun (j : Nat) =>
 S.mdR np (fun (j : Nat) => tp (j + ap)) (fun (j : Nat) => vp (j + ap)) j)
 j)))
 (fun (j : Nat) =>
 Prod.snd
 (Prod.snd
 (S.at'
 (S.mkl (S.mdN np) fun (j : Nat) =>
 S.mdR np (fun (j : Nat) => tp (j + ap)) (fun (j : Nat) => vp (j + ap)) j)
 j)))
 (List.length (S.mkl (S.mdN np) fun (j : Nat) => S.mdB o j))
 (fun (j : Nat) => S.at' (S.mkl (S.mdN np) fun (j : Nat) => S.mdB o j) j)
 (List.length (S.mkl nl fun (j : Nat) => S.inp (tl (j + al)))) fun (j : Nat) =>
 S.at' (S.mkl nl fun (j : Nat) => S.inp (tl (j + al))) j))) ≤
 List.length
 (Prod.snd
 (Prod.snd
 (S.histS
 (List.length
 (S.mkl (S.mdN np) fun (j : Nat) =>
 S.mdR np (fun (j : Nat) => tp (j + ap)) (fun (j : Nat) => vp (j + ap)) j))
 (fun (j : Nat) =>
 Prod.fst
 (S.at'
 (S.mkl (S.mdN np) fun (j : Nat) =>
 S.mdR np (fun (j : Nat) => tp (j + ap)) (fun (j : Nat) => vp (j + ap)) j)
 j))
 (fun (j : Nat) =>
 Prod.fst
 (Prod.snd
 (S.at'
 (S.mkl (S.mdN np) fun (j : Nat) =>
 S.mdR np (fun (j : Nat) => tp (j + ap)) (fun (j : Nat) => vp (j + ap)) j)
 j)))
 (fun (j : Nat) =>
 Prod.snd
 (Prod.snd
 (S.at'
 (S.mkl (S.mdN np) fun (j : Nat) =>
 S.mdR np (fun (j : Nat) => tp (j + ap)) (fun (j : Nat) => vp (j + ap)) j)
 j)))
 (List.length (S.mkl (S.mdN np) fun (j : Nat) => S.mdB o j))
 (fun (j : Nat) => S.at' (S.mkl (S.mdN np) fun (j : Nat) => S.mdB o j) j)
 (List.length (S.mkl nl fun (j : Nat) => S.inp (tl (j + al)))) fun (j : Nat) =>
 S.at' (S.mkl nl fun (j : Nat) => S.inp (tl (j + al))) j))) ∧
 List.length
 (Prod.snd
 (Prod.snd
 (S.histS
 (List.length
 (S.mkl (S.mdN np) fun (j : Nat) =>
 S.mdR np (fun (j : Nat) => tp (j + ap)) (fun (j : Nat) => vp (j + ap)) j))
 (fun (j : Nat) =>
 Prod.fst
 (S.at'
 (S.mkl (S.mdN np) fun (j : Nat) =>
 S.mdR np (fun (j : Nat) => tp (j + ap)) (fun (j : Nat) => vp (j + ap)) j)
 j))
 (fun (j : Nat) =>
 Prod.fst
 (Prod.snd
 (S.at'
 (S.mkl (S.mdN np) fun (j : Nat) =>
 S.mdR np (fun (j : Nat) => tp (j + ap)) (fun (j : Nat) => vp (j + ap)) j)
 j)))
 (fun (j : Nat) =>
 Prod.snd
 (Prod.snd
 (S.at'
 (S.mkl (S.mdN np) fun (j : Nat) =>
 S.mdR np (fun (j : Nat) => tp (j + ap)) (fun (j : Nat) => vp (j + ap)) j)
 j)))
 (List.length (S.mkl (S.mdN np) fun (j : Nat) => S.mdB o j))
 (fun (j : Nat) => S.at' (S.mkl (S.mdN np) fun (j : Nat) => S.mdB o j) j)
 (List.length (S.mkl nl fun (j : Nat) => S.inp (tl (j + al)))) fun (j : Nat) =>
 S.at' (S.mkl nl fun (j : Nat) => S.inp (tl (j + al))) j))) ≤
 1000000 ∧
 0 +
 List.length
 (Prod.fst
 (Prod.snd
 (S.histS
 (List.length
 (S.mkl (S.mdN np) fun (j : Nat) =>
 S.mdR np (fun (j : Nat) => tp (j + ap)) (fun (j : Nat) => vp (j + ap)) j))
 (fun (j : Nat) =>
 Prod.fst
 (S.at'
 (S.mkl (S.mdN np) fun (j : Nat) =>
 S.mdR np (fun (j : Nat) => tp (j + ap)) (fun (j : Nat) => vp (j + ap)) j)
 j))
 (fun (j : Nat) =>
 Prod.fst
 (Prod.snd
 (S.at'
 (S.mkl (S.mdN np) fun (j : Nat) =>
 S.mdR np (fun (j : Nat) => tp (j + ap)) (fun (j : Nat) => vp (j + ap)) j)
 j)))
 (fun (j : Nat) =>
 Prod.snd
 (Prod.snd
 (S.at'
 (S.mkl (S.mdN np) fun (j : Nat) =>
 S.mdR np (fun (j : Nat) => tp (j + ap)) (fun (j : Nat) => vp (j + ap)) j)
 j)))
 (List.length (S.mkl (S.mdN np) fun (j : Nat) => S.mdB o j))
 (fun (j : Nat) => S.at' (S.mkl (S.mdN np) fun (j : Nat) => S.mdB o j) j)
 (List.length
 (S.redP
 (fun (j : Nat) => S.at' (S.mkl nl fun (j : Nat) => S.inp (tl (j + al))) j)
 (List.length (S.mkl nl fun (j : Nat) => S.inp (tl (j + al))))
 (List.length (S.mkl nl fun (j : Nat) => S.inp (tl (j + al))))))
 fun (j : Nat) =>
 S.at'
 (S.redP
 (fun (j : Nat) => S.at' (S.mkl nl fun (j : Nat) => S.inp (tl (j + al))) j)
 (List.length (S.mkl nl fun (j : Nat) => S.inp (tl (j + al))))
 (List.length (S.mkl nl fun (j : Nat) => S.inp (tl (j + al)))))
 j))) ≤
 List.length
 (Prod.fst
 (Prod.snd
 (S.histS
 (List.length
 (S.mkl (S.mdN np) fun (j : Nat) =>
 S.mdR np (fun (j : Nat) => tp (j + ap)) (fun (j : Nat) => vp (j + ap)) j))
 (fun (j : Nat) =>
 Prod.fst
 (S.at'
 (S.mkl (S.mdN np) fun (j : Nat) =>
 S.mdR np (fun (j : Nat) => tp (j + ap)) (fun (j : Nat) => vp (j + ap)) j)
 j))
 (fun (j : Nat) =>
 Prod.fst
 (Prod.snd
 (S.at'
 (S.mkl (S.mdN np) fun (j : Nat) =>
 S.mdR np (fun (j : Nat) => tp (j + ap)) (fun (j : Nat) => vp (j + ap)) j)
 j)))
 (fun (j : Nat) =>
 Prod.snd
 (Prod.snd
 (S.at'
 (S.mkl (S.mdN np) fun (j : Nat) =>
 S.mdR np (fun (j : Nat) => tp (j + ap)) (fun (j : Nat) => vp (j + ap)) j)
 j)))
 (List.length (S.mkl (S.mdN np) fun (j : Nat) => S.mdB o j))
 (fun (j : Nat) => S.at' (S.mkl (S.mdN np) fun (j : Nat) => S.mdB o j) j)
 (List.length
 (S.redP
 (fun (j : Nat) => S.at' (S.mkl nl fun (j : Nat) => S.inp (tl (j + al))) j)
 (List.length (S.mkl nl fun (j : Nat) => S.inp (tl (j + al))))
 (List.length (S.mkl nl fun (j : Nat) => S.inp (tl (j + al))))))
 fun (j : Nat) =>
 S.at'
 (S.redP
 (fun (j : Nat) => S.at' (S.mkl nl fun (j : Nat) => S.inp (tl (j + al))) j)
 (List.length (S.mkl nl fun (j : Nat) => S.inp (tl (j + al))))
 (List.length (S.mkl nl fun (j : Nat) => S.inp (tl (j + al)))))
 j))) ∧
 List.length
 (Prod.fst
 (Prod.snd
 (S.histS
 (List.length
 (S.mkl (S.mdN np) fun (j : Nat) =>
 S.mdR np (fun (j : Nat) => tp (j + ap)) (fun (j : Nat) => vp (j + ap)) j))
 (fun (j : Nat) =>
 Prod.fst
 (S.at'
 (S.mkl (S.mdN np) fun (j : Nat) =>
 S.mdR np (fun (j : Nat) => tp (j + ap)) (fun (j : Nat) => vp (j + ap)) j)
 j))
 (fun (j : Nat) =>
 Prod.fst
 (Prod.snd
 (S.at'
 (S.mkl (S.mdN np) fun (j : Nat) =>
 S.mdR np (fun (j : Nat) => tp (j + ap)) (fun (j : Nat) => vp (j + ap)) j)
 j)))
 (fun (j : Nat) =>
 Prod.snd
 (Prod.snd
 (S.at'
 (S.mkl (S.mdN np) fun (j : Nat) =>
 S.mdR np (fun (j : Nat) => tp (j + ap)) (fun (j : Nat) => vp (j + ap)) j)
 j)))
 (List.length (S.mkl (S.mdN np) fun (j : Nat) => S.mdB o j))
 (fun (j : Nat) => S.at' (S.mkl (S.mdN np) fun (j : Nat) => S.mdB o j) j)
 (List.length
 (S.redP
 (fun (j : Nat) => S.at' (S.mkl nl fun (j : Nat) => S.inp (tl (j + al))) j)
 (List.length (S.mkl nl fun (j : Nat) => S.inp (tl (j + al))))
 (List.length (S.mkl nl fun (j : Nat) => S.inp (tl (j + al))))))
 fun (j : Nat) =>
 S.at'
 (S.redP
 (fun (j : Nat) => S.at' (S.mkl nl fun (j : Nat) => S.inp (tl (j + al))) j)
 (List.length (S.mkl nl fun (j : Nat) => S.inp (tl (j + al))))
 (List.length (S.mkl nl fun (j : Nat) => S.inp (tl (j + al)))))
 j))) ≤
 1000000 ∧
 0 +
 List.length
 (Prod.snd
 (Prod.snd
 (S.histS
 (List.length
 (S.mkl (S.mdN np) fun (j : Nat) =>
 S.mdR np (fun (j : Nat) => tp (j + ap)) (fun (j : Nat) => vp (j + ap)) j))
 (fun (j : Nat) =>
 Prod.fst
 (S.at'
 (S.mkl (S.mdN np) fun (j : Nat) =>
 S.mdR np (fun (j : Nat) => tp (j + ap)) (fun (j : Nat) => vp (j + ap)) j)
 j))
 (fun (j : Nat) =>
 Prod.fst
 (Prod.snd
 (S.at'
 (S.mkl (S.mdN np) fun (j : Nat) =>
 S.mdR np (fun (j : Nat) => tp (j + ap)) (fun (j : Nat) => vp (j + ap)) j)
 j)))
 (fun (j : Nat) =>
 Prod.snd
 (Prod.snd
 (S.at'
 (S.mkl (S.mdN np) fun (j : Nat) =>
 S.mdR np (fun (j : Nat) => tp (j + ap)) (fun (j : Nat) => vp (j + ap)) j)
 j)))
 (List.length (S.mkl (S.mdN np) fun (j : Nat) => S.mdB o j))
 (fun (j : Nat) =>
 S.at' (S.mkl (S.mdN np) fun (j : Nat) => S.mdB o j) j)
 (List.length
 (S.redP
 (fun (j : Nat) =>
 S.at' (S.mkl nl fun (j : Nat) => S.inp (tl (j + al))) j)
 (List.length (S.mkl nl fun (j : Nat) => S.inp (tl (j + al))))
 (List.length (S.mkl nl fun (j : Nat) => S.inp (tl (j + al))))))
 fun (j : Nat) =>
 S.at'
 (S.redP
 (fun (j : Nat) =>
 S.at' (S.mkl nl fun (j : Nat) => S.inp (tl (j + al))) j)
 (List.length (S.mkl nl fun (j : Nat) => S.inp (tl (j + al))))
 (List.length (S.mkl nl fun (j : Nat) => S.inp (tl (j + al)))))
 j))) ≤
 List.length
 (Prod.snd
 (Prod.snd
 (S.histS
 (List.length
 (S.mkl (S.mdN np) fun (j : Nat) =>
 S.mdR np (fun (j : Nat) => tp (j + ap)) (fun (j : Nat) => vp (j + ap)) j))
 (fun (j : Nat) =>
 Prod.fst
 (S.at'
 (S.mkl (S.mdN np) fun (j : Nat) =>
 S.mdR np (fun (j : Nat) => tp (j + ap)) (fun (j : Nat) => vp (j + ap)) j)
 j))
 (fun (j : Nat) =>
 Prod.fst
 (Prod.snd
 (S.at'
 (S.mkl (S.mdN np) fun (j : Nat) =>
 S.mdR np (fun (j : Nat) => tp (j + ap)) (fun (j : Nat) => vp (j + ap)) j)
 j)))
 (fun (j : Nat) =>
 Prod.snd
 (Prod.snd
 (S.at'
 (S.mkl (S.mdN np) fun (j : Nat) =>
 S.mdR np (fun (j : Nat) => tp (j + ap)) (fun (j : Nat) => vp (j + ap)) j)
 j)))
 (List.length (S.mkl (S.mdN np) fun (j : Nat) => S.mdB o j))
 (fun (j : Nat) =>
 S.at' (S.mkl (S.mdN np) fun (j : Nat) => S.mdB o j) j)
 (List.length
 (S.redP
 (fun (j : Nat) =>
 S.at' (S.mkl nl fun (j : Nat) => S.inp (tl (j + al))) j)
 (List.length (S.mkl nl fun (j : Nat) => S.inp (tl (j + al))))
 (List.length (S.mkl nl fun (j : Nat) => S.inp (tl (j + al))))))
 fun (j : Nat) =>
 S.at'
 (S.redP
 (fun (j : Nat) =>
 S.at' (S.mkl nl fun (j : Nat) => S.inp (tl (j + al))) j)
 (List.length (S.mkl nl fun (j : Nat) => S.inp (tl (j + al))))
 (List.length (S.mkl nl fun (j : Nat) => S.inp (tl (j + al)))))
 j))) ∧
 List.length
 (Prod.snd
 (Prod.snd
 (S.histS
 (List.length
 (S.mkl (S.mdN np) fun (j : Nat) =>
 S.mdR np (fun (j : Nat) => tp (j + ap)) (fun (j : Nat) => vp (j + ap)) j))
 (fun (j : Nat) =>
 Prod.fst
 (S.at'
 (S.mkl (S.mdN np) fun (j : Nat) =>
 S.mdR np (fun (j : Nat) => tp (j + ap)) (fun (j : Nat) => vp (j + ap)) j)
 j))
 (fun (j : Nat) =>
 Prod.fst
 (Prod.snd
 (S.at'
 (S.mkl (S.mdN np) fun (j : Nat) =>
 S.mdR np (fun (j : Nat) => tp (j + ap)) (fun (j : Nat) => vp (j + ap)) j)
 j)))
 (fun (j : Nat) =>
 Prod.snd
 (Prod.snd
 (S.at'
 (S.mkl (S.mdN np) fun (j : Nat) =>
 S.mdR np (fun (j : Nat) => tp (j + ap)) (fun (j : Nat) => vp (j + ap)) j)
 j)))
 (List.length (S.mkl (S.mdN np) fun (j : Nat) => S.mdB o j))
 (fun (j : Nat) =>
 S.at' (S.mkl (S.mdN np) fun (j : Nat) => S.mdB o j) j)
 (List.length
 (S.redP
 (fun (j : Nat) =>
 S.at' (S.mkl nl fun (j : Nat) => S.inp (tl (j + al))) j)
 (List.length (S.mkl nl fun (j : Nat) => S.inp (tl (j + al))))
 (List.length (S.mkl nl fun (j : Nat) => S.inp (tl (j + al))))))
 fun (j : Nat) =>
 S.at'
 (S.redP
 (fun (j : Nat) =>
 S.at' (S.mkl nl fun (j : Nat) => S.inp (tl (j + al))) j)
 (List.length (S.mkl nl fun (j : Nat) => S.inp (tl (j + al))))
 (List.length (S.mkl nl fun (j : Nat) => S.inp (tl (j + al)))))
 j))) ≤
 1000000))
 (test (decide
 ((S.mkl
 (List.length
 (Prod.fst
 (Prod.snd
 (S.histS
 (List.length
 (S.mkl (S.mdN np) fun (j : Nat) =>
 S.mdR np (fun (j : Nat) => tp (j + ap)) (fun (j : Nat) => vp (j + ap)) j))
 (fun (j : Nat) =>
 Prod.fst
 (S.at'
 (S.mkl (S.mdN np) fun (j : Nat) =>
 S.mdR np (fun (j : Nat) => tp (j + ap)) (fun (j : Nat) => vp (j + ap)) j)
 j))
 (fun (j : Nat) =>
 Prod.fst
 (Prod.snd
 (S.at'
 (S.mkl (S.mdN np) fun (j : Nat) =>
 S.mdR np (fun (j : Nat) => tp (j + ap)) (fun (j : Nat) => vp (j + ap)) j)
 j)))
 (fun (j : Nat) =>
 Prod.snd
 (Prod.snd
 (S.at'
 (S.mkl (S.mdN np) fun (j : Nat) =>
 S.mdR np (fun (j : Nat) => tp (j + ap)) (fun (j : Nat) => vp (j + ap)) j)
 j)))
 (List.length (S.mkl (S.mdN np) fun (j : Nat) => S.mdB o j))
 (fun (j : Nat) => S.at' (S.mkl (S.mdN np) fun (j : Nat) => S.mdB o j) j)
 (List.length (S.mkl nl fun (j : Nat) => S.inp (tl (j + al)))) fun (j : Nat) =>
 S.at' (S.mkl nl fun (j : Nat) => S.inp (tl (j + al))) j))))
 fun (j : Nat) =>
 (Prod.fst
 (S.at'
 (Prod.fst
 (Prod.snd
 (S.histS
 (List.length
 (S.mkl (S.mdN np) fun (j : Nat) =>
 S.mdR np (fun (j : Nat) => tp (j + ap)) (fun (j : Nat) => vp (j + ap)) j))
 (fun (j : Nat) =>
 Prod.fst
 (S.at'
 (S.mkl (S.mdN np) fun (j : Nat) =>
 S.mdR np (fun (j : Nat) => tp (j + ap)) (fun (j : Nat) => vp (j + ap)) j)
 j))
 (fun (j : Nat) =>
 Prod.fst
 (Prod.snd
 (S.at'
 (S.mkl (S.mdN np) fun (j : Nat) =>
 S.mdR np (fun (j : Nat) => tp (j + ap)) (fun (j : Nat) => vp (j + ap)) j)
 j)))
 (fun (j : Nat) =>
 Prod.snd
 (Prod.snd
 (S.at'
 (S.mkl (S.mdN np) fun (j : Nat) =>
 S.mdR np (fun (j : Nat) => tp (j + ap)) (fun (j : Nat) => vp (j + ap)) j)
 j)))
 (List.length (S.mkl (S.mdN np) fun (j : Nat) => S.mdB o j))
 (fun (j : Nat) => S.at' (S.mkl (S.mdN np) fun (j : Nat) => S.mdB o j) j)
 (List.length (S.mkl nl fun (j : Nat) => S.inp (tl (j + al)))) fun (j : Nat) =>
 S.at' (S.mkl nl fun (j : Nat) => S.inp (tl (j + al))) j)))
 j),
 Prod.fst
 (Prod.snd
 (S.at'
 (Prod.fst
 (Prod.snd
 (S.histS
 (List.length
 (S.mkl (S.mdN np) fun (j : Nat) =>
 S.mdR np (fun (j : Nat) => tp (j + ap)) (fun (j : Nat) => vp (j + ap)) j))
 (fun (j : Nat) =>
 Prod.fst
 (S.at'
 (S.mkl (S.mdN np) fun (j : Nat) =>
 S.mdR np (fun (j : Nat) => tp (j + ap)) (fun (j : Nat) => vp (j + ap)) j)
 j))
 (fun (j : Nat) =>
 Prod.fst
 (Prod.snd
 (S.at'
 (S.mkl (S.mdN np) fun (j : Nat) =>
 S.mdR np (fun (j : Nat) => tp (j + ap)) (fun (j : Nat) => vp (j + ap)) j)
 j)))
 (fun (j : Nat) =>
 Prod.snd
 (Prod.snd
 (S.at'
 (S.mkl (S.mdN np) fun (j : Nat) =>
 S.mdR np (fun (j : Nat) => tp (j + ap)) (fun (j : Nat) => vp (j + ap)) j)
 j)))
 (List.length (S.mkl (S.mdN np) fun (j : Nat) => S.mdB o j))
 (fun (j : Nat) => S.at' (S.mkl (S.mdN np) fun (j : Nat) => S.mdB o j) j)
 (List.length (S.mkl nl fun (j : Nat) => S.inp (tl (j + al)))) fun (j : Nat) =>
 S.at' (S.mkl nl fun (j : Nat) => S.inp (tl (j + al))) j)))
 j)),
 Prod.snd
 (Prod.snd
 (S.at'
 (Prod.fst
 (Prod.snd
 (S.histS
 (List.length
 (S.mkl (S.mdN np) fun (j : Nat) =>
 S.mdR np (fun (j : Nat) => tp (j + ap)) (fun (j : Nat) => vp (j + ap)) j))
 (fun (j : Nat) =>
 Prod.fst
 (S.at'
 (S.mkl (S.mdN np) fun (j : Nat) =>
 S.mdR np (fun (j : Nat) => tp (j + ap)) (fun (j : Nat) => vp (j + ap)) j)
 j))
 (fun (j : Nat) =>
 Prod.fst
 (Prod.snd
 (S.at'
 (S.mkl (S.mdN np) fun (j : Nat) =>
 S.mdR np (fun (j : Nat) => tp (j + ap)) (fun (j : Nat) => vp (j + ap)) j)
 j)))
 (fun (j : Nat) =>
 Prod.snd
 (Prod.snd
 (S.at'
 (S.mkl (S.mdN np) fun (j : Nat) =>
 S.mdR np (fun (j : Nat) => tp (j + ap)) (fun (j : Nat) => vp (j + ap)) j)
 j)))
 (List.length (S.mkl (S.mdN np) fun (j : Nat) => S.mdB o j))
 (fun (j : Nat) => S.at' (S.mkl (S.mdN np) fun (j : Nat) => S.mdB o j) j)
 (List.length (S.mkl nl fun (j : Nat) => S.inp (tl (j + al)))) fun (j : Nat) =>
 S.at' (S.mkl nl fun (j : Nat) => S.inp (tl (j + al))) j)))
 j)))) =
 S.mkl
 (List.length
 (Prod.fst
 (Prod.snd
 (S.histS
 (List.length
 (S.mkl (S.mdN np) fun (j : Nat) =>
 S.mdR np (fun (j : Nat) => tp (j + ap)) (fun (j : Nat) => vp (j + ap)) j))
 (fun (j : Nat) =>
 Prod.fst
 (S.at'
 (S.mkl (S.mdN np) fun (j : Nat) =>
 S.mdR np (fun (j : Nat) => tp (j + ap)) (fun (j : Nat) => vp (j + ap)) j)
 j))
 (fun (j : Nat) =>
 Prod.fst
 (Prod.snd
 (S.at'
 (S.mkl (S.mdN np) fun (j : Nat) =>
 S.mdR np (fun (j : Nat) => tp (j + ap)) (fun (j : Nat) => vp (j + ap)) j)
 j)))
 (fun (j : Nat) =>
 Prod.snd
 (Prod.snd
 (S.at'
 (S.mkl (S.mdN np) fun (j : Nat) =>
 S.mdR np (fun (j : Nat) => tp (j + ap)) (fun (j : Nat) => vp (j + ap)) j)
 j)))
 (List.length (S.mkl (S.mdN np) fun (j : Nat) => S.mdB o j))
 (fun (j : Nat) => S.at' (S.mkl (S.mdN np) fun (j : Nat) => S.mdB o j) j)
 (List.length
 (S.redP
 (fun (j : Nat) => S.at' (S.mkl nl fun (j : Nat) => S.inp (tl (j + al))) j)
 (List.length (S.mkl nl fun (j : Nat) => S.inp (tl (j + al))))
 (List.length (S.mkl nl fun (j : Nat) => S.inp (tl (j + al))))))
 fun (j : Nat) =>
 S.at'
 (S.redP
 (fun (j : Nat) => S.at' (S.mkl nl fun (j : Nat) => S.inp (tl (j + al))) j)
 (List.length (S.mkl nl fun (j : Nat) => S.inp (tl (j + al))))
 (List.length (S.mkl nl fun (j : Nat) => S.inp (tl (j + al)))))
 j))))
 fun (j : Nat) =>
 (Prod.fst
 (S.at'
 (Prod.fst
 (Prod.snd
 (S.histS
 (List.length
 (S.mkl (S.mdN np) fun (j : Nat) =>
 S.mdR np (fun (j : Nat) => tp (j + ap)) (fun (j : Nat) => vp (j + ap)) j))
 (fun (j : Nat) =>
 Prod.fst
 (S.at'
 (S.mkl (S.mdN np) fun (j : Nat) =>
 S.mdR np (fun (j : Nat) => tp (j + ap)) (fun (j : Nat) => vp (j + ap)) j)
 j))
 (fun (j : Nat) =>
 Prod.fst
 (Prod.snd
 (S.at'
 (S.mkl (S.mdN np) fun (j : Nat) =>
 S.mdR np (fun (j : Nat) => tp (j + ap)) (fun (j : Nat) => vp (j + ap)) j)
 j)))
 (fun (j : Nat) =>
 Prod.snd
 (Prod.snd
 (S.at'
 (S.mkl (S.mdN np) fun (j : Nat) =>
 S.mdR np (fun (j : Nat) => tp (j + ap)) (fun (j : Nat) => vp (j + ap)) j)
 j)))
 (List.length (S.mkl (S.mdN np) fun (j : Nat) => S.mdB o j))
 (fun (j : Nat) => S.at' (S.mkl (S.mdN np) fun (j : Nat) => S.mdB o j) j)
 (List.length
 (S.redP
 (fun (j : Nat) => S.at' (S.mkl nl fun (j : Nat) => S.inp (tl (j + al))) j)
 (List.length (S.mkl nl fun (j : Nat) => S.inp (tl (j + al))))
 (List.length (S.mkl nl fun (j : Nat) => S.inp (tl (j + al))))))
 fun (j : Nat) =>
 S.at'
 (S.redP
 (fun (j : Nat) => S.at' (S.mkl nl fun (j : Nat) => S.inp (tl (j + al))) j)
 (List.length (S.mkl nl fun (j : Nat) => S.inp (tl (j + al))))
 (List.length (S.mkl nl fun (j : Nat) => S.inp (tl (j + al)))))
 j)))
 j),
 Prod.fst
 (Prod.snd
 (S.at'
 (Prod.fst
 (Prod.snd
 (S.histS
 (List.length
 (S.mkl (S.mdN np) fun (j : Nat) =>
 S.mdR np (fun (j : Nat) => tp (j + ap)) (fun (j : Nat) => vp (j + ap)) j))
 (fun (j : Nat) =>
 Prod.fst
 (S.at'
 (S.mkl (S.mdN np) fun (j : Nat) =>
 S.mdR np (fun (j : Nat) => tp (j + ap)) (fun (j : Nat) => vp (j + ap)) j)
 j))
 (fun (j : Nat) =>
 Prod.fst
 (Prod.snd
 (S.at'
 (S.mkl (S.mdN np) fun (j : Nat) =>
 S.mdR np (fun (j : Nat) => tp (j + ap)) (fun (j : Nat) => vp (j + ap)) j)
 j)))
 (fun (j : Nat) =>
 Prod.snd
 (Prod.snd
 (S.at'
 (S.mkl (S.mdN np) fun (j : Nat) =>
 S.mdR np (fun (j : Nat) => tp (j + ap)) (fun (j : Nat) => vp (j + ap)) j)
 j)))
 (List.length (S.mkl (S.mdN np) fun (j : Nat) => S.mdB o j))
 (fun (j : Nat) => S.at' (S.mkl (S.mdN np) fun (j : Nat) => S.mdB o j) j)
 (List.length
 (S.redP
 (fun (j : Nat) => S.at' (S.mkl nl fun (j : Nat) => S.inp (tl (j + al))) j)
 (List.length (S.mkl nl fun (j : Nat) => S.inp (tl (j + al))))
 (List.length (S.mkl nl fun (j : Nat) => S.inp (tl (j + al))))))
 fun (j : Nat) =>
 S.at'
 (S.redP
 (fun (j : Nat) => S.at' (S.mkl nl fun (j : Nat) => S.inp (tl (j + al))) j)
 (List.length (S.mkl nl fun (j : Nat) => S.inp (tl (j + al))))
 (List.length (S.mkl nl fun (j : Nat) => S.inp (tl (j + al)))))
 j)))
 j)),
 Prod.snd
 (Prod.snd
 (S.at'
 (Prod.fst
 (Prod.snd
 (S.histS
 (List.length
 (S.mkl (S.mdN np) fun (j : Nat) =>
 S.mdR np (fun (j : Nat) => tp (j + ap)) (fun (j : Nat) => vp (j + ap)) j))
 (fun (j : Nat) =>
 Prod.fst
 (S.at'
 (S.mkl (S.mdN np) fun (j : Nat) =>
 S.mdR np (fun (j : Nat) => tp (j + ap)) (fun (j : Nat) => vp (j + ap)) j)
 j))
 (fun (j : Nat) =>
 Prod.fst
 (Prod.snd
 (S.at'
 (S.mkl (S.mdN np) fun (j : Nat) =>
 S.mdR np (fun (j : Nat) => tp (j + ap)) (fun (j : Nat) => vp (j + ap)) j)
 j)))
 (fun (j : Nat) =>
 Prod.snd
 (Prod.snd
 (S.at'
 (S.mkl (S.mdN np) fun (j : Nat) =>
 S.mdR np (fun (j : Nat) => tp (j + ap)) (fun (j : Nat) => vp (j + ap)) j)
 j)))
 (List.length (S.mkl (S.mdN np) fun (j : Nat) => S.mdB o j))
 (fun (j : Nat) => S.at' (S.mkl (S.mdN np) fun (j : Nat) => S.mdB o j) j)
 (List.length
 (S.redP
 (fun (j : Nat) => S.at' (S.mkl nl fun (j : Nat) => S.inp (tl (j + al))) j)
 (List.length (S.mkl nl fun (j : Nat) => S.inp (tl (j + al))))
 (List.length (S.mkl nl fun (j : Nat) => S.inp (tl (j + al))))))
 fun (j : Nat) =>
 S.at'
 (S.redP
 (fun (j : Nat) => S.at' (S.mkl nl fun (j : Nat) => S.inp (tl (j + al))) j)
 (List.length (S.mkl nl fun (j : Nat) => S.inp (tl (j + al))))
 (List.length (S.mkl nl fun (j : Nat) => S.inp (tl (j + al)))))
 j)))
 j)))) &&
 decide
 ((S.mkl
 (List.length
 (Prod.snd
 (Prod.snd
 (S.histS
 (List.length
 (S.mkl (S.mdN np) fun (j : Nat) =>
 S.mdR np (fun (j : Nat) => tp (j + ap)) (fun (j : Nat) => vp (j + ap)) j))
 (fun (j : Nat) =>
 Prod.fst
 (S.at'
 (S.mkl (S.mdN np) fun (j : Nat) =>
 S.mdR np (fun (j : Nat) => tp (j + ap)) (fun (j : Nat) => vp (j + ap)) j)
 j))
 (fun (j : Nat) =>
 Prod.fst
 (Prod.snd
 (S.at'
 (S.mkl (S.mdN np) fun (j : Nat) =>
 S.mdR np (fun (j : Nat) => tp (j + ap)) (fun (j : Nat) => vp (j + ap)) j)
 j)))
 (fun (j : Nat) =>
 Prod.snd
 (Prod.snd
 (S.at'
 (S.mkl (S.mdN np) fun (j : Nat) =>
 S.mdR np (fun (j : Nat) => tp (j + ap)) (fun (j : Nat) => vp (j + ap)) j)
 j)))
 (List.length (S.mkl (S.mdN np) fun (j : Nat) => S.mdB o j))
 (fun (j : Nat) => S.at' (S.mkl (S.mdN np) fun (j : Nat) => S.mdB o j) j)
 (List.length (S.mkl nl fun (j : Nat) => S.inp (tl (j + al)))) fun (j : Nat) =>
 S.at' (S.mkl nl fun (j : Nat) => S.inp (tl (j + al))) j))))
 fun (j : Nat) =>
 S.at'
 (Prod.snd
 (Prod.snd
 (S.histS
 (List.length
 (S.mkl (S.mdN np) fun (j : Nat) =>
 S.mdR np (fun (j : Nat) => tp (j + ap)) (fun (j : Nat) => vp (j + ap)) j))
 (fun (j : Nat) =>
 Prod.fst
 (S.at'
 (S.mkl (S.mdN np) fun (j : Nat) =>
 S.mdR np (fun (j : Nat) => tp (j + ap)) (fun (j : Nat) => vp (j + ap)) j)
 j))
 (fun (j : Nat) =>
 Prod.fst
 (Prod.snd
 (S.at'
 (S.mkl (S.mdN np) fun (j : Nat) =>
 S.mdR np (fun (j : Nat) => tp (j + ap)) (fun (j : Nat) => vp (j + ap)) j)
 j)))
 (fun (j : Nat) =>
 Prod.snd
 (Prod.snd
 (S.at'
 (S.mkl (S.mdN np) fun (j : Nat) =>
 S.mdR np (fun (j : Nat) => tp (j + ap)) (fun (j : Nat) => vp (j + ap)) j)
 j)))
 (List.length (S.mkl (S.mdN np) fun (j : Nat) => S.mdB o j))
 (fun (j : Nat) => S.at' (S.mkl (S.mdN np) fun (j : Nat) => S.mdB o j) j)
 (List.length (S.mkl nl fun (j : Nat) => S.inp (tl (j + al)))) fun (j : Nat) =>
 S.at' (S.mkl nl fun (j : Nat) => S.inp (tl (j + al))) j)))
 j) =
 S.mkl
 (List.length
 (Prod.snd
 (Prod.snd
 (S.histS
 (List.length
 (S.mkl (S.mdN np) fun (j : Nat) =>
 S.mdR np (fun (j : Nat) => tp (j + ap)) (fun (j : Nat) => vp (j + ap)) j))
 (fun (j : Nat) =>
 Prod.fst
 (S.at'
 (S.mkl (S.mdN np) fun (j : Nat) =>
 S.mdR np (fun (j : Nat) => tp (j + ap)) (fun (j : Nat) => vp (j + ap)) j)
 j))
 (fun (j : Nat) =>
 Prod.fst
 (Prod.snd
 (S.at'
 (S.mkl (S.mdN np) fun (j : Nat) =>
 S.mdR np (fun (j : Nat) => tp (j + ap)) (fun (j : Nat) => vp (j + ap)) j)
 j)))
 (fun (j : Nat) =>
 Prod.snd
 (Prod.snd
 (S.at'
 (S.mkl (S.mdN np) fun (j : Nat) =>
 S.mdR np (fun (j : Nat) => tp (j + ap)) (fun (j : Nat) => vp (j + ap)) j)
 j)))
 (List.length (S.mkl (S.mdN np) fun (j : Nat) => S.mdB o j))
 (fun (j : Nat) => S.at' (S.mkl (S.mdN np) fun (j : Nat) => S.mdB o j) j)
 (List.length
 (S.redP
 (fun (j : Nat) => S.at' (S.mkl nl fun (j : Nat) => S.inp (tl (j + al))) j)
 (List.length (S.mkl nl fun (j : Nat) => S.inp (tl (j + al))))
 (List.length (S.mkl nl fun (j : Nat) => S.inp (tl (j + al))))))
 fun (j : Nat) =>
 S.at'
 (S.redP
 (fun (j : Nat) => S.at' (S.mkl nl fun (j : Nat) => S.inp (tl (j + al))) j)
 (List.length (S.mkl nl fun (j : Nat) => S.inp (tl (j + al))))
 (List.length (S.mkl nl fun (j : Nat) => S.inp (tl (j + al)))))
 j))))
 fun (j : Nat) =>
 S.at'
 (Prod.snd
 (Prod.snd
 (S.histS
 (List.length
 (S.mkl (S.mdN np) fun (j : Nat) =>
 S.mdR np (fun (j : Nat) => tp (j + ap)) (fun (j : Nat) => vp (j + ap)) j))
 (fun (j : Nat) =>
 Prod.fst
 (S.at'
 (S.mkl (S.mdN np) fun (j : Nat) =>
 S.mdR np (fun (j : Nat) => tp (j + ap)) (fun (j : Nat) => vp (j + ap)) j)
 j))
 (fun (j : Nat) =>
 Prod.fst
 (Prod.snd
 (S.at'
 (S.mkl (S.mdN np) fun (j : Nat) =>
 S.mdR np (fun (j : Nat) => tp (j + ap)) (fun (j : Nat) => vp (j + ap)) j)
 j)))
 (fun (j : Nat) =>
 Prod.snd
 (Prod.snd
 (S.at'
 (S.mkl (S.mdN np) fun (j : Nat) =>
 S.mdR np (fun (j : Nat) => tp (j + ap)) (fun (j : Nat) => vp (j + ap)) j)
 j)))
 (List.length (S.mkl (S.mdN np) fun (j : Nat) => S.mdB o j))
 (fun (j : Nat) => S.at' (S.mkl (S.mdN np) fun (j : Nat) => S.mdB o j) j)
 (List.length
 (S.redP
 (fun (j : Nat) => S.at' (S.mkl nl fun (j : Nat) => S.inp (tl (j + al))) j)
 (List.length (S.mkl nl fun (j : Nat) => S.inp (tl (j + al))))
 (List.length (S.mkl nl fun (j : Nat) => S.inp (tl (j + al))))))
 fun (j : Nat) =>
 S.at'
 (S.redP
 (fun (j : Nat) => S.at' (S.mkl nl fun (j : Nat) => S.inp (tl (j + al))) j)
 (List.length (S.mkl nl fun (j : Nat) => S.inp (tl (j + al))))
 (List.length (S.mkl nl fun (j : Nat) => S.inp (tl (j + al)))))
 j)))
 j))
 (Kret (PV.tf true) ([[(1, false, Blk.cols ml [Col.int IntKind.u8 tl]),
 (0, false, Blk.cols mp [Col.int IntKind.u8 tp, Col.int IntKind.u8 vp])]]) (21))
 (Kret (PV.tf false) ([[(1, false, Blk.cols ml [Col.int IntKind.u8 tl]),
 (0, false, Blk.cols mp [Col.int IntKind.u8 tp, Col.int IntKind.u8 vp])]]) (21)))
 (False))
 (Kret (PV.tf false) ([[(1, false, Blk.cols ml [Col.int IntKind.u8 tl]),
 (0, false, Blk.cols mp [Col.int IntKind.u8 tp, Col.int IntKind.u8 vp])]]) (20)))
 (Kret (PV.tf false) ([[(1, false, Blk.cols ml [Col.int IntKind.u8 tl]),
 (0, false, Blk.cols mp [Col.int IntKind.u8 tp, Col.int IntKind.u8 vp])]]) (20)))
 (False))
 (False))
 (False))
 (False))
 (False)))
 (test (true)
 (test (true)
 (Kret (PV.tf true) ([[(1, false, Blk.cols ml [Col.int IntKind.u8 tl]),
 (0, false, Blk.cols mp [Col.int IntKind.u8 tp, Col.int IntKind.u8 vp])]]) (5))
 (Kret (PV.tf false) ([[(1, false, Blk.cols ml [Col.int IntKind.u8 tl]),
 (0, false, Blk.cols mp [Col.int IntKind.u8 tp, Col.int IntKind.u8 vp])]]) (5)))
 (False)))
 (False)
set_option maxRecDepth 100000 in
theorem te6 (test : Bool → Prop → Prop → Prop) (Kst : KS) (Kret : KR) (ap np mp : Nat) (tp : Nat → Int) (vp : Nat → Int) (o : Int) (al nl ml : Nat) (tl : Nat → Int) : run test Try.env true (yE1 test) true 400 ⟨6, [.cd (mkFn Try.f6).body], argT 0 [.agg [.loose ⟨0, 2, ap, 0⟩ np, .int .u32 o], .loose ⟨1, 1, al, 0⟩ nl], [[], [(0, (false, .cols mp [.int .u8 tp, .int .u8 vp])), (1, (false, .cols ml [.int .u8 tl]))]], 2⟩ (proj 2 [] Kst Kret) =
  Te6 test Kst Kret ap np mp tp vp o al nl ml tl := by kernel_rfl
set_option maxRecDepth 100000 in
theorem be6 (ap np mp : Nat) (tp : Nat → Int) (vp : Nat → Int) (o : Int) (al nl ml : Nat) (tl : Nat → Int) (Kst : KS) (Kret : KR) (x : St6 ⊕ Rt6) (hS : HS 2 400 ((I6 ap np mp tp vp o al nl ml tl)) Kst x) (hR : HR 2 400 ((V6 ap np mp tp vp o al nl ml tl)) (fun r => [newL (2 + 1) ((N6 ap np mp tp vp o al nl ml tl) r) ++ [(0, (false, .cols mp [.int .u8 tp, .int .u8 vp])), (1, (false, .cols ml [.int .u8 tl]))]]) Kret x) (h : (bif (decide ((↑nl : Int) > (200 : Int)))
 then (some (.inr (true)))
 else (bif (decide
 (ap + np ≤ mp ∧
 (S.bytes np fun (j : Nat) => tp (j + ap)) = true ∧
 (S.bytes np fun (j : Nat) => vp (j + ap)) = true))
 then (bif (decide (al + nl ≤ ml ∧ nl ≤ 999999 ∧ (S.bytes nl fun (j : Nat) => tl (j + al)) = true))
 then (bif (decide
 (0 +
 List.length
 (S.mkl (S.mdN np) fun (j : Nat) =>
 S.mdR np (fun (j : Nat) => tp (j + ap)) (fun (j : Nat) => vp (j + ap)) j) ≤
 List.length
 (S.mkl (S.mdN np) fun (j : Nat) =>
 S.mdR np (fun (j : Nat) => tp (j + ap)) (fun (j : Nat) => vp (j + ap)) j) ∧
 List.length
 (S.mkl (S.mdN np) fun (j : Nat) =>
 S.mdR np (fun (j : Nat) => tp (j + ap)) (fun (j : Nat) => vp (j + ap)) j) ≤
 1000000 ∧
 0 + List.length (S.mkl (S.mdN np) fun (j : Nat) => S.mdB o j) ≤
 List.length (S.mkl (S.mdN np) fun (j : Nat) => S.mdB o j) ∧
 List.length (S.mkl (S.mdN np) fun (j : Nat) => S.mdB o j) ≤ 1000000 ∧
 0 + List.length (S.mkl nl fun (j : Nat) => S.inp (tl (j + al))) ≤
 List.length (S.mkl nl fun (j : Nat) => S.inp (tl (j + al))) ∧
 List.length (S.mkl nl fun (j : Nat) => S.inp (tl (j + al))) ≤ 1000000))
 then (bif (decide
 (0 + List.length (S.mkl nl fun (j : Nat) => S.inp (tl (j + al))) ≤
 List.length (S.mkl nl fun (j : Nat) => S.inp (tl (j + al))) ∧
 List.length (S.mkl nl fun (j : Nat) => S.inp (tl (j + al))) ≤ 999999))
 then (bif (decide
 (0 +
 List.length
 (S.mkl (S.mdN np) fun (j : Nat) =>
 S.mdR np (fun (j : Nat) => tp (j + ap)) (fun (j : Nat) => vp (j + ap)) j) ≤
 List.length
 (S.mkl (S.mdN np) fun (j : Nat) =>
 S.mdR np (fun (j : Nat) => tp (j + ap)) (fun (j : Nat) => vp (j + ap)) j) ∧
 List.length
 (S.mkl (S.mdN np) fun (j : Nat) =>
 S.mdR np (fun (j : Nat) => tp (j + ap)) (fun (j : Nat) => vp (j + ap)) j) ≤
 1000000 ∧
 0 + List.length (S.mkl (S.mdN np) fun (j : Nat) => S.mdB o j) ≤
 List.length (S.mkl (S.mdN np) fun (j : Nat) => S.mdB o j) ∧
 List.length (S.mkl (S.mdN np) fun (j : Nat) => S.mdB o j) ≤ 1000000 ∧
 0 +
 List.length
 (S.redP
 (fun (j : Nat) => S.at' (S.mkl nl fun (j : Nat) => S.inp (tl (j + al))) j)
 (List.length (S.mkl nl fun (j : Nat) => S.inp (tl (j + al))))
 (List.length (S.mkl nl fun (j : Nat) => S.inp (tl (j + al))))) ≤
 List.length
 (S.redP
 (fun (j : Nat) => S.at' (S.mkl nl fun (j : Nat) => S.inp (tl (j + al))) j)
 (List.length (S.mkl nl fun (j : Nat) => S.inp (tl (j + al))))
 (List.length (S.mkl nl fun (j : Nat) => S.inp (tl (j + al))))) ∧
 List.length
 (S.redP
 (fun (j : Nat) => S.at' (S.mkl nl fun (j : Nat) => S.inp (tl (j + al))) j)
 (List.length (S.mkl nl fun (j : Nat) => S.inp (tl (j + al))))
 (List.length (S.mkl nl fun (j : Nat) => S.inp (tl (j + al))))) ≤
 1000000))
 then (bif (Prod.fst
 (S.histS
 (List.length
 (S.mkl (S.mdN np) fun (j : Nat) =>
 S.mdR np (fun (j : Nat) => tp (j + ap)) (fun (j : Nat) => vp (j + ap)) j))
 (fun (j : Nat) =>
 Prod.fst
 (S.at'
 (S.mkl (S.mdN np) fun (j : Nat) =>
 S.mdR np (fun (j : Nat) => tp (j + ap)) (fun (j : Nat) => vp (j + ap)) j)
 j))
 (fun (j : Nat) =>
 Prod.fst
 (Prod.snd
 (S.at'
 (S.mkl (S.mdN np) fun (j : Nat) =>
 S.mdR np (fun (j : Nat) => tp (j + ap)) (fun (j : Nat) => vp (j + ap)) j)
 j)))
 (fun (j : Nat) =>
 Prod.snd
 (Prod.snd
 (S.at'
 (S.mkl (S.mdN np) fun (j : Nat) =>
 S.mdR np (fun (j : Nat) => tp (j + ap)) (fun (j : Nat) => vp (j + ap)) j)
 j)))
 (List.length (S.mkl (S.mdN np) fun (j : Nat) => S.mdB o j))
 (fun (j : Nat) => S.at' (S.mkl (S.mdN np) fun (j : Nat) => S.mdB o j) j)
 (List.length (S.mkl nl fun (j : Nat) => S.inp (tl (j + al)))) fun (j : Nat) =>
 S.at' (S.mkl nl fun (j : Nat) => S.inp (tl (j + al))) j) ==
 (0 : Int))
 then (bif (Prod.fst
 (S.histS
 (List.length
 (S.mkl (S.mdN np) fun (j : Nat) =>
 S.mdR np (fun (j : Nat) => tp (j + ap)) (fun (j : Nat) => vp (j + ap)) j))
 (fun (j : Nat) =>
 Prod.fst
 (S.at'
 (S.mkl (S.mdN np) fun (j : Nat) =>
 S.mdR np (fun (j : Nat) => tp (j + ap)) (fun (j : Nat) => vp (j + ap)) j)
 j))
 (fun (j : Nat) =>
 Prod.fst
 (Prod.snd
 (S.at'
 (S.mkl (S.mdN np) fun (j : Nat) =>
 S.mdR np (fun (j : Nat) => tp (j + ap)) (fun (j : Nat) => vp (j + ap)) j)
 j)))
 (fun (j : Nat) =>
 Prod.snd
 (Prod.snd
 (S.at'
 (S.mkl (S.mdN np) fun (j : Nat) =>
 S.mdR np (fun (j : Nat) => tp (j + ap)) (fun (j : Nat) => vp (j + ap)) j)
 j)))
 (List.length (S.mkl (S.mdN np) fun (j : Nat) => S.mdB o j))
 (fun (j : Nat) => S.at' (S.mkl (S.mdN np) fun (j : Nat) => S.mdB o j) j)
 (List.length
 (S.redP (fun (j : Nat) => S.at' (S.mkl nl fun (j : Nat) => S.inp (tl (j + al))) j)
 (List.length (S.mkl nl fun (j : Nat) => S.inp (tl (j + al))))
 (List.length (S.mkl nl fun (j : Nat) => S.inp (tl (j + al))))))
 fun (j : Nat) =>
 S.at'
 (S.redP (fun (j : Nat) => S.at' (S.mkl nl fun (j : Nat) => S.inp (tl (j + al))) j)
 (List.length (S.mkl nl fun (j : Nat) => S.inp (tl (j + al))))
 (List.length (S.mkl nl fun (j : Nat) => S.inp (tl (j + al)))))
 j) ==
 (0 : Int))
 then (bif (decide
 (0 +
 List.length
 (Prod.fst
 (Prod.snd
 (S.histS
 (List.length
 (S.mkl (S.mdN np) fun (j : Nat) =>
 S.mdR np (fun (j : Nat) => tp (j + ap)) (fun (j : Nat) => vp (j + ap)) j))
 (fun (j : Nat) =>
 Prod.fst
 (S.at'
 (S.mkl (S.mdN np) fun (j : Nat) =>
 S.mdR np (fun (j : Nat) => tp (j + ap)) (fun (j : Nat) => vp (j + ap)) j)
 j))
 (fun (j : Nat) =>
 Prod.fst
 (Prod.snd
 (S.at'
 (S.mkl (S.mdN np) fun (j : Nat) =>
 S.mdR np (fun (j : Nat) => tp (j + ap)) (fun (j : Nat) => vp (j + ap)) j)
 j)))
 (fun (j : Nat) =>
 Prod.snd
 (Prod.snd
 (S.at'
 (S.mkl (S.mdN np) fun (j : Nat) =>
 S.mdR np (fun (j : Nat) => tp (j + ap)) (fun (j : Nat) => vp (j + ap)) j)
 j)))
 (List.length (S.mkl (S.mdN np) fun (j : Nat) => S.mdB o j))
 (fun (j : Nat) => S.at' (S.mkl (S.mdN np) fun (j : Nat) => S.mdB o j) j)
 (List.length (S.mkl nl fun (j : Nat) => S.inp (tl (j + al)))) fun (j : Nat) =>
 S.at' (S.mkl nl fun (j : Nat) => S.inp (tl (j + al))) j))) ≤
 List.length
 (Prod.fst
 (Prod.snd
 (S.histS
 (List.length
 (S.mkl (S.mdN np) fun (j : Nat) =>
 S.mdR np (fun (j : Nat) => tp (j + ap)) (fun (j : Nat) => vp (j + ap)) j))
 (fun (j : Nat) =>
 Prod.fst
 (S.at'
 (S.mkl (S.mdN np) fun (j : Nat) =>
 S.mdR np (fun (j : Nat) => tp (j + ap)) (fun (j : Nat) => vp (j + ap)) j)
 j))
 (fun (j : Nat) =>
 Prod.fst
 (Prod.snd
 (S.at'
 (S.mkl (S.mdN np) fun (j : Nat) =>
 S.mdR np (fun (j : Nat) => tp (j + ap)) (fun (j : Nat) => vp (j + ap)) j)
 j)))
 (fun (j : Nat) =>
 Prod.snd
 (Prod.snd
 (S.at'
 (S.mkl (S.mdN np) fun (j : Nat) =>
 S.mdR np (fun (j : Nat) => tp (j + ap)) (fun (j : Nat) => vp (j + ap)) j)
 j)))
 (List.length (S.mkl (S.mdN np) fun (j : Nat) => S.mdB o j))
 (fun (j : Nat) => S.at' (S.mkl (S.mdN np) fun (j : Nat) => S.mdB o j) j)
 (List.length (S.mkl nl fun (j : Nat) => S.inp (tl (j + al)))) fun (j : Nat) =>
 S.at' (S.mkl nl fun (j : Nat) => S.inp (tl (j + al))) j))) ∧
 List.length
 (Prod.fst
 (Prod.snd
 (S.histS
 (List.length
 (S.mkl (S.mdN np) fun (j : Nat) =>
 S.mdR np (fun (j : Nat) => tp (j + ap)) (fun (j : Nat) => vp (j + ap)) j))
 (fun (j : Nat) =>
 Prod.fst
 (S.at'
 (S.mkl (S.mdN np) fun (j : Nat) =>
 S.mdR np (fun (j : Nat) => tp (j + ap)) (fun (j : Nat) => vp (j + ap)) j)
 j))
 (fun (j : Nat) =>
 Prod.fst
 (Prod.snd
 (S.at'
 (S.mkl (S.mdN np) fun (j : Nat) =>
 S.mdR np (fun (j : Nat) => tp (j + ap)) (fun (j : Nat) => vp (j + ap)) j)
 j)))
 (fun (j : Nat) =>
 Prod.snd
 (Prod.snd
 (S.at'
 (S.mkl (S.mdN np) fun (j : Nat) =>
 S.mdR np (fun (j : Nat) => tp (j + ap)) (fun (j : Nat) => vp (j + ap)) j)
 j)))
 (List.length (S.mkl (S.mdN np) fun (j : Nat) => S.mdB o j))
 (fun (j : Nat) => S.at' (S.mkl (S.mdN np) fun (j : Nat) => S.mdB o j) j)
 (List.length (S.mkl nl fun (j : Nat) => S.inp (tl (j + al)))) fun (j : Nat) =>
 S.at' (S.mkl nl fun (j : Nat) => S.inp (tl (j + al))) j))) ≤
 1000000 ∧
 0 +
 List.length
 (Prod.snd
 (Prod.snd
 (S.histS
 (List.length
 (S.mkl (S.mdN np) fun (j : Nat) =>
 S.mdR np (fun (j : Nat) => tp (j + ap)) (fun (j : Nat) => vp (j + ap)) j))
 (fun (j : Nat) =>
 Prod.fst
 (S.at'
 (S.mkl (S.mdN np) fun (j : Nat) =>
 S.mdR np (fun (j : Nat) => tp (j + ap)) (fun (j : Nat) => vp (j + ap)) j)
 j))
 (fun (j : Nat) =>
 Prod.fst
 (Prod.snd
 (S.at'
 (S.mkl (S.mdN np) fun (j : Nat) =>
 S.mdR np (fun (j : Nat) => tp (j + ap)) (fun (j : Nat) => vp (j + ap)) j)
 j)))
 (fun (j : Nat) =>
 Prod.snd
 (Prod.snd
 (S.at'
 (S.mkl (S.mdN np) fun (j : Nat) =>
 S.mdR np (fun (j : Nat) => tp (j + ap)) (fun (j : Nat) => vp (j + ap)) j)
 j)))
 (List.length (S.mkl (S.mdN np) fun (j : Nat) => S.mdB o j))
 (fun (j : Nat) => S.at' (S.mkl (S.mdN np) fun (j : Nat) => S.mdB o j) j)
 (List.length (S.mkl nl fun (j : Nat) => S.inp (tl (j + al)))) fun (j : Nat) =>
 S.at' (S.mkl nl fun (j : Nat) => S.inp (tl (j + al))) j))) ≤
 List.length
 (Prod.snd
 (Prod.snd
 (S.histS
 (List.length
 (S.mkl (S.mdN np) fun (j : Nat) =>
 S.mdR np (fun (j : Nat) => tp (j + ap)) (fun (j : Nat) => vp (j + ap)) j))
 (fun (j : Nat) =>
 Prod.fst
 (S.at'
 (S.mkl (S.mdN np) fun (j : Nat) =>
 S.mdR np (fun (j : Nat) => tp (j + ap)) (fun (j : Nat) => vp (j + ap)) j)
 j))
 (fun (j : Nat) =>
 Prod.fst
 (Prod.snd
 (S.at'
 (S.mkl (S.mdN np) fun (j : Nat) =>
 S.mdR np (fun (j : Nat) => tp (j + ap)) (fun (j : Nat) => vp (j + ap)) j)
 j)))
 (fun (j : Nat) =>
 Prod.snd
 (Prod.snd
 (S.at'
 (S.mkl (S.mdN np) fun (j : Nat) =>
 S.mdR np (fun (j : Nat) => tp (j + ap)) (fun (j : Nat) => vp (j + ap)) j)
 j)))
 (List.length (S.mkl (S.mdN np) fun (j : Nat) => S.mdB o j))
 (fun (j : Nat) => S.at' (S.mkl (S.mdN np) fun (j : Nat) => S.mdB o j) j)
 (List.length (S.mkl nl fun (j : Nat) => S.inp (tl (j + al)))) fun (j : Nat) =>
 S.at' (S.mkl nl fun (j : Nat) => S.inp (tl (j + al))) j))) ∧
 List.length
 (Prod.snd
 (Prod.snd
 (S.histS
 (List.length
 (S.mkl (S.mdN np) fun (j : Nat) =>
 S.mdR np (fun (j : Nat) => tp (j + ap)) (fun (j : Nat) => vp (j + ap)) j))
 (fun (j : Nat) =>
 Prod.fst
 (S.at'
 (S.mkl (S.mdN np) fun (j : Nat) =>
 S.mdR np (fun (j : Nat) => tp (j + ap)) (fun (j : Nat) => vp (j + ap)) j)
 j))
 (fun (j : Nat) =>
 Prod.fst
 (Prod.snd
 (S.at'
 (S.mkl (S.mdN np) fun (j : Nat) =>
 S.mdR np (fun (j : Nat) => tp (j + ap)) (fun (j : Nat) => vp (j + ap)) j)
 j)))
 (fun (j : Nat) =>
 Prod.snd
 (Prod.snd
 (S.at'
 (S.mkl (S.mdN np) fun (j : Nat) =>
 S.mdR np (fun (j : Nat) => tp (j + ap)) (fun (j : Nat) => vp (j + ap)) j)
 j)))
 (List.length (S.mkl (S.mdN np) fun (j : Nat) => S.mdB o j))
 (fun (j : Nat) => S.at' (S.mkl (S.mdN np) fun (j : Nat) => S.mdB o j) j)
 (List.length (S.mkl nl fun (j : Nat) => S.inp (tl (j + al)))) fun (j : Nat) =>
 S.at' (S.mkl nl fun (j : Nat) => S.inp (tl (j + al))) j))) ≤
 1000000 ∧
 0 +
 List.length
 (Prod.fst
 (Prod.snd
 (S.histS
 (List.length
 (S.mkl (S.mdN np) fun (j : Nat) =>
 S.mdR np (fun (j : Nat) => tp (j + ap)) (fun (j : Nat) => vp (j + ap)) j))
 (fun (j : Nat) =>
 Prod.fst
 (S.at'
 (S.mkl (S.mdN np) fun (j : Nat) =>
 S.mdR np (fun (j : Nat) => tp (j + ap)) (fun (j : Nat) => vp (j + ap)) j)
 j))
 (fun (j : Nat) =>
 Prod.fst
 (Prod.snd
 (S.at'
 (S.mkl (S.mdN np) fun (j : Nat) =>
 S.mdR np (fun (j : Nat) => tp (j + ap)) (fun (j : Nat) => vp (j + ap)) j)
 j)))
 (fun (j : Nat) =>
 Prod.snd
 (Prod.snd
 (S.at'
 (S.mkl (S.mdN np) fun (j : Nat) =>
 S.mdR np (fun (j : Nat) => tp (j + ap)) (fun (j : Nat) => vp (j + ap)) j)
 j)))
 (List.length (S.mkl (S.mdN np) fun (j : Nat) => S.mdB o j))
 (fun (j : Nat) => S.at' (S.mkl (S.mdN np) fun (j : Nat) => S.mdB o j) j)
 (List.length
 (S.redP
 (fun (j : Nat) => S.at' (S.mkl nl fun (j : Nat) => S.inp (tl (j + al))) j)
 (List.length (S.mkl nl fun (j : Nat) => S.inp (tl (j + al))))
 (List.length (S.mkl nl fun (j : Nat) => S.inp (tl (j + al))))))
 fun (j : Nat) =>
 S.at'
 (S.redP
 (fun (j : Nat) => S.at' (S.mkl nl fun (j : Nat) => S.inp (tl (j + al))) j)
 (List.length (S.mkl nl fun (j : Nat) => S.inp (tl (j + al))))
 (List.length (S.mkl nl fun (j : Nat) => S.inp (tl (j + al)))))
 j))) ≤
 List.length
 (Prod.fst
 (Prod.snd
 (S.histS
 (List.length
 (S.mkl (S.mdN np) fun (j : Nat) =>
 S.mdR np (fun (j : Nat) => tp (j + ap)) (fun (j : Nat) => vp (j + ap)) j))
 (fun (j : Nat) =>
 Prod.fst
 (S.at'
 (S.mkl (S.mdN np) fun (j : Nat) =>
 S.mdR np (fun (j : Nat) => tp (j + ap)) (fun (j : Nat) => vp (j + ap)) j)
 j))
 (fun (j : Nat) =>
 Prod.fst
 (Prod.snd
 (S.at'
 (S.mkl (S.mdN np) fun (j : Nat) =>
 S.mdR np (fun (j : Nat) => tp (j + ap)) (fun (j : Nat) => vp (j + ap)) j)
 j)))
 (fun (j : Nat) =>
 Prod.snd
 (Prod.snd
 (S.at'
 (S.mkl (S.mdN np) fun (j : Nat) =>
 S.mdR np (fun (j : Nat) => tp (j + ap)) (fun (j : Nat) => vp (j + ap)) j)
 j)))
 (List.length (S.mkl (S.mdN np) fun (j : Nat) => S.mdB o j))
 (fun (j : Nat) => S.at' (S.mkl (S.mdN np) fun (j : Nat) => S.mdB o j) j)
 (List.length
 (S.redP
 (fun (j : Nat) => S.at' (S.mkl nl fun (j : Nat) => S.inp (tl (j + al))) j)
 (List.length (S.mkl nl fun (j : Nat) => S.inp (tl (j + al))))
 (List.length (S.mkl nl fun (j : Nat) => S.inp (tl (j + al))))))
 fun (j : Nat) =>
 S.at'
 (S.redP
 (fun (j : Nat) => S.at' (S.mkl nl fun (j : Nat) => S.inp (tl (j + al))) j)
 (List.length (S.mkl nl fun (j : Nat) => S.inp (tl (j + al))))
 (List.length (S.mkl nl fun (j : Nat) => S.inp (tl (j + al)))))
 j))) ∧
 List.length
 (Prod.fst
 (Prod.snd
 (S.histS
 (List.length
 (S.mkl (S.mdN np) fun (j : Nat) =>
 S.mdR np (fun (j : Nat) => tp (j + ap)) (fun (j : Nat) => vp (j + ap)) j))
 (fun (j : Nat) =>
 Prod.fst
 (S.at'
 (S.mkl (S.mdN np) fun (j : Nat) =>
 S.mdR np (fun (j : Nat) => tp (j + ap)) (fun (j : Nat) => vp (j + ap)) j)
 j))
 (fun (j : Nat) =>
 Prod.fst
 (Prod.snd
 (S.at'
 (S.mkl (S.mdN np) fun (j : Nat) =>
 S.mdR np (fun (j : Nat) => tp (j + ap)) (fun (j : Nat) => vp (j + ap)) j)
 j)))
 (fun (j : Nat) =>
 Prod.snd
 (Prod.snd
 (S.at'
 (S.mkl (S.mdN np) fun (j : Nat) =>
 S.mdR np (fun (j : Nat) => tp (j + ap)) (fun (j : Nat) => vp (j + ap)) j)
 j)))
 (List.length (S.mkl (S.mdN np) fun (j : Nat) => S.mdB o j))
 (fun (j : Nat) => S.at' (S.mkl (S.mdN np) fun (j : Nat) => S.mdB o j) j)
 (List.length
 (S.redP
 (fun (j : Nat) => S.at' (S.mkl nl fun (j : Nat) => S.inp (tl (j + al))) j)
 (List.length (S.mkl nl fun (j : Nat) => S.inp (tl (j + al))))
 (List.length (S.mkl nl fun (j : Nat) => S.inp (tl (j + al))))))
 fun (j : Nat) =>
 S.at'
 (S.redP
 (fun (j : Nat) => S.at' (S.mkl nl fun (j : Nat) => S.inp (tl (j + al))) j)
 (List.length (S.mkl nl fun (j : Nat) => S.inp (tl (j + al))))
 (List.length (S.mkl nl fun (j : Nat) => S.inp (tl (j + al)))))
 j))) ≤
 1000000 ∧
 0 +
 List.length
 (Prod.snd
 (Prod.snd
 (S.histS
 (List.length
 (S.mkl (S.mdN np) fun (j : Nat) =>
 S.mdR np (fun (j : Nat) => tp (j + ap)) (fun (j : Nat) => vp (j + ap)) j))
 (fun (j : Nat) =>
 Prod.fst
 (S.at'
 (S.mkl (S.mdN np) fun (j : Nat) =>
 S.mdR np (fun (j : Nat) => tp (j + ap)) (fun (j : Nat) => vp (j + ap)) j)
 j))
 (fun (j : Nat) =>
 Prod.fst
 (Prod.snd
 (S.at'
 (S.mkl (S.mdN np) fun (j : Nat) =>
 S.mdR np (fun (j : Nat) => tp (j + ap)) (fun (j : Nat) => vp (j + ap)) j)
 j)))
 (fun (j : Nat) =>
 Prod.snd
 (Prod.snd
 (S.at'
 (S.mkl (S.mdN np) fun (j : Nat) =>
 S.mdR np (fun (j : Nat) => tp (j + ap)) (fun (j : Nat) => vp (j + ap)) j)
 j)))
 (List.length (S.mkl (S.mdN np) fun (j : Nat) => S.mdB o j))
 (fun (j : Nat) =>
 S.at' (S.mkl (S.mdN np) fun (j : Nat) => S.mdB o j) j)
 (List.length
 (S.redP
 (fun (j : Nat) =>
 S.at' (S.mkl nl fun (j : Nat) => S.inp (tl (j + al))) j)
 (List.length (S.mkl nl fun (j : Nat) => S.inp (tl (j + al))))
 (List.length (S.mkl nl fun (j : Nat) => S.inp (tl (j + al))))))
 fun (j : Nat) =>
 S.at'
 (S.redP
 (fun (j : Nat) =>
 S.at' (S.mkl nl fun (j : Nat) => S.inp (tl (j + al))) j)
 (List.length (S.mkl nl fun (j : Nat) => S.inp (tl (j + al))))
 (List.length (S.mkl nl fun (j : Nat) => S.inp (tl (j + al)))))
 j))) ≤
 List.length
 (Prod.snd
 (Prod.snd
 (S.histS
 (List.length
 (S.mkl (S.mdN np) fun (j : Nat) =>
 S.mdR np (fun (j : Nat) => tp (j + ap)) (fun (j : Nat) => vp (j + ap)) j))
 (fun (j : Nat) =>
 Prod.fst
 (S.at'
 (S.mkl (S.mdN np) fun (j : Nat) =>
 S.mdR np (fun (j : Nat) => tp (j + ap)) (fun (j : Nat) => vp (j + ap)) j)
 j))
 (fun (j : Nat) =>
 Prod.fst
 (Prod.snd
 (S.at'
 (S.mkl (S.mdN np) fun (j : Nat) =>
 S.mdR np (fun (j : Nat) => tp (j + ap)) (fun (j : Nat) => vp (j + ap)) j)
 j)))
 (fun (j : Nat) =>
 Prod.snd
 (Prod.snd
 (S.at'
 (S.mkl (S.mdN np) fun (j : Nat) =>
 S.mdR np (fun (j : Nat) => tp (j + ap)) (fun (j : Nat) => vp (j + ap)) j)
 j)))
 (List.length (S.mkl (S.mdN np) fun (j : Nat) => S.mdB o j))
 (fun (j : Nat) =>
 S.at' (S.mkl (S.mdN np) fun (j : Nat) => S.mdB o j) j)
 (List.length
 (S.redP
 (fun (j : Nat) =>
 S.at' (S.mkl nl fun (j : Nat) => S.inp (tl (j + al))) j)
 (List.length (S.mkl nl fun (j : Nat) => S.inp (tl (j + al))))
 (List.length (S.mkl nl fun (j : Nat) => S.inp (tl (j + al))))))
 fun (j : Nat) =>
 S.at'
 (S.redP
 (fun (j : Nat) =>
 S.at' (S.mkl nl fun (j : Nat) => S.inp (tl (j + al))) j)
 (List.length (S.mkl nl fun (j : Nat) => S.inp (tl (j + al))))
 (List.length (S.mkl nl fun (j : Nat) => S.inp (tl (j + al)))))
 j))) ∧
 List.length
 (Prod.snd
 (Prod.snd
 (S.histS
 (List.length
 (S.mkl (S.mdN np) fun (j : Nat) =>
 S.mdR np (fun (j : Nat) => tp (j + ap)) (fun (j : Nat) => vp (j + ap)) j))
 (fun (j : Nat) =>
 Prod.fst
 (S.at'
 (S.mkl (S.mdN np) fun (j : Nat) =>
 S.mdR np (fun (j : Nat) => tp (j + ap)) (fun (j : Nat) => vp (j + ap)) j)
 j))
 (fun (j : Nat) =>
 Prod.fst
 (Prod.snd
 (S.at'
 (S.mkl (S.mdN np) fun (j : Nat) =>
 S.mdR np (fun (j : Nat) => tp (j + ap)) (fun (j : Nat) => vp (j + ap)) j)
 j)))
 (fun (j : Nat) =>
 Prod.snd
 (Prod.snd
 (S.at'
 (S.mkl (S.mdN np) fun (j : Nat) =>
 S.mdR np (fun (j : Nat) => tp (j + ap)) (fun (j : Nat) => vp (j + ap)) j)
 j)))
 (List.length (S.mkl (S.mdN np) fun (j : Nat) => S.mdB o j))
 (fun (j : Nat) =>
 S.at' (S.mkl (S.mdN np) fun (j : Nat) => S.mdB o j) j)
 (List.length
 (S.redP
 (fun (j : Nat) =>
 S.at' (S.mkl nl fun (j : Nat) => S.inp (tl (j + al))) j)
 (List.length (S.mkl nl fun (j : Nat) => S.inp (tl (j + al))))
 (List.length (S.mkl nl fun (j : Nat) => S.inp (tl (j + al))))))
 fun (j : Nat) =>
 S.at'
 (S.redP
 (fun (j : Nat) =>
 S.at' (S.mkl nl fun (j : Nat) => S.inp (tl (j + al))) j)
 (List.length (S.mkl nl fun (j : Nat) => S.inp (tl (j + al))))
 (List.length (S.mkl nl fun (j : Nat) => S.inp (tl (j + al)))))
 j))) ≤
 1000000))
 then (bif (decide
 ((S.mkl
 (List.length
 (Prod.fst
 (Prod.snd
 (S.histS
 (List.length
 (S.mkl (S.mdN np) fun (j : Nat) =>
 S.mdR np (fun (j : Nat) => tp (j + ap)) (fun (j : Nat) => vp (j + ap)) j))
 (fun (j : Nat) =>
 Prod.fst
 (S.at'
 (S.mkl (S.mdN np) fun (j : Nat) =>
 S.mdR np (fun (j : Nat) => tp (j + ap)) (fun (j : Nat) => vp (j + ap)) j)
 j))
 (fun (j : Nat) =>
 Prod.fst
 (Prod.snd
 (S.at'
 (S.mkl (S.mdN np) fun (j : Nat) =>
 S.mdR np (fun (j : Nat) => tp (j + ap)) (fun (j : Nat) => vp (j + ap)) j)
 j)))
 (fun (j : Nat) =>
 Prod.snd
 (Prod.snd
 (S.at'
 (S.mkl (S.mdN np) fun (j : Nat) =>
 S.mdR np (fun (j : Nat) => tp (j + ap)) (fun (j : Nat) => vp (j + ap)) j)
 j)))
 (List.length (S.mkl (S.mdN np) fun (j : Nat) => S.mdB o j))
 (fun (j : Nat) => S.at' (S.mkl (S.mdN np) fun (j : Nat) => S.mdB o j) j)
 (List.length (S.mkl nl fun (j : Nat) => S.inp (tl (j + al)))) fun (j : Nat) =>
 S.at' (S.mkl nl fun (j : Nat) => S.inp (tl (j + al))) j))))
 fun (j : Nat) =>
 (Prod.fst
 (S.at'
 (Prod.fst
 (Prod.snd
 (S.histS
 (List.length
 (S.mkl (S.mdN np) fun (j : Nat) =>
 S.mdR np (fun (j : Nat) => tp (j + ap)) (fun (j : Nat) => vp (j + ap)) j))
 (fun (j : Nat) =>
 Prod.fst
 (S.at'
 (S.mkl (S.mdN np) fun (j : Nat) =>
 S.mdR np (fun (j : Nat) => tp (j + ap)) (fun (j : Nat) => vp (j + ap)) j)
 j))
 (fun (j : Nat) =>
 Prod.fst
 (Prod.snd
 (S.at'
 (S.mkl (S.mdN np) fun (j : Nat) =>
 S.mdR np (fun (j : Nat) => tp (j + ap)) (fun (j : Nat) => vp (j + ap)) j)
 j)))
 (fun (j : Nat) =>
 Prod.snd
 (Prod.snd
 (S.at'
 (S.mkl (S.mdN np) fun (j : Nat) =>
 S.mdR np (fun (j : Nat) => tp (j + ap)) (fun (j : Nat) => vp (j + ap)) j)
 j)))
 (List.length (S.mkl (S.mdN np) fun (j : Nat) => S.mdB o j))
 (fun (j : Nat) => S.at' (S.mkl (S.mdN np) fun (j : Nat) => S.mdB o j) j)
 (List.length (S.mkl nl fun (j : Nat) => S.inp (tl (j + al)))) fun (j : Nat) =>
 S.at' (S.mkl nl fun (j : Nat) => S.inp (tl (j + al))) j)))
 j),
 Prod.fst
 (Prod.snd
 (S.at'
 (Prod.fst
 (Prod.snd
 (S.histS
 (List.length
 (S.mkl (S.mdN np) fun (j : Nat) =>
 S.mdR np (fun (j : Nat) => tp (j + ap)) (fun (j : Nat) => vp (j + ap)) j))
 (fun (j : Nat) =>
 Prod.fst
 (S.at'
 (S.mkl (S.mdN np) fun (j : Nat) =>
 S.mdR np (fun (j : Nat) => tp (j + ap)) (fun (j : Nat) => vp (j + ap)) j)
 j))
 (fun (j : Nat) =>
 Prod.fst
 (Prod.snd
 (S.at'
 (S.mkl (S.mdN np) fun (j : Nat) =>
 S.mdR np (fun (j : Nat) => tp (j + ap)) (fun (j : Nat) => vp (j + ap)) j)
 j)))
 (fun (j : Nat) =>
 Prod.snd
 (Prod.snd
 (S.at'
 (S.mkl (S.mdN np) fun (j : Nat) =>
 S.mdR np (fun (j : Nat) => tp (j + ap)) (fun (j : Nat) => vp (j + ap)) j)
 j)))
 (List.length (S.mkl (S.mdN np) fun (j : Nat) => S.mdB o j))
 (fun (j : Nat) => S.at' (S.mkl (S.mdN np) fun (j : Nat) => S.mdB o j) j)
 (List.length (S.mkl nl fun (j : Nat) => S.inp (tl (j + al)))) fun (j : Nat) =>
 S.at' (S.mkl nl fun (j : Nat) => S.inp (tl (j + al))) j)))
 j)),
 Prod.snd
 (Prod.snd
 (S.at'
 (Prod.fst
 (Prod.snd
 (S.histS
 (List.length
 (S.mkl (S.mdN np) fun (j : Nat) =>
 S.mdR np (fun (j : Nat) => tp (j + ap)) (fun (j : Nat) => vp (j + ap)) j))
 (fun (j : Nat) =>
 Prod.fst
 (S.at'
 (S.mkl (S.mdN np) fun (j : Nat) =>
 S.mdR np (fun (j : Nat) => tp (j + ap)) (fun (j : Nat) => vp (j + ap)) j)
 j))
 (fun (j : Nat) =>
 Prod.fst
 (Prod.snd
 (S.at'
 (S.mkl (S.mdN np) fun (j : Nat) =>
 S.mdR np (fun (j : Nat) => tp (j + ap)) (fun (j : Nat) => vp (j + ap)) j)
 j)))
 (fun (j : Nat) =>
 Prod.snd
 (Prod.snd
 (S.at'
 (S.mkl (S.mdN np) fun (j : Nat) =>
 S.mdR np (fun (j : Nat) => tp (j + ap)) (fun (j : Nat) => vp (j + ap)) j)
 j)))
 (List.length (S.mkl (S.mdN np) fun (j : Nat) => S.mdB o j))
 (fun (j : Nat) => S.at' (S.mkl (S.mdN np) fun (j : Nat) => S.mdB o j) j)
 (List.length (S.mkl nl fun (j : Nat) => S.inp (tl (j + al)))) fun (j : Nat) =>
 S.at' (S.mkl nl fun (j : Nat) => S.inp (tl (j + al))) j)))
 j)))) =
 S.mkl
 (List.length
 (Prod.fst
 (Prod.snd
 (S.histS
 (List.length
 (S.mkl (S.mdN np) fun (j : Nat) =>
 S.mdR np (fun (j : Nat) => tp (j + ap)) (fun (j : Nat) => vp (j + ap)) j))
 (fun (j : Nat) =>
 Prod.fst
 (S.at'
 (S.mkl (S.mdN np) fun (j : Nat) =>
 S.mdR np (fun (j : Nat) => tp (j + ap)) (fun (j : Nat) => vp (j + ap)) j)
 j))
 (fun (j : Nat) =>
 Prod.fst
 (Prod.snd
 (S.at'
 (S.mkl (S.mdN np) fun (j : Nat) =>
 S.mdR np (fun (j : Nat) => tp (j + ap)) (fun (j : Nat) => vp (j + ap)) j)
 j)))
 (fun (j : Nat) =>
 Prod.snd
 (Prod.snd
 (S.at'
 (S.mkl (S.mdN np) fun (j : Nat) =>
 S.mdR np (fun (j : Nat) => tp (j + ap)) (fun (j : Nat) => vp (j + ap)) j)
 j)))
 (List.length (S.mkl (S.mdN np) fun (j : Nat) => S.mdB o j))
 (fun (j : Nat) => S.at' (S.mkl (S.mdN np) fun (j : Nat) => S.mdB o j) j)
 (List.length
 (S.redP
 (fun (j : Nat) => S.at' (S.mkl nl fun (j : Nat) => S.inp (tl (j + al))) j)
 (List.length (S.mkl nl fun (j : Nat) => S.inp (tl (j + al))))
 (List.length (S.mkl nl fun (j : Nat) => S.inp (tl (j + al))))))
 fun (j : Nat) =>
 S.at'
 (S.redP
 (fun (j : Nat) => S.at' (S.mkl nl fun (j : Nat) => S.inp (tl (j + al))) j)
 (List.length (S.mkl nl fun (j : Nat) => S.inp (tl (j + al))))
 (List.length (S.mkl nl fun (j : Nat) => S.inp (tl (j + al)))))
 j))))
 fun (j : Nat) =>
 (Prod.fst
 (S.at'
 (Prod.fst
 (Prod.snd
 (S.histS
 (List.length
 (S.mkl (S.mdN np) fun (j : Nat) =>
 S.mdR np (fun (j : Nat) => tp (j + ap)) (fun (j : Nat) => vp (j + ap)) j))
 (fun (j : Nat) =>
 Prod.fst
 (S.at'
 (S.mkl (S.mdN np) fun (j : Nat) =>
 S.mdR np (fun (j : Nat) => tp (j + ap)) (fun (j : Nat) => vp (j + ap)) j)
 j))
 (fun (j : Nat) =>
 Prod.fst
 (Prod.snd
 (S.at'
 (S.mkl (S.mdN np) fun (j : Nat) =>
 S.mdR np (fun (j : Nat) => tp (j + ap)) (fun (j : Nat) => vp (j + ap)) j)
 j)))
 (fun (j : Nat) =>
 Prod.snd
 (Prod.snd
 (S.at'
 (S.mkl (S.mdN np) fun (j : Nat) =>
 S.mdR np (fun (j : Nat) => tp (j + ap)) (fun (j : Nat) => vp (j + ap)) j)
 j)))
 (List.length (S.mkl (S.mdN np) fun (j : Nat) => S.mdB o j))
 (fun (j : Nat) => S.at' (S.mkl (S.mdN np) fun (j : Nat) => S.mdB o j) j)
 (List.length
 (S.redP
 (fun (j : Nat) => S.at' (S.mkl nl fun (j : Nat) => S.inp (tl (j + al))) j)
 (List.length (S.mkl nl fun (j : Nat) => S.inp (tl (j + al))))
 (List.length (S.mkl nl fun (j : Nat) => S.inp (tl (j + al))))))
 fun (j : Nat) =>
 S.at'
 (S.redP
 (fun (j : Nat) => S.at' (S.mkl nl fun (j : Nat) => S.inp (tl (j + al))) j)
 (List.length (S.mkl nl fun (j : Nat) => S.inp (tl (j + al))))
 (List.length (S.mkl nl fun (j : Nat) => S.inp (tl (j + al)))))
 j)))
 j),
 Prod.fst
 (Prod.snd
 (S.at'
 (Prod.fst
 (Prod.snd
 (S.histS
 (List.length
 (S.mkl (S.mdN np) fun (j : Nat) =>
 S.mdR np (fun (j : Nat) => tp (j + ap)) (fun (j : Nat) => vp (j + ap)) j))
 (fun (j : Nat) =>
 Prod.fst
 (S.at'
 (S.mkl (S.mdN np) fun (j : Nat) =>
 S.mdR np (fun (j : Nat) => tp (j + ap)) (fun (j : Nat) => vp (j + ap)) j)
 j))
 (fun (j : Nat) =>
 Prod.fst
 (Prod.snd
 (S.at'
 (S.mkl (S.mdN np) fun (j : Nat) =>
 S.mdR np (fun (j : Nat) => tp (j + ap)) (fun (j : Nat) => vp (j + ap)) j)
 j)))
 (fun (j : Nat) =>
 Prod.snd
 (Prod.snd
 (S.at'
 (S.mkl (S.mdN np) fun (j : Nat) =>
 S.mdR np (fun (j : Nat) => tp (j + ap)) (fun (j : Nat) => vp (j + ap)) j)
 j)))
 (List.length (S.mkl (S.mdN np) fun (j : Nat) => S.mdB o j))
 (fun (j : Nat) => S.at' (S.mkl (S.mdN np) fun (j : Nat) => S.mdB o j) j)
 (List.length
 (S.redP
 (fun (j : Nat) => S.at' (S.mkl nl fun (j : Nat) => S.inp (tl (j + al))) j)
 (List.length (S.mkl nl fun (j : Nat) => S.inp (tl (j + al))))
 (List.length (S.mkl nl fun (j : Nat) => S.inp (tl (j + al))))))
 fun (j : Nat) =>
 S.at'
 (S.redP
 (fun (j : Nat) => S.at' (S.mkl nl fun (j : Nat) => S.inp (tl (j + al))) j)
 (List.length (S.mkl nl fun (j : Nat) => S.inp (tl (j + al))))
 (List.length (S.mkl nl fun (j : Nat) => S.inp (tl (j + al)))))
 j)))
 j)),
 Prod.snd
 (Prod.snd
 (S.at'
 (Prod.fst
 (Prod.snd
 (S.histS
 (List.length
 (S.mkl (S.mdN np) fun (j : Nat) =>
 S.mdR np (fun (j : Nat) => tp (j + ap)) (fun (j : Nat) => vp (j + ap)) j))
 (fun (j : Nat) =>
 Prod.fst
 (S.at'
 (S.mkl (S.mdN np) fun (j : Nat) =>
 S.mdR np (fun (j : Nat) => tp (j + ap)) (fun (j : Nat) => vp (j + ap)) j)
 j))
 (fun (j : Nat) =>
 Prod.fst
 (Prod.snd
 (S.at'
 (S.mkl (S.mdN np) fun (j : Nat) =>
 S.mdR np (fun (j : Nat) => tp (j + ap)) (fun (j : Nat) => vp (j + ap)) j)
 j)))
 (fun (j : Nat) =>
 Prod.snd
 (Prod.snd
 (S.at'
 (S.mkl (S.mdN np) fun (j : Nat) =>
 S.mdR np (fun (j : Nat) => tp (j + ap)) (fun (j : Nat) => vp (j + ap)) j)
 j)))
 (List.length (S.mkl (S.mdN np) fun (j : Nat) => S.mdB o j))
 (fun (j : Nat) => S.at' (S.mkl (S.mdN np) fun (j : Nat) => S.mdB o j) j)
 (List.length
 (S.redP
 (fun (j : Nat) => S.at' (S.mkl nl fun (j : Nat) => S.inp (tl (j + al))) j)
 (List.length (S.mkl nl fun (j : Nat) => S.inp (tl (j + al))))
 (List.length (S.mkl nl fun (j : Nat) => S.inp (tl (j + al))))))
 fun (j : Nat) =>
 S.at'
 (S.redP
 (fun (j : Nat) => S.at' (S.mkl nl fun (j : Nat) => S.inp (tl (j + al))) j)
 (List.length (S.mkl nl fun (j : Nat) => S.inp (tl (j + al))))
 (List.length (S.mkl nl fun (j : Nat) => S.inp (tl (j + al)))))
 j)))
 j)))) &&
 decide
 ((S.mkl
 (List.length
 (Prod.snd
 (Prod.snd
 (S.histS
 (List.length
 (S.mkl (S.mdN np) fun (j : Nat) =>
 S.mdR np (fun (j : Nat) => tp (j + ap)) (fun (j : Nat) => vp (j + ap)) j))
 (fun (j : Nat) =>
 Prod.fst
 (S.at'
 (S.mkl (S.mdN np) fun (j : Nat) =>
 S.mdR np (fun (j : Nat) => tp (j + ap)) (fun (j : Nat) => vp (j + ap)) j)
 j))
 (fun (j : Nat) =>
 Prod.fst
 (Prod.snd
 (S.at'
 (S.mkl (S.mdN np) fun (j : Nat) =>
 S.mdR np (fun (j : Nat) => tp (j + ap)) (fun (j : Nat) => vp (j + ap)) j)
 j)))
 (fun (j : Nat) =>
 Prod.snd
 (Prod.snd
 (S.at'
 (S.mkl (S.mdN np) fun (j : Nat) =>
 S.mdR np (fun (j : Nat) => tp (j + ap)) (fun (j : Nat) => vp (j + ap)) j)
 j)))
 (List.length (S.mkl (S.mdN np) fun (j : Nat) => S.mdB o j))
 (fun (j : Nat) => S.at' (S.mkl (S.mdN np) fun (j : Nat) => S.mdB o j) j)
 (List.length (S.mkl nl fun (j : Nat) => S.inp (tl (j + al)))) fun (j : Nat) =>
 S.at' (S.mkl nl fun (j : Nat) => S.inp (tl (j + al))) j))))
 fun (j : Nat) =>
 S.at'
 (Prod.snd
 (Prod.snd
 (S.histS
 (List.length
 (S.mkl (S.mdN np) fun (j : Nat) =>
 S.mdR np (fun (j : Nat) => tp (j + ap)) (fun (j : Nat) => vp (j + ap)) j))
 (fun (j : Nat) =>
 Prod.fst
 (S.at'
 (S.mkl (S.mdN np) fun (j : Nat) =>
 S.mdR np (fun (j : Nat) => tp (j + ap)) (fun (j : Nat) => vp (j + ap)) j)
 j))
 (fun (j : Nat) =>
 Prod.fst
 (Prod.snd
 (S.at'
 (S.mkl (S.mdN np) fun (j : Nat) =>
 S.mdR np (fun (j : Nat) => tp (j + ap)) (fun (j : Nat) => vp (j + ap)) j)
 j)))
 (fun (j : Nat) =>
 Prod.snd
 (Prod.snd
 (S.at'
 (S.mkl (S.mdN np) fun (j : Nat) =>
 S.mdR np (fun (j : Nat) => tp (j + ap)) (fun (j : Nat) => vp (j + ap)) j)
 j)))
 (List.length (S.mkl (S.mdN np) fun (j : Nat) => S.mdB o j))
 (fun (j : Nat) => S.at' (S.mkl (S.mdN np) fun (j : Nat) => S.mdB o j) j)
 (List.length (S.mkl nl fun (j : Nat) => S.inp (tl (j + al)))) fun (j : Nat) =>
 S.at' (S.mkl nl fun (j : Nat) => S.inp (tl (j + al))) j)))
 j) =
 S.mkl
 (List.length
 (Prod.snd
 (Prod.snd
 (S.histS
 (List.length
 (S.mkl (S.mdN np) fun (j : Nat) =>
 S.mdR np (fun (j : Nat) => tp (j + ap)) (fun (j : Nat) => vp (j + ap)) j))
 (fun (j : Nat) =>
 Prod.fst
 (S.at'
 (S.mkl (S.mdN np) fun (j : Nat) =>
 S.mdR np (fun (j : Nat) => tp (j + ap)) (fun (j : Nat) => vp (j + ap)) j)
 j))
 (fun (j : Nat) =>
 Prod.fst
 (Prod.snd
 (S.at'
 (S.mkl (S.mdN np) fun (j : Nat) =>
 S.mdR np (fun (j : Nat) => tp (j + ap)) (fun (j : Nat) => vp (j + ap)) j)
 j)))
 (fun (j : Nat) =>
 Prod.snd
 (Prod.snd
 (S.at'
 (S.mkl (S.mdN np) fun (j : Nat) =>
 S.mdR np (fun (j : Nat) => tp (j + ap)) (fun (j : Nat) => vp (j + ap)) j)
 j)))
 (List.length (S.mkl (S.mdN np) fun (j : Nat) => S.mdB o j))
 (fun (j : Nat) => S.at' (S.mkl (S.mdN np) fun (j : Nat) => S.mdB o j) j)
 (List.length
 (S.redP
 (fun (j : Nat) => S.at' (S.mkl nl fun (j : Nat) => S.inp (tl (j + al))) j)
 (List.length (S.mkl nl fun (j : Nat) => S.inp (tl (j + al))))
 (List.length (S.mkl nl fun (j : Nat) => S.inp (tl (j + al))))))
 fun (j : Nat) =>
 S.at'
 (S.redP
 (fun (j : Nat) => S.at' (S.mkl nl fun (j : Nat) => S.inp (tl (j + al))) j)
 (List.length (S.mkl nl fun (j : Nat) => S.inp (tl (j + al))))
 (List.length (S.mkl nl fun (j : Nat) => S.inp (tl (j + al)))))
 j))))
 fun (j : Nat) =>
 S.at'
 (Prod.snd
 (Prod.snd
 (S.histS
 (List.length
 (S.mkl (S.mdN np) fun (j : Nat) =>
 S.mdR np (fun (j : Nat) => tp (j + ap)) (fun (j : Nat) => vp (j + ap)) j))
 (fun (j : Nat) =>
 Prod.fst
 (S.at'
 (S.mkl (S.mdN np) fun (j : Nat) =>
 S.mdR np (fun (j : Nat) => tp (j + ap)) (fun (j : Nat) => vp (j + ap)) j)
 j))
 (fun (j : Nat) =>
 Prod.fst
 (Prod.snd
 (S.at'
 (S.mkl (S.mdN np) fun (j : Nat) =>
 S.mdR np (fun (j : Nat) => tp (j + ap)) (fun (j : Nat) => vp (j + ap)) j)
 j)))
 (fun (j : Nat) =>
 Prod.snd
 (Prod.snd
 (S.at'
 (S.mkl (S.mdN np) fun (j : Nat) =>
 S.mdR np (fun (j : Nat) => tp (j + ap)) (fun (j : Nat) => vp (j + ap)) j)
 j)))
 (List.length (S.mkl (S.mdN np) fun (j : Nat) => S.mdB o j))
 (fun (j : Nat) => S.at' (S.mkl (S.mdN np) fun (j : Nat) => S.mdB o j) j)
 (List.length
 (S.redP
 (fun (j : Nat) => S.at' (S.mkl nl fun (j : Nat) => S.inp (tl (j + al))) j)
 (List.length (S.mkl nl fun (j : Nat) => S.inp (tl (j + al))))
 (List.length (S.mkl nl fun (j : Nat) => S.inp (tl (j + al))))))
 fun (j : Nat) =>
 S.at'
 (S.redP
 (fun (j : Nat) => S.at' (S.mkl nl fun (j : Nat) => S.inp (tl (j + al))) j)
 (List.length (S.mkl nl fun (j : Nat) => S.inp (tl (j + al))))
 (List.length (S.mkl nl fun (j : Nat) => S.inp (tl (j + al)))))
 j)))
 j))
 then (some (.inr (true)))
 else (some (.inr (false))))
 else (none))
 else (some (.inr (false))))
 else (some (.inr (false))))
 else (none))
 else (none))
 else (none))
 else (none))
 else (none)) : Option (St6 ⊕ Rt6)) = some x) : Te6 cond Kst Kret ap np mp tp vp o al nl ml tl := by
  unfold Te6
  exact cond_yes rfl (cond_yes rfl (bif_split h
   (fun c0 h => cond_yes rfl (cond_yes rfl (ret_at hR _ h (fun n => n) rfl rfl rfl (rn_bool_tf rfl) rfl (entl_bor (use_lo rfl) rfl rfl (entl_bor (use_lo rfl) rfl rfl entl_nil)))))
   (fun c0 h => bif_split h
   (fun c1 h => bif_split h
   (fun c2 h => bif_split h
   (fun c3 h => bif_split h
   (fun c4 h => bif_split h
   (fun c5 h => bif_split h
   (fun c6 h => bif_split h
   (fun c7 h => bif_split h
   (fun c8 h => bif_split h
   (fun c9 h => ret_at hR _ h (fun n => n) rfl rfl rfl (rn_bool_tf rfl) rfl (entl_bor (use_lo rfl) rfl rfl (entl_bor (use_lo rfl) rfl rfl entl_nil)))
   (fun c9 h => ret_at hR _ h (fun n => n) rfl rfl rfl (rn_bool_tf rfl) rfl (entl_bor (use_lo rfl) rfl rfl (entl_bor (use_lo rfl) rfl rfl entl_nil))))
   (fun c8 h => no_some h))
   (fun c7 h => ret_at hR _ h (fun n => n) rfl rfl rfl (rn_bool_tf rfl) rfl (entl_bor (use_lo rfl) rfl rfl (entl_bor (use_lo rfl) rfl rfl entl_nil))))
   (fun c6 h => ret_at hR _ h (fun n => n) rfl rfl rfl (rn_bool_tf rfl) rfl (entl_bor (use_lo rfl) rfl rfl (entl_bor (use_lo rfl) rfl rfl entl_nil))))
   (fun c5 h => no_some h))
   (fun c4 h => no_some h))
   (fun c3 h => no_some h))
   (fun c2 h => no_some h))
   (fun c1 h => no_some h))))
theorem a6 (ap np mp : Nat) (tp : Nat → Int) (vp : Nat → Int) (o : Int) (al nl ml : Nat) (tl : Nat → Int) {r : Rt6} (h : Goes ((q6 ap np mp tp vp o al nl ml tl)) ((p6 ap np mp tp vp o al nl ml tl)) r) : CallR Try.prog 6 [.agg [.loose ⟨0, 2, ap, 0⟩ np, .int .u32 o], .loose ⟨1, 1, al, 0⟩ nl] [[(0, (false, .cols mp [.int .u8 tp, .int .u8 vp])), (1, (false, .cols ml [.int .u8 tl]))]] 2 ((V6 ap np mp tp vp o al nl ml tl) r) ((fun r => [newL (2 + 1) ((N6 ap np mp tp vp o al nl ml tl) r) ++ [(0, (false, .cols mp [.int .u8 tp, .int .u8 vp])), (1, (false, .cols ml [.int .u8 tl]))]]) r) 400 ∧ ∃ F, Try.prog.funcs[6]? = some F ∧ F.body.isSome = true ∧ (F.name == "runtime.NumGoroutine") = false := by
  refine dec_calls (f := 6) (lo := 2) (hi := 400) (H := [[(0, (false, .cols mp [.int .u8 tp, .int .u8 vp])), (1, (false, .cols ml [.int .u8 tl]))]]) (args := [.agg [.loose ⟨0, 2, ap, 0⟩ np, .int .u32 o], .loose ⟨1, 1, al, 0⟩ nl]) Try.envOk Try.mixed yE1_ok ((I6 ap np mp tp vp o al nl ml tl)) ((V6 ap np mp tp vp o al nl ml tl)) (fun r => [newL (2 + 1) ((N6 ap np mp tp vp o al nl ml tl) r) ++ [(0, (false, .cols mp [.int .u8 tp, .int .u8 vp])), (1, (false, .cols ml [.int .u8 tl]))]]) (fn := mkFn Try.f6) (ts := []) (n := 400) rfl (by decide) (by simp) (names_of rfl) ?_ ?_ ?_ h
  · intro s; exact s.elim
  · intro Kst Kret x hS hR h
    exact Holds.eq (te6 cond Kst Kret ap np mp tp vp o al nl ml tl) (be6 ap np mp tp vp o al nl ml tl Kst Kret x hS hR h)
  · intro Kst Kret x hS hR s h; exact s.elim
noncomputable def k6 : Con := ⟨6, [.agg [.list [.int .u8, .int .u8], .plain (.int .u32)], .one (.list [.int .u8])], fun (x : ((Nat × Nat × Nat × (Nat → Int) × (Nat → Int) × Unit) × Int × Unit) × (Nat × Nat × Nat × (Nat → Int) × Unit) × Unit) => (fun (ap np mp : Nat) (tp : Nat → Int) (vp : Nat → Int) (o : Int) (al nl ml : Nat) (tl : Nat → Int) => decide (ap + np ≤ mp ∧ S.bytes np (fun j => tp (j + ap)) = true ∧ S.bytes np (fun j => vp (j + ap)) = true ∧ al + nl ≤ ml ∧ S.bytes nl (fun j => tl (j + al)) = true)) x.1.1.1 x.1.1.2.1 x.1.1.2.2.1 x.1.1.2.2.2.1 x.1.1.2.2.2.2.1 x.1.2.1 x.2.1.1 x.2.1.2.1 x.2.1.2.2.1 x.2.1.2.2.2.1, fun (x : ((Nat × Nat × Nat × (Nat → Int) × (Nat → Int) × Unit) × Int × Unit) × (Nat × Nat × Nat × (Nat → Int) × Unit) × Unit) => (fun (ap np mp : Nat) (tp : Nat → Int) (vp : Nat → Int) (o : Int) (al nl ml : Nat) (tl : Nat → Int) => (V6 ap np mp tp vp o al nl ml tl) (true)) x.1.1.1 x.1.1.2.1 x.1.1.2.2.1 x.1.1.2.2.2.1 x.1.1.2.2.2.2.1 x.1.2.1 x.2.1.1 x.2.1.2.1 x.2.1.2.2.1 x.2.1.2.2.2.1, fun (x : ((Nat × Nat × Nat × (Nat → Int) × (Nat → Int) × Unit) × Int × Unit) × (Nat × Nat × Nat × (Nat → Int) × Unit) × Unit) => (fun (ap np mp : Nat) (tp : Nat → Int) (vp : Nat → Int) (o : Int) (al nl ml : Nat) (tl : Nat → Int) => (N6 ap np mp tp vp o al nl ml tl) (true)) x.1.1.1 x.1.1.2.1 x.1.1.2.2.1 x.1.1.2.2.2.1 x.1.1.2.2.2.2.1 x.1.2.1 x.2.1.1 x.2.1.2.1 x.2.1.2.2.1 x.2.1.2.2.2.1, fun _ _ => .dead⟩
theorem s6 (ap np mp : Nat) (tp : Nat → Int) (vp : Nat → Int) (o : Int) (al nl ml : Nat) (tl : Nat → Int) (hp : ap + np ≤ mp ∧ S.bytes np (fun j => tp (j + ap)) = true ∧ S.bytes np (fun j => vp (j + ap)) = true ∧ al + nl ≤ ml ∧ S.bytes nl (fun j => tl (j + al)) = true) : Goes ((q6 ap np mp tp vp o al nl ml tl)) ((p6 ap np mp tp vp o al nl ml tl)) (true) := by
  obtain ⟨hp1, hp2, hp3, hp4, hp5⟩ := hp
  unfold p6
  have hr : ∀ y ∈ (S.mkl nl fun j => S.inp (tl (j + al))), -4 ≤ y ∧ y ≤ 59 := fun y hy => by
    obtain ⟨j, hj, rfl⟩ := mkl_mem.mp hy
    exact inp_range (of_decide_eq_true hp5 j hj)
  have hlen : (S.mkl nl fun j => S.inp (tl (j + al))).length = nl := mkl_len
  generalize (S.mkl nl fun j => S.inp (tl (j + al))) = L at hr hlen ⊢
  by_cases h1 : (nl : Int) > 200
  · exact goes_ok (decide_eq_true h1) rfl
  refine goes_no (decide_eq_false h1) ?_
  have er : S.redP (fun j => S.at' L j) L.length L.length = S.redL L := by rw [red_list, mkl1_at]
  have e1 := made_hist hp2 hp3 L (fun j => S.mdB o j) (by omega) fun y hy => by have := hr y hy; omega
  have hl2 : (S.redL L).length ≤ L.length := by rw [← er]; exact redP_len
  have e2 := made_hist hp2 hp3 (S.redL L) (fun j => S.mdB o j) (by omega) fun y hy => by have := hr y (redL_sub hy); omega
  have e3 : (S.mkl (S.mdN np) fun j => (S.redL L).foldl (S.aft (S.mdR np (fun j => tp (j + ap)) (fun j => vp (j + ap)) j).1 (S.mdR np (fun j => tp (j + ap)) (fun j => vp (j + ap)) j).2.1) (S.mdB o j)) = S.mkl (S.mdN np) fun j => L.foldl (S.aft (S.mdR np (fun j => tp (j + ap)) (fun j => vp (j + ap)) j).1 (S.mdR np (fun j => tp (j + ap)) (fun j => vp (j + ap)) j).2.1) (S.mdB o j) := mkl_congr fun j hj => fold_red (made_lt hp2 hp3 j hj).1
  rw [e3] at e2
  obtain ⟨n1, n2, -⟩ := mdN_le (np := np)
  simp only [er, e1, e2]
  have hA : (S.mkl (S.mdN np) fun j => S.mdR np (fun j => tp (j + ap)) (fun j => vp (j + ap)) j).length = S.mdN np := mkl_len
  have hB : (S.mkl (S.mdN np) fun j => S.mdB o j).length = S.mdN np := mkl_len
  have hC : (S.mkl (S.mdN np) fun j => L.foldl (S.aft (S.mdR np (fun j => tp (j + ap)) (fun j => vp (j + ap)) j).1 (S.mdR np (fun j => tp (j + ap)) (fun j => vp (j + ap)) j).2.1) (S.mdB o j)).length = S.mdN np := mkl_len
  generalize (S.mkl (S.mdN np) fun j => S.mdR np (fun j => tp (j + ap)) (fun j => vp (j + ap)) j) = A at *
  generalize (S.mkl (S.mdN np) fun j => S.mdB o j) = Bq at *
  generalize (S.mkl (S.mdN np) fun j => L.foldl (S.aft (S.mdR np (fun j => tp (j + ap)) (fun j => vp (j + ap)) j).1 (S.mdR np (fun j => tp (j + ap)) (fun j => vp (j + ap)) j).2.1) (S.mdB o j)) = Cq at *
  refine goes_ok (decide_eq_true ⟨hp1, hp2, hp3⟩) (goes_ok (decide_eq_true ⟨hp4, by omega, hp5⟩) ?_)
  repeat' first
    | with_reducible exact goes_inr.mpr rfl
    | (refine goes_ok ?_ ?_; first | with_reducible exact beq_self_eq_true _ | with_reducible exact decide_eq_true trivial | with_reducible exact decide_eq_true rfl | (simp only [eq_self, decide_true, Bool.and_self, Bool.and_true, Bool.true_and]; done) | (apply decide_eq_true; omega) | (rw [lim64]; apply decide_eq_true; omega) | (apply decide_eq_true; simp only [mkl_len, mkl_zero, List.length_nil, true_and, and_true, and_self, Nat.zero_add, Nat.add_zero, Nat.le_refl]; done) | (apply decide_eq_true; simp only [mkl_len, mkl_zero, List.length_nil, true_and, and_true, and_self, Nat.zero_add, Nat.add_zero, Nat.le_refl]; omega) | (simp only [Bool.and_eq_true, decide_eq_true_eq, and_self, eq_self]; done) | decide)
    | (refine goes_no ?_ ?_; first | with_reducible exact bne_self_eq_false _ | (apply decide_eq_false; omega) | decide)

theorem k6_ok : k6.ok Try.prog := by
  intro x hx
  obtain ⟨⟨⟨ap, np, mp, tp, vp, _⟩, o, _⟩, ⟨al, nl, ml, tl, _⟩, _⟩ := x
  obtain ⟨h1, h2⟩ := a6 ap np mp tp vp o al nl ml tl (s6 ap np mp tp vp o al nl ml tl (of_decide_eq_true hx))
  exact ⟨⟨400, (by decide : 2 + 1 + 0 ≤ 400), h1⟩, h2⟩


end Go.Ev
