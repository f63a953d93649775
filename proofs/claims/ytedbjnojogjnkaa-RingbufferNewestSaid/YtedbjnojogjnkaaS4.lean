/-
  The law of Rearm.
-/
import Derived.Test.YtedbjnojogjnkaaS3b
namespace Go.Ev
open Go.Proofs
set_option linter.unusedVariables false
set_option linter.unusedSimpArgs false
abbrev St10 := Empty
abbrev Rt10 := Bool
noncomputable def V10 (c0 : Int) (c1 : Int) (al nl ml : Nat) (tl : Nat → Int) (vl : Nat → Int) (r : Rt10) : PV := PV.bool r
noncomputable def N10 (c0 : Int) (c1 : Int) (al nl ml : Nat) (tl : Nat → Int) (vl : Nat → Int) (r : Rt10) : List Blk := []
noncomputable def I10 (c0 : Int) (c1 : Int) (al nl ml : Nat) (tl : Nat → Int) (vl : Nat → Int) : St10 → Hd := fun s => s.elim
noncomputable def q10 (c0 : Int) (c1 : Int) (al nl ml : Nat) (tl : Nat → Int) (vl : Nat → Int) : St10 → Option (St10 ⊕ Rt10) := fun s => s.elim
noncomputable def p10 (c0 : Int) (c1 : Int) (al nl ml : Nat) (tl : Nat → Int) (vl : Nat → Int) : Option (St10 ⊕ Rt10) := bif (decide ((↑nl : Int) > (60 : Int)))
 then (some (.inr (true)))
 else (bif (lim IntKind.i64 (Int.tmod c0 (10 : Int)))
 then (bif (lim IntKind.i64 ((1 : Int) + Int.tmod c0 (10 : Int)))
 then (bif (lim IntKind.i64 (Int.tmod c1 (11 : Int)))
 then (bif (decide
 (al + nl ≤ ml ∧
 nl ≤ 900000 ∧
 (S.bytes nl fun (j : Nat) => tl (j + al)) = true ∧
 (S.bytes nl fun (j : Nat) => vl (j + al)) = true))
 then (bif (decide
 (0 + List.length (S.stepsT nl (fun (j : Nat) => tl (j + al)) fun (j : Nat) => vl (j + al)) ≤
 List.length (S.stepsT nl (fun (j : Nat) => tl (j + al)) fun (j : Nat) => vl (j + al)) ∧
 List.length (S.stepsT nl (fun (j : Nat) => tl (j + al)) fun (j : Nat) => vl (j + al)) ≤ 999998))
 then (bif (decide
 (0 +
 List.length
 (Prod.snd
 (Prod.snd
 (Prod.snd
 (Prod.snd
 (Prod.snd
 (Prod.snd
 (Prod.snd
 (S.runR ((1 : Int) + Int.tmod c0 (10 : Int)) (Int.tmod c1 (11 : Int))
 (List.length (S.stepsT nl (fun (j : Nat) => tl (j + al)) fun (j : Nat) => vl (j + al)))
 (fun (j : Nat) =>
 Prod.fst
 (S.at'
 (S.stepsT nl (fun (j : Nat) => tl (j + al)) fun (j : Nat) => vl (j + al)) j))
 (fun (j : Nat) =>
 Prod.fst
 (Prod.snd
 (S.at'
 (S.stepsT nl (fun (j : Nat) => tl (j + al)) fun (j : Nat) => vl (j + al)) j)))
 (fun (j : Nat) =>
 Prod.fst
 (Prod.snd
 (Prod.snd
 (S.at'
 (S.stepsT nl (fun (j : Nat) => tl (j + al)) fun (j : Nat) => vl (j + al))
 j))))
 fun (j : Nat) =>
 Prod.snd
 (Prod.snd
 (Prod.snd
 (S.at'
 (S.stepsT nl (fun (j : Nat) => tl (j + al)) fun (j : Nat) => vl (j + al))
 j))))))))))) ≤
 List.length
 (Prod.snd
 (Prod.snd
 (Prod.snd
 (Prod.snd
 (Prod.snd
 (Prod.snd
 (Prod.snd
 (S.runR ((1 : Int) + Int.tmod c0 (10 : Int)) (Int.tmod c1 (11 : Int))
 (List.length (S.stepsT nl (fun (j : Nat) => tl (j + al)) fun (j : Nat) => vl (j + al)))
 (fun (j : Nat) =>
 Prod.fst
 (S.at' (S.stepsT nl (fun (j : Nat) => tl (j + al)) fun (j : Nat) => vl (j + al))
 j))
 (fun (j : Nat) =>
 Prod.fst
 (Prod.snd
 (S.at'
 (S.stepsT nl (fun (j : Nat) => tl (j + al)) fun (j : Nat) => vl (j + al)) j)))
 (fun (j : Nat) =>
 Prod.fst
 (Prod.snd
 (Prod.snd
 (S.at'
 (S.stepsT nl (fun (j : Nat) => tl (j + al)) fun (j : Nat) => vl (j + al)) j))))
 fun (j : Nat) =>
 Prod.snd
 (Prod.snd
 (Prod.snd
 (S.at'
 (S.stepsT nl (fun (j : Nat) => tl (j + al)) fun (j : Nat) => vl (j + al))
 j))))))))))) ∧
 List.length
 (Prod.snd
 (Prod.snd
 (Prod.snd
 (Prod.snd
 (Prod.snd
 (Prod.snd
 (Prod.snd
 (S.runR ((1 : Int) + Int.tmod c0 (10 : Int)) (Int.tmod c1 (11 : Int))
 (List.length (S.stepsT nl (fun (j : Nat) => tl (j + al)) fun (j : Nat) => vl (j + al)))
 (fun (j : Nat) =>
 Prod.fst
 (S.at' (S.stepsT nl (fun (j : Nat) => tl (j + al)) fun (j : Nat) => vl (j + al))
 j))
 (fun (j : Nat) =>
 Prod.fst
 (Prod.snd
 (S.at'
 (S.stepsT nl (fun (j : Nat) => tl (j + al)) fun (j : Nat) => vl (j + al)) j)))
 (fun (j : Nat) =>
 Prod.fst
 (Prod.snd
 (Prod.snd
 (S.at'
 (S.stepsT nl (fun (j : Nat) => tl (j + al)) fun (j : Nat) => vl (j + al)) j))))
 fun (j : Nat) =>
 Prod.snd
 (Prod.snd
 (Prod.snd
 (S.at'
 (S.stepsT nl (fun (j : Nat) => tl (j + al)) fun (j : Nat) => vl (j + al))
 j))))))))))) ≤
 1000000))
 then (bif (Prod.fst
 (Prod.snd
 (Prod.snd
 (Prod.snd
 (Prod.snd
 (Prod.snd
 (Prod.snd
 (S.runR ((1 : Int) + Int.tmod c0 (10 : Int)) (Int.tmod c1 (11 : Int))
 (List.length (S.stepsT nl (fun (j : Nat) => tl (j + al)) fun (j : Nat) => vl (j + al)))
 (fun (j : Nat) =>
 Prod.fst
 (S.at' (S.stepsT nl (fun (j : Nat) => tl (j + al)) fun (j : Nat) => vl (j + al)) j))
 (fun (j : Nat) =>
 Prod.fst
 (Prod.snd
 (S.at' (S.stepsT nl (fun (j : Nat) => tl (j + al)) fun (j : Nat) => vl (j + al))
 j)))
 (fun (j : Nat) =>
 Prod.fst
 (Prod.snd
 (Prod.snd
 (S.at' (S.stepsT nl (fun (j : Nat) => tl (j + al)) fun (j : Nat) => vl (j + al))
 j))))
 fun (j : Nat) =>
 Prod.snd
 (Prod.snd
 (Prod.snd
 (S.at' (S.stepsT nl (fun (j : Nat) => tl (j + al)) fun (j : Nat) => vl (j + al))
 j)))))))))) !=
 (0 : Int))
 then (some (.inr (false)))
 else (bif ((S.newS ((1 : Int) + Int.tmod c0 (10 : Int)) (Int.tmod c1 (11 : Int))).2.2.2 != (0 : Int))
 then (some (.inr (false)))
 else (bif (S.vB
 (Prod.fst
 (S.runR ((1 : Int) + Int.tmod c0 (10 : Int)) (Int.tmod c1 (11 : Int))
 (List.length (S.stepsT nl (fun (j : Nat) => tl (j + al)) fun (j : Nat) => vl (j + al)))
 (fun (j : Nat) =>
 (S.at' (S.stepsT nl (fun (j : Nat) => tl (j + al)) fun (j : Nat) => vl (j + al)) j).1)
 (fun (j : Nat) =>
 Prod.fst
 ((S.at' (S.stepsT nl (fun (j : Nat) => tl (j + al)) fun (j : Nat) => vl (j + al)) j).2))
 (fun (j : Nat) =>
 Prod.fst
 (Prod.snd
 (Prod.snd
 (S.at' (S.stepsT nl (fun (j : Nat) => tl (j + al)) fun (j : Nat) => vl (j + al)) j))))
 fun (j : Nat) =>
 Prod.snd
 (Prod.snd
 (Prod.snd
 (S.at' (S.stepsT nl (fun (j : Nat) => tl (j + al)) fun (j : Nat) => vl (j + al)) j)))))
 (Prod.fst
 (Prod.snd
 (S.runR ((1 : Int) + Int.tmod c0 (10 : Int)) (Int.tmod c1 (11 : Int))
 (List.length (S.stepsT nl (fun (j : Nat) => tl (j + al)) fun (j : Nat) => vl (j + al)))
 (fun (j : Nat) =>
 (S.at' (S.stepsT nl (fun (j : Nat) => tl (j + al)) fun (j : Nat) => vl (j + al)) j).1)
 (fun (j : Nat) =>
 Prod.fst
 (Prod.snd
 (S.at' (S.stepsT nl (fun (j : Nat) => tl (j + al)) fun (j : Nat) => vl (j + al)) j)))
 (fun (j : Nat) =>
 Prod.fst
 (Prod.snd
 (Prod.snd
 (S.at' (S.stepsT nl (fun (j : Nat) => tl (j + al)) fun (j : Nat) => vl (j + al)) j))))
 fun (j : Nat) =>
 Prod.snd
 (Prod.snd
 (Prod.snd
 (S.at' (S.stepsT nl (fun (j : Nat) => tl (j + al)) fun (j : Nat) => vl (j + al)) j))))))
 (List.length
 (Prod.snd
 (Prod.snd
 (Prod.snd
 (Prod.snd
 (Prod.snd
 (Prod.snd
 (Prod.snd
 (S.runR ((1 : Int) + Int.tmod c0 (10 : Int)) (Int.tmod c1 (11 : Int))
 (List.length (S.stepsT nl (fun (j : Nat) => tl (j + al)) fun (j : Nat) => vl (j + al)))
 (fun (j : Nat) =>
 Prod.fst
 (S.at' (S.stepsT nl (fun (j : Nat) => tl (j + al)) fun (j : Nat) => vl (j + al))
 j))
 (fun (j : Nat) =>
 Prod.fst
 (Prod.snd
 (S.at' (S.stepsT nl (fun (j : Nat) => tl (j + al)) fun (j : Nat) => vl (j + al))
 j)))
 (fun (j : Nat) =>
 Prod.fst
 (Prod.snd
 (Prod.snd
 (S.at'
 (S.stepsT nl (fun (j : Nat) => tl (j + al)) fun (j : Nat) => vl (j + al)) j))))
 fun (j : Nat) =>
 Prod.snd
 (Prod.snd
 (Prod.snd
 (S.at' (S.stepsT nl (fun (j : Nat) => tl (j + al)) fun (j : Nat) => vl (j + al))
 j))))))))))))
 (fun (j : Nat) =>
 Prod.fst
 (S.at'
 (Prod.snd
 (Prod.snd
 (Prod.snd
 (Prod.snd
 (Prod.snd
 (Prod.snd
 (Prod.snd
 (S.runR ((1 : Int) + Int.tmod c0 (10 : Int)) (Int.tmod c1 (11 : Int))
 (List.length (S.stepsT nl (fun (j : Nat) => tl (j + al)) fun (j : Nat) => vl (j + al)))
 (fun (j : Nat) =>
 Prod.fst
 (S.at'
 (S.stepsT nl (fun (j : Nat) => tl (j + al)) fun (j : Nat) => vl (j + al)) j))
 (fun (j : Nat) =>
 Prod.fst
 (Prod.snd
 (S.at'
 (S.stepsT nl (fun (j : Nat) => tl (j + al)) fun (j : Nat) => vl (j + al)) j)))
 (fun (j : Nat) =>
 Prod.fst
 (Prod.snd
 (Prod.snd
 (S.at'
 (S.stepsT nl (fun (j : Nat) => tl (j + al)) fun (j : Nat) => vl (j + al))
 j))))
 fun (j : Nat) =>
 Prod.snd
 (Prod.snd
 (Prod.snd
 (S.at'
 (S.stepsT nl (fun (j : Nat) => tl (j + al)) fun (j : Nat) => vl (j + al))
 j)))))))))))
 j))
 (fun (j : Nat) =>
 Prod.fst
 (Prod.snd
 (S.at'
 (Prod.snd
 (Prod.snd
 (Prod.snd
 (Prod.snd
 (Prod.snd
 (Prod.snd
 (Prod.snd
 (S.runR ((1 : Int) + Int.tmod c0 (10 : Int)) (Int.tmod c1 (11 : Int))
 (List.length
 (S.stepsT nl (fun (j : Nat) => tl (j + al)) fun (j : Nat) => vl (j + al)))
 (fun (j : Nat) =>
 Prod.fst
 (S.at'
 (S.stepsT nl (fun (j : Nat) => tl (j + al)) fun (j : Nat) => vl (j + al)) j))
 (fun (j : Nat) =>
 Prod.fst
 (Prod.snd
 (S.at'
 (S.stepsT nl (fun (j : Nat) => tl (j + al)) fun (j : Nat) => vl (j + al)) j)))
 (fun (j : Nat) =>
 Prod.fst
 (Prod.snd
 (Prod.snd
 (S.at'
 (S.stepsT nl (fun (j : Nat) => tl (j + al)) fun (j : Nat) => vl (j + al))
 j))))
 fun (j : Nat) =>
 Prod.snd
 (Prod.snd
 (Prod.snd
 (S.at'
 (S.stepsT nl (fun (j : Nat) => tl (j + al)) fun (j : Nat) => vl (j + al))
 j)))))))))))
 j)))
 (Prod.fst
 (Prod.snd
 (Prod.snd
 (S.runR ((1 : Int) + Int.tmod c0 (10 : Int)) (Int.tmod c1 (11 : Int))
 (List.length (S.stepsT nl (fun (j : Nat) => tl (j + al)) fun (j : Nat) => vl (j + al)))
 (fun (j : Nat) =>
 (S.at' (S.stepsT nl (fun (j : Nat) => tl (j + al)) fun (j : Nat) => vl (j + al)) j).1)
 (fun (j : Nat) =>
 Prod.fst
 (Prod.snd
 (S.at' (S.stepsT nl (fun (j : Nat) => tl (j + al)) fun (j : Nat) => vl (j + al)) j)))
 (fun (j : Nat) =>
 Prod.fst
 (Prod.snd
 (Prod.snd
 (S.at' (S.stepsT nl (fun (j : Nat) => tl (j + al)) fun (j : Nat) => vl (j + al)) j))))
 fun (j : Nat) =>
 Prod.snd
 (Prod.snd
 (Prod.snd
 (S.at' (S.stepsT nl (fun (j : Nat) => tl (j + al)) fun (j : Nat) => vl (j + al)) j)))))))
 (Prod.fst
 (Prod.snd
 (Prod.snd
 (Prod.snd
 (S.runR ((1 : Int) + Int.tmod c0 (10 : Int)) (Int.tmod c1 (11 : Int))
 (List.length (S.stepsT nl (fun (j : Nat) => tl (j + al)) fun (j : Nat) => vl (j + al)))
 (fun (j : Nat) =>
 Prod.fst
 (S.at' (S.stepsT nl (fun (j : Nat) => tl (j + al)) fun (j : Nat) => vl (j + al)) j))
 (fun (j : Nat) =>
 Prod.fst
 (Prod.snd
 (S.at' (S.stepsT nl (fun (j : Nat) => tl (j + al)) fun (j : Nat) => vl (j + al)) j)))
 (fun (j : Nat) =>
 Prod.fst
 (Prod.snd
 (Prod.snd
 (S.at' (S.stepsT nl (fun (j : Nat) => tl (j + al)) fun (j : Nat) => vl (j + al)) j))))
 fun (j : Nat) =>
 Prod.snd
 (Prod.snd
 (Prod.snd
 (S.at' (S.stepsT nl (fun (j : Nat) => tl (j + al)) fun (j : Nat) => vl (j + al))
 j))))))))
 (Prod.fst
 (Prod.snd
 (Prod.snd
 (Prod.snd
 (Prod.snd
 (S.runR ((1 : Int) + Int.tmod c0 (10 : Int)) (Int.tmod c1 (11 : Int))
 (List.length (S.stepsT nl (fun (j : Nat) => tl (j + al)) fun (j : Nat) => vl (j + al)))
 (fun (j : Nat) =>
 Prod.fst
 (S.at' (S.stepsT nl (fun (j : Nat) => tl (j + al)) fun (j : Nat) => vl (j + al)) j))
 (fun (j : Nat) =>
 Prod.fst
 (Prod.snd
 (S.at' (S.stepsT nl (fun (j : Nat) => tl (j + al)) fun (j : Nat) => vl (j + al)) j)))
 (fun (j : Nat) =>
 Prod.fst
 (Prod.snd
 (Prod.snd
 (S.at' (S.stepsT nl (fun (j : Nat) => tl (j + al)) fun (j : Nat) => vl (j + al))
 j))))
 fun (j : Nat) =>
 Prod.snd
 (Prod.snd
 (Prod.snd
 (S.at' (S.stepsT nl (fun (j : Nat) => tl (j + al)) fun (j : Nat) => vl (j + al))
 j))))))))) !=
 (0 : Int))
 then (some (.inr (false)))
 else (bif (Prod.fst
 (Prod.snd
 (Prod.snd
 (Prod.snd
 (Prod.snd
 (S.runR ((1 : Int) + Int.tmod c0 (10 : Int)) (Int.tmod c1 (11 : Int))
 (List.length (S.stepsT nl (fun (j : Nat) => tl (j + al)) fun (j : Nat) => vl (j + al)))
 (fun (j : Nat) =>
 (S.at' (S.stepsT nl (fun (j : Nat) => tl (j + al)) fun (j : Nat) => vl (j + al)) j).1)
 (fun (j : Nat) =>
 Prod.fst
 (Prod.snd
 (S.at' (S.stepsT nl (fun (j : Nat) => tl (j + al)) fun (j : Nat) => vl (j + al)) j)))
 (fun (j : Nat) =>
 Prod.fst
 (Prod.snd
 (Prod.snd
 (S.at' (S.stepsT nl (fun (j : Nat) => tl (j + al)) fun (j : Nat) => vl (j + al)) j))))
 fun (j : Nat) =>
 Prod.snd
 (Prod.snd
 (Prod.snd
 (S.at' (S.stepsT nl (fun (j : Nat) => tl (j + al)) fun (j : Nat) => vl (j + al)) j)))))))))
 then (bif (Prod.snd
 (Prod.snd
 (Prod.snd
 (S.reaS
 (Prod.fst
 (S.runR ((1 : Int) + Int.tmod c0 (10 : Int)) (Int.tmod c1 (11 : Int))
 (List.length (S.stepsT nl (fun (j : Nat) => tl (j + al)) fun (j : Nat) => vl (j + al)))
 (fun (j : Nat) =>
 Prod.fst
 (S.at' (S.stepsT nl (fun (j : Nat) => tl (j + al)) fun (j : Nat) => vl (j + al)) j))
 (fun (j : Nat) =>
 Prod.fst
 (Prod.snd
 (S.at' (S.stepsT nl (fun (j : Nat) => tl (j + al)) fun (j : Nat) => vl (j + al)) j)))
 (fun (j : Nat) =>
 Prod.fst
 (Prod.snd
 (Prod.snd
 (S.at' (S.stepsT nl (fun (j : Nat) => tl (j + al)) fun (j : Nat) => vl (j + al)) j))))
 fun (j : Nat) =>
 Prod.snd
 (Prod.snd
 (Prod.snd
 (S.at' (S.stepsT nl (fun (j : Nat) => tl (j + al)) fun (j : Nat) => vl (j + al)) j)))))
 (Prod.fst
 (Prod.snd
 (S.runR ((1 : Int) + Int.tmod c0 (10 : Int)) (Int.tmod c1 (11 : Int))
 (List.length (S.stepsT nl (fun (j : Nat) => tl (j + al)) fun (j : Nat) => vl (j + al)))
 (fun (j : Nat) =>
 Prod.fst
 (S.at' (S.stepsT nl (fun (j : Nat) => tl (j + al)) fun (j : Nat) => vl (j + al)) j))
 (fun (j : Nat) =>
 Prod.fst
 (Prod.snd
 (S.at' (S.stepsT nl (fun (j : Nat) => tl (j + al)) fun (j : Nat) => vl (j + al)) j)))
 (fun (j : Nat) =>
 Prod.fst
 (Prod.snd
 (Prod.snd
 (S.at' (S.stepsT nl (fun (j : Nat) => tl (j + al)) fun (j : Nat) => vl (j + al))
 j))))
 fun (j : Nat) =>
 Prod.snd
 (Prod.snd
 (Prod.snd
 (S.at' (S.stepsT nl (fun (j : Nat) => tl (j + al)) fun (j : Nat) => vl (j + al))
 j))))))
 (List.length
 (Prod.snd
 (Prod.snd
 (Prod.snd
 (Prod.snd
 (Prod.snd
 (Prod.snd
 (Prod.snd
 (S.runR ((1 : Int) + Int.tmod c0 (10 : Int)) (Int.tmod c1 (11 : Int))
 (List.length
 (S.stepsT nl (fun (j : Nat) => tl (j + al)) fun (j : Nat) => vl (j + al)))
 (fun (j : Nat) =>
 Prod.fst
 (S.at'
 (S.stepsT nl (fun (j : Nat) => tl (j + al)) fun (j : Nat) => vl (j + al)) j))
 (fun (j : Nat) =>
 Prod.fst
 (Prod.snd
 (S.at'
 (S.stepsT nl (fun (j : Nat) => tl (j + al)) fun (j : Nat) => vl (j + al)) j)))
 (fun (j : Nat) =>
 Prod.fst
 (Prod.snd
 (Prod.snd
 (S.at'
 (S.stepsT nl (fun (j : Nat) => tl (j + al)) fun (j : Nat) => vl (j + al))
 j))))
 fun (j : Nat) =>
 Prod.snd
 (Prod.snd
 (Prod.snd
 (S.at'
 (S.stepsT nl (fun (j : Nat) => tl (j + al)) fun (j : Nat) => vl (j + al))
 j))))))))))))
 (fun (j : Nat) =>
 Prod.fst
 (S.at'
 (Prod.snd
 (Prod.snd
 (Prod.snd
 (Prod.snd
 (Prod.snd
 (Prod.snd
 (Prod.snd
 (S.runR ((1 : Int) + Int.tmod c0 (10 : Int)) (Int.tmod c1 (11 : Int))
 (List.length
 (S.stepsT nl (fun (j : Nat) => tl (j + al)) fun (j : Nat) => vl (j + al)))
 (fun (j : Nat) =>
 Prod.fst
 (S.at'
 (S.stepsT nl (fun (j : Nat) => tl (j + al)) fun (j : Nat) => vl (j + al))
 j))
 (fun (j : Nat) =>
 Prod.fst
 (Prod.snd
 (S.at'
 (S.stepsT nl (fun (j : Nat) => tl (j + al)) fun (j : Nat) => vl (j + al))
 j)))
 (fun (j : Nat) =>
 Prod.fst
 (Prod.snd
 (Prod.snd
 (S.at'
 (S.stepsT nl (fun (j : Nat) => tl (j + al)) fun (j : Nat) =>
 vl (j + al))
 j))))
 fun (j : Nat) =>
 Prod.snd
 (Prod.snd
 (Prod.snd
 (S.at'
 (S.stepsT nl (fun (j : Nat) => tl (j + al)) fun (j : Nat) => vl (j + al))
 j)))))))))))
 j))
 (fun (j : Nat) =>
 Prod.fst
 (Prod.snd
 (S.at'
 (Prod.snd
 (Prod.snd
 (Prod.snd
 (Prod.snd
 (Prod.snd
 (Prod.snd
 (Prod.snd
 (S.runR ((1 : Int) + Int.tmod c0 (10 : Int)) (Int.tmod c1 (11 : Int))
 (List.length
 (S.stepsT nl (fun (j : Nat) => tl (j + al)) fun (j : Nat) => vl (j + al)))
 (fun (j : Nat) =>
 Prod.fst
 (S.at'
 (S.stepsT nl (fun (j : Nat) => tl (j + al)) fun (j : Nat) => vl (j + al))
 j))
 (fun (j : Nat) =>
 Prod.fst
 (Prod.snd
 (S.at'
 (S.stepsT nl (fun (j : Nat) => tl (j + al)) fun (j : Nat) =>
 vl (j + al))
 j)))
 (fun (j : Nat) =>
 Prod.fst
 (Prod.snd
 (Prod.snd
 (S.at'
 (S.stepsT nl (fun (j : Nat) => tl (j + al)) fun (j : Nat) =>
 vl (j + al))
 j))))
 fun (j : Nat) =>
 Prod.snd
 (Prod.snd
 (Prod.snd
 (S.at'
 (S.stepsT nl (fun (j : Nat) => tl (j + al)) fun (j : Nat) =>
 vl (j + al))
 j)))))))))))
 j)))
 (Prod.fst
 (Prod.snd
 (Prod.snd
 (S.runR ((1 : Int) + Int.tmod c0 (10 : Int)) (Int.tmod c1 (11 : Int))
 (List.length (S.stepsT nl (fun (j : Nat) => tl (j + al)) fun (j : Nat) => vl (j + al)))
 (fun (j : Nat) =>
 Prod.fst
 (S.at' (S.stepsT nl (fun (j : Nat) => tl (j + al)) fun (j : Nat) => vl (j + al)) j))
 (fun (j : Nat) =>
 Prod.fst
 (Prod.snd
 (S.at' (S.stepsT nl (fun (j : Nat) => tl (j + al)) fun (j : Nat) => vl (j + al))
 j)))
 (fun (j : Nat) =>
 Prod.fst
 (Prod.snd
 (Prod.snd
 (S.at' (S.stepsT nl (fun (j : Nat) => tl (j + al)) fun (j : Nat) => vl (j + al))
 j))))
 fun (j : Nat) =>
 Prod.snd
 (Prod.snd
 (Prod.snd
 (S.at' (S.stepsT nl (fun (j : Nat) => tl (j + al)) fun (j : Nat) => vl (j + al))
 j)))))))
 (Prod.fst
 (Prod.snd
 (Prod.snd
 (Prod.snd
 (S.runR ((1 : Int) + Int.tmod c0 (10 : Int)) (Int.tmod c1 (11 : Int))
 (List.length (S.stepsT nl (fun (j : Nat) => tl (j + al)) fun (j : Nat) => vl (j + al)))
 (fun (j : Nat) =>
 Prod.fst
 (S.at' (S.stepsT nl (fun (j : Nat) => tl (j + al)) fun (j : Nat) => vl (j + al)) j))
 (fun (j : Nat) =>
 Prod.fst
 (Prod.snd
 (S.at' (S.stepsT nl (fun (j : Nat) => tl (j + al)) fun (j : Nat) => vl (j + al))
 j)))
 (fun (j : Nat) =>
 Prod.fst
 (Prod.snd
 (Prod.snd
 (S.at' (S.stepsT nl (fun (j : Nat) => tl (j + al)) fun (j : Nat) => vl (j + al))
 j))))
 fun (j : Nat) =>
 Prod.snd
 (Prod.snd
 (Prod.snd
 (S.at' (S.stepsT nl (fun (j : Nat) => tl (j + al)) fun (j : Nat) => vl (j + al))
 j))))))))
 (Prod.fst
 (Prod.snd
 (Prod.snd
 (Prod.snd
 (Prod.snd
 (S.runR ((1 : Int) + Int.tmod c0 (10 : Int)) (Int.tmod c1 (11 : Int))
 (List.length (S.stepsT nl (fun (j : Nat) => tl (j + al)) fun (j : Nat) => vl (j + al)))
 (fun (j : Nat) =>
 Prod.fst
 (S.at' (S.stepsT nl (fun (j : Nat) => tl (j + al)) fun (j : Nat) => vl (j + al))
 j))
 (fun (j : Nat) =>
 Prod.fst
 (Prod.snd
 (S.at' (S.stepsT nl (fun (j : Nat) => tl (j + al)) fun (j : Nat) => vl (j + al))
 j)))
 (fun (j : Nat) =>
 Prod.fst
 (Prod.snd
 (Prod.snd
 (S.at'
 (S.stepsT nl (fun (j : Nat) => tl (j + al)) fun (j : Nat) => vl (j + al)) j))))
 fun (j : Nat) =>
 Prod.snd
 (Prod.snd
 (Prod.snd
 (S.at' (S.stepsT nl (fun (j : Nat) => tl (j + al)) fun (j : Nat) => vl (j + al))
 j)))))))))))) ==
 (0 : Int))
 then (bif (decide
 (0 ≤ 0 ∧ 0 ≤ 1000000 ∧ 0 ≤ 0 ∧ 0 ≤ 1000000))
 then (bif (decide
 (Prod.fst
 (S.reaS
 (Prod.fst
 (S.runR ((1 : Int) + Int.tmod c0 (10 : Int)) (Int.tmod c1 (11 : Int))
 (List.length (S.stepsT nl (fun (j : Nat) => tl (j + al)) fun (j : Nat) => vl (j + al)))
 (fun (j : Nat) =>
 Prod.fst
 (S.at' (S.stepsT nl (fun (j : Nat) => tl (j + al)) fun (j : Nat) => vl (j + al)) j))
 (fun (j : Nat) =>
 Prod.fst
 (Prod.snd
 (S.at' (S.stepsT nl (fun (j : Nat) => tl (j + al)) fun (j : Nat) => vl (j + al)) j)))
 (fun (j : Nat) =>
 Prod.fst
 (Prod.snd
 (Prod.snd
 (S.at' (S.stepsT nl (fun (j : Nat) => tl (j + al)) fun (j : Nat) => vl (j + al)) j))))
 fun (j : Nat) =>
 Prod.snd
 (Prod.snd
 (Prod.snd
 (S.at' (S.stepsT nl (fun (j : Nat) => tl (j + al)) fun (j : Nat) => vl (j + al)) j)))))
 (Prod.fst
 (Prod.snd
 (S.runR ((1 : Int) + Int.tmod c0 (10 : Int)) (Int.tmod c1 (11 : Int))
 (List.length (S.stepsT nl (fun (j : Nat) => tl (j + al)) fun (j : Nat) => vl (j + al)))
 (fun (j : Nat) =>
 Prod.fst
 (S.at' (S.stepsT nl (fun (j : Nat) => tl (j + al)) fun (j : Nat) => vl (j + al)) j))
 (fun (j : Nat) =>
 Prod.fst
 (Prod.snd
 (S.at' (S.stepsT nl (fun (j : Nat) => tl (j + al)) fun (j : Nat) => vl (j + al)) j)))
 (fun (j : Nat) =>
 Prod.fst
 (Prod.snd
 (Prod.snd
 (S.at' (S.stepsT nl (fun (j : Nat) => tl (j + al)) fun (j : Nat) => vl (j + al))
 j))))
 fun (j : Nat) =>
 Prod.snd
 (Prod.snd
 (Prod.snd
 (S.at' (S.stepsT nl (fun (j : Nat) => tl (j + al)) fun (j : Nat) => vl (j + al))
 j))))))
 (List.length
 (Prod.snd
 (Prod.snd
 (Prod.snd
 (Prod.snd
 (Prod.snd
 (Prod.snd
 (Prod.snd
 (S.runR ((1 : Int) + Int.tmod c0 (10 : Int)) (Int.tmod c1 (11 : Int))
 (List.length
 (S.stepsT nl (fun (j : Nat) => tl (j + al)) fun (j : Nat) => vl (j + al)))
 (fun (j : Nat) =>
 Prod.fst
 (S.at'
 (S.stepsT nl (fun (j : Nat) => tl (j + al)) fun (j : Nat) => vl (j + al)) j))
 (fun (j : Nat) =>
 Prod.fst
 (Prod.snd
 (S.at'
 (S.stepsT nl (fun (j : Nat) => tl (j + al)) fun (j : Nat) => vl (j + al)) j)))
 (fun (j : Nat) =>
 Prod.fst
 (Prod.snd
 (Prod.snd
 (S.at'
 (S.stepsT nl (fun (j : Nat) => tl (j + al)) fun (j : Nat) => vl (j + al))
 j))))
 fun (j : Nat) =>
 Prod.snd
 (Prod.snd
 (Prod.snd
 (S.at'
 (S.stepsT nl (fun (j : Nat) => tl (j + al)) fun (j : Nat) => vl (j + al))
 j))))))))))))
 (fun (j : Nat) =>
 Prod.fst
 (S.at'
 (Prod.snd
 (Prod.snd
 (Prod.snd
 (Prod.snd
 (Prod.snd
 (Prod.snd
 (Prod.snd
 (S.runR ((1 : Int) + Int.tmod c0 (10 : Int)) (Int.tmod c1 (11 : Int))
 (List.length
 (S.stepsT nl (fun (j : Nat) => tl (j + al)) fun (j : Nat) => vl (j + al)))
 (fun (j : Nat) =>
 Prod.fst
 (S.at'
 (S.stepsT nl (fun (j : Nat) => tl (j + al)) fun (j : Nat) => vl (j + al))
 j))
 (fun (j : Nat) =>
 Prod.fst
 (Prod.snd
 (S.at'
 (S.stepsT nl (fun (j : Nat) => tl (j + al)) fun (j : Nat) => vl (j + al))
 j)))
 (fun (j : Nat) =>
 Prod.fst
 (Prod.snd
 (Prod.snd
 (S.at'
 (S.stepsT nl (fun (j : Nat) => tl (j + al)) fun (j : Nat) =>
 vl (j + al))
 j))))
 fun (j : Nat) =>
 Prod.snd
 (Prod.snd
 (Prod.snd
 (S.at'
 (S.stepsT nl (fun (j : Nat) => tl (j + al)) fun (j : Nat) => vl (j + al))
 j)))))))))))
 j))
 (fun (j : Nat) =>
 Prod.fst
 (Prod.snd
 (S.at'
 (Prod.snd
 (Prod.snd
 (Prod.snd
 (Prod.snd
 (Prod.snd
 (Prod.snd
 (Prod.snd
 (S.runR ((1 : Int) + Int.tmod c0 (10 : Int)) (Int.tmod c1 (11 : Int))
 (List.length
 (S.stepsT nl (fun (j : Nat) => tl (j + al)) fun (j : Nat) => vl (j + al)))
 (fun (j : Nat) =>
 Prod.fst
 (S.at'
 (S.stepsT nl (fun (j : Nat) => tl (j + al)) fun (j : Nat) => vl (j + al))
 j))
 (fun (j : Nat) =>
 Prod.fst
 (Prod.snd
 (S.at'
 (S.stepsT nl (fun (j : Nat) => tl (j + al)) fun (j : Nat) =>
 vl (j + al))
 j)))
 (fun (j : Nat) =>
 Prod.fst
 (Prod.snd
 (Prod.snd
 (S.at'
 (S.stepsT nl (fun (j : Nat) => tl (j + al)) fun (j : Nat) =>
 vl (j + al))
 j))))
 fun (j : Nat) =>
 Prod.snd
 (Prod.snd
 (Prod.snd
 (S.at'
 (S.stepsT nl (fun (j : Nat) => tl (j + al)) fun (j : Nat) =>
 vl (j + al))
 j)))))))))))
 j)))
 (Prod.fst
 (Prod.snd
 (Prod.snd
 (S.runR ((1 : Int) + Int.tmod c0 (10 : Int)) (Int.tmod c1 (11 : Int))
 (List.length (S.stepsT nl (fun (j : Nat) => tl (j + al)) fun (j : Nat) => vl (j + al)))
 (fun (j : Nat) =>
 Prod.fst
 (S.at' (S.stepsT nl (fun (j : Nat) => tl (j + al)) fun (j : Nat) => vl (j + al)) j))
 (fun (j : Nat) =>
 Prod.fst
 (Prod.snd
 (S.at' (S.stepsT nl (fun (j : Nat) => tl (j + al)) fun (j : Nat) => vl (j + al))
 j)))
 (fun (j : Nat) =>
 Prod.fst
 (Prod.snd
 (Prod.snd
 (S.at' (S.stepsT nl (fun (j : Nat) => tl (j + al)) fun (j : Nat) => vl (j + al))
 j))))
 fun (j : Nat) =>
 Prod.snd
 (Prod.snd
 (Prod.snd
 (S.at' (S.stepsT nl (fun (j : Nat) => tl (j + al)) fun (j : Nat) => vl (j + al))
 j)))))))
 (Prod.fst
 (Prod.snd
 (Prod.snd
 (Prod.snd
 (S.runR ((1 : Int) + Int.tmod c0 (10 : Int)) (Int.tmod c1 (11 : Int))
 (List.length (S.stepsT nl (fun (j : Nat) => tl (j + al)) fun (j : Nat) => vl (j + al)))
 (fun (j : Nat) =>
 Prod.fst
 (S.at' (S.stepsT nl (fun (j : Nat) => tl (j + al)) fun (j : Nat) => vl (j + al)) j))
 (fun (j : Nat) =>
 Prod.fst
 (Prod.snd
 (S.at' (S.stepsT nl (fun (j : Nat) => tl (j + al)) fun (j : Nat) => vl (j + al))
 j)))
 (fun (j : Nat) =>
 Prod.fst
 (Prod.snd
 (Prod.snd
 (S.at' (S.stepsT nl (fun (j : Nat) => tl (j + al)) fun (j : Nat) => vl (j + al))
 j))))
 fun (j : Nat) =>
 Prod.snd
 (Prod.snd
 (Prod.snd
 (S.at' (S.stepsT nl (fun (j : Nat) => tl (j + al)) fun (j : Nat) => vl (j + al))
 j))))))))
 (Prod.fst
 (Prod.snd
 (Prod.snd
 (Prod.snd
 (Prod.snd
 (S.runR ((1 : Int) + Int.tmod c0 (10 : Int)) (Int.tmod c1 (11 : Int))
 (List.length (S.stepsT nl (fun (j : Nat) => tl (j + al)) fun (j : Nat) => vl (j + al)))
 (fun (j : Nat) =>
 Prod.fst
 (S.at' (S.stepsT nl (fun (j : Nat) => tl (j + al)) fun (j : Nat) => vl (j + al))
 j))
 (fun (j : Nat) =>
 Prod.fst
 (Prod.snd
 (S.at' (S.stepsT nl (fun (j : Nat) => tl (j + al)) fun (j : Nat) => vl (j + al))
 j)))
 (fun (j : Nat) =>
 Prod.fst
 (Prod.snd
 (Prod.snd
 (S.at'
 (S.stepsT nl (fun (j : Nat) => tl (j + al)) fun (j : Nat) => vl (j + al)) j))))
 fun (j : Nat) =>
 Prod.snd
 (Prod.snd
 (Prod.snd
 (S.at' (S.stepsT nl (fun (j : Nat) => tl (j + al)) fun (j : Nat) => vl (j + al))
 j)))))))))) =
 (S.newS ((1 : Int) + Int.tmod c0 (10 : Int)) (Int.tmod c1 (11 : Int))).1 ∧
 Prod.fst
 (Prod.snd
 (S.reaS
 (Prod.fst
 (S.runR ((1 : Int) + Int.tmod c0 (10 : Int)) (Int.tmod c1 (11 : Int))
 (List.length (S.stepsT nl (fun (j : Nat) => tl (j + al)) fun (j : Nat) => vl (j + al)))
 (fun (j : Nat) =>
 Prod.fst
 (S.at' (S.stepsT nl (fun (j : Nat) => tl (j + al)) fun (j : Nat) => vl (j + al)) j))
 (fun (j : Nat) =>
 Prod.fst
 (Prod.snd
 (S.at' (S.stepsT nl (fun (j : Nat) => tl (j + al)) fun (j : Nat) => vl (j + al))
 j)))
 (fun (j : Nat) =>
 Prod.fst
 (Prod.snd
 (Prod.snd
 (S.at' (S.stepsT nl (fun (j : Nat) => tl (j + al)) fun (j : Nat) => vl (j + al))
 j))))
 fun (j : Nat) =>
 Prod.snd
 (Prod.snd
 (Prod.snd
 (S.at' (S.stepsT nl (fun (j : Nat) => tl (j + al)) fun (j : Nat) => vl (j + al))
 j)))))
 (Prod.fst
 (Prod.snd
 (S.runR ((1 : Int) + Int.tmod c0 (10 : Int)) (Int.tmod c1 (11 : Int))
 (List.length (S.stepsT nl (fun (j : Nat) => tl (j + al)) fun (j : Nat) => vl (j + al)))
 (fun (j : Nat) =>
 Prod.fst
 (S.at' (S.stepsT nl (fun (j : Nat) => tl (j + al)) fun (j : Nat) => vl (j + al)) j))
 (fun (j : Nat) =>
 Prod.fst
 (Prod.snd
 (S.at' (S.stepsT nl (fun (j : Nat) => tl (j + al)) fun (j : Nat) => vl (j + al))
 j)))
 (fun (j : Nat) =>
 Prod.fst
 (Prod.snd
 (Prod.snd
 (S.at' (S.stepsT nl (fun (j : Nat) => tl (j + al)) fun (j : Nat) => vl (j + al))
 j))))
 fun (j : Nat) =>
 Prod.snd
 (Prod.snd
 (Prod.snd
 (S.at' (S.stepsT nl (fun (j : Nat) => tl (j + al)) fun (j : Nat) => vl (j + al))
 j))))))
 (List.length
 (Prod.snd
 (Prod.snd
 (Prod.snd
 (Prod.snd
 (Prod.snd
 (Prod.snd
 (Prod.snd
 (S.runR ((1 : Int) + Int.tmod c0 (10 : Int)) (Int.tmod c1 (11 : Int))
 (List.length
 (S.stepsT nl (fun (j : Nat) => tl (j + al)) fun (j : Nat) => vl (j + al)))
 (fun (j : Nat) =>
 Prod.fst
 (S.at'
 (S.stepsT nl (fun (j : Nat) => tl (j + al)) fun (j : Nat) => vl (j + al))
 j))
 (fun (j : Nat) =>
 Prod.fst
 (Prod.snd
 (S.at'
 (S.stepsT nl (fun (j : Nat) => tl (j + al)) fun (j : Nat) => vl (j + al))
 j)))
 (fun (j : Nat) =>
 Prod.fst
 (Prod.snd
 (Prod.snd
 (S.at'
 (S.stepsT nl (fun (j : Nat) => tl (j + al)) fun (j : Nat) =>
 vl (j + al))
 j))))
 fun (j : Nat) =>
 Prod.snd
 (Prod.snd
 (Prod.snd
 (S.at'
 (S.stepsT nl (fun (j : Nat) => tl (j + al)) fun (j : Nat) => vl (j + al))
 j))))))))))))
 (fun (j : Nat) =>
 Prod.fst
 (S.at'
 (Prod.snd
 (Prod.snd
 (Prod.snd
 (Prod.snd
 (Prod.snd
 (Prod.snd
 (Prod.snd
 (S.runR ((1 : Int) + Int.tmod c0 (10 : Int)) (Int.tmod c1 (11 : Int))
 (List.length
 (S.stepsT nl (fun (j : Nat) => tl (j + al)) fun (j : Nat) => vl (j + al)))
 (fun (j : Nat) =>
 Prod.fst
 (S.at'
 (S.stepsT nl (fun (j : Nat) => tl (j + al)) fun (j : Nat) =>
 vl (j + al))
 j))
 (fun (j : Nat) =>
 Prod.fst
 (Prod.snd
 (S.at'
 (S.stepsT nl (fun (j : Nat) => tl (j + al)) fun (j : Nat) =>
 vl (j + al))
 j)))
 (fun (j : Nat) =>
 Prod.fst
 (Prod.snd
 (Prod.snd
 (S.at'
 (S.stepsT nl (fun (j : Nat) => tl (j + al)) fun (j : Nat) =>
 vl (j + al))
 j))))
 fun (j : Nat) =>
 Prod.snd
 (Prod.snd
 (Prod.snd
 (S.at'
 (S.stepsT nl (fun (j : Nat) => tl (j + al)) fun (j : Nat) =>
 vl (j + al))
 j)))))))))))
 j))
 (fun (j : Nat) =>
 Prod.fst
 (Prod.snd
 (S.at'
 (Prod.snd
 (Prod.snd
 (Prod.snd
 (Prod.snd
 (Prod.snd
 (Prod.snd
 (Prod.snd
 (S.runR ((1 : Int) + Int.tmod c0 (10 : Int)) (Int.tmod c1 (11 : Int))
 (List.length
 (S.stepsT nl (fun (j : Nat) => tl (j + al)) fun (j : Nat) => vl (j + al)))
 (fun (j : Nat) =>
 Prod.fst
 (S.at'
 (S.stepsT nl (fun (j : Nat) => tl (j + al)) fun (j : Nat) =>
 vl (j + al))
 j))
 (fun (j : Nat) =>
 Prod.fst
 (Prod.snd
 (S.at'
 (S.stepsT nl (fun (j : Nat) => tl (j + al)) fun (j : Nat) =>
 vl (j + al))
 j)))
 (fun (j : Nat) =>
 Prod.fst
 (Prod.snd
 (Prod.snd
 (S.at'
 (S.stepsT nl (fun (j : Nat) => tl (j + al)) fun (j : Nat) =>
 vl (j + al))
 j))))
 fun (j : Nat) =>
 Prod.snd
 (Prod.snd
 (Prod.snd
 (S.at'
 (S.stepsT nl (fun (j : Nat) => tl (j + al)) fun (j : Nat) =>
 vl (j + al))
 j)))))))))))
 j)))
 (Prod.fst
 (Prod.snd
 (Prod.snd
 (S.runR ((1 : Int) + Int.tmod c0 (10 : Int)) (Int.tmod c1 (11 : Int))
 (List.length (S.stepsT nl (fun (j : Nat) => tl (j + al)) fun (j : Nat) => vl (j + al)))
 (fun (j : Nat) =>
 Prod.fst
 (S.at' (S.stepsT nl (fun (j : Nat) => tl (j + al)) fun (j : Nat) => vl (j + al))
 j))
 (fun (j : Nat) =>
 Prod.fst
 (Prod.snd
 (S.at' (S.stepsT nl (fun (j : Nat) => tl (j + al)) fun (j : Nat) => vl (j + al))
 j)))
 (fun (j : Nat) =>
 Prod.fst
 (Prod.snd
 (Prod.snd
 (S.at'
 (S.stepsT nl (fun (j : Nat) => tl (j + al)) fun (j : Nat) => vl (j + al)) j))))
 fun (j : Nat) =>
 Prod.snd
 (Prod.snd
 (Prod.snd
 (S.at' (S.stepsT nl (fun (j : Nat) => tl (j + al)) fun (j : Nat) => vl (j + al))
 j)))))))
 (Prod.fst
 (Prod.snd
 (Prod.snd
 (Prod.snd
 (S.runR ((1 : Int) + Int.tmod c0 (10 : Int)) (Int.tmod c1 (11 : Int))
 (List.length (S.stepsT nl (fun (j : Nat) => tl (j + al)) fun (j : Nat) => vl (j + al)))
 (fun (j : Nat) =>
 Prod.fst
 (S.at' (S.stepsT nl (fun (j : Nat) => tl (j + al)) fun (j : Nat) => vl (j + al))
 j))
 (fun (j : Nat) =>
 Prod.fst
 (Prod.snd
 (S.at'
 (S.stepsT nl (fun (j : Nat) => tl (j + al)) fun (j : Nat) => vl (j + al)) j)))
 (fun (j : Nat) =>
 Prod.fst
 (Prod.snd
 (Prod.snd
 (S.at'
 (S.stepsT nl (fun (j : Nat) => tl (j + al)) fun (j : Nat) => vl (j + al)) j))))
 fun (j : Nat) =>
 Prod.snd
 (Prod.snd
 (Prod.snd
 (S.at'
 (S.stepsT nl (fun (j : Nat) => tl (j + al)) fun (j : Nat) => vl (j + al))
 j))))))))
 (Prod.fst
 (Prod.snd
 (Prod.snd
 (Prod.snd
 (Prod.snd
 (S.runR ((1 : Int) + Int.tmod c0 (10 : Int)) (Int.tmod c1 (11 : Int))
 (List.length (S.stepsT nl (fun (j : Nat) => tl (j + al)) fun (j : Nat) => vl (j + al)))
 (fun (j : Nat) =>
 Prod.fst
 (S.at'
 (S.stepsT nl (fun (j : Nat) => tl (j + al)) fun (j : Nat) => vl (j + al)) j))
 (fun (j : Nat) =>
 Prod.fst
 (Prod.snd
 (S.at'
 (S.stepsT nl (fun (j : Nat) => tl (j + al)) fun (j : Nat) => vl (j + al)) j)))
 (fun (j : Nat) =>
 Prod.fst
 (Prod.snd
 (Prod.snd
 (S.at'
 (S.stepsT nl (fun (j : Nat) => tl (j + al)) fun (j : Nat) => vl (j + al))
 j))))
 fun (j : Nat) =>
 Prod.snd
 (Prod.snd
 (Prod.snd
 (S.at'
 (S.stepsT nl (fun (j : Nat) => tl (j + al)) fun (j : Nat) => vl (j + al))
 j))))))))))) =
 (S.newS ((1 : Int) + Int.tmod c0 (10 : Int)) (Int.tmod c1 (11 : Int))).2.1 ∧
 (0 : Int) = (0 : Int) ∧
 Prod.fst
 (Prod.snd
 (Prod.snd
 (S.reaS
 (Prod.fst
 (S.runR ((1 : Int) + Int.tmod c0 (10 : Int)) (Int.tmod c1 (11 : Int))
 (List.length (S.stepsT nl (fun (j : Nat) => tl (j + al)) fun (j : Nat) => vl (j + al)))
 (fun (j : Nat) =>
 Prod.fst
 (S.at' (S.stepsT nl (fun (j : Nat) => tl (j + al)) fun (j : Nat) => vl (j + al))
 j))
 (fun (j : Nat) =>
 Prod.fst
 (Prod.snd
 (S.at'
 (S.stepsT nl (fun (j : Nat) => tl (j + al)) fun (j : Nat) => vl (j + al)) j)))
 (fun (j : Nat) =>
 Prod.fst
 (Prod.snd
 (Prod.snd
 (S.at'
 (S.stepsT nl (fun (j : Nat) => tl (j + al)) fun (j : Nat) => vl (j + al)) j))))
 fun (j : Nat) =>
 Prod.snd
 (Prod.snd
 (Prod.snd
 (S.at'
 (S.stepsT nl (fun (j : Nat) => tl (j + al)) fun (j : Nat) => vl (j + al)) j)))))
 (Prod.fst
 (Prod.snd
 (S.runR ((1 : Int) + Int.tmod c0 (10 : Int)) (Int.tmod c1 (11 : Int))
 (List.length (S.stepsT nl (fun (j : Nat) => tl (j + al)) fun (j : Nat) => vl (j + al)))
 (fun (j : Nat) =>
 Prod.fst
 (S.at'
 (S.stepsT nl (fun (j : Nat) => tl (j + al)) fun (j : Nat) => vl (j + al)) j))
 (fun (j : Nat) =>
 Prod.fst
 (Prod.snd
 (S.at'
 (S.stepsT nl (fun (j : Nat) => tl (j + al)) fun (j : Nat) => vl (j + al)) j)))
 (fun (j : Nat) =>
 Prod.fst
 (Prod.snd
 (Prod.snd
 (S.at'
 (S.stepsT nl (fun (j : Nat) => tl (j + al)) fun (j : Nat) => vl (j + al))
 j))))
 fun (j : Nat) =>
 Prod.snd
 (Prod.snd
 (Prod.snd
 (S.at'
 (S.stepsT nl (fun (j : Nat) => tl (j + al)) fun (j : Nat) => vl (j + al))
 j))))))
 (List.length
 (Prod.snd
 (Prod.snd
 (Prod.snd
 (Prod.snd
 (Prod.snd
 (Prod.snd
 (Prod.snd
 (S.runR ((1 : Int) + Int.tmod c0 (10 : Int)) (Int.tmod c1 (11 : Int))
 (List.length
 (S.stepsT nl (fun (j : Nat) => tl (j + al)) fun (j : Nat) => vl (j + al)))
 (fun (j : Nat) =>
 Prod.fst
 (S.at'
 (S.stepsT nl (fun (j : Nat) => tl (j + al)) fun (j : Nat) =>
 vl (j + al))
 j))
 (fun (j : Nat) =>
 Prod.fst
 (Prod.snd
 (S.at'
 (S.stepsT nl (fun (j : Nat) => tl (j + al)) fun (j : Nat) =>
 vl (j + al))
 j)))
 (fun (j : Nat) =>
 Prod.fst
 (Prod.snd
 (Prod.snd
 (S.at'
 (S.stepsT nl (fun (j : Nat) => tl (j + al)) fun (j : Nat) =>
 vl (j + al))
 j))))
 fun (j : Nat) =>
 Prod.snd
 (Prod.snd
 (Prod.snd
 (S.at'
 (S.stepsT nl (fun (j : Nat) => tl (j + al)) fun (j : Nat) =>
 vl (j + al))
 j))))))))))))
 (fun (j : Nat) =>
 Prod.fst
 (S.at'
 (Prod.snd
 (Prod.snd
 (Prod.snd
 (Prod.snd
 (Prod.snd
 (Prod.snd
 (Prod.snd
 (S.runR ((1 : Int) + Int.tmod c0 (10 : Int)) (Int.tmod c1 (11 : Int))
 (List.length
 (S.stepsT nl (fun (j : Nat) => tl (j + al)) fun (j : Nat) =>
 vl (j + al)))
 (fun (j : Nat) =>
 Prod.fst
 (S.at'
 (S.stepsT nl (fun (j : Nat) => tl (j + al)) fun (j : Nat) =>
 vl (j + al))
 j))
 (fun (j : Nat) =>
 Prod.fst
 (Prod.snd
 (S.at'
 (S.stepsT nl (fun (j : Nat) => tl (j + al)) fun (j : Nat) =>
 vl (j + al))
 j)))
 (fun (j : Nat) =>
 Prod.fst
 (Prod.snd
 (Prod.snd
 (S.at'
 (S.stepsT nl (fun (j : Nat) => tl (j + al)) fun (j : Nat) =>
 vl (j + al))
 j))))
 fun (j : Nat) =>
 Prod.snd
 (Prod.snd
 (Prod.snd
 (S.at'
 (S.stepsT nl (fun (j : Nat) => tl (j + al)) fun (j : Nat) =>
 vl (j + al))
 j)))))))))))
 j))
 (fun (j : Nat) =>
 Prod.fst
 (Prod.snd
 (S.at'
 (Prod.snd
 (Prod.snd
 (Prod.snd
 (Prod.snd
 (Prod.snd
 (Prod.snd
 (Prod.snd
 (S.runR ((1 : Int) + Int.tmod c0 (10 : Int)) (Int.tmod c1 (11 : Int))
 (List.length
 (S.stepsT nl (fun (j : Nat) => tl (j + al)) fun (j : Nat) =>
 vl (j + al)))
 (fun (j : Nat) =>
 Prod.fst
 (S.at'
 (S.stepsT nl (fun (j : Nat) => tl (j + al)) fun (j : Nat) =>
 vl (j + al))
 j))
 (fun (j : Nat) =>
 Prod.fst
 (Prod.snd
 (S.at'
 (S.stepsT nl (fun (j : Nat) => tl (j + al)) fun (j : Nat) =>
 vl (j + al))
 j)))
 (fun (j : Nat) =>
 Prod.fst
 (Prod.snd
 (Prod.snd
 (S.at'
 (S.stepsT nl (fun (j : Nat) => tl (j + al)) fun (j : Nat) =>
 vl (j + al))
 j))))
 fun (j : Nat) =>
 Prod.snd
 (Prod.snd
 (Prod.snd
 (S.at'
 (S.stepsT nl (fun (j : Nat) => tl (j + al)) fun (j : Nat) =>
 vl (j + al))
 j)))))))))))
 j)))
 (Prod.fst
 (Prod.snd
 (Prod.snd
 (S.runR ((1 : Int) + Int.tmod c0 (10 : Int)) (Int.tmod c1 (11 : Int))
 (List.length
 (S.stepsT nl (fun (j : Nat) => tl (j + al)) fun (j : Nat) => vl (j + al)))
 (fun (j : Nat) =>
 Prod.fst
 (S.at'
 (S.stepsT nl (fun (j : Nat) => tl (j + al)) fun (j : Nat) => vl (j + al)) j))
 (fun (j : Nat) =>
 Prod.fst
 (Prod.snd
 (S.at'
 (S.stepsT nl (fun (j : Nat) => tl (j + al)) fun (j : Nat) => vl (j + al)) j)))
 (fun (j : Nat) =>
 Prod.fst
 (Prod.snd
 (Prod.snd
 (S.at'
 (S.stepsT nl (fun (j : Nat) => tl (j + al)) fun (j : Nat) => vl (j + al))
 j))))
 fun (j : Nat) =>
 Prod.snd
 (Prod.snd
 (Prod.snd
 (S.at'
 (S.stepsT nl (fun (j : Nat) => tl (j + al)) fun (j : Nat) => vl (j + al))
 j)))))))
 (Prod.fst
 (Prod.snd
 (Prod.snd
 (Prod.snd
 (S.runR ((1 : Int) + Int.tmod c0 (10 : Int)) (Int.tmod c1 (11 : Int))
 (List.length
 (S.stepsT nl (fun (j : Nat) => tl (j + al)) fun (j : Nat) => vl (j + al)))
 (fun (j : Nat) =>
 Prod.fst
 (S.at'
 (S.stepsT nl (fun (j : Nat) => tl (j + al)) fun (j : Nat) => vl (j + al)) j))
 (fun (j : Nat) =>
 Prod.fst
 (Prod.snd
 (S.at'
 (S.stepsT nl (fun (j : Nat) => tl (j + al)) fun (j : Nat) => vl (j + al))
 j)))
 (fun (j : Nat) =>
 Prod.fst
 (Prod.snd
 (Prod.snd
 (S.at'
 (S.stepsT nl (fun (j : Nat) => tl (j + al)) fun (j : Nat) => vl (j + al))
 j))))
 fun (j : Nat) =>
 Prod.snd
 (Prod.snd
 (Prod.snd
 (S.at'
 (S.stepsT nl (fun (j : Nat) => tl (j + al)) fun (j : Nat) => vl (j + al))
 j))))))))
 (Prod.fst
 (Prod.snd
 (Prod.snd
 (Prod.snd
 (Prod.snd
 (S.runR ((1 : Int) + Int.tmod c0 (10 : Int)) (Int.tmod c1 (11 : Int))
 (List.length
 (S.stepsT nl (fun (j : Nat) => tl (j + al)) fun (j : Nat) => vl (j + al)))
 (fun (j : Nat) =>
 Prod.fst
 (S.at'
 (S.stepsT nl (fun (j : Nat) => tl (j + al)) fun (j : Nat) => vl (j + al))
 j))
 (fun (j : Nat) =>
 Prod.fst
 (Prod.snd
 (S.at'
 (S.stepsT nl (fun (j : Nat) => tl (j + al)) fun (j : Nat) => vl (j + al))
 j)))
 (fun (j : Nat) =>
 Prod.fst
 (Prod.snd
 (Prod.snd
 (S.at'
 (S.stepsT nl (fun (j : Nat) => tl (j + al)) fun (j : Nat) =>
 vl (j + al))
 j))))
 fun (j : Nat) =>
 Prod.snd
 (Prod.snd
 (Prod.snd
 (S.at'
 (S.stepsT nl (fun (j : Nat) => tl (j + al)) fun (j : Nat) => vl (j + al))
 j)))))))))))) =
 Prod.fst
 ((S.newS ((1 : Int) + Int.tmod c0 (10 : Int)) (Int.tmod c1 (11 : Int))).2.2) ∧
 false = false ∧
 (S.mkl (0) fun (j : Nat) => ((0 : Int), (0 : Int), false)) =
 S.mkl (0) fun (j : Nat) => ((0 : Int), (0 : Int), false)))
 then (some (.inr (true)))
 else (some (.inr (false))))
 else (none))
 else (some (.inr (false))))
 else (bif (Prod.snd
 (Prod.snd
 (Prod.snd
 (S.reaS
 (Prod.fst
 (S.runR ((1 : Int) + Int.tmod c0 (10 : Int)) (Int.tmod c1 (11 : Int))
 (List.length (S.stepsT nl (fun (j : Nat) => tl (j + al)) fun (j : Nat) => vl (j + al)))
 (fun (j : Nat) =>
 Prod.fst
 (S.at' (S.stepsT nl (fun (j : Nat) => tl (j + al)) fun (j : Nat) => vl (j + al)) j))
 (fun (j : Nat) =>
 Prod.fst
 (Prod.snd
 (S.at' (S.stepsT nl (fun (j : Nat) => tl (j + al)) fun (j : Nat) => vl (j + al)) j)))
 (fun (j : Nat) =>
 Prod.fst
 (Prod.snd
 (Prod.snd
 (S.at' (S.stepsT nl (fun (j : Nat) => tl (j + al)) fun (j : Nat) => vl (j + al)) j))))
 fun (j : Nat) =>
 Prod.snd
 (Prod.snd
 (Prod.snd
 (S.at' (S.stepsT nl (fun (j : Nat) => tl (j + al)) fun (j : Nat) => vl (j + al)) j)))))
 (Prod.fst
 (Prod.snd
 (S.runR ((1 : Int) + Int.tmod c0 (10 : Int)) (Int.tmod c1 (11 : Int))
 (List.length (S.stepsT nl (fun (j : Nat) => tl (j + al)) fun (j : Nat) => vl (j + al)))
 (fun (j : Nat) =>
 Prod.fst
 (S.at' (S.stepsT nl (fun (j : Nat) => tl (j + al)) fun (j : Nat) => vl (j + al)) j))
 (fun (j : Nat) =>
 Prod.fst
 (Prod.snd
 (S.at' (S.stepsT nl (fun (j : Nat) => tl (j + al)) fun (j : Nat) => vl (j + al)) j)))
 (fun (j : Nat) =>
 Prod.fst
 (Prod.snd
 (Prod.snd
 (S.at' (S.stepsT nl (fun (j : Nat) => tl (j + al)) fun (j : Nat) => vl (j + al))
 j))))
 fun (j : Nat) =>
 Prod.snd
 (Prod.snd
 (Prod.snd
 (S.at' (S.stepsT nl (fun (j : Nat) => tl (j + al)) fun (j : Nat) => vl (j + al))
 j))))))
 (List.length
 (Prod.snd
 (Prod.snd
 (Prod.snd
 (Prod.snd
 (Prod.snd
 (Prod.snd
 (Prod.snd
 (S.runR ((1 : Int) + Int.tmod c0 (10 : Int)) (Int.tmod c1 (11 : Int))
 (List.length
 (S.stepsT nl (fun (j : Nat) => tl (j + al)) fun (j : Nat) => vl (j + al)))
 (fun (j : Nat) =>
 Prod.fst
 (S.at'
 (S.stepsT nl (fun (j : Nat) => tl (j + al)) fun (j : Nat) => vl (j + al)) j))
 (fun (j : Nat) =>
 Prod.fst
 (Prod.snd
 (S.at'
 (S.stepsT nl (fun (j : Nat) => tl (j + al)) fun (j : Nat) => vl (j + al)) j)))
 (fun (j : Nat) =>
 Prod.fst
 (Prod.snd
 (Prod.snd
 (S.at'
 (S.stepsT nl (fun (j : Nat) => tl (j + al)) fun (j : Nat) => vl (j + al))
 j))))
 fun (j : Nat) =>
 Prod.snd
 (Prod.snd
 (Prod.snd
 (S.at'
 (S.stepsT nl (fun (j : Nat) => tl (j + al)) fun (j : Nat) => vl (j + al))
 j))))))))))))
 (fun (j : Nat) =>
 Prod.fst
 (S.at'
 (Prod.snd
 (Prod.snd
 (Prod.snd
 (Prod.snd
 (Prod.snd
 (Prod.snd
 (Prod.snd
 (S.runR ((1 : Int) + Int.tmod c0 (10 : Int)) (Int.tmod c1 (11 : Int))
 (List.length
 (S.stepsT nl (fun (j : Nat) => tl (j + al)) fun (j : Nat) => vl (j + al)))
 (fun (j : Nat) =>
 Prod.fst
 (S.at'
 (S.stepsT nl (fun (j : Nat) => tl (j + al)) fun (j : Nat) => vl (j + al))
 j))
 (fun (j : Nat) =>
 Prod.fst
 (Prod.snd
 (S.at'
 (S.stepsT nl (fun (j : Nat) => tl (j + al)) fun (j : Nat) => vl (j + al))
 j)))
 (fun (j : Nat) =>
 Prod.fst
 (Prod.snd
 (Prod.snd
 (S.at'
 (S.stepsT nl (fun (j : Nat) => tl (j + al)) fun (j : Nat) =>
 vl (j + al))
 j))))
 fun (j : Nat) =>
 Prod.snd
 (Prod.snd
 (Prod.snd
 (S.at'
 (S.stepsT nl (fun (j : Nat) => tl (j + al)) fun (j : Nat) => vl (j + al))
 j)))))))))))
 j))
 (fun (j : Nat) =>
 Prod.fst
 (Prod.snd
 (S.at'
 (Prod.snd
 (Prod.snd
 (Prod.snd
 (Prod.snd
 (Prod.snd
 (Prod.snd
 (Prod.snd
 (S.runR ((1 : Int) + Int.tmod c0 (10 : Int)) (Int.tmod c1 (11 : Int))
 (List.length
 (S.stepsT nl (fun (j : Nat) => tl (j + al)) fun (j : Nat) => vl (j + al)))
 (fun (j : Nat) =>
 Prod.fst
 (S.at'
 (S.stepsT nl (fun (j : Nat) => tl (j + al)) fun (j : Nat) => vl (j + al))
 j))
 (fun (j : Nat) =>
 Prod.fst
 (Prod.snd
 (S.at'
 (S.stepsT nl (fun (j : Nat) => tl (j + al)) fun (j : Nat) =>
 vl (j + al))
 j)))
 (fun (j : Nat) =>
 Prod.fst
 (Prod.snd
 (Prod.snd
 (S.at'
 (S.stepsT nl (fun (j : Nat) => tl (j + al)) fun (j : Nat) =>
 vl (j + al))
 j))))
 fun (j : Nat) =>
 Prod.snd
 (Prod.snd
 (Prod.snd
 (S.at'
 (S.stepsT nl (fun (j : Nat) => tl (j + al)) fun (j : Nat) =>
 vl (j + al))
 j)))))))))))
 j)))
 (Prod.fst
 (Prod.snd
 (Prod.snd
 (S.runR ((1 : Int) + Int.tmod c0 (10 : Int)) (Int.tmod c1 (11 : Int))
 (List.length (S.stepsT nl (fun (j : Nat) => tl (j + al)) fun (j : Nat) => vl (j + al)))
 (fun (j : Nat) =>
 Prod.fst
 (S.at' (S.stepsT nl (fun (j : Nat) => tl (j + al)) fun (j : Nat) => vl (j + al)) j))
 (fun (j : Nat) =>
 Prod.fst
 (Prod.snd
 (S.at' (S.stepsT nl (fun (j : Nat) => tl (j + al)) fun (j : Nat) => vl (j + al))
 j)))
 (fun (j : Nat) =>
 Prod.fst
 (Prod.snd
 (Prod.snd
 (S.at' (S.stepsT nl (fun (j : Nat) => tl (j + al)) fun (j : Nat) => vl (j + al))
 j))))
 fun (j : Nat) =>
 Prod.snd
 (Prod.snd
 (Prod.snd
 (S.at' (S.stepsT nl (fun (j : Nat) => tl (j + al)) fun (j : Nat) => vl (j + al))
 j)))))))
 (Prod.fst
 (Prod.snd
 (Prod.snd
 (Prod.snd
 (S.runR ((1 : Int) + Int.tmod c0 (10 : Int)) (Int.tmod c1 (11 : Int))
 (List.length (S.stepsT nl (fun (j : Nat) => tl (j + al)) fun (j : Nat) => vl (j + al)))
 (fun (j : Nat) =>
 Prod.fst
 (S.at' (S.stepsT nl (fun (j : Nat) => tl (j + al)) fun (j : Nat) => vl (j + al)) j))
 (fun (j : Nat) =>
 Prod.fst
 (Prod.snd
 (S.at' (S.stepsT nl (fun (j : Nat) => tl (j + al)) fun (j : Nat) => vl (j + al))
 j)))
 (fun (j : Nat) =>
 Prod.fst
 (Prod.snd
 (Prod.snd
 (S.at' (S.stepsT nl (fun (j : Nat) => tl (j + al)) fun (j : Nat) => vl (j + al))
 j))))
 fun (j : Nat) =>
 Prod.snd
 (Prod.snd
 (Prod.snd
 (S.at' (S.stepsT nl (fun (j : Nat) => tl (j + al)) fun (j : Nat) => vl (j + al))
 j))))))))
 (Prod.fst
 (Prod.snd
 (Prod.snd
 (Prod.snd
 (Prod.snd
 (S.runR ((1 : Int) + Int.tmod c0 (10 : Int)) (Int.tmod c1 (11 : Int))
 (List.length (S.stepsT nl (fun (j : Nat) => tl (j + al)) fun (j : Nat) => vl (j + al)))
 (fun (j : Nat) =>
 Prod.fst
 (S.at' (S.stepsT nl (fun (j : Nat) => tl (j + al)) fun (j : Nat) => vl (j + al))
 j))
 (fun (j : Nat) =>
 Prod.fst
 (Prod.snd
 (S.at' (S.stepsT nl (fun (j : Nat) => tl (j + al)) fun (j : Nat) => vl (j + al))
 j)))
 (fun (j : Nat) =>
 Prod.fst
 (Prod.snd
 (Prod.snd
 (S.at'
 (S.stepsT nl (fun (j : Nat) => tl (j + al)) fun (j : Nat) => vl (j + al)) j))))
 fun (j : Nat) =>
 Prod.snd
 (Prod.snd
 (Prod.snd
 (S.at' (S.stepsT nl (fun (j : Nat) => tl (j + al)) fun (j : Nat) => vl (j + al))
 j)))))))))))) ==
 (8 : Int))
 then (some (.inr (true)))
 else (some (.inr (false))))))))
 else (none))
 else (none))
 else (none))
 else (none))
 else (none))
 else (none))
noncomputable def Te10 (test : Bool → Prop → Prop → Prop) (Kst : KS) (Kret : KR) (c0 : Int) (c1 : Int) (al nl ml : Nat) (tl : Nat → Int) (vl : Nat → Int) : Prop :=
  test (true)
 (test (true)
 (test (decide ((↑nl : Int) > (60 : Int)))
 (test (true)
 (test (true)
 (Kret (PV.tf true) ([[(0, false, Blk.cols ml [Col.int IntKind.u8 tl, Col.int IntKind.u8 vl])]]) (4))
 (Kret (PV.tf false) ([[(0, false, Blk.cols ml [Col.int IntKind.u8 tl, Col.int IntKind.u8 vl])]]) (4)))
 (False))
 (test (true)
 (test (false)
 (False)
 (test (lim IntKind.i64 (Int.tmod c0 (10 : Int)))
 (test (lim IntKind.i64 ((1 : Int) + Int.tmod c0 (10 : Int)))
 (test (true)
 (test (false)
 (False)
 (test (lim IntKind.i64 (Int.tmod c1 (11 : Int)))
 (test (decide
 (al + nl ≤ ml ∧
 nl ≤ 900000 ∧
 (S.bytes nl fun (j : Nat) => tl (j + al)) = true ∧
 (S.bytes nl fun (j : Nat) => vl (j + al)) = true))
 (test (decide
 (0 + List.length (S.stepsT nl (fun (j : Nat) => tl (j + al)) fun (j : Nat) => vl (j + al)) ≤
 List.length (S.stepsT nl (fun (j : Nat) => tl (j + al)) fun (j : Nat) => vl (j + al)) ∧
 List.length (S.stepsT nl (fun (j : Nat) => tl (j + al)) fun (j : Nat) => vl (j + al)) ≤ 999998))
 (test (true)
 (test (decide
 (0 +
 List.length
 (Prod.snd
 (Prod.snd
 (Prod.snd
 (Prod.snd
 (Prod.snd
 (Prod.snd
 (Prod.snd
 (S.runR ((1 : Int) + Int.tmod c0 (10 : Int)) (Int.tmod c1 (11 : Int))
 (List.length (S.stepsT nl (fun (j : Nat) => tl (j + al)) fun (j : Nat) => vl (j + al)))
 (fun (j : Nat) =>
 Prod.fst
 (S.at'
 (S.stepsT nl (fun (j : Nat) => tl (j + al)) fun (j : Nat) => vl (j + al)) j))
 (fun (j : Nat) =>
 Prod.fst
 (Prod.snd
 (S.at'
 (S.stepsT nl (fun (j : Nat) => tl (j + al)) fun (j : Nat) => vl (j + al)) j)))
 (fun (j : Nat) =>
 Prod.fst
 (Prod.snd
 (Prod.snd
 (S.at'
 (S.stepsT nl (fun (j : Nat) => tl (j + al)) fun (j : Nat) => vl (j + al))
 j))))
 fun (j : Nat) =>
 Prod.snd
 (Prod.snd
 (Prod.snd
 (S.at'
 (S.stepsT nl (fun (j : Nat) => tl (j + al)) fun (j : Nat) => vl (j + al))
 j))))))))))) ≤
 List.length
 (Prod.snd
 (Prod.snd
 (Prod.snd
 (Prod.snd
 (Prod.snd
 (Prod.snd
 (Prod.snd
 (S.runR ((1 : Int) + Int.tmod c0 (10 : Int)) (Int.tmod c1 (11 : Int))
 (List.length (S.stepsT nl (fun (j : Nat) => tl (j + al)) fun (j : Nat) => vl (j + al)))
 (fun (j : Nat) =>
 Prod.fst
 (S.at' (S.stepsT nl (fun (j : Nat) => tl (j + al)) fun (j : Nat) => vl (j + al))
 j))
 (fun (j : Nat) =>
 Prod.fst
 (Prod.snd
 (S.at'
 (S.stepsT nl (fun (j : Nat) => tl (j + al)) fun (j : Nat) => vl (j + al)) j)))
 (fun (j : Nat) =>
 Prod.fst
 (Prod.snd
 (Prod.snd
 (S.at'
 (S.stepsT nl (fun (j : Nat) => tl (j + al)) fun (j : Nat) => vl (j + al)) j))))
 fun (j : Nat) =>
 Prod.snd
 (Prod.snd
 (Prod.snd
 (S.at'
 (S.stepsT nl (fun (j : Nat) => tl (j + al)) fun (j : Nat) => vl (j + al))
 j))))))))))) ∧
 List.length
 (Prod.snd
 (Prod.snd
 (Prod.snd
 (Prod.snd
 (Prod.snd
 (Prod.snd
 (Prod.snd
 (S.runR ((1 : Int) + Int.tmod c0 (10 : Int)) (Int.tmod c1 (11 : Int))
 (List.length (S.stepsT nl (fun (j : Nat) => tl (j + al)) fun (j : Nat) => vl (j + al)))
 (fun (j : Nat) =>
 Prod.fst
 (S.at' (S.stepsT nl (fun (j : Nat) => tl (j + al)) fun (j : Nat) => vl (j + al))
 j))
 (fun (j : Nat) =>
 Prod.fst
 (Prod.snd
 (S.at'
 (S.stepsT nl (fun (j : Nat) => tl (j + al)) fun (j : Nat) => vl (j + al)) j)))
 (fun (j : Nat) =>
 Prod.fst
 (Prod.snd
 (Prod.snd
 (S.at'
 (S.stepsT nl (fun (j : Nat) => tl (j + al)) fun (j : Nat) => vl (j + al)) j))))
 fun (j : Nat) =>
 Prod.snd
 (Prod.snd
 (Prod.snd
 (S.at'
 (S.stepsT nl (fun (j : Nat) => tl (j + al)) fun (j : Nat) => vl (j + al))
 j))))))))))) ≤
 1000000))
 (test (Prod.fst
 (Prod.snd
 (Prod.snd
 (Prod.snd
 (Prod.snd
 (Prod.snd
 (Prod.snd
 (S.runR ((1 : Int) + Int.tmod c0 (10 : Int)) (Int.tmod c1 (11 : Int))
 (List.length (S.stepsT nl (fun (j : Nat) => tl (j + al)) fun (j : Nat) => vl (j + al)))
 (fun (j : Nat) =>
 Prod.fst
 (S.at' (S.stepsT nl (fun (j : Nat) => tl (j + al)) fun (j : Nat) => vl (j + al)) j))
 (fun (j : Nat) =>
 Prod.fst
 (Prod.snd
 (S.at' (S.stepsT nl (fun (j : Nat) => tl (j + al)) fun (j : Nat) => vl (j + al))
 j)))
 (fun (j : Nat) =>
 Prod.fst
 (Prod.snd
 (Prod.snd
 (S.at' (S.stepsT nl (fun (j : Nat) => tl (j + al)) fun (j : Nat) => vl (j + al))
 j))))
 fun (j : Nat) =>
 Prod.snd
 (Prod.snd
 (Prod.snd
 (S.at' (S.stepsT nl (fun (j : Nat) => tl (j + al)) fun (j : Nat) => vl (j + al))
 j)))))))))) !=
 (0 : Int))
 (Kret (PV.tf false) ([[(0, false, Blk.cols ml [Col.int IntKind.u8 tl, Col.int IntKind.u8 vl])]]) (12))
 (test ((S.newS ((1 : Int) + Int.tmod c0 (10 : Int)) (Int.tmod c1 (11 : Int))).2.2.2 != (0 : Int))
 (Kret (PV.tf false) ([[(0, false, Blk.cols ml [Col.int IntKind.u8 tl, Col.int IntKind.u8 vl])]]) (12))
 (test (decide
 (0 +
 List.length
 (Prod.snd
 (Prod.snd
 (Prod.snd
 (Prod.snd
 (Prod.snd
 (Prod.snd
 (Prod.snd
 (S.runR ((1 : Int) + Int.tmod c0 (10 : Int)) (Int.tmod c1 (11 : Int))
 (List.length (S.stepsT nl (fun (j : Nat) => tl (j + al)) fun (j : Nat) => vl (j + al)))
 (fun (j : Nat) =>
 Prod.fst
 (S.at'
 (S.stepsT nl (fun (j : Nat) => tl (j + al)) fun (j : Nat) => vl (j + al)) j))
 (fun (j : Nat) =>
 Prod.fst
 (Prod.snd
 (S.at'
 (S.stepsT nl (fun (j : Nat) => tl (j + al)) fun (j : Nat) => vl (j + al)) j)))
 (fun (j : Nat) =>
 Prod.fst
 (Prod.snd
 (Prod.snd
 (S.at'
 (S.stepsT nl (fun (j : Nat) => tl (j + al)) fun (j : Nat) => vl (j + al))
 j))))
 fun (j : Nat) =>
 Prod.snd
 (Prod.snd
 (Prod.snd
 (S.at'
 (S.stepsT nl (fun (j : Nat) => tl (j + al)) fun (j : Nat) => vl (j + al))
 j))))))))))) ≤
 List.length
 (Prod.snd
 (Prod.snd
 (Prod.snd
 (Prod.snd
 (Prod.snd
 (Prod.snd
 (Prod.snd
 (S.runR ((1 : Int) + Int.tmod c0 (10 : Int)) (Int.tmod c1 (11 : Int))
 (List.length (S.stepsT nl (fun (j : Nat) => tl (j + al)) fun (j : Nat) => vl (j + al)))
 (fun (j : Nat) =>
 Prod.fst
 (S.at' (S.stepsT nl (fun (j : Nat) => tl (j + al)) fun (j : Nat) => vl (j + al))
 j))
 (fun (j : Nat) =>
 Prod.fst
 (Prod.snd
 (S.at'
 (S.stepsT nl (fun (j : Nat) => tl (j + al)) fun (j : Nat) => vl (j + al)) j)))
 (fun (j : Nat) =>
 Prod.fst
 (Prod.snd
 (Prod.snd
 (S.at'
 (S.stepsT nl (fun (j : Nat) => tl (j + al)) fun (j : Nat) => vl (j + al)) j))))
 fun (j : Nat) =>
 Prod.snd
 (Prod.snd
 (Prod.snd
 (S.at'
 (S.stepsT nl (fun (j : Nat) => tl (j + al)) fun (j : Nat) => vl (j + al))
 j))))))))))) ∧
 List.length
 (Prod.snd
 (Prod.snd
 (Prod.snd
 (Prod.snd
 (Prod.snd
 (Prod.snd
 (Prod.snd
 (S.runR ((1 : Int) + Int.tmod c0 (10 : Int)) (Int.tmod c1 (11 : Int))
 (List.length (S.stepsT nl (fun (j : Nat) => tl (j + al)) fun (j : Nat) => vl (j + al)))
 (fun (j : Nat) =>
 Prod.fst
 (S.at' (S.stepsT nl (fun (j : Nat) => tl (j + al)) fun (j : Nat) => vl (j + al))
 j))
 (fun (j : Nat) =>
 Prod.fst
 (Prod.snd
 (S.at'
 (S.stepsT nl (fun (j : Nat) => tl (j + al)) fun (j : Nat) => vl (j + al)) j)))
 (fun (j : Nat) =>
 Prod.fst
 (Prod.snd
 (Prod.snd
 (S.at'
 (S.stepsT nl (fun (j : Nat) => tl (j + al)) fun (j : Nat) => vl (j + al)) j))))
 fun (j : Nat) =>
 Prod.snd
 (Prod.snd
 (Prod.snd
 (S.at'
 (S.stepsT nl (fun (j : Nat) => tl (j + al)) fun (j : Nat) => vl (j + al))
 j))))))))))) ≤
 1000000))
 (test (S.vB
 (Prod.fst
 (S.runR ((1 : Int) + Int.tmod c0 (10 : Int)) (Int.tmod c1 (11 : Int))
 (List.length (S.stepsT nl (fun (j : Nat) => tl (j + al)) fun (j : Nat) => vl (j + al)))
 (fun (j : Nat) =>
 (S.at' (S.stepsT nl (fun (j : Nat) => tl (j + al)) fun (j : Nat) => vl (j + al)) j).1)
 (fun (j : Nat) =>
 Prod.fst
 ((S.at' (S.stepsT nl (fun (j : Nat) => tl (j + al)) fun (j : Nat) => vl (j + al)) j).2))
 (fun (j : Nat) =>
 Prod.fst
 (Prod.snd
 (Prod.snd
 (S.at' (S.stepsT nl (fun (j : Nat) => tl (j + al)) fun (j : Nat) => vl (j + al)) j))))
 fun (j : Nat) =>
 Prod.snd
 (Prod.snd
 (Prod.snd
 (S.at' (S.stepsT nl (fun (j : Nat) => tl (j + al)) fun (j : Nat) => vl (j + al)) j)))))
 (Prod.fst
 (Prod.snd
 (S.runR ((1 : Int) + Int.tmod c0 (10 : Int)) (Int.tmod c1 (11 : Int))
 (List.length (S.stepsT nl (fun (j : Nat) => tl (j + al)) fun (j : Nat) => vl (j + al)))
 (fun (j : Nat) =>
 (S.at' (S.stepsT nl (fun (j : Nat) => tl (j + al)) fun (j : Nat) => vl (j + al)) j).1)
 (fun (j : Nat) =>
 Prod.fst
 (Prod.snd
 (S.at' (S.stepsT nl (fun (j : Nat) => tl (j + al)) fun (j : Nat) => vl (j + al)) j)))
 (fun (j : Nat) =>
 Prod.fst
 (Prod.snd
 (Prod.snd
 (S.at' (S.stepsT nl (fun (j : Nat) => tl (j + al)) fun (j : Nat) => vl (j + al)) j))))
 fun (j : Nat) =>
 Prod.snd
 (Prod.snd
 (Prod.snd
 (S.at' (S.stepsT nl (fun (j : Nat) => tl (j + al)) fun (j : Nat) => vl (j + al)) j))))))
 (List.length
 (Prod.snd
 (Prod.snd
 (Prod.snd
 (Prod.snd
 (Prod.snd
 (Prod.snd
 (Prod.snd
 (S.runR ((1 : Int) + Int.tmod c0 (10 : Int)) (Int.tmod c1 (11 : Int))
 (List.length (S.stepsT nl (fun (j : Nat) => tl (j + al)) fun (j : Nat) => vl (j + al)))
 (fun (j : Nat) =>
 Prod.fst
 (S.at' (S.stepsT nl (fun (j : Nat) => tl (j + al)) fun (j : Nat) => vl (j + al))
 j))
 (fun (j : Nat) =>
 Prod.fst
 (Prod.snd
 (S.at' (S.stepsT nl (fun (j : Nat) => tl (j + al)) fun (j : Nat) => vl (j + al))
 j)))
 (fun (j : Nat) =>
 Prod.fst
 (Prod.snd
 (Prod.snd
 (S.at'
 (S.stepsT nl (fun (j : Nat) => tl (j + al)) fun (j : Nat) => vl (j + al)) j))))
 fun (j : Nat) =>
 Prod.snd
 (Prod.snd
 (Prod.snd
 (S.at' (S.stepsT nl (fun (j : Nat) => tl (j + al)) fun (j : Nat) => vl (j + al))
 j))))))))))))
 (fun (j : Nat) =>
 Prod.fst
 (S.at'
 (Prod.snd
 (Prod.snd
 (Prod.snd
 (Prod.snd
 (Prod.snd
 (Prod.snd
 (Prod.snd
 (S.runR ((1 : Int) + Int.tmod c0 (10 : Int)) (Int.tmod c1 (11 : Int))
 (List.length (S.stepsT nl (fun (j : Nat) => tl (j + al)) fun (j : Nat) => vl (j + al)))
 (fun (j : Nat) =>
 Prod.fst
 (S.at'
 (S.stepsT nl (fun (j : Nat) => tl (j + al)) fun (j : Nat) => vl (j + al)) j))
 (fun (j : Nat) =>
 Prod.fst
 (Prod.snd
 (S.at'
 (S.stepsT nl (fun (j : Nat) => tl (j + al)) fun (j : Nat) => vl (j + al)) j)))
 (fun (j : Nat) =>
 Prod.fst
 (Prod.snd
 (Prod.snd
 (S.at'
 (S.stepsT nl (fun (j : Nat) => tl (j + al)) fun (j : Nat) => vl (j + al))
 j))))
 fun (j : Nat) =>
 Prod.snd
 (Prod.snd
 (Prod.snd
 (S.at'
 (S.stepsT nl (fun (j : Nat) => tl (j + al)) fun (j : Nat) => vl (j + al))
 j)))))))))))
 j))
 (fun (j : Nat) =>
 Prod.fst
 (Prod.snd
 (S.at'
 (Prod.snd
 (Prod.snd
 (Prod.snd
 (Prod.snd
 (Prod.snd
 (Prod.snd
 (Prod.snd
 (S.runR ((1 : Int) + Int.tmod c0 (10 : Int)) (Int.tmod c1 (11 : Int))
 (List.length
 (S.stepsT nl (fun (j : Nat) => tl (j + al)) fun (j : Nat) => vl (j + al)))
 (fun (j : Nat) =>
 Prod.fst
 (S.at'
 (S.stepsT nl (fun (j : Nat) => tl (j + al)) fun (j : Nat) => vl (j + al)) j))
 (fun (j : Nat) =>
 Prod.fst
 (Prod.snd
 (S.at'
 (S.stepsT nl (fun (j : Nat) => tl (j + al)) fun (j : Nat) => vl (j + al)) j)))
 (fun (j : Nat) =>
 Prod.fst
 (Prod.snd
 (Prod.snd
 (S.at'
 (S.stepsT nl (fun (j : Nat) => tl (j + al)) fun (j : Nat) => vl (j + al))
 j))))
 fun (j : Nat) =>
 Prod.snd
 (Prod.snd
 (Prod.snd
 (S.at'
 (S.stepsT nl (fun (j : Nat) => tl (j + al)) fun (j : Nat) => vl (j + al))
 j)))))))))))
 j)))
 (Prod.fst
 (Prod.snd
 (Prod.snd
 (S.runR ((1 : Int) + Int.tmod c0 (10 : Int)) (Int.tmod c1 (11 : Int))
 (List.length (S.stepsT nl (fun (j : Nat) => tl (j + al)) fun (j : Nat) => vl (j + al)))
 (fun (j : Nat) =>
 (S.at' (S.stepsT nl (fun (j : Nat) => tl (j + al)) fun (j : Nat) => vl (j + al)) j).1)
 (fun (j : Nat) =>
 Prod.fst
 (Prod.snd
 (S.at' (S.stepsT nl (fun (j : Nat) => tl (j + al)) fun (j : Nat) => vl (j + al)) j)))
 (fun (j : Nat) =>
 Prod.fst
 (Prod.snd
 (Prod.snd
 (S.at' (S.stepsT nl (fun (j : Nat) => tl (j + al)) fun (j : Nat) => vl (j + al)) j))))
 fun (j : Nat) =>
 Prod.snd
 (Prod.snd
 (Prod.snd
 (S.at' (S.stepsT nl (fun (j : Nat) => tl (j + al)) fun (j : Nat) => vl (j + al)) j)))))))
 (Prod.fst
 (Prod.snd
 (Prod.snd
 (Prod.snd
 (S.runR ((1 : Int) + Int.tmod c0 (10 : Int)) (Int.tmod c1 (11 : Int))
 (List.length (S.stepsT nl (fun (j : Nat) => tl (j + al)) fun (j : Nat) => vl (j + al)))
 (fun (j : Nat) =>
 Prod.fst
 (S.at' (S.stepsT nl (fun (j : Nat) => tl (j + al)) fun (j : Nat) => vl (j + al)) j))
 (fun (j : Nat) =>
 Prod.fst
 (Prod.snd
 (S.at' (S.stepsT nl (fun (j : Nat) => tl (j + al)) fun (j : Nat) => vl (j + al)) j)))
 (fun (j : Nat) =>
 Prod.fst
 (Prod.snd
 (Prod.snd
 (S.at' (S.stepsT nl (fun (j : Nat) => tl (j + al)) fun (j : Nat) => vl (j + al)) j))))
 fun (j : Nat) =>
 Prod.snd
 (Prod.snd
 (Prod.snd
 (S.at' (S.stepsT nl (fun (j : Nat) => tl (j + al)) fun (j : Nat) => vl (j + al))
 j))))))))
 (Prod.fst
 (Prod.snd
 (Prod.snd
 (Prod.snd
 (Prod.snd
 (S.runR ((1 : Int) + Int.tmod c0 (10 : Int)) (Int.tmod c1 (11 : Int))
 (List.length (S.stepsT nl (fun (j : Nat) => tl (j + al)) fun (j : Nat) => vl (j + al)))
 (fun (j : Nat) =>
 Prod.fst
 (S.at' (S.stepsT nl (fun (j : Nat) => tl (j + al)) fun (j : Nat) => vl (j + al)) j))
 (fun (j : Nat) =>
 Prod.fst
 (Prod.snd
 (S.at' (S.stepsT nl (fun (j : Nat) => tl (j + al)) fun (j : Nat) => vl (j + al)) j)))
 (fun (j : Nat) =>
 Prod.fst
 (Prod.snd
 (Prod.snd
 (S.at' (S.stepsT nl (fun (j : Nat) => tl (j + al)) fun (j : Nat) => vl (j + al))
 j))))
 fun (j : Nat) =>
 Prod.snd
 (Prod.snd
 (Prod.snd
 (S.at' (S.stepsT nl (fun (j : Nat) => tl (j + al)) fun (j : Nat) => vl (j + al))
 j))))))))) !=
 (0 : Int))
 (Kret (PV.tf false) ([[(0, false, Blk.cols ml [Col.int IntKind.u8 tl, Col.int IntKind.u8 vl])]]) (13))
 (test (Prod.fst
 (Prod.snd
 (Prod.snd
 (Prod.snd
 (Prod.snd
 (S.runR ((1 : Int) + Int.tmod c0 (10 : Int)) (Int.tmod c1 (11 : Int))
 (List.length (S.stepsT nl (fun (j : Nat) => tl (j + al)) fun (j : Nat) => vl (j + al)))
 (fun (j : Nat) =>
 (S.at' (S.stepsT nl (fun (j : Nat) => tl (j + al)) fun (j : Nat) => vl (j + al)) j).1)
 (fun (j : Nat) =>
 Prod.fst
 (Prod.snd
 (S.at' (S.stepsT nl (fun (j : Nat) => tl (j + al)) fun (j : Nat) => vl (j + al)) j)))
 (fun (j : Nat) =>
 Prod.fst
 (Prod.snd
 (Prod.snd
 (S.at' (S.stepsT nl (fun (j : Nat) => tl (j + al)) fun (j : Nat) => vl (j + al)) j))))
 fun (j : Nat) =>
 Prod.snd
 (Prod.snd
 (Prod.snd
 (S.at' (S.stepsT nl (fun (j : Nat) => tl (j + al)) fun (j : Nat) => vl (j + al)) j)))))))))
 (test (Prod.snd
 (Prod.snd
 (Prod.snd
 (S.reaS
 (Prod.fst
 (S.runR ((1 : Int) + Int.tmod c0 (10 : Int)) (Int.tmod c1 (11 : Int))
 (List.length (S.stepsT nl (fun (j : Nat) => tl (j + al)) fun (j : Nat) => vl (j + al)))
 (fun (j : Nat) =>
 Prod.fst
 (S.at' (S.stepsT nl (fun (j : Nat) => tl (j + al)) fun (j : Nat) => vl (j + al)) j))
 (fun (j : Nat) =>
 Prod.fst
 (Prod.snd
 (S.at' (S.stepsT nl (fun (j : Nat) => tl (j + al)) fun (j : Nat) => vl (j + al)) j)))
 (fun (j : Nat) =>
 Prod.fst
 (Prod.snd
 (Prod.snd
 (S.at' (S.stepsT nl (fun (j : Nat) => tl (j + al)) fun (j : Nat) => vl (j + al)) j))))
 fun (j : Nat) =>
 Prod.snd
 (Prod.snd
 (Prod.snd
 (S.at' (S.stepsT nl (fun (j : Nat) => tl (j + al)) fun (j : Nat) => vl (j + al)) j)))))
 (Prod.fst
 (Prod.snd
 (S.runR ((1 : Int) + Int.tmod c0 (10 : Int)) (Int.tmod c1 (11 : Int))
 (List.length (S.stepsT nl (fun (j : Nat) => tl (j + al)) fun (j : Nat) => vl (j + al)))
 (fun (j : Nat) =>
 Prod.fst
 (S.at' (S.stepsT nl (fun (j : Nat) => tl (j + al)) fun (j : Nat) => vl (j + al)) j))
 (fun (j : Nat) =>
 Prod.fst
 (Prod.snd
 (S.at' (S.stepsT nl (fun (j : Nat) => tl (j + al)) fun (j : Nat) => vl (j + al)) j)))
 (fun (j : Nat) =>
 Prod.fst
 (Prod.snd
 (Prod.snd
 (S.at' (S.stepsT nl (fun (j : Nat) => tl (j + al)) fun (j : Nat) => vl (j + al))
 j))))
 fun (j : Nat) =>
 Prod.snd
 (Prod.snd
 (Prod.snd
 (S.at' (S.stepsT nl (fun (j : Nat) => tl (j + al)) fun (j : Nat) => vl (j + al))
 j))))))
 (List.length
 (Prod.snd
 (Prod.snd
 (Prod.snd
 (Prod.snd
 (Prod.snd
 (Prod.snd
 (Prod.snd
 (S.runR ((1 : Int) + Int.tmod c0 (10 : Int)) (Int.tmod c1 (11 : Int))
 (List.length
 (S.stepsT nl (fun (j : Nat) => tl (j + al)) fun (j : Nat) => vl (j + al)))
 (fun (j : Nat) =>
 Prod.fst
 (S.at'
 (S.stepsT nl (fun (j : Nat) => tl (j + al)) fun (j : Nat) => vl (j + al)) j))
 (fun (j : Nat) =>
 Prod.fst
 (Prod.snd
 (S.at'
 (S.stepsT nl (fun (j : Nat) => tl (j + al)) fun (j : Nat) => vl (j + al)) j)))
 (fun (j : Nat) =>
 Prod.fst
 (Prod.snd
 (Prod.snd
 (S.at'
 (S.stepsT nl (fun (j : Nat) => tl (j + al)) fun (j : Nat) => vl (j + al))
 j))))
 fun (j : Nat) =>
 Prod.snd
 (Prod.snd
 (Prod.snd
 (S.at'
 (S.stepsT nl (fun (j : Nat) => tl (j + al)) fun (j : Nat) => vl (j + al))
 j))))))))))))
 (fun (j : Nat) =>
 Prod.fst
 (S.at'
 (Prod.snd
 (Prod.snd
 (Prod.snd
 (Prod.snd
 (Prod.snd
 (Prod.snd
 (Prod.snd
 (S.runR ((1 : Int) + Int.tmod c0 (10 : Int)) (Int.tmod c1 (11 : Int))
 (List.length
 (S.stepsT nl (fun (j : Nat) => tl (j + al)) fun (j : Nat) => vl (j + al)))
 (fun (j : Nat) =>
 Prod.fst
 (S.at'
 (S.stepsT nl (fun (j : Nat) => tl (j + al)) fun (j : Nat) => vl (j + al))
 j))
 (fun (j : Nat) =>
 Prod.fst
 (Prod.snd
 (S.at'
 (S.stepsT nl (fun (j : Nat) => tl (j + al)) fun (j : Nat) => vl (j + al))
 j)))
 (fun (j : Nat) =>
 Prod.fst
 (Prod.snd
 (Prod.snd
 (S.at'
 (S.stepsT nl (fun (j : Nat) => tl (j + al)) fun (j : Nat) =>
 vl (j + al))
 j))))
 fun (j : Nat) =>
 Prod.snd
 (Prod.snd
 (Prod.snd
 (S.at'
 (S.stepsT nl (fun (j : Nat) => tl (j + al)) fun (j : Nat) => vl (j + al))
 j)))))))))))
 j))
 (fun (j : Nat) =>
 Prod.fst
 (Prod.snd
 (S.at'
 (Prod.snd
 (Prod.snd
 (Prod.snd
 (Prod.snd
 (Prod.snd
 (Prod.snd
 (Prod.snd
 (S.runR ((1 : Int) + Int.tmod c0 (10 : Int)) (Int.tmod c1 (11 : Int))
 (List.length
 (S.stepsT nl (fun (j : Nat) => tl (j + al)) fun (j : Nat) => vl (j + al)))
 (fun (j : Nat) =>
 Prod.fst
 (S.at'
 (S.stepsT nl (fun (j : Nat) => tl (j + al)) fun (j : Nat) => vl (j + al))
 j))
 (fun (j : Nat) =>
 Prod.fst
 (Prod.snd
 (S.at'
 (S.stepsT nl (fun (j : Nat) => tl (j + al)) fun (j : Nat) =>
 vl (j + al))
 j)))
 (fun (j : Nat) =>
 Prod.fst
 (Prod.snd
 (Prod.snd
 (S.at'
 (S.stepsT nl (fun (j : Nat) => tl (j + al)) fun (j : Nat) =>
 vl (j + al))
 j))))
 fun (j : Nat) =>
 Prod.snd
 (Prod.snd
 (Prod.snd
 (S.at'
 (S.stepsT nl (fun (j : Nat) => tl (j + al)) fun (j : Nat) =>
 vl (j + al))
 j)))))))))))
 j)))
 (Prod.fst
 (Prod.snd
 (Prod.snd
 (S.runR ((1 : Int) + Int.tmod c0 (10 : Int)) (Int.tmod c1 (11 : Int))
 (List.length (S.stepsT nl (fun (j : Nat) => tl (j + al)) fun (j : Nat) => vl (j + al)))
 (fun (j : Nat) =>
 Prod.fst
 (S.at' (S.stepsT nl (fun (j : Nat) => tl (j + al)) fun (j : Nat) => vl (j + al)) j))
 (fun (j : Nat) =>
 Prod.fst
 (Prod.snd
 (S.at' (S.stepsT nl (fun (j : Nat) => tl (j + al)) fun (j : Nat) => vl (j + al))
 j)))
 (fun (j : Nat) =>
 Prod.fst
 (Prod.snd
 (Prod.snd
 (S.at' (S.stepsT nl (fun (j : Nat) => tl (j + al)) fun (j : Nat) => vl (j + al))
 j))))
 fun (j : Nat) =>
 Prod.snd
 (Prod.snd
 (Prod.snd
 (S.at' (S.stepsT nl (fun (j : Nat) => tl (j + al)) fun (j : Nat) => vl (j + al))
 j)))))))
 (Prod.fst
 (Prod.snd
 (Prod.snd
 (Prod.snd
 (S.runR ((1 : Int) + Int.tmod c0 (10 : Int)) (Int.tmod c1 (11 : Int))
 (List.length (S.stepsT nl (fun (j : Nat) => tl (j + al)) fun (j : Nat) => vl (j + al)))
 (fun (j : Nat) =>
 Prod.fst
 (S.at' (S.stepsT nl (fun (j : Nat) => tl (j + al)) fun (j : Nat) => vl (j + al)) j))
 (fun (j : Nat) =>
 Prod.fst
 (Prod.snd
 (S.at' (S.stepsT nl (fun (j : Nat) => tl (j + al)) fun (j : Nat) => vl (j + al))
 j)))
 (fun (j : Nat) =>
 Prod.fst
 (Prod.snd
 (Prod.snd
 (S.at' (S.stepsT nl (fun (j : Nat) => tl (j + al)) fun (j : Nat) => vl (j + al))
 j))))
 fun (j : Nat) =>
 Prod.snd
 (Prod.snd
 (Prod.snd
 (S.at' (S.stepsT nl (fun (j : Nat) => tl (j + al)) fun (j : Nat) => vl (j + al))
 j))))))))
 (Prod.fst
 (Prod.snd
 (Prod.snd
 (Prod.snd
 (Prod.snd
 (S.runR ((1 : Int) + Int.tmod c0 (10 : Int)) (Int.tmod c1 (11 : Int))
 (List.length (S.stepsT nl (fun (j : Nat) => tl (j + al)) fun (j : Nat) => vl (j + al)))
 (fun (j : Nat) =>
 Prod.fst
 (S.at' (S.stepsT nl (fun (j : Nat) => tl (j + al)) fun (j : Nat) => vl (j + al))
 j))
 (fun (j : Nat) =>
 Prod.fst
 (Prod.snd
 (S.at' (S.stepsT nl (fun (j : Nat) => tl (j + al)) fun (j : Nat) => vl (j + al))
 j)))
 (fun (j : Nat) =>
 Prod.fst
 (Prod.snd
 (Prod.snd
 (S.at'
 (S.stepsT nl (fun (j : Nat) => tl (j + al)) fun (j : Nat) => vl (j + al)) j))))
 fun (j : Nat) =>
 Prod.snd
 (Prod.snd
 (Prod.snd
 (S.at' (S.stepsT nl (fun (j : Nat) => tl (j + al)) fun (j : Nat) => vl (j + al))
 j)))))))))))) ==
 (0 : Int))
 (test (decide
 (0 ≤ 0 ∧ 0 ≤ 1000000 ∧ 0 ≤ 0 ∧ 0 ≤ 1000000))
 (test (decide
 (Prod.fst
 (S.reaS
 (Prod.fst
 (S.runR ((1 : Int) + Int.tmod c0 (10 : Int)) (Int.tmod c1 (11 : Int))
 (List.length (S.stepsT nl (fun (j : Nat) => tl (j + al)) fun (j : Nat) => vl (j + al)))
 (fun (j : Nat) =>
 Prod.fst
 (S.at' (S.stepsT nl (fun (j : Nat) => tl (j + al)) fun (j : Nat) => vl (j + al)) j))
 (fun (j : Nat) =>
 Prod.fst
 (Prod.snd
 (S.at' (S.stepsT nl (fun (j : Nat) => tl (j + al)) fun (j : Nat) => vl (j + al)) j)))
 (fun (j : Nat) =>
 Prod.fst
 (Prod.snd
 (Prod.snd
 (S.at' (S.stepsT nl (fun (j : Nat) => tl (j + al)) fun (j : Nat) => vl (j + al)) j))))
 fun (j : Nat) =>
 Prod.snd
 (Prod.snd
 (Prod.snd
 (S.at' (S.stepsT nl (fun (j : Nat) => tl (j + al)) fun (j : Nat) => vl (j + al)) j)))))
 (Prod.fst
 (Prod.snd
 (S.runR ((1 : Int) + Int.tmod c0 (10 : Int)) (Int.tmod c1 (11 : Int))
 (List.length (S.stepsT nl (fun (j : Nat) => tl (j + al)) fun (j : Nat) => vl (j + al)))
 (fun (j : Nat) =>
 Prod.fst
 (S.at' (S.stepsT nl (fun (j : Nat) => tl (j + al)) fun (j : Nat) => vl (j + al)) j))
 (fun (j : Nat) =>
 Prod.fst
 (Prod.snd
 (S.at' (S.stepsT nl (fun (j : Nat) => tl (j + al)) fun (j : Nat) => vl (j + al)) j)))
 (fun (j : Nat) =>
 Prod.fst
 (Prod.snd
 (Prod.snd
 (S.at' (S.stepsT nl (fun (j : Nat) => tl (j + al)) fun (j : Nat) => vl (j + al))
 j))))
 fun (j : Nat) =>
 Prod.snd
 (Prod.snd
 (Prod.snd
 (S.at' (S.stepsT nl (fun (j : Nat) => tl (j + al)) fun (j : Nat) => vl (j + al))
 j))))))
 (List.length
 (Prod.snd
 (Prod.snd
 (Prod.snd
 (Prod.snd
 (Prod.snd
 (Prod.snd
 (Prod.snd
 (S.runR ((1 : Int) + Int.tmod c0 (10 : Int)) (Int.tmod c1 (11 : Int))
 (List.length
 (S.stepsT nl (fun (j : Nat) => tl (j + al)) fun (j : Nat) => vl (j + al)))
 (fun (j : Nat) =>
 Prod.fst
 (S.at'
 (S.stepsT nl (fun (j : Nat) => tl (j + al)) fun (j : Nat) => vl (j + al)) j))
 (fun (j : Nat) =>
 Prod.fst
 (Prod.snd
 (S.at'
 (S.stepsT nl (fun (j : Nat) => tl (j + al)) fun (j : Nat) => vl (j + al)) j)))
 (fun (j : Nat) =>
 Prod.fst
 (Prod.snd
 (Prod.snd
 (S.at'
 (S.stepsT nl (fun (j : Nat) => tl (j + al)) fun (j : Nat) => vl (j + al))
 j))))
 fun (j : Nat) =>
 Prod.snd
 (Prod.snd
 (Prod.snd
 (S.at'
 (S.stepsT nl (fun (j : Nat) => tl (j + al)) fun (j : Nat) => vl (j + al))
 j))))))))))))
 (fun (j : Nat) =>
 Prod.fst
 (S.at'
 (Prod.snd
 (Prod.snd
 (Prod.snd
 (Prod.snd
 (Prod.snd
 (Prod.snd
 (Prod.snd
 (S.runR ((1 : Int) + Int.tmod c0 (10 : Int)) (Int.tmod c1 (11 : Int))
 (List.length
 (S.stepsT nl (fun (j : Nat) => tl (j + al)) fun (j : Nat) => vl (j + al)))
 (fun (j : Nat) =>
 Prod.fst
 (S.at'
 (S.stepsT nl (fun (j : Nat) => tl (j + al)) fun (j : Nat) => vl (j + al))
 j))
 (fun (j : Nat) =>
 Prod.fst
 (Prod.snd
 (S.at'
 (S.stepsT nl (fun (j : Nat) => tl (j + al)) fun (j : Nat) => vl (j + al))
 j)))
 (fun (j : Nat) =>
 Prod.fst
 (Prod.snd
 (Prod.snd
 (S.at'
 (S.stepsT nl (fun (j : Nat) => tl (j + al)) fun (j : Nat) =>
 vl (j + al))
 j))))
 fun (j : Nat) =>
 Prod.snd
 (Prod.snd
 (Prod.snd
 (S.at'
 (S.stepsT nl (fun (j : Nat) => tl (j + al)) fun (j : Nat) => vl (j + al))
 j)))))))))))
 j))
 (fun (j : Nat) =>
 Prod.fst
 (Prod.snd
 (S.at'
 (Prod.snd
 (Prod.snd
 (Prod.snd
 (Prod.snd
 (Prod.snd
 (Prod.snd
 (Prod.snd
 (S.runR ((1 : Int) + Int.tmod c0 (10 : Int)) (Int.tmod c1 (11 : Int))
 (List.length
 (S.stepsT nl (fun (j : Nat) => tl (j + al)) fun (j : Nat) => vl (j + al)))
 (fun (j : Nat) =>
 Prod.fst
 (S.at'
 (S.stepsT nl (fun (j : Nat) => tl (j + al)) fun (j : Nat) => vl (j + al))
 j))
 (fun (j : Nat) =>
 Prod.fst
 (Prod.snd
 (S.at'
 (S.stepsT nl (fun (j : Nat) => tl (j + al)) fun (j : Nat) =>
 vl (j + al))
 j)))
 (fun (j : Nat) =>
 Prod.fst
 (Prod.snd
 (Prod.snd
 (S.at'
 (S.stepsT nl (fun (j : Nat) => tl (j + al)) fun (j : Nat) =>
 vl (j + al))
 j))))
 fun (j : Nat) =>
 Prod.snd
 (Prod.snd
 (Prod.snd
 (S.at'
 (S.stepsT nl (fun (j : Nat) => tl (j + al)) fun (j : Nat) =>
 vl (j + al))
 j)))))))))))
 j)))
 (Prod.fst
 (Prod.snd
 (Prod.snd
 (S.runR ((1 : Int) + Int.tmod c0 (10 : Int)) (Int.tmod c1 (11 : Int))
 (List.length (S.stepsT nl (fun (j : Nat) => tl (j + al)) fun (j : Nat) => vl (j + al)))
 (fun (j : Nat) =>
 Prod.fst
 (S.at' (S.stepsT nl (fun (j : Nat) => tl (j + al)) fun (j : Nat) => vl (j + al)) j))
 (fun (j : Nat) =>
 Prod.fst
 (Prod.snd
 (S.at' (S.stepsT nl (fun (j : Nat) => tl (j + al)) fun (j : Nat) => vl (j + al))
 j)))
 (fun (j : Nat) =>
 Prod.fst
 (Prod.snd
 (Prod.snd
 (S.at' (S.stepsT nl (fun (j : Nat) => tl (j + al)) fun (j : Nat) => vl (j + al))
 j))))
 fun (j : Nat) =>
 Prod.snd
 (Prod.snd
 (Prod.snd
 (S.at' (S.stepsT nl (fun (j : Nat) => tl (j + al)) fun (j : Nat) => vl (j + al))
 j)))))))
 (Prod.fst
 (Prod.snd
 (Prod.snd
 (Prod.snd
 (S.runR ((1 : Int) + Int.tmod c0 (10 : Int)) (Int.tmod c1 (11 : Int))
 (List.length (S.stepsT nl (fun (j : Nat) => tl (j + al)) fun (j : Nat) => vl (j + al)))
 (fun (j : Nat) =>
 Prod.fst
 (S.at' (S.stepsT nl (fun (j : Nat) => tl (j + al)) fun (j : Nat) => vl (j + al)) j))
 (fun (j : Nat) =>
 Prod.fst
 (Prod.snd
 (S.at' (S.stepsT nl (fun (j : Nat) => tl (j + al)) fun (j : Nat) => vl (j + al))
 j)))
 (fun (j : Nat) =>
 Prod.fst
 (Prod.snd
 (Prod.snd
 (S.at' (S.stepsT nl (fun (j : Nat) => tl (j + al)) fun (j : Nat) => vl (j + al))
 j))))
 fun (j : Nat) =>
 Prod.snd
 (Prod.snd
 (Prod.snd
 (S.at' (S.stepsT nl (fun (j : Nat) => tl (j + al)) fun (j : Nat) => vl (j + al))
 j))))))))
 (Prod.fst
 (Prod.snd
 (Prod.snd
 (Prod.snd
 (Prod.snd
 (S.runR ((1 : Int) + Int.tmod c0 (10 : Int)) (Int.tmod c1 (11 : Int))
 (List.length (S.stepsT nl (fun (j : Nat) => tl (j + al)) fun (j : Nat) => vl (j + al)))
 (fun (j : Nat) =>
 Prod.fst
 (S.at' (S.stepsT nl (fun (j : Nat) => tl (j + al)) fun (j : Nat) => vl (j + al))
 j))
 (fun (j : Nat) =>
 Prod.fst
 (Prod.snd
 (S.at' (S.stepsT nl (fun (j : Nat) => tl (j + al)) fun (j : Nat) => vl (j + al))
 j)))
 (fun (j : Nat) =>
 Prod.fst
 (Prod.snd
 (Prod.snd
 (S.at'
 (S.stepsT nl (fun (j : Nat) => tl (j + al)) fun (j : Nat) => vl (j + al)) j))))
 fun (j : Nat) =>
 Prod.snd
 (Prod.snd
 (Prod.snd
 (S.at' (S.stepsT nl (fun (j : Nat) => tl (j + al)) fun (j : Nat) => vl (j + al))
 j)))))))))) =
 (S.newS ((1 : Int) + Int.tmod c0 (10 : Int)) (Int.tmod c1 (11 : Int))).1 ∧
 Prod.fst
 (Prod.snd
 (S.reaS
 (Prod.fst
 (S.runR ((1 : Int) + Int.tmod c0 (10 : Int)) (Int.tmod c1 (11 : Int))
 (List.length (S.stepsT nl (fun (j : Nat) => tl (j + al)) fun (j : Nat) => vl (j + al)))
 (fun (j : Nat) =>
 Prod.fst
 (S.at' (S.stepsT nl (fun (j : Nat) => tl (j + al)) fun (j : Nat) => vl (j + al)) j))
 (fun (j : Nat) =>
 Prod.fst
 (Prod.snd
 (S.at' (S.stepsT nl (fun (j : Nat) => tl (j + al)) fun (j : Nat) => vl (j + al))
 j)))
 (fun (j : Nat) =>
 Prod.fst
 (Prod.snd
 (Prod.snd
 (S.at' (S.stepsT nl (fun (j : Nat) => tl (j + al)) fun (j : Nat) => vl (j + al))
 j))))
 fun (j : Nat) =>
 Prod.snd
 (Prod.snd
 (Prod.snd
 (S.at' (S.stepsT nl (fun (j : Nat) => tl (j + al)) fun (j : Nat) => vl (j + al))
 j)))))
 (Prod.fst
 (Prod.snd
 (S.runR ((1 : Int) + Int.tmod c0 (10 : Int)) (Int.tmod c1 (11 : Int))
 (List.length (S.stepsT nl (fun (j : Nat) => tl (j + al)) fun (j : Nat) => vl (j + al)))
 (fun (j : Nat) =>
 Prod.fst
 (S.at' (S.stepsT nl (fun (j : Nat) => tl (j + al)) fun (j : Nat) => vl (j + al)) j))
 (fun (j : Nat) =>
 Prod.fst
 (Prod.snd
 (S.at' (S.stepsT nl (fun (j : Nat) => tl (j + al)) fun (j : Nat) => vl (j + al))
 j)))
 (fun (j : Nat) =>
 Prod.fst
 (Prod.snd
 (Prod.snd
 (S.at' (S.stepsT nl (fun (j : Nat) => tl (j + al)) fun (j : Nat) => vl (j + al))
 j))))
 fun (j : Nat) =>
 Prod.snd
 (Prod.snd
 (Prod.snd
 (S.at' (S.stepsT nl (fun (j : Nat) => tl (j + al)) fun (j : Nat) => vl (j + al))
 j))))))
 (List.length
 (Prod.snd
 (Prod.snd
 (Prod.snd
 (Prod.snd
 (Prod.snd
 (Prod.snd
 (Prod.snd
 (S.runR ((1 : Int) + Int.tmod c0 (10 : Int)) (Int.tmod c1 (11 : Int))
 (List.length
 (S.stepsT nl (fun (j : Nat) => tl (j + al)) fun (j : Nat) => vl (j + al)))
 (fun (j : Nat) =>
 Prod.fst
 (S.at'
 (S.stepsT nl (fun (j : Nat) => tl (j + al)) fun (j : Nat) => vl (j + al))
 j))
 (fun (j : Nat) =>
 Prod.fst
 (Prod.snd
 (S.at'
 (S.stepsT nl (fun (j : Nat) => tl (j + al)) fun (j : Nat) => vl (j + al))
 j)))
 (fun (j : Nat) =>
 Prod.fst
 (Prod.snd
 (Prod.snd
 (S.at'
 (S.stepsT nl (fun (j : Nat) => tl (j + al)) fun (j : Nat) =>
 vl (j + al))
 j))))
 fun (j : Nat) =>
 Prod.snd
 (Prod.snd
 (Prod.snd
 (S.at'
 (S.stepsT nl (fun (j : Nat) => tl (j + al)) fun (j : Nat) => vl (j + al))
 j))))))))))))
 (fun (j : Nat) =>
 Prod.fst
 (S.at'
 (Prod.snd
 (Prod.snd
 (Prod.snd
 (Prod.snd
 (Prod.snd
 (Prod.snd
 (Prod.snd
 (S.runR ((1 : Int) + Int.tmod c0 (10 : Int)) (Int.tmod c1 (11 : Int))
 (List.length
 (S.stepsT nl (fun (j : Nat) => tl (j + al)) fun (j : Nat) => vl (j + al)))
 (fun (j : Nat) =>
 Prod.fst
 (S.at'
 (S.stepsT nl (fun (j : Nat) => tl (j + al)) fun (j : Nat) =>
 vl (j + al))
 j))
 (fun (j : Nat) =>
 Prod.fst
 (Prod.snd
 (S.at'
 (S.stepsT nl (fun (j : Nat) => tl (j + al)) fun (j : Nat) =>
 vl (j + al))
 j)))
 (fun (j : Nat) =>
 Prod.fst
 (Prod.snd
 (Prod.snd
 (S.at'
 (S.stepsT nl (fun (j : Nat) => tl (j + al)) fun (j : Nat) =>
 vl (j + al))
 j))))
 fun (j : Nat) =>
 Prod.snd
 (Prod.snd
 (Prod.snd
 (S.at'
 (S.stepsT nl (fun (j : Nat) => tl (j + al)) fun (j : Nat) =>
 vl (j + al))
 j)))))))))))
 j))
 (fun (j : Nat) =>
 Prod.fst
 (Prod.snd
 (S.at'
 (Prod.snd
 (Prod.snd
 (Prod.snd
 (Prod.snd
 (Prod.snd
 (Prod.snd
 (Prod.snd
 (S.runR ((1 : Int) + Int.tmod c0 (10 : Int)) (Int.tmod c1 (11 : Int))
 (List.length
 (S.stepsT nl (fun (j : Nat) => tl (j + al)) fun (j : Nat) => vl (j + al)))
 (fun (j : Nat) =>
 Prod.fst
 (S.at'
 (S.stepsT nl (fun (j : Nat) => tl (j + al)) fun (j : Nat) =>
 vl (j + al))
 j))
 (fun (j : Nat) =>
 Prod.fst
 (Prod.snd
 (S.at'
 (S.stepsT nl (fun (j : Nat) => tl (j + al)) fun (j : Nat) =>
 vl (j + al))
 j)))
 (fun (j : Nat) =>
 Prod.fst
 (Prod.snd
 (Prod.snd
 (S.at'
 (S.stepsT nl (fun (j : Nat) => tl (j + al)) fun (j : Nat) =>
 vl (j + al))
 j))))
 fun (j : Nat) =>
 Prod.snd
 (Prod.snd
 (Prod.snd
 (S.at'
 (S.stepsT nl (fun (j : Nat) => tl (j + al)) fun (j : Nat) =>
 vl (j + al))
 j)))))))))))
 j)))
 (Prod.fst
 (Prod.snd
 (Prod.snd
 (S.runR ((1 : Int) + Int.tmod c0 (10 : Int)) (Int.tmod c1 (11 : Int))
 (List.length (S.stepsT nl (fun (j : Nat) => tl (j + al)) fun (j : Nat) => vl (j + al)))
 (fun (j : Nat) =>
 Prod.fst
 (S.at' (S.stepsT nl (fun (j : Nat) => tl (j + al)) fun (j : Nat) => vl (j + al))
 j))
 (fun (j : Nat) =>
 Prod.fst
 (Prod.snd
 (S.at' (S.stepsT nl (fun (j : Nat) => tl (j + al)) fun (j : Nat) => vl (j + al))
 j)))
 (fun (j : Nat) =>
 Prod.fst
 (Prod.snd
 (Prod.snd
 (S.at'
 (S.stepsT nl (fun (j : Nat) => tl (j + al)) fun (j : Nat) => vl (j + al)) j))))
 fun (j : Nat) =>
 Prod.snd
 (Prod.snd
 (Prod.snd
 (S.at' (S.stepsT nl (fun (j : Nat) => tl (j + al)) fun (j : Nat) => vl (j + al))
 j)))))))
 (Prod.fst
 (Prod.snd
 (Prod.snd
 (Prod.snd
 (S.runR ((1 : Int) + Int.tmod c0 (10 : Int)) (Int.tmod c1 (11 : Int))
 (List.length (S.stepsT nl (fun (j : Nat) => tl (j + al)) fun (j : Nat) => vl (j + al)))
 (fun (j : Nat) =>
 Prod.fst
 (S.at' (S.stepsT nl (fun (j : Nat) => tl (j + al)) fun (j : Nat) => vl (j + al))
 j))
 (fun (j : Nat) =>
 Prod.fst
 (Prod.snd
 (S.at'
 (S.stepsT nl (fun (j : Nat) => tl (j + al)) fun (j : Nat) => vl (j + al)) j)))
 (fun (j : Nat) =>
 Prod.fst
 (Prod.snd
 (Prod.snd
 (S.at'
 (S.stepsT nl (fun (j : Nat) => tl (j + al)) fun (j : Nat) => vl (j + al)) j))))
 fun (j : Nat) =>
 Prod.snd
 (Prod.snd
 (Prod.snd
 (S.at'
 (S.stepsT nl (fun (j : Nat) => tl (j + al)) fun (j : Nat) => vl (j + al))
 j))))))))
 (Prod.fst
 (Prod.snd
 (Prod.snd
 (Prod.snd
 (Prod.snd
 (S.runR ((1 : Int) + Int.tmod c0 (10 : Int)) (Int.tmod c1 (11 : Int))
 (List.length (S.stepsT nl (fun (j : Nat) => tl (j + al)) fun (j : Nat) => vl (j + al)))
 (fun (j : Nat) =>
 Prod.fst
 (S.at'
 (S.stepsT nl (fun (j : Nat) => tl (j + al)) fun (j : Nat) => vl (j + al)) j))
 (fun (j : Nat) =>
 Prod.fst
 (Prod.snd
 (S.at'
 (S.stepsT nl (fun (j : Nat) => tl (j + al)) fun (j : Nat) => vl (j + al)) j)))
 (fun (j : Nat) =>
 Prod.fst
 (Prod.snd
 (Prod.snd
 (S.at'
 (S.stepsT nl (fun (j : Nat) => tl (j + al)) fun (j : Nat) => vl (j + al))
 j))))
 fun (j : Nat) =>
 Prod.snd
 (Prod.snd
 (Prod.snd
 (S.at'
 (S.stepsT nl (fun (j : Nat) => tl (j + al)) fun (j : Nat) => vl (j + al))
 j))))))))))) =
 (S.newS ((1 : Int) + Int.tmod c0 (10 : Int)) (Int.tmod c1 (11 : Int))).2.1 ∧
 (0 : Int) = (0 : Int) ∧
 Prod.fst
 (Prod.snd
 (Prod.snd
 (S.reaS
 (Prod.fst
 (S.runR ((1 : Int) + Int.tmod c0 (10 : Int)) (Int.tmod c1 (11 : Int))
 (List.length (S.stepsT nl (fun (j : Nat) => tl (j + al)) fun (j : Nat) => vl (j + al)))
 (fun (j : Nat) =>
 Prod.fst
 (S.at' (S.stepsT nl (fun (j : Nat) => tl (j + al)) fun (j : Nat) => vl (j + al))
 j))
 (fun (j : Nat) =>
 Prod.fst
 (Prod.snd
 (S.at'
 (S.stepsT nl (fun (j : Nat) => tl (j + al)) fun (j : Nat) => vl (j + al)) j)))
 (fun (j : Nat) =>
 Prod.fst
 (Prod.snd
 (Prod.snd
 (S.at'
 (S.stepsT nl (fun (j : Nat) => tl (j + al)) fun (j : Nat) => vl (j + al)) j))))
 fun (j : Nat) =>
 Prod.snd
 (Prod.snd
 (Prod.snd
 (S.at'
 (S.stepsT nl (fun (j : Nat) => tl (j + al)) fun (j : Nat) => vl (j + al)) j)))))
 (Prod.fst
 (Prod.snd
 (S.runR ((1 : Int) + Int.tmod c0 (10 : Int)) (Int.tmod c1 (11 : Int))
 (List.length (S.stepsT nl (fun (j : Nat) => tl (j + al)) fun (j : Nat) => vl (j + al)))
 (fun (j : Nat) =>
 Prod.fst
 (S.at'
 (S.stepsT nl (fun (j : Nat) => tl (j + al)) fun (j : Nat) => vl (j + al)) j))
 (fun (j : Nat) =>
 Prod.fst
 (Prod.snd
 (S.at'
 (S.stepsT nl (fun (j : Nat) => tl (j + al)) fun (j : Nat) => vl (j + al)) j)))
 (fun (j : Nat) =>
 Prod.fst
 (Prod.snd
 (Prod.snd
 (S.at'
 (S.stepsT nl (fun (j : Nat) => tl (j + al)) fun (j : Nat) => vl (j + al))
 j))))
 fun (j : Nat) =>
 Prod.snd
 (Prod.snd
 (Prod.snd
 (S.at'
 (S.stepsT nl (fun (j : Nat) => tl (j + al)) fun (j : Nat) => vl (j + al))
 j))))))
 (List.length
 (Prod.snd
 (Prod.snd
 (Prod.snd
 (Prod.snd
 (Prod.snd
 (Prod.snd
 (Prod.snd
 (S.runR ((1 : Int) + Int.tmod c0 (10 : Int)) (Int.tmod c1 (11 : Int))
 (List.length
 (S.stepsT nl (fun (j : Nat) => tl (j + al)) fun (j : Nat) => vl (j + al)))
 (fun (j : Nat) =>
 Prod.fst
 (S.at'
 (S.stepsT nl (fun (j : Nat) => tl (j + al)) fun (j : Nat) =>
 vl (j + al))
 j))
 (fun (j : Nat) =>
 Prod.fst
 (Prod.snd
 (S.at'
 (S.stepsT nl (fun (j : Nat) => tl (j + al)) fun (j : Nat) =>
 vl (j + al))
 j)))
 (fun (j : Nat) =>
 Prod.fst
 (Prod.snd
 (Prod.snd
 (S.at'
 (S.stepsT nl (fun (j : Nat) => tl (j + al)) fun (j : Nat) =>
 vl (j + al))
 j))))
 fun (j : Nat) =>
 Prod.snd
 (Prod.snd
 (Prod.snd
 (S.at'
 (S.stepsT nl (fun (j : Nat) => tl (j + al)) fun (j : Nat) =>
 vl (j + al))
 j))))))))))))
 (fun (j : Nat) =>
 Prod.fst
 (S.at'
 (Prod.snd
 (Prod.snd
 (Prod.snd
 (Prod.snd
 (Prod.snd
 (Prod.snd
 (Prod.snd
 (S.runR ((1 : Int) + Int.tmod c0 (10 : Int)) (Int.tmod c1 (11 : Int))
 (List.length
 (S.stepsT nl (fun (j : Nat) => tl (j + al)) fun (j : Nat) =>
 vl (j + al)))
 (fun (j : Nat) =>
 Prod.fst
 (S.at'
 (S.stepsT nl (fun (j : Nat) => tl (j + al)) fun (j : Nat) =>
 vl (j + al))
 j))
 (fun (j : Nat) =>
 Prod.fst
 (Prod.snd
 (S.at'
 (S.stepsT nl (fun (j : Nat) => tl (j + al)) fun (j : Nat) =>
 vl (j + al))
 j)))
 (fun (j : Nat) =>
 Prod.fst
 (Prod.snd
 (Prod.snd
 (S.at'
 (S.stepsT nl (fun (j : Nat) => tl (j + al)) fun (j : Nat) =>
 vl (j + al))
 j))))
 fun (j : Nat) =>
 Prod.snd
 (Prod.snd
 (Prod.snd
 (S.at'
 (S.stepsT nl (fun (j : Nat) => tl (j + al)) fun (j : Nat) =>
 vl (j + al))
 j)))))))))))
 j))
 (fun (j : Nat) =>
 Prod.fst
 (Prod.snd
 (S.at'
 (Prod.snd
 (Prod.snd
 (Prod.snd
 (Prod.snd
 (Prod.snd
 (Prod.snd
 (Prod.snd
 (S.runR ((1 : Int) + Int.tmod c0 (10 : Int)) (Int.tmod c1 (11 : Int))
 (List.length
 (S.stepsT nl (fun (j : Nat) => tl (j + al)) fun (j : Nat) =>
 vl (j + al)))
 (fun (j : Nat) =>
 Prod.fst
 (S.at'
 (S.stepsT nl (fun (j : Nat) => tl (j + al)) fun (j : Nat) =>
 vl (j + al))
 j))
 (fun (j : Nat) =>
 Prod.fst
 (Prod.snd
 (S.at'
 (S.stepsT nl (fun (j : Nat) => tl (j + al)) fun (j : Nat) =>
 vl (j + al))
 j)))
 (fun (j : Nat) =>
 Prod.fst
 (Prod.snd
 (Prod.snd
 (S.at'
 (S.stepsT nl (fun (j : Nat) => tl (j + al)) fun (j : Nat) =>
 vl (j + al))
 j))))
 fun (j : Nat) =>
 Prod.snd
 (Prod.snd
 (Prod.snd
 (S.at'
 (S.stepsT nl (fun (j : Nat) => tl (j + al)) fun (j : Nat) =>
 vl (j + al))
 j)))))))))))
 j)))
 (Prod.fst
 (Prod.snd
 (Prod.snd
 (S.runR ((1 : Int) + Int.tmod c0 (10 : Int)) (Int.tmod c1 (11 : Int))
 (List.length
 (S.stepsT nl (fun (j : Nat) => tl (j + al)) fun (j : Nat) => vl (j + al)))
 (fun (j : Nat) =>
 Prod.fst
 (S.at'
 (S.stepsT nl (fun (j : Nat) => tl (j + al)) fun (j : Nat) => vl (j + al)) j))
 (fun (j : Nat) =>
 Prod.fst
 (Prod.snd
 (S.at'
 (S.stepsT nl (fun (j : Nat) => tl (j + al)) fun (j : Nat) => vl (j + al)) j)))
 (fun (j : Nat) =>
 Prod.fst
 (Prod.snd
 (Prod.snd
 (S.at'
 (S.stepsT nl (fun (j : Nat) => tl (j + al)) fun (j : Nat) => vl (j + al))
 j))))
 fun (j : Nat) =>
 Prod.snd
 (Prod.snd
 (Prod.snd
 (S.at'
 (S.stepsT nl (fun (j : Nat) => tl (j + al)) fun (j : Nat) => vl (j + al))
 j)))))))
 (Prod.fst
 (Prod.snd
 (Prod.snd
 (Prod.snd
 (S.runR ((1 : Int) + Int.tmod c0 (10 : Int)) (Int.tmod c1 (11 : Int))
 (List.length
 (S.stepsT nl (fun (j : Nat) => tl (j + al)) fun (j : Nat) => vl (j + al)))
 (fun (j : Nat) =>
 Prod.fst
 (S.at'
 (S.stepsT nl (fun (j : Nat) => tl (j + al)) fun (j : Nat) => vl (j + al)) j))
 (fun (j : Nat) =>
 Prod.fst
 (Prod.snd
 (S.at'
 (S.stepsT nl (fun (j : Nat) => tl (j + al)) fun (j : Nat) => vl (j + al))
 j)))
 (fun (j : Nat) =>
 Prod.fst
 (Prod.snd
 (Prod.snd
 (S.at'
 (S.stepsT nl (fun (j : Nat) => tl (j + al)) fun (j : Nat) => vl (j + al))
 j))))
 fun (j : Nat) =>
 Prod.snd
 (Prod.snd
 (Prod.snd
 (S.at'
 (S.stepsT nl (fun (j : Nat) => tl (j + al)) fun (j : Nat) => vl (j + al))
 j))))))))
 (Prod.fst
 (Prod.snd
 (Prod.snd
 (Prod.snd
 (Prod.snd
 (S.runR ((1 : Int) + Int.tmod c0 (10 : Int)) (Int.tmod c1 (11 : Int))
 (List.length
 (S.stepsT nl (fun (j : Nat) => tl (j + al)) fun (j : Nat) => vl (j + al)))
 (fun (j : Nat) =>
 Prod.fst
 (S.at'
 (S.stepsT nl (fun (j : Nat) => tl (j + al)) fun (j : Nat) => vl (j + al))
 j))
 (fun (j : Nat) =>
 Prod.fst
 (Prod.snd
 (S.at'
 (S.stepsT nl (fun (j : Nat) => tl (j + al)) fun (j : Nat) => vl (j + al))
 j)))
 (fun (j : Nat) =>
 Prod.fst
 (Prod.snd
 (Prod.snd
 (S.at'
 (S.stepsT nl (fun (j : Nat) => tl (j + al)) fun (j : Nat) =>
 vl (j + al))
 j))))
 fun (j : Nat) =>
 Prod.snd
 (Prod.snd
 (Prod.snd
 (S.at'
 (S.stepsT nl (fun (j : Nat) => tl (j + al)) fun (j : Nat) => vl (j + al))
 j)))))))))))) =
 Prod.fst
 ((S.newS ((1 : Int) + Int.tmod c0 (10 : Int)) (Int.tmod c1 (11 : Int))).2.2) ∧
 false = false ∧
 (S.mkl (0) fun (j : Nat) => ((0 : Int), (0 : Int), false)) =
 S.mkl (0) fun (j : Nat) => ((0 : Int), (0 : Int), false)))
 (Kret (PV.tf true) ([[(0, false, Blk.cols ml [Col.int IntKind.u8 tl, Col.int IntKind.u8 vl])]]) (14))
 (Kret (PV.tf false) ([[(0, false, Blk.cols ml [Col.int IntKind.u8 tl, Col.int IntKind.u8 vl])]]) (14)))
 (False))
 (Kret (PV.tf false) ([[(0, false, Blk.cols ml [Col.int IntKind.u8 tl, Col.int IntKind.u8 vl])]]) (13)))
 (test (Prod.snd
 (Prod.snd
 (Prod.snd
 (S.reaS
 (Prod.fst
 (S.runR ((1 : Int) + Int.tmod c0 (10 : Int)) (Int.tmod c1 (11 : Int))
 (List.length (S.stepsT nl (fun (j : Nat) => tl (j + al)) fun (j : Nat) => vl (j + al)))
 (fun (j : Nat) =>
 Prod.fst
 (S.at' (S.stepsT nl (fun (j : Nat) => tl (j + al)) fun (j : Nat) => vl (j + al)) j))
 (fun (j : Nat) =>
 Prod.fst
 (Prod.snd
 (S.at' (S.stepsT nl (fun (j : Nat) => tl (j + al)) fun (j : Nat) => vl (j + al)) j)))
 (fun (j : Nat) =>
 Prod.fst
 (Prod.snd
 (Prod.snd
 (S.at' (S.stepsT nl (fun (j : Nat) => tl (j + al)) fun (j : Nat) => vl (j + al)) j))))
 fun (j : Nat) =>
 Prod.snd
 (Prod.snd
 (Prod.snd
 (S.at' (S.stepsT nl (fun (j : Nat) => tl (j + al)) fun (j : Nat) => vl (j + al)) j)))))
 (Prod.fst
 (Prod.snd
 (S.runR ((1 : Int) + Int.tmod c0 (10 : Int)) (Int.tmod c1 (11 : Int))
 (List.length (S.stepsT nl (fun (j : Nat) => tl (j + al)) fun (j : Nat) => vl (j + al)))
 (fun (j : Nat) =>
 Prod.fst
 (S.at' (S.stepsT nl (fun (j : Nat) => tl (j + al)) fun (j : Nat) => vl (j + al)) j))
 (fun (j : Nat) =>
 Prod.fst
 (Prod.snd
 (S.at' (S.stepsT nl (fun (j : Nat) => tl (j + al)) fun (j : Nat) => vl (j + al)) j)))
 (fun (j : Nat) =>
 Prod.fst
 (Prod.snd
 (Prod.snd
 (S.at' (S.stepsT nl (fun (j : Nat) => tl (j + al)) fun (j : Nat) => vl (j + al))
 j))))
 fun (j : Nat) =>
 Prod.snd
 (Prod.snd
 (Prod.snd
 (S.at' (S.stepsT nl (fun (j : Nat) => tl (j + al)) fun (j : Nat) => vl (j + al))
 j))))))
 (List.length
 (Prod.snd
 (Prod.snd
 (Prod.snd
 (Prod.snd
 (Prod.snd
 (Prod.snd
 (Prod.snd
 (S.runR ((1 : Int) + Int.tmod c0 (10 : Int)) (Int.tmod c1 (11 : Int))
 (List.length
 (S.stepsT nl (fun (j : Nat) => tl (j + al)) fun (j : Nat) => vl (j + al)))
 (fun (j : Nat) =>
 Prod.fst
 (S.at'
 (S.stepsT nl (fun (j : Nat) => tl (j + al)) fun (j : Nat) => vl (j + al)) j))
 (fun (j : Nat) =>
 Prod.fst
 (Prod.snd
 (S.at'
 (S.stepsT nl (fun (j : Nat) => tl (j + al)) fun (j : Nat) => vl (j + al)) j)))
 (fun (j : Nat) =>
 Prod.fst
 (Prod.snd
 (Prod.snd
 (S.at'
 (S.stepsT nl (fun (j : Nat) => tl (j + al)) fun (j : Nat) => vl (j + al))
 j))))
 fun (j : Nat) =>
 Prod.snd
 (Prod.snd
 (Prod.snd
 (S.at'
 (S.stepsT nl (fun (j : Nat) => tl (j + al)) fun (j : Nat) => vl (j + al))
 j))))))))))))
 (fun (j : Nat) =>
 Prod.fst
 (S.at'
 (Prod.snd
 (Prod.snd
 (Prod.snd
 (Prod.snd
 (Prod.snd
 (Prod.snd
 (Prod.snd
 (S.runR ((1 : Int) + Int.tmod c0 (10 : Int)) (Int.tmod c1 (11 : Int))
 (List.length
 (S.stepsT nl (fun (j : Nat) => tl (j + al)) fun (j : Nat) => vl (j + al)))
 (fun (j : Nat) =>
 Prod.fst
 (S.at'
 (S.stepsT nl (fun (j : Nat) => tl (j + al)) fun (j : Nat) => vl (j + al))
 j))
 (fun (j : Nat) =>
 Prod.fst
 (Prod.snd
 (S.at'
 (S.stepsT nl (fun (j : Nat) => tl (j + al)) fun (j : Nat) => vl (j + al))
 j)))
 (fun (j : Nat) =>
 Prod.fst
 (Prod.snd
 (Prod.snd
 (S.at'
 (S.stepsT nl (fun (j : Nat) => tl (j + al)) fun (j : Nat) =>
 vl (j + al))
 j))))
 fun (j : Nat) =>
 Prod.snd
 (Prod.snd
 (Prod.snd
 (S.at'
 (S.stepsT nl (fun (j : Nat) => tl (j + al)) fun (j : Nat) => vl (j + al))
 j)))))))))))
 j))
 (fun (j : Nat) =>
 Prod.fst
 (Prod.snd
 (S.at'
 (Prod.snd
 (Prod.snd
 (Prod.snd
 (Prod.snd
 (Prod.snd
 (Prod.snd
 (Prod.snd
 (S.runR ((1 : Int) + Int.tmod c0 (10 : Int)) (Int.tmod c1 (11 : Int))
 (List.length
 (S.stepsT nl (fun (j : Nat) => tl (j + al)) fun (j : Nat) => vl (j + al)))
 (fun (j : Nat) =>
 Prod.fst
 (S.at'
 (S.stepsT nl (fun (j : Nat) => tl (j + al)) fun (j : Nat) => vl (j + al))
 j))
 (fun (j : Nat) =>
 Prod.fst
 (Prod.snd
 (S.at'
 (S.stepsT nl (fun (j : Nat) => tl (j + al)) fun (j : Nat) =>
 vl (j + al))
 j)))
 (fun (j : Nat) =>
 Prod.fst
 (Prod.snd
 (Prod.snd
 (S.at'
 (S.stepsT nl (fun (j : Nat) => tl (j + al)) fun (j : Nat) =>
 vl (j + al))
 j))))
 fun (j : Nat) =>
 Prod.snd
 (Prod.snd
 (Prod.snd
 (S.at'
 (S.stepsT nl (fun (j : Nat) => tl (j + al)) fun (j : Nat) =>
 vl (j + al))
 j)))))))))))
 j)))
 (Prod.fst
 (Prod.snd
 (Prod.snd
 (S.runR ((1 : Int) + Int.tmod c0 (10 : Int)) (Int.tmod c1 (11 : Int))
 (List.length (S.stepsT nl (fun (j : Nat) => tl (j + al)) fun (j : Nat) => vl (j + al)))
 (fun (j : Nat) =>
 Prod.fst
 (S.at' (S.stepsT nl (fun (j : Nat) => tl (j + al)) fun (j : Nat) => vl (j + al)) j))
 (fun (j : Nat) =>
 Prod.fst
 (Prod.snd
 (S.at' (S.stepsT nl (fun (j : Nat) => tl (j + al)) fun (j : Nat) => vl (j + al))
 j)))
 (fun (j : Nat) =>
 Prod.fst
 (Prod.snd
 (Prod.snd
 (S.at' (S.stepsT nl (fun (j : Nat) => tl (j + al)) fun (j : Nat) => vl (j + al))
 j))))
 fun (j : Nat) =>
 Prod.snd
 (Prod.snd
 (Prod.snd
 (S.at' (S.stepsT nl (fun (j : Nat) => tl (j + al)) fun (j : Nat) => vl (j + al))
 j)))))))
 (Prod.fst
 (Prod.snd
 (Prod.snd
 (Prod.snd
 (S.runR ((1 : Int) + Int.tmod c0 (10 : Int)) (Int.tmod c1 (11 : Int))
 (List.length (S.stepsT nl (fun (j : Nat) => tl (j + al)) fun (j : Nat) => vl (j + al)))
 (fun (j : Nat) =>
 Prod.fst
 (S.at' (S.stepsT nl (fun (j : Nat) => tl (j + al)) fun (j : Nat) => vl (j + al)) j))
 (fun (j : Nat) =>
 Prod.fst
 (Prod.snd
 (S.at' (S.stepsT nl (fun (j : Nat) => tl (j + al)) fun (j : Nat) => vl (j + al))
 j)))
 (fun (j : Nat) =>
 Prod.fst
 (Prod.snd
 (Prod.snd
 (S.at' (S.stepsT nl (fun (j : Nat) => tl (j + al)) fun (j : Nat) => vl (j + al))
 j))))
 fun (j : Nat) =>
 Prod.snd
 (Prod.snd
 (Prod.snd
 (S.at' (S.stepsT nl (fun (j : Nat) => tl (j + al)) fun (j : Nat) => vl (j + al))
 j))))))))
 (Prod.fst
 (Prod.snd
 (Prod.snd
 (Prod.snd
 (Prod.snd
 (S.runR ((1 : Int) + Int.tmod c0 (10 : Int)) (Int.tmod c1 (11 : Int))
 (List.length (S.stepsT nl (fun (j : Nat) => tl (j + al)) fun (j : Nat) => vl (j + al)))
 (fun (j : Nat) =>
 Prod.fst
 (S.at' (S.stepsT nl (fun (j : Nat) => tl (j + al)) fun (j : Nat) => vl (j + al))
 j))
 (fun (j : Nat) =>
 Prod.fst
 (Prod.snd
 (S.at' (S.stepsT nl (fun (j : Nat) => tl (j + al)) fun (j : Nat) => vl (j + al))
 j)))
 (fun (j : Nat) =>
 Prod.fst
 (Prod.snd
 (Prod.snd
 (S.at'
 (S.stepsT nl (fun (j : Nat) => tl (j + al)) fun (j : Nat) => vl (j + al)) j))))
 fun (j : Nat) =>
 Prod.snd
 (Prod.snd
 (Prod.snd
 (S.at' (S.stepsT nl (fun (j : Nat) => tl (j + al)) fun (j : Nat) => vl (j + al))
 j)))))))))))) ==
 (8 : Int))
 (Kret (PV.tf true) ([[(0, false, Blk.cols ml [Col.int IntKind.u8 tl, Col.int IntKind.u8 vl])]]) (13))
 (Kret (PV.tf false) ([[(0, false, Blk.cols ml [Col.int IntKind.u8 tl, Col.int IntKind.u8 vl])]]) (13)))))
 (False))))
 (False))
 (False))
 (False))
 (False))
 (False)))
 (False))
 (False))
 (False)))
 (False)))
 (test (true)
 (test (true)
 (Kret (PV.tf true) ([[(0, false, Blk.cols ml [Col.int IntKind.u8 tl, Col.int IntKind.u8 vl])]]) (4))
 (Kret (PV.tf false) ([[(0, false, Blk.cols ml [Col.int IntKind.u8 tl, Col.int IntKind.u8 vl])]]) (4)))
 (False)))
 (False)
set_option maxRecDepth 100000 in
theorem te10 (test : Bool → Prop → Prop → Prop) (Kst : KS) (Kret : KR) (c0 : Int) (c1 : Int) (al nl ml : Nat) (tl : Nat → Int) (vl : Nat → Int) : run test Try.env true (xI test) true 400 ⟨10, [.cd (mkFn Try.f10).body], argT 0 [.agg [.int .u8 c0, .int .u8 c1], .loose ⟨0, 2, al, 0⟩ nl], [[], [(0, (false, .cols ml [.int .u8 tl, .int .u8 vl]))]], 1⟩ (proj 1 [] Kst Kret) =
  Te10 test Kst Kret c0 c1 al nl ml tl vl := by kernel_rfl
set_option maxRecDepth 100000 in
theorem be10 (c0 : Int) (c1 : Int) (al nl ml : Nat) (tl : Nat → Int) (vl : Nat → Int) (Kst : KS) (Kret : KR) (x : St10 ⊕ Rt10) (hS : HS 1 400 ((I10 c0 c1 al nl ml tl vl)) Kst x) (hR : HR 1 400 ((V10 c0 c1 al nl ml tl vl)) (fun r => [newL (1 + 1) ((N10 c0 c1 al nl ml tl vl) r) ++ [(0, (false, .cols ml [.int .u8 tl, .int .u8 vl]))]]) Kret x) (h : (bif (decide ((↑nl : Int) > (60 : Int)))
 then (some (.inr (true)))
 else (bif (lim IntKind.i64 (Int.tmod c0 (10 : Int)))
 then (bif (lim IntKind.i64 ((1 : Int) + Int.tmod c0 (10 : Int)))
 then (bif (lim IntKind.i64 (Int.tmod c1 (11 : Int)))
 then (bif (decide
 (al + nl ≤ ml ∧
 nl ≤ 900000 ∧
 (S.bytes nl fun (j : Nat) => tl (j + al)) = true ∧
 (S.bytes nl fun (j : Nat) => vl (j + al)) = true))
 then (bif (decide
 (0 + List.length (S.stepsT nl (fun (j : Nat) => tl (j + al)) fun (j : Nat) => vl (j + al)) ≤
 List.length (S.stepsT nl (fun (j : Nat) => tl (j + al)) fun (j : Nat) => vl (j + al)) ∧
 List.length (S.stepsT nl (fun (j : Nat) => tl (j + al)) fun (j : Nat) => vl (j + al)) ≤ 999998))
 then (bif (decide
 (0 +
 List.length
 (Prod.snd
 (Prod.snd
 (Prod.snd
 (Prod.snd
 (Prod.snd
 (Prod.snd
 (Prod.snd
 (S.runR ((1 : Int) + Int.tmod c0 (10 : Int)) (Int.tmod c1 (11 : Int))
 (List.length (S.stepsT nl (fun (j : Nat) => tl (j + al)) fun (j : Nat) => vl (j + al)))
 (fun (j : Nat) =>
 Prod.fst
 (S.at'
 (S.stepsT nl (fun (j : Nat) => tl (j + al)) fun (j : Nat) => vl (j + al)) j))
 (fun (j : Nat) =>
 Prod.fst
 (Prod.snd
 (S.at'
 (S.stepsT nl (fun (j : Nat) => tl (j + al)) fun (j : Nat) => vl (j + al)) j)))
 (fun (j : Nat) =>
 Prod.fst
 (Prod.snd
 (Prod.snd
 (S.at'
 (S.stepsT nl (fun (j : Nat) => tl (j + al)) fun (j : Nat) => vl (j + al))
 j))))
 fun (j : Nat) =>
 Prod.snd
 (Prod.snd
 (Prod.snd
 (S.at'
 (S.stepsT nl (fun (j : Nat) => tl (j + al)) fun (j : Nat) => vl (j + al))
 j))))))))))) ≤
 List.length
 (Prod.snd
 (Prod.snd
 (Prod.snd
 (Prod.snd
 (Prod.snd
 (Prod.snd
 (Prod.snd
 (S.runR ((1 : Int) + Int.tmod c0 (10 : Int)) (Int.tmod c1 (11 : Int))
 (List.length (S.stepsT nl (fun (j : Nat) => tl (j + al)) fun (j : Nat) => vl (j + al)))
 (fun (j : Nat) =>
 Prod.fst
 (S.at' (S.stepsT nl (fun (j : Nat) => tl (j + al)) fun (j : Nat) => vl (j + al))
 j))
 (fun (j : Nat) =>
 Prod.fst
 (Prod.snd
 (S.at'
 (S.stepsT nl (fun (j : Nat) => tl (j + al)) fun (j : Nat) => vl (j + al)) j)))
 (fun (j : Nat) =>
 Prod.fst
 (Prod.snd
 (Prod.snd
 (S.at'
 (S.stepsT nl (fun (j : Nat) => tl (j + al)) fun (j : Nat) => vl (j + al)) j))))
 fun (j : Nat) =>
 Prod.snd
 (Prod.snd
 (Prod.snd
 (S.at'
 (S.stepsT nl (fun (j : Nat) => tl (j + al)) fun (j : Nat) => vl (j + al))
 j))))))))))) ∧
 List.length
 (Prod.snd
 (Prod.snd
 (Prod.snd
 (Prod.snd
 (Prod.snd
 (Prod.snd
 (Prod.snd
 (S.runR ((1 : Int) + Int.tmod c0 (10 : Int)) (Int.tmod c1 (11 : Int))
 (List.length (S.stepsT nl (fun (j : Nat) => tl (j + al)) fun (j : Nat) => vl (j + al)))
 (fun (j : Nat) =>
 Prod.fst
 (S.at' (S.stepsT nl (fun (j : Nat) => tl (j + al)) fun (j : Nat) => vl (j + al))
 j))
 (fun (j : Nat) =>
 Prod.fst
 (Prod.snd
 (S.at'
 (S.stepsT nl (fun (j : Nat) => tl (j + al)) fun (j : Nat) => vl (j + al)) j)))
 (fun (j : Nat) =>
 Prod.fst
 (Prod.snd
 (Prod.snd
 (S.at'
 (S.stepsT nl (fun (j : Nat) => tl (j + al)) fun (j : Nat) => vl (j + al)) j))))
 fun (j : Nat) =>
 Prod.snd
 (Prod.snd
 (Prod.snd
 (S.at'
 (S.stepsT nl (fun (j : Nat) => tl (j + al)) fun (j : Nat) => vl (j + al))
 j))))))))))) ≤
 1000000))
 then (bif (Prod.fst
 (Prod.snd
 (Prod.snd
 (Prod.snd
 (Prod.snd
 (Prod.snd
 (Prod.snd
 (S.runR ((1 : Int) + Int.tmod c0 (10 : Int)) (Int.tmod c1 (11 : Int))
 (List.length (S.stepsT nl (fun (j : Nat) => tl (j + al)) fun (j : Nat) => vl (j + al)))
 (fun (j : Nat) =>
 Prod.fst
 (S.at' (S.stepsT nl (fun (j : Nat) => tl (j + al)) fun (j : Nat) => vl (j + al)) j))
 (fun (j : Nat) =>
 Prod.fst
 (Prod.snd
 (S.at' (S.stepsT nl (fun (j : Nat) => tl (j + al)) fun (j : Nat) => vl (j + al))
 j)))
 (fun (j : Nat) =>
 Prod.fst
 (Prod.snd
 (Prod.snd
 (S.at' (S.stepsT nl (fun (j : Nat) => tl (j + al)) fun (j : Nat) => vl (j + al))
 j))))
 fun (j : Nat) =>
 Prod.snd
 (Prod.snd
 (Prod.snd
 (S.at' (S.stepsT nl (fun (j : Nat) => tl (j + al)) fun (j : Nat) => vl (j + al))
 j)))))))))) !=
 (0 : Int))
 then (some (.inr (false)))
 else (bif ((S.newS ((1 : Int) + Int.tmod c0 (10 : Int)) (Int.tmod c1 (11 : Int))).2.2.2 != (0 : Int))
 then (some (.inr (false)))
 else (bif (S.vB
 (Prod.fst
 (S.runR ((1 : Int) + Int.tmod c0 (10 : Int)) (Int.tmod c1 (11 : Int))
 (List.length (S.stepsT nl (fun (j : Nat) => tl (j + al)) fun (j : Nat) => vl (j + al)))
 (fun (j : Nat) =>
 (S.at' (S.stepsT nl (fun (j : Nat) => tl (j + al)) fun (j : Nat) => vl (j + al)) j).1)
 (fun (j : Nat) =>
 Prod.fst
 ((S.at' (S.stepsT nl (fun (j : Nat) => tl (j + al)) fun (j : Nat) => vl (j + al)) j).2))
 (fun (j : Nat) =>
 Prod.fst
 (Prod.snd
 (Prod.snd
 (S.at' (S.stepsT nl (fun (j : Nat) => tl (j + al)) fun (j : Nat) => vl (j + al)) j))))
 fun (j : Nat) =>
 Prod.snd
 (Prod.snd
 (Prod.snd
 (S.at' (S.stepsT nl (fun (j : Nat) => tl (j + al)) fun (j : Nat) => vl (j + al)) j)))))
 (Prod.fst
 (Prod.snd
 (S.runR ((1 : Int) + Int.tmod c0 (10 : Int)) (Int.tmod c1 (11 : Int))
 (List.length (S.stepsT nl (fun (j : Nat) => tl (j + al)) fun (j : Nat) => vl (j + al)))
 (fun (j : Nat) =>
 (S.at' (S.stepsT nl (fun (j : Nat) => tl (j + al)) fun (j : Nat) => vl (j + al)) j).1)
 (fun (j : Nat) =>
 Prod.fst
 (Prod.snd
 (S.at' (S.stepsT nl (fun (j : Nat) => tl (j + al)) fun (j : Nat) => vl (j + al)) j)))
 (fun (j : Nat) =>
 Prod.fst
 (Prod.snd
 (Prod.snd
 (S.at' (S.stepsT nl (fun (j : Nat) => tl (j + al)) fun (j : Nat) => vl (j + al)) j))))
 fun (j : Nat) =>
 Prod.snd
 (Prod.snd
 (Prod.snd
 (S.at' (S.stepsT nl (fun (j : Nat) => tl (j + al)) fun (j : Nat) => vl (j + al)) j))))))
 (List.length
 (Prod.snd
 (Prod.snd
 (Prod.snd
 (Prod.snd
 (Prod.snd
 (Prod.snd
 (Prod.snd
 (S.runR ((1 : Int) + Int.tmod c0 (10 : Int)) (Int.tmod c1 (11 : Int))
 (List.length (S.stepsT nl (fun (j : Nat) => tl (j + al)) fun (j : Nat) => vl (j + al)))
 (fun (j : Nat) =>
 Prod.fst
 (S.at' (S.stepsT nl (fun (j : Nat) => tl (j + al)) fun (j : Nat) => vl (j + al))
 j))
 (fun (j : Nat) =>
 Prod.fst
 (Prod.snd
 (S.at' (S.stepsT nl (fun (j : Nat) => tl (j + al)) fun (j : Nat) => vl (j + al))
 j)))
 (fun (j : Nat) =>
 Prod.fst
 (Prod.snd
 (Prod.snd
 (S.at'
 (S.stepsT nl (fun (j : Nat) => tl (j + al)) fun (j : Nat) => vl (j + al)) j))))
 fun (j : Nat) =>
 Prod.snd
 (Prod.snd
 (Prod.snd
 (S.at' (S.stepsT nl (fun (j : Nat) => tl (j + al)) fun (j : Nat) => vl (j + al))
 j))))))))))))
 (fun (j : Nat) =>
 Prod.fst
 (S.at'
 (Prod.snd
 (Prod.snd
 (Prod.snd
 (Prod.snd
 (Prod.snd
 (Prod.snd
 (Prod.snd
 (S.runR ((1 : Int) + Int.tmod c0 (10 : Int)) (Int.tmod c1 (11 : Int))
 (List.length (S.stepsT nl (fun (j : Nat) => tl (j + al)) fun (j : Nat) => vl (j + al)))
 (fun (j : Nat) =>
 Prod.fst
 (S.at'
 (S.stepsT nl (fun (j : Nat) => tl (j + al)) fun (j : Nat) => vl (j + al)) j))
 (fun (j : Nat) =>
 Prod.fst
 (Prod.snd
 (S.at'
 (S.stepsT nl (fun (j : Nat) => tl (j + al)) fun (j : Nat) => vl (j + al)) j)))
 (fun (j : Nat) =>
 Prod.fst
 (Prod.snd
 (Prod.snd
 (S.at'
 (S.stepsT nl (fun (j : Nat) => tl (j + al)) fun (j : Nat) => vl (j + al))
 j))))
 fun (j : Nat) =>
 Prod.snd
 (Prod.snd
 (Prod.snd
 (S.at'
 (S.stepsT nl (fun (j : Nat) => tl (j + al)) fun (j : Nat) => vl (j + al))
 j)))))))))))
 j))
 (fun (j : Nat) =>
 Prod.fst
 (Prod.snd
 (S.at'
 (Prod.snd
 (Prod.snd
 (Prod.snd
 (Prod.snd
 (Prod.snd
 (Prod.snd
 (Prod.snd
 (S.runR ((1 : Int) + Int.tmod c0 (10 : Int)) (Int.tmod c1 (11 : Int))
 (List.length
 (S.stepsT nl (fun (j : Nat) => tl (j + al)) fun (j : Nat) => vl (j + al)))
 (fun (j : Nat) =>
 Prod.fst
 (S.at'
 (S.stepsT nl (fun (j : Nat) => tl (j + al)) fun (j : Nat) => vl (j + al)) j))
 (fun (j : Nat) =>
 Prod.fst
 (Prod.snd
 (S.at'
 (S.stepsT nl (fun (j : Nat) => tl (j + al)) fun (j : Nat) => vl (j + al)) j)))
 (fun (j : Nat) =>
 Prod.fst
 (Prod.snd
 (Prod.snd
 (S.at'
 (S.stepsT nl (fun (j : Nat) => tl (j + al)) fun (j : Nat) => vl (j + al))
 j))))
 fun (j : Nat) =>
 Prod.snd
 (Prod.snd
 (Prod.snd
 (S.at'
 (S.stepsT nl (fun (j : Nat) => tl (j + al)) fun (j : Nat) => vl (j + al))
 j)))))))))))
 j)))
 (Prod.fst
 (Prod.snd
 (Prod.snd
 (S.runR ((1 : Int) + Int.tmod c0 (10 : Int)) (Int.tmod c1 (11 : Int))
 (List.length (S.stepsT nl (fun (j : Nat) => tl (j + al)) fun (j : Nat) => vl (j + al)))
 (fun (j : Nat) =>
 (S.at' (S.stepsT nl (fun (j : Nat) => tl (j + al)) fun (j : Nat) => vl (j + al)) j).1)
 (fun (j : Nat) =>
 Prod.fst
 (Prod.snd
 (S.at' (S.stepsT nl (fun (j : Nat) => tl (j + al)) fun (j : Nat) => vl (j + al)) j)))
 (fun (j : Nat) =>
 Prod.fst
 (Prod.snd
 (Prod.snd
 (S.at' (S.stepsT nl (fun (j : Nat) => tl (j + al)) fun (j : Nat) => vl (j + al)) j))))
 fun (j : Nat) =>
 Prod.snd
 (Prod.snd
 (Prod.snd
 (S.at' (S.stepsT nl (fun (j : Nat) => tl (j + al)) fun (j : Nat) => vl (j + al)) j)))))))
 (Prod.fst
 (Prod.snd
 (Prod.snd
 (Prod.snd
 (S.runR ((1 : Int) + Int.tmod c0 (10 : Int)) (Int.tmod c1 (11 : Int))
 (List.length (S.stepsT nl (fun (j : Nat) => tl (j + al)) fun (j : Nat) => vl (j + al)))
 (fun (j : Nat) =>
 Prod.fst
 (S.at' (S.stepsT nl (fun (j : Nat) => tl (j + al)) fun (j : Nat) => vl (j + al)) j))
 (fun (j : Nat) =>
 Prod.fst
 (Prod.snd
 (S.at' (S.stepsT nl (fun (j : Nat) => tl (j + al)) fun (j : Nat) => vl (j + al)) j)))
 (fun (j : Nat) =>
 Prod.fst
 (Prod.snd
 (Prod.snd
 (S.at' (S.stepsT nl (fun (j : Nat) => tl (j + al)) fun (j : Nat) => vl (j + al)) j))))
 fun (j : Nat) =>
 Prod.snd
 (Prod.snd
 (Prod.snd
 (S.at' (S.stepsT nl (fun (j : Nat) => tl (j + al)) fun (j : Nat) => vl (j + al))
 j))))))))
 (Prod.fst
 (Prod.snd
 (Prod.snd
 (Prod.snd
 (Prod.snd
 (S.runR ((1 : Int) + Int.tmod c0 (10 : Int)) (Int.tmod c1 (11 : Int))
 (List.length (S.stepsT nl (fun (j : Nat) => tl (j + al)) fun (j : Nat) => vl (j + al)))
 (fun (j : Nat) =>
 Prod.fst
 (S.at' (S.stepsT nl (fun (j : Nat) => tl (j + al)) fun (j : Nat) => vl (j + al)) j))
 (fun (j : Nat) =>
 Prod.fst
 (Prod.snd
 (S.at' (S.stepsT nl (fun (j : Nat) => tl (j + al)) fun (j : Nat) => vl (j + al)) j)))
 (fun (j : Nat) =>
 Prod.fst
 (Prod.snd
 (Prod.snd
 (S.at' (S.stepsT nl (fun (j : Nat) => tl (j + al)) fun (j : Nat) => vl (j + al))
 j))))
 fun (j : Nat) =>
 Prod.snd
 (Prod.snd
 (Prod.snd
 (S.at' (S.stepsT nl (fun (j : Nat) => tl (j + al)) fun (j : Nat) => vl (j + al))
 j))))))))) !=
 (0 : Int))
 then (some (.inr (false)))
 else (bif (Prod.fst
 (Prod.snd
 (Prod.snd
 (Prod.snd
 (Prod.snd
 (S.runR ((1 : Int) + Int.tmod c0 (10 : Int)) (Int.tmod c1 (11 : Int))
 (List.length (S.stepsT nl (fun (j : Nat) => tl (j + al)) fun (j : Nat) => vl (j + al)))
 (fun (j : Nat) =>
 (S.at' (S.stepsT nl (fun (j : Nat) => tl (j + al)) fun (j : Nat) => vl (j + al)) j).1)
 (fun (j : Nat) =>
 Prod.fst
 (Prod.snd
 (S.at' (S.stepsT nl (fun (j : Nat) => tl (j + al)) fun (j : Nat) => vl (j + al)) j)))
 (fun (j : Nat) =>
 Prod.fst
 (Prod.snd
 (Prod.snd
 (S.at' (S.stepsT nl (fun (j : Nat) => tl (j + al)) fun (j : Nat) => vl (j + al)) j))))
 fun (j : Nat) =>
 Prod.snd
 (Prod.snd
 (Prod.snd
 (S.at' (S.stepsT nl (fun (j : Nat) => tl (j + al)) fun (j : Nat) => vl (j + al)) j)))))))))
 then (bif (Prod.snd
 (Prod.snd
 (Prod.snd
 (S.reaS
 (Prod.fst
 (S.runR ((1 : Int) + Int.tmod c0 (10 : Int)) (Int.tmod c1 (11 : Int))
 (List.length (S.stepsT nl (fun (j : Nat) => tl (j + al)) fun (j : Nat) => vl (j + al)))
 (fun (j : Nat) =>
 Prod.fst
 (S.at' (S.stepsT nl (fun (j : Nat) => tl (j + al)) fun (j : Nat) => vl (j + al)) j))
 (fun (j : Nat) =>
 Prod.fst
 (Prod.snd
 (S.at' (S.stepsT nl (fun (j : Nat) => tl (j + al)) fun (j : Nat) => vl (j + al)) j)))
 (fun (j : Nat) =>
 Prod.fst
 (Prod.snd
 (Prod.snd
 (S.at' (S.stepsT nl (fun (j : Nat) => tl (j + al)) fun (j : Nat) => vl (j + al)) j))))
 fun (j : Nat) =>
 Prod.snd
 (Prod.snd
 (Prod.snd
 (S.at' (S.stepsT nl (fun (j : Nat) => tl (j + al)) fun (j : Nat) => vl (j + al)) j)))))
 (Prod.fst
 (Prod.snd
 (S.runR ((1 : Int) + Int.tmod c0 (10 : Int)) (Int.tmod c1 (11 : Int))
 (List.length (S.stepsT nl (fun (j : Nat) => tl (j + al)) fun (j : Nat) => vl (j + al)))
 (fun (j : Nat) =>
 Prod.fst
 (S.at' (S.stepsT nl (fun (j : Nat) => tl (j + al)) fun (j : Nat) => vl (j + al)) j))
 (fun (j : Nat) =>
 Prod.fst
 (Prod.snd
 (S.at' (S.stepsT nl (fun (j : Nat) => tl (j + al)) fun (j : Nat) => vl (j + al)) j)))
 (fun (j : Nat) =>
 Prod.fst
 (Prod.snd
 (Prod.snd
 (S.at' (S.stepsT nl (fun (j : Nat) => tl (j + al)) fun (j : Nat) => vl (j + al))
 j))))
 fun (j : Nat) =>
 Prod.snd
 (Prod.snd
 (Prod.snd
 (S.at' (S.stepsT nl (fun (j : Nat) => tl (j + al)) fun (j : Nat) => vl (j + al))
 j))))))
 (List.length
 (Prod.snd
 (Prod.snd
 (Prod.snd
 (Prod.snd
 (Prod.snd
 (Prod.snd
 (Prod.snd
 (S.runR ((1 : Int) + Int.tmod c0 (10 : Int)) (Int.tmod c1 (11 : Int))
 (List.length
 (S.stepsT nl (fun (j : Nat) => tl (j + al)) fun (j : Nat) => vl (j + al)))
 (fun (j : Nat) =>
 Prod.fst
 (S.at'
 (S.stepsT nl (fun (j : Nat) => tl (j + al)) fun (j : Nat) => vl (j + al)) j))
 (fun (j : Nat) =>
 Prod.fst
 (Prod.snd
 (S.at'
 (S.stepsT nl (fun (j : Nat) => tl (j + al)) fun (j : Nat) => vl (j + al)) j)))
 (fun (j : Nat) =>
 Prod.fst
 (Prod.snd
 (Prod.snd
 (S.at'
 (S.stepsT nl (fun (j : Nat) => tl (j + al)) fun (j : Nat) => vl (j + al))
 j))))
 fun (j : Nat) =>
 Prod.snd
 (Prod.snd
 (Prod.snd
 (S.at'
 (S.stepsT nl (fun (j : Nat) => tl (j + al)) fun (j : Nat) => vl (j + al))
 j))))))))))))
 (fun (j : Nat) =>
 Prod.fst
 (S.at'
 (Prod.snd
 (Prod.snd
 (Prod.snd
 (Prod.snd
 (Prod.snd
 (Prod.snd
 (Prod.snd
 (S.runR ((1 : Int) + Int.tmod c0 (10 : Int)) (Int.tmod c1 (11 : Int))
 (List.length
 (S.stepsT nl (fun (j : Nat) => tl (j + al)) fun (j : Nat) => vl (j + al)))
 (fun (j : Nat) =>
 Prod.fst
 (S.at'
 (S.stepsT nl (fun (j : Nat) => tl (j + al)) fun (j : Nat) => vl (j + al))
 j))
 (fun (j : Nat) =>
 Prod.fst
 (Prod.snd
 (S.at'
 (S.stepsT nl (fun (j : Nat) => tl (j + al)) fun (j : Nat) => vl (j + al))
 j)))
 (fun (j : Nat) =>
 Prod.fst
 (Prod.snd
 (Prod.snd
 (S.at'
 (S.stepsT nl (fun (j : Nat) => tl (j + al)) fun (j : Nat) =>
 vl (j + al))
 j))))
 fun (j : Nat) =>
 Prod.snd
 (Prod.snd
 (Prod.snd
 (S.at'
 (S.stepsT nl (fun (j : Nat) => tl (j + al)) fun (j : Nat) => vl (j + al))
 j)))))))))))
 j))
 (fun (j : Nat) =>
 Prod.fst
 (Prod.snd
 (S.at'
 (Prod.snd
 (Prod.snd
 (Prod.snd
 (Prod.snd
 (Prod.snd
 (Prod.snd
 (Prod.snd
 (S.runR ((1 : Int) + Int.tmod c0 (10 : Int)) (Int.tmod c1 (11 : Int))
 (List.length
 (S.stepsT nl (fun (j : Nat) => tl (j + al)) fun (j : Nat) => vl (j + al)))
 (fun (j : Nat) =>
 Prod.fst
 (S.at'
 (S.stepsT nl (fun (j : Nat) => tl (j + al)) fun (j : Nat) => vl (j + al))
 j))
 (fun (j : Nat) =>
 Prod.fst
 (Prod.snd
 (S.at'
 (S.stepsT nl (fun (j : Nat) => tl (j + al)) fun (j : Nat) =>
 vl (j + al))
 j)))
 (fun (j : Nat) =>
 Prod.fst
 (Prod.snd
 (Prod.snd
 (S.at'
 (S.stepsT nl (fun (j : Nat) => tl (j + al)) fun (j : Nat) =>
 vl (j + al))
 j))))
 fun (j : Nat) =>
 Prod.snd
 (Prod.snd
 (Prod.snd
 (S.at'
 (S.stepsT nl (fun (j : Nat) => tl (j + al)) fun (j : Nat) =>
 vl (j + al))
 j)))))))))))
 j)))
 (Prod.fst
 (Prod.snd
 (Prod.snd
 (S.runR ((1 : Int) + Int.tmod c0 (10 : Int)) (Int.tmod c1 (11 : Int))
 (List.length (S.stepsT nl (fun (j : Nat) => tl (j + al)) fun (j : Nat) => vl (j + al)))
 (fun (j : Nat) =>
 Prod.fst
 (S.at' (S.stepsT nl (fun (j : Nat) => tl (j + al)) fun (j : Nat) => vl (j + al)) j))
 (fun (j : Nat) =>
 Prod.fst
 (Prod.snd
 (S.at' (S.stepsT nl (fun (j : Nat) => tl (j + al)) fun (j : Nat) => vl (j + al))
 j)))
 (fun (j : Nat) =>
 Prod.fst
 (Prod.snd
 (Prod.snd
 (S.at' (S.stepsT nl (fun (j : Nat) => tl (j + al)) fun (j : Nat) => vl (j + al))
 j))))
 fun (j : Nat) =>
 Prod.snd
 (Prod.snd
 (Prod.snd
 (S.at' (S.stepsT nl (fun (j : Nat) => tl (j + al)) fun (j : Nat) => vl (j + al))
 j)))))))
 (Prod.fst
 (Prod.snd
 (Prod.snd
 (Prod.snd
 (S.runR ((1 : Int) + Int.tmod c0 (10 : Int)) (Int.tmod c1 (11 : Int))
 (List.length (S.stepsT nl (fun (j : Nat) => tl (j + al)) fun (j : Nat) => vl (j + al)))
 (fun (j : Nat) =>
 Prod.fst
 (S.at' (S.stepsT nl (fun (j : Nat) => tl (j + al)) fun (j : Nat) => vl (j + al)) j))
 (fun (j : Nat) =>
 Prod.fst
 (Prod.snd
 (S.at' (S.stepsT nl (fun (j : Nat) => tl (j + al)) fun (j : Nat) => vl (j + al))
 j)))
 (fun (j : Nat) =>
 Prod.fst
 (Prod.snd
 (Prod.snd
 (S.at' (S.stepsT nl (fun (j : Nat) => tl (j + al)) fun (j : Nat) => vl (j + al))
 j))))
 fun (j : Nat) =>
 Prod.snd
 (Prod.snd
 (Prod.snd
 (S.at' (S.stepsT nl (fun (j : Nat) => tl (j + al)) fun (j : Nat) => vl (j + al))
 j))))))))
 (Prod.fst
 (Prod.snd
 (Prod.snd
 (Prod.snd
 (Prod.snd
 (S.runR ((1 : Int) + Int.tmod c0 (10 : Int)) (Int.tmod c1 (11 : Int))
 (List.length (S.stepsT nl (fun (j : Nat) => tl (j + al)) fun (j : Nat) => vl (j + al)))
 (fun (j : Nat) =>
 Prod.fst
 (S.at' (S.stepsT nl (fun (j : Nat) => tl (j + al)) fun (j : Nat) => vl (j + al))
 j))
 (fun (j : Nat) =>
 Prod.fst
 (Prod.snd
 (S.at' (S.stepsT nl (fun (j : Nat) => tl (j + al)) fun (j : Nat) => vl (j + al))
 j)))
 (fun (j : Nat) =>
 Prod.fst
 (Prod.snd
 (Prod.snd
 (S.at'
 (S.stepsT nl (fun (j : Nat) => tl (j + al)) fun (j : Nat) => vl (j + al)) j))))
 fun (j : Nat) =>
 Prod.snd
 (Prod.snd
 (Prod.snd
 (S.at' (S.stepsT nl (fun (j : Nat) => tl (j + al)) fun (j : Nat) => vl (j + al))
 j)))))))))))) ==
 (0 : Int))
 then (bif (decide
 (0 ≤ 0 ∧ 0 ≤ 1000000 ∧ 0 ≤ 0 ∧ 0 ≤ 1000000))
 then (bif (decide
 (Prod.fst
 (S.reaS
 (Prod.fst
 (S.runR ((1 : Int) + Int.tmod c0 (10 : Int)) (Int.tmod c1 (11 : Int))
 (List.length (S.stepsT nl (fun (j : Nat) => tl (j + al)) fun (j : Nat) => vl (j + al)))
 (fun (j : Nat) =>
 Prod.fst
 (S.at' (S.stepsT nl (fun (j : Nat) => tl (j + al)) fun (j : Nat) => vl (j + al)) j))
 (fun (j : Nat) =>
 Prod.fst
 (Prod.snd
 (S.at' (S.stepsT nl (fun (j : Nat) => tl (j + al)) fun (j : Nat) => vl (j + al)) j)))
 (fun (j : Nat) =>
 Prod.fst
 (Prod.snd
 (Prod.snd
 (S.at' (S.stepsT nl (fun (j : Nat) => tl (j + al)) fun (j : Nat) => vl (j + al)) j))))
 fun (j : Nat) =>
 Prod.snd
 (Prod.snd
 (Prod.snd
 (S.at' (S.stepsT nl (fun (j : Nat) => tl (j + al)) fun (j : Nat) => vl (j + al)) j)))))
 (Prod.fst
 (Prod.snd
 (S.runR ((1 : Int) + Int.tmod c0 (10 : Int)) (Int.tmod c1 (11 : Int))
 (List.length (S.stepsT nl (fun (j : Nat) => tl (j + al)) fun (j : Nat) => vl (j + al)))
 (fun (j : Nat) =>
 Prod.fst
 (S.at' (S.stepsT nl (fun (j : Nat) => tl (j + al)) fun (j : Nat) => vl (j + al)) j))
 (fun (j : Nat) =>
 Prod.fst
 (Prod.snd
 (S.at' (S.stepsT nl (fun (j : Nat) => tl (j + al)) fun (j : Nat) => vl (j + al)) j)))
 (fun (j : Nat) =>
 Prod.fst
 (Prod.snd
 (Prod.snd
 (S.at' (S.stepsT nl (fun (j : Nat) => tl (j + al)) fun (j : Nat) => vl (j + al))
 j))))
 fun (j : Nat) =>
 Prod.snd
 (Prod.snd
 (Prod.snd
 (S.at' (S.stepsT nl (fun (j : Nat) => tl (j + al)) fun (j : Nat) => vl (j + al))
 j))))))
 (List.length
 (Prod.snd
 (Prod.snd
 (Prod.snd
 (Prod.snd
 (Prod.snd
 (Prod.snd
 (Prod.snd
 (S.runR ((1 : Int) + Int.tmod c0 (10 : Int)) (Int.tmod c1 (11 : Int))
 (List.length
 (S.stepsT nl (fun (j : Nat) => tl (j + al)) fun (j : Nat) => vl (j + al)))
 (fun (j : Nat) =>
 Prod.fst
 (S.at'
 (S.stepsT nl (fun (j : Nat) => tl (j + al)) fun (j : Nat) => vl (j + al)) j))
 (fun (j : Nat) =>
 Prod.fst
 (Prod.snd
 (S.at'
 (S.stepsT nl (fun (j : Nat) => tl (j + al)) fun (j : Nat) => vl (j + al)) j)))
 (fun (j : Nat) =>
 Prod.fst
 (Prod.snd
 (Prod.snd
 (S.at'
 (S.stepsT nl (fun (j : Nat) => tl (j + al)) fun (j : Nat) => vl (j + al))
 j))))
 fun (j : Nat) =>
 Prod.snd
 (Prod.snd
 (Prod.snd
 (S.at'
 (S.stepsT nl (fun (j : Nat) => tl (j + al)) fun (j : Nat) => vl (j + al))
 j))))))))))))
 (fun (j : Nat) =>
 Prod.fst
 (S.at'
 (Prod.snd
 (Prod.snd
 (Prod.snd
 (Prod.snd
 (Prod.snd
 (Prod.snd
 (Prod.snd
 (S.runR ((1 : Int) + Int.tmod c0 (10 : Int)) (Int.tmod c1 (11 : Int))
 (List.length
 (S.stepsT nl (fun (j : Nat) => tl (j + al)) fun (j : Nat) => vl (j + al)))
 (fun (j : Nat) =>
 Prod.fst
 (S.at'
 (S.stepsT nl (fun (j : Nat) => tl (j + al)) fun (j : Nat) => vl (j + al))
 j))
 (fun (j : Nat) =>
 Prod.fst
 (Prod.snd
 (S.at'
 (S.stepsT nl (fun (j : Nat) => tl (j + al)) fun (j : Nat) => vl (j + al))
 j)))
 (fun (j : Nat) =>
 Prod.fst
 (Prod.snd
 (Prod.snd
 (S.at'
 (S.stepsT nl (fun (j : Nat) => tl (j + al)) fun (j : Nat) =>
 vl (j + al))
 j))))
 fun (j : Nat) =>
 Prod.snd
 (Prod.snd
 (Prod.snd
 (S.at'
 (S.stepsT nl (fun (j : Nat) => tl (j + al)) fun (j : Nat) => vl (j + al))
 j)))))))))))
 j))
 (fun (j : Nat) =>
 Prod.fst
 (Prod.snd
 (S.at'
 (Prod.snd
 (Prod.snd
 (Prod.snd
 (Prod.snd
 (Prod.snd
 (Prod.snd
 (Prod.snd
 (S.runR ((1 : Int) + Int.tmod c0 (10 : Int)) (Int.tmod c1 (11 : Int))
 (List.length
 (S.stepsT nl (fun (j : Nat) => tl (j + al)) fun (j : Nat) => vl (j + al)))
 (fun (j : Nat) =>
 Prod.fst
 (S.at'
 (S.stepsT nl (fun (j : Nat) => tl (j + al)) fun (j : Nat) => vl (j + al))
 j))
 (fun (j : Nat) =>
 Prod.fst
 (Prod.snd
 (S.at'
 (S.stepsT nl (fun (j : Nat) => tl (j + al)) fun (j : Nat) =>
 vl (j + al))
 j)))
 (fun (j : Nat) =>
 Prod.fst
 (Prod.snd
 (Prod.snd
 (S.at'
 (S.stepsT nl (fun (j : Nat) => tl (j + al)) fun (j : Nat) =>
 vl (j + al))
 j))))
 fun (j : Nat) =>
 Prod.snd
 (Prod.snd
 (Prod.snd
 (S.at'
 (S.stepsT nl (fun (j : Nat) => tl (j + al)) fun (j : Nat) =>
 vl (j + al))
 j)))))))))))
 j)))
 (Prod.fst
 (Prod.snd
 (Prod.snd
 (S.runR ((1 : Int) + Int.tmod c0 (10 : Int)) (Int.tmod c1 (11 : Int))
 (List.length (S.stepsT nl (fun (j : Nat) => tl (j + al)) fun (j : Nat) => vl (j + al)))
 (fun (j : Nat) =>
 Prod.fst
 (S.at' (S.stepsT nl (fun (j : Nat) => tl (j + al)) fun (j : Nat) => vl (j + al)) j))
 (fun (j : Nat) =>
 Prod.fst
 (Prod.snd
 (S.at' (S.stepsT nl (fun (j : Nat) => tl (j + al)) fun (j : Nat) => vl (j + al))
 j)))
 (fun (j : Nat) =>
 Prod.fst
 (Prod.snd
 (Prod.snd
 (S.at' (S.stepsT nl (fun (j : Nat) => tl (j + al)) fun (j : Nat) => vl (j + al))
 j))))
 fun (j : Nat) =>
 Prod.snd
 (Prod.snd
 (Prod.snd
 (S.at' (S.stepsT nl (fun (j : Nat) => tl (j + al)) fun (j : Nat) => vl (j + al))
 j)))))))
 (Prod.fst
 (Prod.snd
 (Prod.snd
 (Prod.snd
 (S.runR ((1 : Int) + Int.tmod c0 (10 : Int)) (Int.tmod c1 (11 : Int))
 (List.length (S.stepsT nl (fun (j : Nat) => tl (j + al)) fun (j : Nat) => vl (j + al)))
 (fun (j : Nat) =>
 Prod.fst
 (S.at' (S.stepsT nl (fun (j : Nat) => tl (j + al)) fun (j : Nat) => vl (j + al)) j))
 (fun (j : Nat) =>
 Prod.fst
 (Prod.snd
 (S.at' (S.stepsT nl (fun (j : Nat) => tl (j + al)) fun (j : Nat) => vl (j + al))
 j)))
 (fun (j : Nat) =>
 Prod.fst
 (Prod.snd
 (Prod.snd
 (S.at' (S.stepsT nl (fun (j : Nat) => tl (j + al)) fun (j : Nat) => vl (j + al))
 j))))
 fun (j : Nat) =>
 Prod.snd
 (Prod.snd
 (Prod.snd
 (S.at' (S.stepsT nl (fun (j : Nat) => tl (j + al)) fun (j : Nat) => vl (j + al))
 j))))))))
 (Prod.fst
 (Prod.snd
 (Prod.snd
 (Prod.snd
 (Prod.snd
 (S.runR ((1 : Int) + Int.tmod c0 (10 : Int)) (Int.tmod c1 (11 : Int))
 (List.length (S.stepsT nl (fun (j : Nat) => tl (j + al)) fun (j : Nat) => vl (j + al)))
 (fun (j : Nat) =>
 Prod.fst
 (S.at' (S.stepsT nl (fun (j : Nat) => tl (j + al)) fun (j : Nat) => vl (j + al))
 j))
 (fun (j : Nat) =>
 Prod.fst
 (Prod.snd
 (S.at' (S.stepsT nl (fun (j : Nat) => tl (j + al)) fun (j : Nat) => vl (j + al))
 j)))
 (fun (j : Nat) =>
 Prod.fst
 (Prod.snd
 (Prod.snd
 (S.at'
 (S.stepsT nl (fun (j : Nat) => tl (j + al)) fun (j : Nat) => vl (j + al)) j))))
 fun (j : Nat) =>
 Prod.snd
 (Prod.snd
 (Prod.snd
 (S.at' (S.stepsT nl (fun (j : Nat) => tl (j + al)) fun (j : Nat) => vl (j + al))
 j)))))))))) =
 (S.newS ((1 : Int) + Int.tmod c0 (10 : Int)) (Int.tmod c1 (11 : Int))).1 ∧
 Prod.fst
 (Prod.snd
 (S.reaS
 (Prod.fst
 (S.runR ((1 : Int) + Int.tmod c0 (10 : Int)) (Int.tmod c1 (11 : Int))
 (List.length (S.stepsT nl (fun (j : Nat) => tl (j + al)) fun (j : Nat) => vl (j + al)))
 (fun (j : Nat) =>
 Prod.fst
 (S.at' (S.stepsT nl (fun (j : Nat) => tl (j + al)) fun (j : Nat) => vl (j + al)) j))
 (fun (j : Nat) =>
 Prod.fst
 (Prod.snd
 (S.at' (S.stepsT nl (fun (j : Nat) => tl (j + al)) fun (j : Nat) => vl (j + al))
 j)))
 (fun (j : Nat) =>
 Prod.fst
 (Prod.snd
 (Prod.snd
 (S.at' (S.stepsT nl (fun (j : Nat) => tl (j + al)) fun (j : Nat) => vl (j + al))
 j))))
 fun (j : Nat) =>
 Prod.snd
 (Prod.snd
 (Prod.snd
 (S.at' (S.stepsT nl (fun (j : Nat) => tl (j + al)) fun (j : Nat) => vl (j + al))
 j)))))
 (Prod.fst
 (Prod.snd
 (S.runR ((1 : Int) + Int.tmod c0 (10 : Int)) (Int.tmod c1 (11 : Int))
 (List.length (S.stepsT nl (fun (j : Nat) => tl (j + al)) fun (j : Nat) => vl (j + al)))
 (fun (j : Nat) =>
 Prod.fst
 (S.at' (S.stepsT nl (fun (j : Nat) => tl (j + al)) fun (j : Nat) => vl (j + al)) j))
 (fun (j : Nat) =>
 Prod.fst
 (Prod.snd
 (S.at' (S.stepsT nl (fun (j : Nat) => tl (j + al)) fun (j : Nat) => vl (j + al))
 j)))
 (fun (j : Nat) =>
 Prod.fst
 (Prod.snd
 (Prod.snd
 (S.at' (S.stepsT nl (fun (j : Nat) => tl (j + al)) fun (j : Nat) => vl (j + al))
 j))))
 fun (j : Nat) =>
 Prod.snd
 (Prod.snd
 (Prod.snd
 (S.at' (S.stepsT nl (fun (j : Nat) => tl (j + al)) fun (j : Nat) => vl (j + al))
 j))))))
 (List.length
 (Prod.snd
 (Prod.snd
 (Prod.snd
 (Prod.snd
 (Prod.snd
 (Prod.snd
 (Prod.snd
 (S.runR ((1 : Int) + Int.tmod c0 (10 : Int)) (Int.tmod c1 (11 : Int))
 (List.length
 (S.stepsT nl (fun (j : Nat) => tl (j + al)) fun (j : Nat) => vl (j + al)))
 (fun (j : Nat) =>
 Prod.fst
 (S.at'
 (S.stepsT nl (fun (j : Nat) => tl (j + al)) fun (j : Nat) => vl (j + al))
 j))
 (fun (j : Nat) =>
 Prod.fst
 (Prod.snd
 (S.at'
 (S.stepsT nl (fun (j : Nat) => tl (j + al)) fun (j : Nat) => vl (j + al))
 j)))
 (fun (j : Nat) =>
 Prod.fst
 (Prod.snd
 (Prod.snd
 (S.at'
 (S.stepsT nl (fun (j : Nat) => tl (j + al)) fun (j : Nat) =>
 vl (j + al))
 j))))
 fun (j : Nat) =>
 Prod.snd
 (Prod.snd
 (Prod.snd
 (S.at'
 (S.stepsT nl (fun (j : Nat) => tl (j + al)) fun (j : Nat) => vl (j + al))
 j))))))))))))
 (fun (j : Nat) =>
 Prod.fst
 (S.at'
 (Prod.snd
 (Prod.snd
 (Prod.snd
 (Prod.snd
 (Prod.snd
 (Prod.snd
 (Prod.snd
 (S.runR ((1 : Int) + Int.tmod c0 (10 : Int)) (Int.tmod c1 (11 : Int))
 (List.length
 (S.stepsT nl (fun (j : Nat) => tl (j + al)) fun (j : Nat) => vl (j + al)))
 (fun (j : Nat) =>
 Prod.fst
 (S.at'
 (S.stepsT nl (fun (j : Nat) => tl (j + al)) fun (j : Nat) =>
 vl (j + al))
 j))
 (fun (j : Nat) =>
 Prod.fst
 (Prod.snd
 (S.at'
 (S.stepsT nl (fun (j : Nat) => tl (j + al)) fun (j : Nat) =>
 vl (j + al))
 j)))
 (fun (j : Nat) =>
 Prod.fst
 (Prod.snd
 (Prod.snd
 (S.at'
 (S.stepsT nl (fun (j : Nat) => tl (j + al)) fun (j : Nat) =>
 vl (j + al))
 j))))
 fun (j : Nat) =>
 Prod.snd
 (Prod.snd
 (Prod.snd
 (S.at'
 (S.stepsT nl (fun (j : Nat) => tl (j + al)) fun (j : Nat) =>
 vl (j + al))
 j)))))))))))
 j))
 (fun (j : Nat) =>
 Prod.fst
 (Prod.snd
 (S.at'
 (Prod.snd
 (Prod.snd
 (Prod.snd
 (Prod.snd
 (Prod.snd
 (Prod.snd
 (Prod.snd
 (S.runR ((1 : Int) + Int.tmod c0 (10 : Int)) (Int.tmod c1 (11 : Int))
 (List.length
 (S.stepsT nl (fun (j : Nat) => tl (j + al)) fun (j : Nat) => vl (j + al)))
 (fun (j : Nat) =>
 Prod.fst
 (S.at'
 (S.stepsT nl (fun (j : Nat) => tl (j + al)) fun (j : Nat) =>
 vl (j + al))
 j))
 (fun (j : Nat) =>
 Prod.fst
 (Prod.snd
 (S.at'
 (S.stepsT nl (fun (j : Nat) => tl (j + al)) fun (j : Nat) =>
 vl (j + al))
 j)))
 (fun (j : Nat) =>
 Prod.fst
 (Prod.snd
 (Prod.snd
 (S.at'
 (S.stepsT nl (fun (j : Nat) => tl (j + al)) fun (j : Nat) =>
 vl (j + al))
 j))))
 fun (j : Nat) =>
 Prod.snd
 (Prod.snd
 (Prod.snd
 (S.at'
 (S.stepsT nl (fun (j : Nat) => tl (j + al)) fun (j : Nat) =>
 vl (j + al))
 j)))))))))))
 j)))
 (Prod.fst
 (Prod.snd
 (Prod.snd
 (S.runR ((1 : Int) + Int.tmod c0 (10 : Int)) (Int.tmod c1 (11 : Int))
 (List.length (S.stepsT nl (fun (j : Nat) => tl (j + al)) fun (j : Nat) => vl (j + al)))
 (fun (j : Nat) =>
 Prod.fst
 (S.at' (S.stepsT nl (fun (j : Nat) => tl (j + al)) fun (j : Nat) => vl (j + al))
 j))
 (fun (j : Nat) =>
 Prod.fst
 (Prod.snd
 (S.at' (S.stepsT nl (fun (j : Nat) => tl (j + al)) fun (j : Nat) => vl (j + al))
 j)))
 (fun (j : Nat) =>
 Prod.fst
 (Prod.snd
 (Prod.snd
 (S.at'
 (S.stepsT nl (fun (j : Nat) => tl (j + al)) fun (j : Nat) => vl (j + al)) j))))
 fun (j : Nat) =>
 Prod.snd
 (Prod.snd
 (Prod.snd
 (S.at' (S.stepsT nl (fun (j : Nat) => tl (j + al)) fun (j : Nat) => vl (j + al))
 j)))))))
 (Prod.fst
 (Prod.snd
 (Prod.snd
 (Prod.snd
 (S.runR ((1 : Int) + Int.tmod c0 (10 : Int)) (Int.tmod c1 (11 : Int))
 (List.length (S.stepsT nl (fun (j : Nat) => tl (j + al)) fun (j : Nat) => vl (j + al)))
 (fun (j : Nat) =>
 Prod.fst
 (S.at' (S.stepsT nl (fun (j : Nat) => tl (j + al)) fun (j : Nat) => vl (j + al))
 j))
 (fun (j : Nat) =>
 Prod.fst
 (Prod.snd
 (S.at'
 (S.stepsT nl (fun (j : Nat) => tl (j + al)) fun (j : Nat) => vl (j + al)) j)))
 (fun (j : Nat) =>
 Prod.fst
 (Prod.snd
 (Prod.snd
 (S.at'
 (S.stepsT nl (fun (j : Nat) => tl (j + al)) fun (j : Nat) => vl (j + al)) j))))
 fun (j : Nat) =>
 Prod.snd
 (Prod.snd
 (Prod.snd
 (S.at'
 (S.stepsT nl (fun (j : Nat) => tl (j + al)) fun (j : Nat) => vl (j + al))
 j))))))))
 (Prod.fst
 (Prod.snd
 (Prod.snd
 (Prod.snd
 (Prod.snd
 (S.runR ((1 : Int) + Int.tmod c0 (10 : Int)) (Int.tmod c1 (11 : Int))
 (List.length (S.stepsT nl (fun (j : Nat) => tl (j + al)) fun (j : Nat) => vl (j + al)))
 (fun (j : Nat) =>
 Prod.fst
 (S.at'
 (S.stepsT nl (fun (j : Nat) => tl (j + al)) fun (j : Nat) => vl (j + al)) j))
 (fun (j : Nat) =>
 Prod.fst
 (Prod.snd
 (S.at'
 (S.stepsT nl (fun (j : Nat) => tl (j + al)) fun (j : Nat) => vl (j + al)) j)))
 (fun (j : Nat) =>
 Prod.fst
 (Prod.snd
 (Prod.snd
 (S.at'
 (S.stepsT nl (fun (j : Nat) => tl (j + al)) fun (j : Nat) => vl (j + al))
 j))))
 fun (j : Nat) =>
 Prod.snd
 (Prod.snd
 (Prod.snd
 (S.at'
 (S.stepsT nl (fun (j : Nat) => tl (j + al)) fun (j : Nat) => vl (j + al))
 j))))))))))) =
 (S.newS ((1 : Int) + Int.tmod c0 (10 : Int)) (Int.tmod c1 (11 : Int))).2.1 ∧
 (0 : Int) = (0 : Int) ∧
 Prod.fst
 (Prod.snd
 (Prod.snd
 (S.reaS
 (Prod.fst
 (S.runR ((1 : Int) + Int.tmod c0 (10 : Int)) (Int.tmod c1 (11 : Int))
 (List.length (S.stepsT nl (fun (j : Nat) => tl (j + al)) fun (j : Nat) => vl (j + al)))
 (fun (j : Nat) =>
 Prod.fst
 (S.at' (S.stepsT nl (fun (j : Nat) => tl (j + al)) fun (j : Nat) => vl (j + al))
 j))
 (fun (j : Nat) =>
 Prod.fst
 (Prod.snd
 (S.at'
 (S.stepsT nl (fun (j : Nat) => tl (j + al)) fun (j : Nat) => vl (j + al)) j)))
 (fun (j : Nat) =>
 Prod.fst
 (Prod.snd
 (Prod.snd
 (S.at'
 (S.stepsT nl (fun (j : Nat) => tl (j + al)) fun (j : Nat) => vl (j + al)) j))))
 fun (j : Nat) =>
 Prod.snd
 (Prod.snd
 (Prod.snd
 (S.at'
 (S.stepsT nl (fun (j : Nat) => tl (j + al)) fun (j : Nat) => vl (j + al)) j)))))
 (Prod.fst
 (Prod.snd
 (S.runR ((1 : Int) + Int.tmod c0 (10 : Int)) (Int.tmod c1 (11 : Int))
 (List.length (S.stepsT nl (fun (j : Nat) => tl (j + al)) fun (j : Nat) => vl (j + al)))
 (fun (j : Nat) =>
 Prod.fst
 (S.at'
 (S.stepsT nl (fun (j : Nat) => tl (j + al)) fun (j : Nat) => vl (j + al)) j))
 (fun (j : Nat) =>
 Prod.fst
 (Prod.snd
 (S.at'
 (S.stepsT nl (fun (j : Nat) => tl (j + al)) fun (j : Nat) => vl (j + al)) j)))
 (fun (j : Nat) =>
 Prod.fst
 (Prod.snd
 (Prod.snd
 (S.at'
 (S.stepsT nl (fun (j : Nat) => tl (j + al)) fun (j : Nat) => vl (j + al))
 j))))
 fun (j : Nat) =>
 Prod.snd
 (Prod.snd
 (Prod.snd
 (S.at'
 (S.stepsT nl (fun (j : Nat) => tl (j + al)) fun (j : Nat) => vl (j + al))
 j))))))
 (List.length
 (Prod.snd
 (Prod.snd
 (Prod.snd
 (Prod.snd
 (Prod.snd
 (Prod.snd
 (Prod.snd
 (S.runR ((1 : Int) + Int.tmod c0 (10 : Int)) (Int.tmod c1 (11 : Int))
 (List.length
 (S.stepsT nl (fun (j : Nat) => tl (j + al)) fun (j : Nat) => vl (j + al)))
 (fun (j : Nat) =>
 Prod.fst
 (S.at'
 (S.stepsT nl (fun (j : Nat) => tl (j + al)) fun (j : Nat) =>
 vl (j + al))
 j))
 (fun (j : Nat) =>
 Prod.fst
 (Prod.snd
 (S.at'
 (S.stepsT nl (fun (j : Nat) => tl (j + al)) fun (j : Nat) =>
 vl (j + al))
 j)))
 (fun (j : Nat) =>
 Prod.fst
 (Prod.snd
 (Prod.snd
 (S.at'
 (S.stepsT nl (fun (j : Nat) => tl (j + al)) fun (j : Nat) =>
 vl (j + al))
 j))))
 fun (j : Nat) =>
 Prod.snd
 (Prod.snd
 (Prod.snd
 (S.at'
 (S.stepsT nl (fun (j : Nat) => tl (j + al)) fun (j : Nat) =>
 vl (j + al))
 j))))))))))))
 (fun (j : Nat) =>
 Prod.fst
 (S.at'
 (Prod.snd
 (Prod.snd
 (Prod.snd
 (Prod.snd
 (Prod.snd
 (Prod.snd
 (Prod.snd
 (S.runR ((1 : Int) + Int.tmod c0 (10 : Int)) (Int.tmod c1 (11 : Int))
 (List.length
 (S.stepsT nl (fun (j : Nat) => tl (j + al)) fun (j : Nat) =>
 vl (j + al)))
 (fun (j : Nat) =>
 Prod.fst
 (S.at'
 (S.stepsT nl (fun (j : Nat) => tl (j + al)) fun (j : Nat) =>
 vl (j + al))
 j))
 (fun (j : Nat) =>
 Prod.fst
 (Prod.snd
 (S.at'
 (S.stepsT nl (fun (j : Nat) => tl (j + al)) fun (j : Nat) =>
 vl (j + al))
 j)))
 (fun (j : Nat) =>
 Prod.fst
 (Prod.snd
 (Prod.snd
 (S.at'
 (S.stepsT nl (fun (j : Nat) => tl (j + al)) fun (j : Nat) =>
 vl (j + al))
 j))))
 fun (j : Nat) =>
 Prod.snd
 (Prod.snd
 (Prod.snd
 (S.at'
 (S.stepsT nl (fun (j : Nat) => tl (j + al)) fun (j : Nat) =>
 vl (j + al))
 j)))))))))))
 j))
 (fun (j : Nat) =>
 Prod.fst
 (Prod.snd
 (S.at'
 (Prod.snd
 (Prod.snd
 (Prod.snd
 (Prod.snd
 (Prod.snd
 (Prod.snd
 (Prod.snd
 (S.runR ((1 : Int) + Int.tmod c0 (10 : Int)) (Int.tmod c1 (11 : Int))
 (List.length
 (S.stepsT nl (fun (j : Nat) => tl (j + al)) fun (j : Nat) =>
 vl (j + al)))
 (fun (j : Nat) =>
 Prod.fst
 (S.at'
 (S.stepsT nl (fun (j : Nat) => tl (j + al)) fun (j : Nat) =>
 vl (j + al))
 j))
 (fun (j : Nat) =>
 Prod.fst
 (Prod.snd
 (S.at'
 (S.stepsT nl (fun (j : Nat) => tl (j + al)) fun (j : Nat) =>
 vl (j + al))
 j)))
 (fun (j : Nat) =>
 Prod.fst
 (Prod.snd
 (Prod.snd
 (S.at'
 (S.stepsT nl (fun (j : Nat) => tl (j + al)) fun (j : Nat) =>
 vl (j + al))
 j))))
 fun (j : Nat) =>
 Prod.snd
 (Prod.snd
 (Prod.snd
 (S.at'
 (S.stepsT nl (fun (j : Nat) => tl (j + al)) fun (j : Nat) =>
 vl (j + al))
 j)))))))))))
 j)))
 (Prod.fst
 (Prod.snd
 (Prod.snd
 (S.runR ((1 : Int) + Int.tmod c0 (10 : Int)) (Int.tmod c1 (11 : Int))
 (List.length
 (S.stepsT nl (fun (j : Nat) => tl (j + al)) fun (j : Nat) => vl (j + al)))
 (fun (j : Nat) =>
 Prod.fst
 (S.at'
 (S.stepsT nl (fun (j : Nat) => tl (j + al)) fun (j : Nat) => vl (j + al)) j))
 (fun (j : Nat) =>
 Prod.fst
 (Prod.snd
 (S.at'
 (S.stepsT nl (fun (j : Nat) => tl (j + al)) fun (j : Nat) => vl (j + al)) j)))
 (fun (j : Nat) =>
 Prod.fst
 (Prod.snd
 (Prod.snd
 (S.at'
 (S.stepsT nl (fun (j : Nat) => tl (j + al)) fun (j : Nat) => vl (j + al))
 j))))
 fun (j : Nat) =>
 Prod.snd
 (Prod.snd
 (Prod.snd
 (S.at'
 (S.stepsT nl (fun (j : Nat) => tl (j + al)) fun (j : Nat) => vl (j + al))
 j)))))))
 (Prod.fst
 (Prod.snd
 (Prod.snd
 (Prod.snd
 (S.runR ((1 : Int) + Int.tmod c0 (10 : Int)) (Int.tmod c1 (11 : Int))
 (List.length
 (S.stepsT nl (fun (j : Nat) => tl (j + al)) fun (j : Nat) => vl (j + al)))
 (fun (j : Nat) =>
 Prod.fst
 (S.at'
 (S.stepsT nl (fun (j : Nat) => tl (j + al)) fun (j : Nat) => vl (j + al)) j))
 (fun (j : Nat) =>
 Prod.fst
 (Prod.snd
 (S.at'
 (S.stepsT nl (fun (j : Nat) => tl (j + al)) fun (j : Nat) => vl (j + al))
 j)))
 (fun (j : Nat) =>
 Prod.fst
 (Prod.snd
 (Prod.snd
 (S.at'
 (S.stepsT nl (fun (j : Nat) => tl (j + al)) fun (j : Nat) => vl (j + al))
 j))))
 fun (j : Nat) =>
 Prod.snd
 (Prod.snd
 (Prod.snd
 (S.at'
 (S.stepsT nl (fun (j : Nat) => tl (j + al)) fun (j : Nat) => vl (j + al))
 j))))))))
 (Prod.fst
 (Prod.snd
 (Prod.snd
 (Prod.snd
 (Prod.snd
 (S.runR ((1 : Int) + Int.tmod c0 (10 : Int)) (Int.tmod c1 (11 : Int))
 (List.length
 (S.stepsT nl (fun (j : Nat) => tl (j + al)) fun (j : Nat) => vl (j + al)))
 (fun (j : Nat) =>
 Prod.fst
 (S.at'
 (S.stepsT nl (fun (j : Nat) => tl (j + al)) fun (j : Nat) => vl (j + al))
 j))
 (fun (j : Nat) =>
 Prod.fst
 (Prod.snd
 (S.at'
 (S.stepsT nl (fun (j : Nat) => tl (j + al)) fun (j : Nat) => vl (j + al))
 j)))
 (fun (j : Nat) =>
 Prod.fst
 (Prod.snd
 (Prod.snd
 (S.at'
 (S.stepsT nl (fun (j : Nat) => tl (j + al)) fun (j : Nat) =>
 vl (j + al))
 j))))
 fun (j : Nat) =>
 Prod.snd
 (Prod.snd
 (Prod.snd
 (S.at'
 (S.stepsT nl (fun (j : Nat) => tl (j + al)) fun (j : Nat) => vl (j + al))
 j)))))))))))) =
 Prod.fst
 ((S.newS ((1 : Int) + Int.tmod c0 (10 : Int)) (Int.tmod c1 (11 : Int))).2.2) ∧
 false = false ∧
 (S.mkl (0) fun (j : Nat) => ((0 : Int), (0 : Int), false)) =
 S.mkl (0) fun (j : Nat) => ((0 : Int), (0 : Int), false)))
 then (some (.inr (true)))
 else (some (.inr (false))))
 else (none))
 else (some (.inr (false))))
 else (bif (Prod.snd
 (Prod.snd
 (Prod.snd
 (S.reaS
 (Prod.fst
 (S.runR ((1 : Int) + Int.tmod c0 (10 : Int)) (Int.tmod c1 (11 : Int))
 (List.length (S.stepsT nl (fun (j : Nat) => tl (j + al)) fun (j : Nat) => vl (j + al)))
 (fun (j : Nat) =>
 Prod.fst
 (S.at' (S.stepsT nl (fun (j : Nat) => tl (j + al)) fun (j : Nat) => vl (j + al)) j))
 (fun (j : Nat) =>
 Prod.fst
 (Prod.snd
 (S.at' (S.stepsT nl (fun (j : Nat) => tl (j + al)) fun (j : Nat) => vl (j + al)) j)))
 (fun (j : Nat) =>
 Prod.fst
 (Prod.snd
 (Prod.snd
 (S.at' (S.stepsT nl (fun (j : Nat) => tl (j + al)) fun (j : Nat) => vl (j + al)) j))))
 fun (j : Nat) =>
 Prod.snd
 (Prod.snd
 (Prod.snd
 (S.at' (S.stepsT nl (fun (j : Nat) => tl (j + al)) fun (j : Nat) => vl (j + al)) j)))))
 (Prod.fst
 (Prod.snd
 (S.runR ((1 : Int) + Int.tmod c0 (10 : Int)) (Int.tmod c1 (11 : Int))
 (List.length (S.stepsT nl (fun (j : Nat) => tl (j + al)) fun (j : Nat) => vl (j + al)))
 (fun (j : Nat) =>
 Prod.fst
 (S.at' (S.stepsT nl (fun (j : Nat) => tl (j + al)) fun (j : Nat) => vl (j + al)) j))
 (fun (j : Nat) =>
 Prod.fst
 (Prod.snd
 (S.at' (S.stepsT nl (fun (j : Nat) => tl (j + al)) fun (j : Nat) => vl (j + al)) j)))
 (fun (j : Nat) =>
 Prod.fst
 (Prod.snd
 (Prod.snd
 (S.at' (S.stepsT nl (fun (j : Nat) => tl (j + al)) fun (j : Nat) => vl (j + al))
 j))))
 fun (j : Nat) =>
 Prod.snd
 (Prod.snd
 (Prod.snd
 (S.at' (S.stepsT nl (fun (j : Nat) => tl (j + al)) fun (j : Nat) => vl (j + al))
 j))))))
 (List.length
 (Prod.snd
 (Prod.snd
 (Prod.snd
 (Prod.snd
 (Prod.snd
 (Prod.snd
 (Prod.snd
 (S.runR ((1 : Int) + Int.tmod c0 (10 : Int)) (Int.tmod c1 (11 : Int))
 (List.length
 (S.stepsT nl (fun (j : Nat) => tl (j + al)) fun (j : Nat) => vl (j + al)))
 (fun (j : Nat) =>
 Prod.fst
 (S.at'
 (S.stepsT nl (fun (j : Nat) => tl (j + al)) fun (j : Nat) => vl (j + al)) j))
 (fun (j : Nat) =>
 Prod.fst
 (Prod.snd
 (S.at'
 (S.stepsT nl (fun (j : Nat) => tl (j + al)) fun (j : Nat) => vl (j + al)) j)))
 (fun (j : Nat) =>
 Prod.fst
 (Prod.snd
 (Prod.snd
 (S.at'
 (S.stepsT nl (fun (j : Nat) => tl (j + al)) fun (j : Nat) => vl (j + al))
 j))))
 fun (j : Nat) =>
 Prod.snd
 (Prod.snd
 (Prod.snd
 (S.at'
 (S.stepsT nl (fun (j : Nat) => tl (j + al)) fun (j : Nat) => vl (j + al))
 j))))))))))))
 (fun (j : Nat) =>
 Prod.fst
 (S.at'
 (Prod.snd
 (Prod.snd
 (Prod.snd
 (Prod.snd
 (Prod.snd
 (Prod.snd
 (Prod.snd
 (S.runR ((1 : Int) + Int.tmod c0 (10 : Int)) (Int.tmod c1 (11 : Int))
 (List.length
 (S.stepsT nl (fun (j : Nat) => tl (j + al)) fun (j : Nat) => vl (j + al)))
 (fun (j : Nat) =>
 Prod.fst
 (S.at'
 (S.stepsT nl (fun (j : Nat) => tl (j + al)) fun (j : Nat) => vl (j + al))
 j))
 (fun (j : Nat) =>
 Prod.fst
 (Prod.snd
 (S.at'
 (S.stepsT nl (fun (j : Nat) => tl (j + al)) fun (j : Nat) => vl (j + al))
 j)))
 (fun (j : Nat) =>
 Prod.fst
 (Prod.snd
 (Prod.snd
 (S.at'
 (S.stepsT nl (fun (j : Nat) => tl (j + al)) fun (j : Nat) =>
 vl (j + al))
 j))))
 fun (j : Nat) =>
 Prod.snd
 (Prod.snd
 (Prod.snd
 (S.at'
 (S.stepsT nl (fun (j : Nat) => tl (j + al)) fun (j : Nat) => vl (j + al))
 j)))))))))))
 j))
 (fun (j : Nat) =>
 Prod.fst
 (Prod.snd
 (S.at'
 (Prod.snd
 (Prod.snd
 (Prod.snd
 (Prod.snd
 (Prod.snd
 (Prod.snd
 (Prod.snd
 (S.runR ((1 : Int) + Int.tmod c0 (10 : Int)) (Int.tmod c1 (11 : Int))
 (List.length
 (S.stepsT nl (fun (j : Nat) => tl (j + al)) fun (j : Nat) => vl (j + al)))
 (fun (j : Nat) =>
 Prod.fst
 (S.at'
 (S.stepsT nl (fun (j : Nat) => tl (j + al)) fun (j : Nat) => vl (j + al))
 j))
 (fun (j : Nat) =>
 Prod.fst
 (Prod.snd
 (S.at'
 (S.stepsT nl (fun (j : Nat) => tl (j + al)) fun (j : Nat) =>
 vl (j + al))
 j)))
 (fun (j : Nat) =>
 Prod.fst
 (Prod.snd
 (Prod.snd
 (S.at'
 (S.stepsT nl (fun (j : Nat) => tl (j + al)) fun (j : Nat) =>
 vl (j + al))
 j))))
 fun (j : Nat) =>
 Prod.snd
 (Prod.snd
 (Prod.snd
 (S.at'
 (S.stepsT nl (fun (j : Nat) => tl (j + al)) fun (j : Nat) =>
 vl (j + al))
 j)))))))))))
 j)))
 (Prod.fst
 (Prod.snd
 (Prod.snd
 (S.runR ((1 : Int) + Int.tmod c0 (10 : Int)) (Int.tmod c1 (11 : Int))
 (List.length (S.stepsT nl (fun (j : Nat) => tl (j + al)) fun (j : Nat) => vl (j + al)))
 (fun (j : Nat) =>
 Prod.fst
 (S.at' (S.stepsT nl (fun (j : Nat) => tl (j + al)) fun (j : Nat) => vl (j + al)) j))
 (fun (j : Nat) =>
 Prod.fst
 (Prod.snd
 (S.at' (S.stepsT nl (fun (j : Nat) => tl (j + al)) fun (j : Nat) => vl (j + al))
 j)))
 (fun (j : Nat) =>
 Prod.fst
 (Prod.snd
 (Prod.snd
 (S.at' (S.stepsT nl (fun (j : Nat) => tl (j + al)) fun (j : Nat) => vl (j + al))
 j))))
 fun (j : Nat) =>
 Prod.snd
 (Prod.snd
 (Prod.snd
 (S.at' (S.stepsT nl (fun (j : Nat) => tl (j + al)) fun (j : Nat) => vl (j + al))
 j)))))))
 (Prod.fst
 (Prod.snd
 (Prod.snd
 (Prod.snd
 (S.runR ((1 : Int) + Int.tmod c0 (10 : Int)) (Int.tmod c1 (11 : Int))
 (List.length (S.stepsT nl (fun (j : Nat) => tl (j + al)) fun (j : Nat) => vl (j + al)))
 (fun (j : Nat) =>
 Prod.fst
 (S.at' (S.stepsT nl (fun (j : Nat) => tl (j + al)) fun (j : Nat) => vl (j + al)) j))
 (fun (j : Nat) =>
 Prod.fst
 (Prod.snd
 (S.at' (S.stepsT nl (fun (j : Nat) => tl (j + al)) fun (j : Nat) => vl (j + al))
 j)))
 (fun (j : Nat) =>
 Prod.fst
 (Prod.snd
 (Prod.snd
 (S.at' (S.stepsT nl (fun (j : Nat) => tl (j + al)) fun (j : Nat) => vl (j + al))
 j))))
 fun (j : Nat) =>
 Prod.snd
 (Prod.snd
 (Prod.snd
 (S.at' (S.stepsT nl (fun (j : Nat) => tl (j + al)) fun (j : Nat) => vl (j + al))
 j))))))))
 (Prod.fst
 (Prod.snd
 (Prod.snd
 (Prod.snd
 (Prod.snd
 (S.runR ((1 : Int) + Int.tmod c0 (10 : Int)) (Int.tmod c1 (11 : Int))
 (List.length (S.stepsT nl (fun (j : Nat) => tl (j + al)) fun (j : Nat) => vl (j + al)))
 (fun (j : Nat) =>
 Prod.fst
 (S.at' (S.stepsT nl (fun (j : Nat) => tl (j + al)) fun (j : Nat) => vl (j + al))
 j))
 (fun (j : Nat) =>
 Prod.fst
 (Prod.snd
 (S.at' (S.stepsT nl (fun (j : Nat) => tl (j + al)) fun (j : Nat) => vl (j + al))
 j)))
 (fun (j : Nat) =>
 Prod.fst
 (Prod.snd
 (Prod.snd
 (S.at'
 (S.stepsT nl (fun (j : Nat) => tl (j + al)) fun (j : Nat) => vl (j + al)) j))))
 fun (j : Nat) =>
 Prod.snd
 (Prod.snd
 (Prod.snd
 (S.at' (S.stepsT nl (fun (j : Nat) => tl (j + al)) fun (j : Nat) => vl (j + al))
 j)))))))))))) ==
 (8 : Int))
 then (some (.inr (true)))
 else (some (.inr (false))))))))
 else (none))
 else (none))
 else (none))
 else (none))
 else (none))
 else (none)) : Option (St10 ⊕ Rt10)) = some x) : Te10 cond Kst Kret c0 c1 al nl ml tl vl := by
  unfold Te10
  exact cond_yes rfl (cond_yes rfl (bif_split h
   (fun c0 h => cond_yes rfl (cond_yes rfl (ret_at hR _ h (fun n => n) rfl rfl rfl (rn_bool_tf rfl) rfl (entl_bor (use_lo rfl) rfl rfl entl_nil))))
   (fun c0 h => cond_yes rfl (cond_no rfl (bif_split h
   (fun c1 h => bif_split h
   (fun c2 h => cond_yes rfl (cond_no rfl (bif_split h
   (fun c3 h => bif_split h
   (fun c4 h => bif_split h
   (fun c5 h => cond_yes rfl (bif_split h
   (fun c6 h => bif_split h
   (fun c7 h => ret_at hR _ h (fun n => n) rfl rfl rfl (rn_bool_tf rfl) rfl (entl_bor (use_lo rfl) rfl rfl entl_nil))
   (fun c7 h => bif_split h
   (fun c8 h => ret_at hR _ h (fun n => n) rfl rfl rfl (rn_bool_tf rfl) rfl (entl_bor (use_lo rfl) rfl rfl entl_nil))
   (fun c8 h => cond_yes c6 (bif_split h
   (fun c9 h => ret_at hR _ h (fun n => n) rfl rfl rfl (rn_bool_tf rfl) rfl (entl_bor (use_lo rfl) rfl rfl entl_nil))
   (fun c9 h => bif_split h
   (fun c10 h => bif_split h
   (fun c11 h => bif_split h
   (fun c12 h => bif_split h
   (fun c13 h => ret_at hR _ h (fun n => n) rfl rfl rfl (rn_bool_tf rfl) rfl (entl_bor (use_lo rfl) rfl rfl entl_nil))
   (fun c13 h => ret_at hR _ h (fun n => n) rfl rfl rfl (rn_bool_tf rfl) rfl (entl_bor (use_lo rfl) rfl rfl entl_nil)))
   (fun c12 h => no_some h))
   (fun c11 h => ret_at hR _ h (fun n => n) rfl rfl rfl (rn_bool_tf rfl) rfl (entl_bor (use_lo rfl) rfl rfl entl_nil)))
   (fun c10 h => bif_split h
   (fun c11 h => ret_at hR _ h (fun n => n) rfl rfl rfl (rn_bool_tf rfl) rfl (entl_bor (use_lo rfl) rfl rfl entl_nil))
   (fun c11 h => ret_at hR _ h (fun n => n) rfl rfl rfl (rn_bool_tf rfl) rfl (entl_bor (use_lo rfl) rfl rfl entl_nil))))))))
   (fun c6 h => no_some h)))
   (fun c5 h => no_some h))
   (fun c4 h => no_some h))
   (fun c3 h => no_some h))))
   (fun c2 h => no_some h))
   (fun c1 h => no_some h))))))
theorem a10 (c0 : Int) (c1 : Int) (al nl ml : Nat) (tl : Nat → Int) (vl : Nat → Int) {r : Rt10} (h : Goes ((q10 c0 c1 al nl ml tl vl)) ((p10 c0 c1 al nl ml tl vl)) r) : CallR Try.prog 10 [.agg [.int .u8 c0, .int .u8 c1], .loose ⟨0, 2, al, 0⟩ nl] [[(0, (false, .cols ml [.int .u8 tl, .int .u8 vl]))]] 1 ((V10 c0 c1 al nl ml tl vl) r) ((fun r => [newL (1 + 1) ((N10 c0 c1 al nl ml tl vl) r) ++ [(0, (false, .cols ml [.int .u8 tl, .int .u8 vl]))]]) r) 400 ∧ ∃ F, Try.prog.funcs[10]? = some F ∧ F.body.isSome = true ∧ (F.name == "runtime.NumGoroutine") = false := by
  refine dec_calls (f := 10) (lo := 1) (hi := 400) (H := [[(0, (false, .cols ml [.int .u8 tl, .int .u8 vl]))]]) (args := [.agg [.int .u8 c0, .int .u8 c1], .loose ⟨0, 2, al, 0⟩ nl]) Try.envOk Try.mixed xI_ok ((I10 c0 c1 al nl ml tl vl)) ((V10 c0 c1 al nl ml tl vl)) (fun r => [newL (1 + 1) ((N10 c0 c1 al nl ml tl vl) r) ++ [(0, (false, .cols ml [.int .u8 tl, .int .u8 vl]))]]) (fn := mkFn Try.f10) (ts := []) (n := 400) rfl (by decide) (by simp) (names_of rfl) ?_ ?_ ?_ h
  · intro s; exact s.elim
  · intro Kst Kret x hS hR h
    exact Holds.eq (te10 cond Kst Kret c0 c1 al nl ml tl vl) (be10 c0 c1 al nl ml tl vl Kst Kret x hS hR h)
  · intro Kst Kret x hS hR s h; exact s.elim
noncomputable def k10 : Con := ⟨10, [.agg [.plain (.int .u8), .plain (.int .u8)], .one (.list [.int .u8, .int .u8])], fun (x : (Int × Int × Unit) × (Nat × Nat × Nat × (Nat → Int) × (Nat → Int) × Unit) × Unit) => (fun (c0 : Int) (c1 : Int) (al nl ml : Nat) (tl : Nat → Int) (vl : Nat → Int) => decide (al + nl ≤ ml ∧ S.byte c0 = true ∧ S.byte c1 = true ∧ S.bytes nl (fun j => tl (j + al)) = true ∧ S.bytes nl (fun j => vl (j + al)) = true)) x.1.1 x.1.2.1 x.2.1.1 x.2.1.2.1 x.2.1.2.2.1 x.2.1.2.2.2.1 x.2.1.2.2.2.2.1, fun (x : (Int × Int × Unit) × (Nat × Nat × Nat × (Nat → Int) × (Nat → Int) × Unit) × Unit) => (fun (c0 : Int) (c1 : Int) (al nl ml : Nat) (tl : Nat → Int) (vl : Nat → Int) => (V10 c0 c1 al nl ml tl vl) (true)) x.1.1 x.1.2.1 x.2.1.1 x.2.1.2.1 x.2.1.2.2.1 x.2.1.2.2.2.1 x.2.1.2.2.2.2.1, fun (x : (Int × Int × Unit) × (Nat × Nat × Nat × (Nat → Int) × (Nat → Int) × Unit) × Unit) => (fun (c0 : Int) (c1 : Int) (al nl ml : Nat) (tl : Nat → Int) (vl : Nat → Int) => (N10 c0 c1 al nl ml tl vl) (true)) x.1.1 x.1.2.1 x.2.1.1 x.2.1.2.1 x.2.1.2.2.1 x.2.1.2.2.2.1 x.2.1.2.2.2.2.1⟩
set_option maxHeartbeats 4000000 in
theorem s10 (c0 : Int) (c1 : Int) (al nl ml : Nat) (tl : Nat → Int) (vl : Nat → Int) (hp : al + nl ≤ ml ∧ S.byte c0 = true ∧ S.byte c1 = true ∧ S.bytes nl (fun j => tl (j + al)) = true ∧ S.bytes nl (fun j => vl (j + al)) = true) : Goes ((q10 c0 c1 al nl ml tl vl)) ((p10 c0 c1 al nl ml tl vl)) (true) := by
  obtain ⟨hp, hc0, hc1, hb0, hb1⟩ := hp
  have hc0 := byte_facts (of_decide_eq_true hc0)
  have hc1 := byte_facts (of_decide_eq_true hc1)
  have hr : 1 ≤ 1 + Int.tmod c0 10 ∧ 1 + Int.tmod c0 10 ≤ 200 ∧ 0 ≤ Int.tmod c1 11 ∧ Int.tmod c1 11 ≤ 200 := by omega
  have hll : (S.stepsT nl (fun j => tl (j + al)) (fun j => vl (j + al))).length = nl := mkl_len
  have hlen : (S.runR (1 + Int.tmod c0 10) (Int.tmod c1 11) (S.stepsT nl (fun j => tl (j + al)) (fun j => vl (j + al))).length (fun j => (S.at' (S.stepsT nl (fun j => tl (j + al)) (fun j => vl (j + al))) j).1) (fun j => (S.at' (S.stepsT nl (fun j => tl (j + al)) (fun j => vl (j + al))) j).2.1) (fun j => (S.at' (S.stepsT nl (fun j => tl (j + al)) (fun j => vl (j + al))) j).2.2.1) (fun j => (S.at' (S.stepsT nl (fun j => tl (j + al)) (fun j => vl (j + al))) j).2.2.2)).2.2.2.2.2.2.2.length ≤ (S.stepsT nl (fun j => tl (j + al)) (fun j => vl (j + al))).length + (S.stepsT nl (fun j => tl (j + al)) (fun j => vl (j + al))).length := runR_len
  obtain ⟨h1, h2, h3, h4⟩ := runR_facts (n := (S.stepsT nl (fun j => tl (j + al)) (fun j => vl (j + al))).length) (kd := fun j => (S.at' (S.stepsT nl (fun j => tl (j + al)) (fun j => vl (j + al))) j).1) (st := fun j => (S.at' (S.stepsT nl (fun j => tl (j + al)) (fun j => vl (j + al))) j).2.1) (sv := fun j => (S.at' (S.stepsT nl (fun j => tl (j + al)) (fun j => vl (j + al))) j).2.2.1) (sg := fun j => (S.at' (S.stepsT nl (fun j => tl (j + al)) (fun j => vl (j + al))) j).2.2.2) hr
  have hn : S.newS (1 + Int.tmod c0 10) (Int.tmod c1 11) = (1 + Int.tmod c0 10, Int.tmod c1 11, -1, 0) := by unfold S.newS; rw [if_pos hr]
  unfold p10
  generalize (S.runR (1 + Int.tmod c0 10) (Int.tmod c1 11) (S.stepsT nl (fun j => tl (j + al)) (fun j => vl (j + al))).length (fun j => (S.at' (S.stepsT nl (fun j => tl (j + al)) (fun j => vl (j + al))) j).1) (fun j => (S.at' (S.stepsT nl (fun j => tl (j + al)) (fun j => vl (j + al))) j).2.1) (fun j => (S.at' (S.stepsT nl (fun j => tl (j + al)) (fun j => vl (j + al))) j).2.2.1) (fun j => (S.at' (S.stepsT nl (fun j => tl (j + al)) (fun j => vl (j + al))) j).2.2.2)) = P at hlen h1 h2 h3 h4 ⊢
  rw [hll] at hlen ⊢
  simp only [h1, h2, h3, hn] at h4 ⊢
  unfold S.vBu at h4
  by_cases hb : (nl : Int) > 60
  · exact goes_ok (decide_eq_true hb) rfl
  refine goes_no (decide_eq_false hb) ?_
  simp only [S.reaS, h4, if_true, lim64]
  refine goes_ok (decide_eq_true (by omega)) ?_
  refine goes_ok (decide_eq_true (by omega)) ?_
  refine goes_ok (decide_eq_true (by omega)) ?_
  refine goes_ok (decide_eq_true ⟨hp, by omega, hb0, hb1⟩) ?_
  refine goes_ok (decide_eq_true (by omega)) ?_
  refine goes_ok (decide_eq_true (by omega)) ?_
  refine goes_no rfl ?_
  refine goes_no rfl ?_
  refine goes_no rfl ?_
  cases hf : P.2.2.2.2.1 with
  | true =>
    simp only [if_true]
    exact goes_ok rfl (goes_ok rfl (goes_ok (by decide) (goes_ok (by simp) rfl)))
  | false =>
    simp only [Bool.false_eq_true, if_false]
    exact goes_no rfl (goes_ok rfl rfl)

theorem k10_ok : k10.ok Try.prog := by
  intro x hx
  obtain ⟨⟨c0, c1, _⟩, ⟨al, nl, ml, tl, vl, _⟩, _⟩ := x
  obtain ⟨h1, h2⟩ := a10 c0 c1 al nl ml tl vl (s10 c0 c1 al nl ml tl vl (of_decide_eq_true hx))
  exact ⟨⟨400, (by decide : 1 + 1 + 0 ≤ 400), h1⟩, h2⟩

theorem pre10 {x : SsI k10.ss} (hx : ssFits k10.ss x) : (0 + x.2.1.1 ≤ x.2.1.1) ∧ S.byte x.1.1 = true ∧ S.byte x.1.2.1 = true ∧ (S.bytes x.2.1.1 fun j => x.2.1.2.1 (j + 0)) = true ∧ (S.bytes x.2.1.1 fun j => x.2.1.2.2.1 (j + 0)) = true := by
  obtain ⟨⟨c0, c1, u⟩, ⟨n, t, v, u'⟩, u''⟩ := x
  obtain ⟨⟨h0, h1, -⟩, ⟨hn, ht, hv, -⟩, -⟩ := hx
  exact ⟨Nat.le_of_eq (Nat.zero_add _), byte_mk h0, byte_mk h1, bytes_mk ht, bytes_mk hv⟩

end Go.Ev
