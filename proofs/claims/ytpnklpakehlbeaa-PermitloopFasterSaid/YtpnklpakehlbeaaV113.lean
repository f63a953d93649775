/-
  The parts that the statement needs, 3 of 3.
-/
import Derived.Test.YtpnklpakehlbeaaV112
namespace Go.Ev
open Go.Proofs
open Go.IntWalk
set_option linter.unusedVariables false
set_option linter.unusedSimpArgs false
set_option maxRecDepth 100000
noncomputable def p11 (al nl ml : Nat) (tl : Nat → Int) (vl : Nat → Int) (b0 : Int) (b1 : Int) (b2 : Int) (fa : Int) : Option (St11 ⊕ Rt11) := bif (decide ((↑nl : Int) > (8 : Int)))
 then (some (.inr (true)))
 else (bif (decide
 ((al + nl ≤ ml ∧ nl ≤ 1000000) ∧
 ((0 : Int) ≤ b2 ∧ b2 ≤ (255 : Int)) ∧
 S.byB (fun (j : Nat) => tl (j + al)) nl = true ∧
 S.byB (fun (j : Nat) => vl (j + al)) nl = true))
 then (bif (decide
 (0 + List.length (S.madeL nl (fun (j : Nat) => tl (j + al)) fun (j : Nat) => vl (j + al)) ≤
 List.length (S.madeL nl (fun (j : Nat) => tl (j + al)) fun (j : Nat) => vl (j + al)) ∧
 List.length (S.madeL nl (fun (j : Nat) => tl (j + al)) fun (j : Nat) => vl (j + al)) ≤ 1000000))
 then (bif (lim IntKind.i64 b0)
 then (bif (decide
 ((↑(List.length (S.madeL nl (fun (j : Nat) => tl (j + al)) fun (j : Nat) => vl (j + al))) : Int) = (0 : Int)))
 then (none)
 else (bif (decide
 ((0 : Int) ≤
 Int.tmod b0
 (↑(List.length (S.madeL nl (fun (j : Nat) => tl (j + al)) fun (j : Nat) => vl (j + al))) : Int) ∧
 Int.tmod b0 (↑(List.length (S.madeL nl (fun (j : Nat) => tl (j + al)) fun (j : Nat) => vl (j + al))) : Int) <
 (↑(List.length
 (S.mkl (List.length (S.madeL nl (fun (j : Nat) => tl (j + al)) fun (j : Nat) => vl (j + al)))
 fun (j : Nat) =>
 ((S.at' (S.madeL nl (fun (j : Nat) => tl (j + al)) fun (j : Nat) => vl (j + al)) j).1,
 Prod.fst
 (Prod.snd
 (S.at' (S.madeL nl (fun (j : Nat) => tl (j + al)) fun (j : Nat) => vl (j + al)) j)),
 Prod.snd
 (Prod.snd
 (S.at' (S.madeL nl (fun (j : Nat) => tl (j + al)) fun (j : Nat) => vl (j + al)) j))))) :
 Int)))
 then (bif (decide
 (Int.toNat
 (Int.tmod b0
 (↑(List.length (S.madeL nl (fun (j : Nat) => tl (j + al)) fun (j : Nat) => vl (j + al))) : Int)) <
 List.length
 (S.mkl (List.length (S.madeL nl (fun (j : Nat) => tl (j + al)) fun (j : Nat) => vl (j + al)))
 fun (j : Nat) =>
 ((S.at' (S.madeL nl (fun (j : Nat) => tl (j + al)) fun (j : Nat) => vl (j + al)) j).1,
 Prod.fst
 ((S.at' (S.madeL nl (fun (j : Nat) => tl (j + al)) fun (j : Nat) => vl (j + al)) j).2),
 Prod.snd
 ((S.at' (S.madeL nl (fun (j : Nat) => tl (j + al)) fun (j : Nat) => vl (j + al)) j).2)))))
 then (bif (lim IntKind.i64 b1)
 then (bif (lim IntKind.i64
 (Prod.fst
 (Prod.snd
 (S.at'
 (S.mkl (List.length (S.madeL nl (fun (j : Nat) => tl (j + al)) fun (j : Nat) => vl (j + al)))
 fun (j : Nat) =>
 ((S.at' (S.madeL nl (fun (j : Nat) => tl (j + al)) fun (j : Nat) => vl (j + al)) j).1,
 Prod.fst
 (Prod.snd
 (S.at' (S.madeL nl (fun (j : Nat) => tl (j + al)) fun (j : Nat) => vl (j + al)) j)),
 Prod.snd
 (Prod.snd
 (S.at' (S.madeL nl (fun (j : Nat) => tl (j + al)) fun (j : Nat) => vl (j + al)) j))))
 (Int.toNat
 (Int.tmod b0
 (↑(List.length (S.madeL nl (fun (j : Nat) => tl (j + al)) fun (j : Nat) => vl (j + al))) :
 Int))))) +
 b1))
 then (bif (lim IntKind.u8 (Int.tdiv b1 (3 : Int)))
 then (bif (lim IntKind.i64 (Int.tdiv b1 (3 : Int)))
 then (bif (lim IntKind.i64
 (Prod.snd
 (Prod.snd
 (S.at'
 (S.mkl (List.length (S.madeL nl (fun (j : Nat) => tl (j + al)) fun (j : Nat) => vl (j + al)))
 fun (j : Nat) =>
 ((S.at' (S.madeL nl (fun (j : Nat) => tl (j + al)) fun (j : Nat) => vl (j + al)) j).1,
 Prod.fst
 (Prod.snd
 (S.at' (S.madeL nl (fun (j : Nat) => tl (j + al)) fun (j : Nat) => vl (j + al)) j)),
 Prod.snd
 (Prod.snd
 (S.at' (S.madeL nl (fun (j : Nat) => tl (j + al)) fun (j : Nat) => vl (j + al)) j))))
 (Int.toNat
 (Int.tmod b0
 (↑(List.length (S.madeL nl (fun (j : Nat) => tl (j + al)) fun (j : Nat) => vl (j + al))) :
 Int))))) +
 Int.tdiv b1 (3 : Int)))
 then (bif (lim IntKind.i64 (Int.tmod b1 (2 : Int)))
 then (bif (lim IntKind.i64 (b2 + Int.tmod b1 (2 : Int)))
 then (bif (Prod.fst
 (S.faiS (List.length (S.madeL nl (fun (j : Nat) => tl (j + al)) fun (j : Nat) => vl (j + al)))
 (S.netE (List.length (S.madeL nl (fun (j : Nat) => tl (j + al)) fun (j : Nat) => vl (j + al)))
 (fun (j : Nat) =>
 (S.at' (S.madeL nl (fun (j : Nat) => tl (j + al)) fun (j : Nat) => vl (j + al)) j).1)
 (fun (j : Nat) =>
 Prod.fst
 ((S.at' (S.madeL nl (fun (j : Nat) => tl (j + al)) fun (j : Nat) => vl (j + al)) j).2))
 (fun (j : Nat) =>
 Prod.snd
 ((S.at' (S.madeL nl (fun (j : Nat) => tl (j + al)) fun (j : Nat) => vl (j + al)) j).2))
 b2)) !=
 (0 : Int))
 then (some (.inr (false)))
 else (bif ((↑(List.length
 (Prod.snd
 (S.faiS (List.length (S.madeL nl (fun (j : Nat) => tl (j + al)) fun (j : Nat) => vl (j + al)))
 (S.netE (List.length (S.madeL nl (fun (j : Nat) => tl (j + al)) fun (j : Nat) => vl (j + al)))
 (fun (j : Nat) =>
 (S.at' (S.madeL nl (fun (j : Nat) => tl (j + al)) fun (j : Nat) => vl (j + al)) j).1)
 (fun (j : Nat) =>
 Prod.fst
 (Prod.snd
 (S.at' (S.madeL nl (fun (j : Nat) => tl (j + al)) fun (j : Nat) => vl (j + al)) j)))
 (fun (j : Nat) =>
 Prod.snd
 (Prod.snd
 (S.at' (S.madeL nl (fun (j : Nat) => tl (j + al)) fun (j : Nat) => vl (j + al)) j)))
 b2)))) :
 Int) ==
 (0 : Int))
 then (some (.inr (false)))
 else (bif (lim IntKind.i64 fa)
 then (bif (decide
 ((↑(List.length
 (Prod.snd
 (S.faiS (List.length (S.madeL nl (fun (j : Nat) => tl (j + al)) fun (j : Nat) => vl (j + al)))
 (S.netE (List.length (S.madeL nl (fun (j : Nat) => tl (j + al)) fun (j : Nat) => vl (j + al)))
 (fun (j : Nat) =>
 Prod.fst
 (S.at' (S.madeL nl (fun (j : Nat) => tl (j + al)) fun (j : Nat) => vl (j + al)) j))
 (fun (j : Nat) =>
 Prod.fst
 (Prod.snd
 (S.at' (S.madeL nl (fun (j : Nat) => tl (j + al)) fun (j : Nat) => vl (j + al)) j)))
 (fun (j : Nat) =>
 Prod.snd
 (Prod.snd
 (S.at' (S.madeL nl (fun (j : Nat) => tl (j + al)) fun (j : Nat) => vl (j + al)) j)))
 b2)))) :
 Int) =
 (0 : Int)))
 then (none)
 else (bif (decide
 ((0 : Int) ≤
 Int.tmod fa
 (↑(List.length
 (Prod.snd
 (S.faiS
 (List.length (S.madeL nl (fun (j : Nat) => tl (j + al)) fun (j : Nat) => vl (j + al)))
 (S.netE
 (List.length (S.madeL nl (fun (j : Nat) => tl (j + al)) fun (j : Nat) => vl (j + al)))
 (fun (j : Nat) =>
 Prod.fst
 (S.at' (S.madeL nl (fun (j : Nat) => tl (j + al)) fun (j : Nat) => vl (j + al)) j))
 (fun (j : Nat) =>
 Prod.fst
 (Prod.snd
 (S.at' (S.madeL nl (fun (j : Nat) => tl (j + al)) fun (j : Nat) => vl (j + al))
 j)))
 (fun (j : Nat) =>
 Prod.snd
 (Prod.snd
 (S.at' (S.madeL nl (fun (j : Nat) => tl (j + al)) fun (j : Nat) => vl (j + al))
 j)))
 b2)))) :
 Int) ∧
 Int.tmod fa
 (↑(List.length
 (Prod.snd
 (S.faiS
 (List.length (S.madeL nl (fun (j : Nat) => tl (j + al)) fun (j : Nat) => vl (j + al)))
 (S.netE
 (List.length (S.madeL nl (fun (j : Nat) => tl (j + al)) fun (j : Nat) => vl (j + al)))
 (fun (j : Nat) =>
 Prod.fst
 (S.at' (S.madeL nl (fun (j : Nat) => tl (j + al)) fun (j : Nat) => vl (j + al)) j))
 (fun (j : Nat) =>
 Prod.fst
 (Prod.snd
 (S.at' (S.madeL nl (fun (j : Nat) => tl (j + al)) fun (j : Nat) => vl (j + al))
 j)))
 (fun (j : Nat) =>
 Prod.snd
 (Prod.snd
 (S.at' (S.madeL nl (fun (j : Nat) => tl (j + al)) fun (j : Nat) => vl (j + al))
 j)))
 b2)))) :
 Int) <
 (↑(List.length
 (Prod.snd
 (S.faiS (List.length (S.madeL nl (fun (j : Nat) => tl (j + al)) fun (j : Nat) => vl (j + al)))
 (S.netE
 (List.length (S.madeL nl (fun (j : Nat) => tl (j + al)) fun (j : Nat) => vl (j + al)))
 (fun (j : Nat) =>
 Prod.fst
 (S.at' (S.madeL nl (fun (j : Nat) => tl (j + al)) fun (j : Nat) => vl (j + al)) j))
 (fun (j : Nat) =>
 Prod.fst
 (Prod.snd
 (S.at' (S.madeL nl (fun (j : Nat) => tl (j + al)) fun (j : Nat) => vl (j + al)) j)))
 (fun (j : Nat) =>
 Prod.snd
 (Prod.snd
 (S.at' (S.madeL nl (fun (j : Nat) => tl (j + al)) fun (j : Nat) => vl (j + al)) j)))
 b2)))) :
 Int)))
 then (bif (decide
 (Int.toNat
 (Int.tmod fa
 (↑(List.length
 (Prod.snd
 (S.faiS
 (List.length (S.madeL nl (fun (j : Nat) => tl (j + al)) fun (j : Nat) => vl (j + al)))
 (S.netE
 (List.length (S.madeL nl (fun (j : Nat) => tl (j + al)) fun (j : Nat) => vl (j + al)))
 (fun (j : Nat) =>
 Prod.fst
 (S.at' (S.madeL nl (fun (j : Nat) => tl (j + al)) fun (j : Nat) => vl (j + al)) j))
 (fun (j : Nat) =>
 Prod.fst
 (Prod.snd
 (S.at' (S.madeL nl (fun (j : Nat) => tl (j + al)) fun (j : Nat) => vl (j + al))
 j)))
 (fun (j : Nat) =>
 Prod.snd
 (Prod.snd
 (S.at' (S.madeL nl (fun (j : Nat) => tl (j + al)) fun (j : Nat) => vl (j + al))
 j)))
 b2)))) :
 Int)) <
 List.length
 (Prod.snd
 (S.faiS (List.length (S.madeL nl (fun (j : Nat) => tl (j + al)) fun (j : Nat) => vl (j + al)))
 (S.netE (List.length (S.madeL nl (fun (j : Nat) => tl (j + al)) fun (j : Nat) => vl (j + al)))
 (fun (j : Nat) =>
 (S.at' (S.madeL nl (fun (j : Nat) => tl (j + al)) fun (j : Nat) => vl (j + al)) j).1)
 (fun (j : Nat) =>
 Prod.fst
 (Prod.snd
 (S.at' (S.madeL nl (fun (j : Nat) => tl (j + al)) fun (j : Nat) => vl (j + al)) j)))
 (fun (j : Nat) =>
 Prod.snd
 (Prod.snd
 (S.at' (S.madeL nl (fun (j : Nat) => tl (j + al)) fun (j : Nat) => vl (j + al)) j)))
 b2)))))
 then (some (.inl (.h0 ((0 : Int)) (S.madeL nl (fun (j : Nat) => tl (j + al)) fun (j : Nat) => vl (j + al)) (S.mkl
 (List.length
 (S.mkl (List.length (S.madeL nl (fun (j : Nat) => tl (j + al)) fun (j : Nat) => vl (j + al)))
 fun (j : Nat) =>
 ((S.at' (S.madeL nl (fun (j : Nat) => tl (j + al)) fun (j : Nat) => vl (j + al)) j).1,
 Prod.fst
 ((S.at' (S.madeL nl (fun (j : Nat) => tl (j + al)) fun (j : Nat) => vl (j + al)) j).2),
 Prod.snd
 ((S.at' (S.madeL nl (fun (j : Nat) => tl (j + al)) fun (j : Nat) => vl (j + al)) j).2))))
 fun (j : Nat) =>
 (Prod.fst
 (S.at'
 (S.mkl (List.length (S.madeL nl (fun (j : Nat) => tl (j + al)) fun (j : Nat) => vl (j + al)))
 fun (j : Nat) =>
 ((S.at' (S.madeL nl (fun (j : Nat) => tl (j + al)) fun (j : Nat) => vl (j + al)) j).1,
 Prod.fst
 ((S.at' (S.madeL nl (fun (j : Nat) => tl (j + al)) fun (j : Nat) => vl (j + al)) j).2),
 Prod.snd
 (Prod.snd
 (S.at' (S.madeL nl (fun (j : Nat) => tl (j + al)) fun (j : Nat) => vl (j + al)) j))))
 j),
 bif
 Nat.beq j
 (Int.toNat
 (Int.tmod b0
 (↑(List.length (S.madeL nl (fun (j : Nat) => tl (j + al)) fun (j : Nat) => vl (j + al))) :
 Int))) then
 Prod.fst
 (Prod.snd
 (S.at'
 (S.mkl (List.length (S.madeL nl (fun (j : Nat) => tl (j + al)) fun (j : Nat) => vl (j + al)))
 fun (j : Nat) =>
 (Prod.fst
 (S.at' (S.madeL nl (fun (j : Nat) => tl (j + al)) fun (j : Nat) => vl (j + al)) j),
 Prod.fst
 (Prod.snd
 (S.at' (S.madeL nl (fun (j : Nat) => tl (j + al)) fun (j : Nat) => vl (j + al)) j)),
 Prod.snd
 (Prod.snd
 (S.at' (S.madeL nl (fun (j : Nat) => tl (j + al)) fun (j : Nat) => vl (j + al)) j))))
 (Int.toNat
 (Int.tmod b0
 (↑(List.length (S.madeL nl (fun (j : Nat) => tl (j + al)) fun (j : Nat) => vl (j + al))) :
 Int))))) +
 b1
 else
 Prod.fst
 (Prod.snd
 (S.at'
 (S.mkl (List.length (S.madeL nl (fun (j : Nat) => tl (j + al)) fun (j : Nat) => vl (j + al)))
 fun (j : Nat) =>
 ((S.at' (S.madeL nl (fun (j : Nat) => tl (j + al)) fun (j : Nat) => vl (j + al)) j).1,
 Prod.fst
 (Prod.snd
 (S.at' (S.madeL nl (fun (j : Nat) => tl (j + al)) fun (j : Nat) => vl (j + al)) j)),
 Prod.snd
 (Prod.snd
 (S.at' (S.madeL nl (fun (j : Nat) => tl (j + al)) fun (j : Nat) => vl (j + al)) j))))
 j)),
 bif
 Nat.beq j
 (Int.toNat
 (Int.tmod b0
 (↑(List.length (S.madeL nl (fun (j : Nat) => tl (j + al)) fun (j : Nat) => vl (j + al))) :
 Int))) then
 Prod.snd
 (Prod.snd
 (S.at'
 (S.mkl (List.length (S.madeL nl (fun (j : Nat) => tl (j + al)) fun (j : Nat) => vl (j + al)))
 fun (j : Nat) =>
 (Prod.fst
 (S.at' (S.madeL nl (fun (j : Nat) => tl (j + al)) fun (j : Nat) => vl (j + al)) j),
 Prod.fst
 (Prod.snd
 (S.at' (S.madeL nl (fun (j : Nat) => tl (j + al)) fun (j : Nat) => vl (j + al)) j)),
 Prod.snd
 (Prod.snd
 (S.at' (S.madeL nl (fun (j : Nat) => tl (j + al)) fun (j : Nat) => vl (j + al)) j))))
 (Int.toNat
 (Int.tmod b0
 (↑(List.length (S.madeL nl (fun (j : Nat) => tl (j + al)) fun (j : Nat) => vl (j + al))) :
 Int))))) +
 Int.tdiv b1 (3 : Int)
 else
 Prod.snd
 (Prod.snd
 (S.at'
 (S.mkl (List.length (S.madeL nl (fun (j : Nat) => tl (j + al)) fun (j : Nat) => vl (j + al)))
 fun (j : Nat) =>
 ((S.at' (S.madeL nl (fun (j : Nat) => tl (j + al)) fun (j : Nat) => vl (j + al)) j).1,
 Prod.fst
 (Prod.snd
 (S.at' (S.madeL nl (fun (j : Nat) => tl (j + al)) fun (j : Nat) => vl (j + al)) j)),
 Prod.snd
 (Prod.snd
 (S.at' (S.madeL nl (fun (j : Nat) => tl (j + al)) fun (j : Nat) => vl (j + al)) j))))
 j)))))))
 else (none))
 else (none)))
 else (none))))
 else (none))
 else (none))
 else (none))
 else (none))
 else (none))
 else (none))
 else (none))
 else (none))
 else (none)))
 else (none))
 else (none))
 else (none))
noncomputable def Te11 (test : Bool → Prop → Prop → Prop) (Kst : KS) (Kret : KR) (al nl ml : Nat) (tl : Nat → Int) (vl : Nat → Int) (b0 : Int) (b1 : Int) (b2 : Int) (fa : Int) : Prop :=
  test (true)
 (test (true)
 (test (decide ((↑nl : Int) > (8 : Int)))
 (test (true)
 (test (true)
 (Kret (PV.tf true) ([[(0, false, Blk.cols ml [Col.int IntKind.u8 tl, Col.int IntKind.u8 vl])]]) (4))
 (Kret (PV.tf false) ([[(0, false, Blk.cols ml [Col.int IntKind.u8 tl, Col.int IntKind.u8 vl])]]) (4)))
 (False))
 (test (true)
 (test (decide
 ((al + nl ≤ ml ∧ nl ≤ 1000000) ∧
 ((0 : Int) ≤ b2 ∧ b2 ≤ (255 : Int)) ∧
 S.byB (fun (j : Nat) => tl (j + al)) nl = true ∧
 S.byB (fun (j : Nat) => vl (j + al)) nl = true))
 (test (decide
 (0 + List.length (S.madeL nl (fun (j : Nat) => tl (j + al)) fun (j : Nat) => vl (j + al)) ≤
 List.length (S.madeL nl (fun (j : Nat) => tl (j + al)) fun (j : Nat) => vl (j + al)) ∧
 List.length (S.madeL nl (fun (j : Nat) => tl (j + al)) fun (j : Nat) => vl (j + al)) ≤ 1000000))
 (test (true)
 (test (lim IntKind.i64 b0)
 (test (decide
 ((↑(List.length (S.madeL nl (fun (j : Nat) => tl (j + al)) fun (j : Nat) => vl (j + al))) : Int) = (0 : Int)))
 (False)
 (test (decide
 ((0 : Int) ≤
 Int.tmod b0
 (↑(List.length (S.madeL nl (fun (j : Nat) => tl (j + al)) fun (j : Nat) => vl (j + al))) : Int) ∧
 Int.tmod b0 (↑(List.length (S.madeL nl (fun (j : Nat) => tl (j + al)) fun (j : Nat) => vl (j + al))) : Int) <
 (↑(List.length
 (S.mkl (List.length (S.madeL nl (fun (j : Nat) => tl (j + al)) fun (j : Nat) => vl (j + al)))
 fun (j : Nat) =>
 ((S.at' (S.madeL nl (fun (j : Nat) => tl (j + al)) fun (j : Nat) => vl (j + al)) j).1,
 Prod.fst
 (Prod.snd
 (S.at' (S.madeL nl (fun (j : Nat) => tl (j + al)) fun (j : Nat) => vl (j + al)) j)),
 Prod.snd
 (Prod.snd
 (S.at' (S.madeL nl (fun (j : Nat) => tl (j + al)) fun (j : Nat) => vl (j + al)) j))))) :
 Int)))
 (test (decide
 (Int.toNat
 (Int.tmod b0
 (↑(List.length (S.madeL nl (fun (j : Nat) => tl (j + al)) fun (j : Nat) => vl (j + al))) : Int)) <
 List.length
 (S.mkl (List.length (S.madeL nl (fun (j : Nat) => tl (j + al)) fun (j : Nat) => vl (j + al)))
 fun (j : Nat) =>
 ((S.at' (S.madeL nl (fun (j : Nat) => tl (j + al)) fun (j : Nat) => vl (j + al)) j).1,
 Prod.fst
 ((S.at' (S.madeL nl (fun (j : Nat) => tl (j + al)) fun (j : Nat) => vl (j + al)) j).2),
 Prod.snd
 ((S.at' (S.madeL nl (fun (j : Nat) => tl (j + al)) fun (j : Nat) => vl (j + al)) j).2)))))
 (test (true)
 (test (lim IntKind.i64 b1)
 (test (lim IntKind.i64
 (Prod.fst
 (Prod.snd
 (S.at'
 (S.mkl (List.length (S.madeL nl (fun (j : Nat) => tl (j + al)) fun (j : Nat) => vl (j + al)))
 fun (j : Nat) =>
 ((S.at' (S.madeL nl (fun (j : Nat) => tl (j + al)) fun (j : Nat) => vl (j + al)) j).1,
 Prod.fst
 (Prod.snd
 (S.at' (S.madeL nl (fun (j : Nat) => tl (j + al)) fun (j : Nat) => vl (j + al)) j)),
 Prod.snd
 (Prod.snd
 (S.at' (S.madeL nl (fun (j : Nat) => tl (j + al)) fun (j : Nat) => vl (j + al)) j))))
 (Int.toNat
 (Int.tmod b0
 (↑(List.length (S.madeL nl (fun (j : Nat) => tl (j + al)) fun (j : Nat) => vl (j + al))) :
 Int))))) +
 b1))
 (test (decide
 ((0 : Int) ≤
 Int.tmod b0
 (↑(List.length (S.madeL nl (fun (j : Nat) => tl (j + al)) fun (j : Nat) => vl (j + al))) : Int) ∧
 Int.tmod b0 (↑(List.length (S.madeL nl (fun (j : Nat) => tl (j + al)) fun (j : Nat) => vl (j + al))) : Int) <
 (↑(List.length
 (S.mkl (List.length (S.madeL nl (fun (j : Nat) => tl (j + al)) fun (j : Nat) => vl (j + al)))
 fun (j : Nat) =>
 ((S.at' (S.madeL nl (fun (j : Nat) => tl (j + al)) fun (j : Nat) => vl (j + al)) j).1,
 Prod.fst
 (Prod.snd
 (S.at' (S.madeL nl (fun (j : Nat) => tl (j + al)) fun (j : Nat) => vl (j + al)) j)),
 Prod.snd
 (Prod.snd
 (S.at' (S.madeL nl (fun (j : Nat) => tl (j + al)) fun (j : Nat) => vl (j + al)) j))))) :
 Int)))
 (test (decide
 (Int.toNat
 (Int.tmod b0
 (↑(List.length (S.madeL nl (fun (j : Nat) => tl (j + al)) fun (j : Nat) => vl (j + al))) : Int)) <
 List.length
 (S.mkl (List.length (S.madeL nl (fun (j : Nat) => tl (j + al)) fun (j : Nat) => vl (j + al)))
 fun (j : Nat) =>
 ((S.at' (S.madeL nl (fun (j : Nat) => tl (j + al)) fun (j : Nat) => vl (j + al)) j).1,
 Prod.fst
 ((S.at' (S.madeL nl (fun (j : Nat) => tl (j + al)) fun (j : Nat) => vl (j + al)) j).2),
 Prod.snd
 ((S.at' (S.madeL nl (fun (j : Nat) => tl (j + al)) fun (j : Nat) => vl (j + al)) j).2)))))
 (test (decide
 ((0 : Int) ≤
 Int.tmod b0
 (↑(List.length (S.madeL nl (fun (j : Nat) => tl (j + al)) fun (j : Nat) => vl (j + al))) : Int) ∧
 Int.tmod b0 (↑(List.length (S.madeL nl (fun (j : Nat) => tl (j + al)) fun (j : Nat) => vl (j + al))) : Int) <
 (↑(List.length
 (S.mkl (List.length (S.madeL nl (fun (j : Nat) => tl (j + al)) fun (j : Nat) => vl (j + al)))
 fun (j : Nat) =>
 ((S.at' (S.madeL nl (fun (j : Nat) => tl (j + al)) fun (j : Nat) => vl (j + al)) j).1,
 Prod.fst
 (Prod.snd
 (S.at' (S.madeL nl (fun (j : Nat) => tl (j + al)) fun (j : Nat) => vl (j + al)) j)),
 Prod.snd
 (Prod.snd
 (S.at' (S.madeL nl (fun (j : Nat) => tl (j + al)) fun (j : Nat) => vl (j + al)) j))))) :
 Int)))
 (test (decide
 (Int.toNat
 (Int.tmod b0
 (↑(List.length (S.madeL nl (fun (j : Nat) => tl (j + al)) fun (j : Nat) => vl (j + al))) : Int)) <
 List.length
 (S.mkl (List.length (S.madeL nl (fun (j : Nat) => tl (j + al)) fun (j : Nat) => vl (j + al)))
 fun (j : Nat) =>
 ((S.at' (S.madeL nl (fun (j : Nat) => tl (j + al)) fun (j : Nat) => vl (j + al)) j).1,
 Prod.fst
 ((S.at' (S.madeL nl (fun (j : Nat) => tl (j + al)) fun (j : Nat) => vl (j + al)) j).2),
 Prod.snd
 ((S.at' (S.madeL nl (fun (j : Nat) => tl (j + al)) fun (j : Nat) => vl (j + al)) j).2)))))
 (test (true)
 (test (false)
 (False)
 (test (lim IntKind.u8 (Int.tdiv b1 (3 : Int)))
 (test (lim IntKind.i64 (Int.tdiv b1 (3 : Int)))
 (test (lim IntKind.i64
 (Prod.snd
 (Prod.snd
 (S.at'
 (S.mkl (List.length (S.madeL nl (fun (j : Nat) => tl (j + al)) fun (j : Nat) => vl (j + al)))
 fun (j : Nat) =>
 ((S.at' (S.madeL nl (fun (j : Nat) => tl (j + al)) fun (j : Nat) => vl (j + al)) j).1,
 Prod.fst
 (Prod.snd
 (S.at' (S.madeL nl (fun (j : Nat) => tl (j + al)) fun (j : Nat) => vl (j + al)) j)),
 Prod.snd
 (Prod.snd
 (S.at' (S.madeL nl (fun (j : Nat) => tl (j + al)) fun (j : Nat) => vl (j + al)) j))))
 (Int.toNat
 (Int.tmod b0
 (↑(List.length (S.madeL nl (fun (j : Nat) => tl (j + al)) fun (j : Nat) => vl (j + al))) :
 Int))))) +
 Int.tdiv b1 (3 : Int)))
 (test (decide
 ((0 : Int) ≤
 Int.tmod b0
 (↑(List.length (S.madeL nl (fun (j : Nat) => tl (j + al)) fun (j : Nat) => vl (j + al))) : Int) ∧
 Int.tmod b0 (↑(List.length (S.madeL nl (fun (j : Nat) => tl (j + al)) fun (j : Nat) => vl (j + al))) : Int) <
 (↑(List.length
 (S.mkl (List.length (S.madeL nl (fun (j : Nat) => tl (j + al)) fun (j : Nat) => vl (j + al)))
 fun (j : Nat) =>
 ((S.at' (S.madeL nl (fun (j : Nat) => tl (j + al)) fun (j : Nat) => vl (j + al)) j).1,
 Prod.fst
 (Prod.snd
 (S.at' (S.madeL nl (fun (j : Nat) => tl (j + al)) fun (j : Nat) => vl (j + al)) j)),
 Prod.snd
 (Prod.snd
 (S.at' (S.madeL nl (fun (j : Nat) => tl (j + al)) fun (j : Nat) => vl (j + al)) j))))) :
 Int)))
 (test (decide
 (Int.toNat
 (Int.tmod b0
 (↑(List.length (S.madeL nl (fun (j : Nat) => tl (j + al)) fun (j : Nat) => vl (j + al))) : Int)) <
 List.length
 (S.mkl (List.length (S.madeL nl (fun (j : Nat) => tl (j + al)) fun (j : Nat) => vl (j + al)))
 fun (j : Nat) =>
 ((S.at' (S.madeL nl (fun (j : Nat) => tl (j + al)) fun (j : Nat) => vl (j + al)) j).1,
 Prod.fst
 ((S.at' (S.madeL nl (fun (j : Nat) => tl (j + al)) fun (j : Nat) => vl (j + al)) j).2),
 Prod.snd
 ((S.at' (S.madeL nl (fun (j : Nat) => tl (j + al)) fun (j : Nat) => vl (j + al)) j).2)))))
 (test (true)
 (test (false)
 (False)
 (test (lim IntKind.i64 (Int.tmod b1 (2 : Int)))
 (test (lim IntKind.i64 (b2 + Int.tmod b1 (2 : Int)))
 (test (decide
 (0 + List.length (S.madeL nl (fun (j : Nat) => tl (j + al)) fun (j : Nat) => vl (j + al)) ≤
 List.length (S.madeL nl (fun (j : Nat) => tl (j + al)) fun (j : Nat) => vl (j + al)) ∧
 List.length (S.madeL nl (fun (j : Nat) => tl (j + al)) fun (j : Nat) => vl (j + al)) ≤ 1000000))
 (test (Prod.fst
 (S.faiS (List.length (S.madeL nl (fun (j : Nat) => tl (j + al)) fun (j : Nat) => vl (j + al)))
 (S.netE (List.length (S.madeL nl (fun (j : Nat) => tl (j + al)) fun (j : Nat) => vl (j + al)))
 (fun (j : Nat) =>
 (S.at' (S.madeL nl (fun (j : Nat) => tl (j + al)) fun (j : Nat) => vl (j + al)) j).1)
 (fun (j : Nat) =>
 Prod.fst
 ((S.at' (S.madeL nl (fun (j : Nat) => tl (j + al)) fun (j : Nat) => vl (j + al)) j).2))
 (fun (j : Nat) =>
 Prod.snd
 ((S.at' (S.madeL nl (fun (j : Nat) => tl (j + al)) fun (j : Nat) => vl (j + al)) j).2))
 b2)) !=
 (0 : Int))
 (Kret (PV.tf false) ([[(0, false, Blk.cols ml [Col.int IntKind.u8 tl, Col.int IntKind.u8 vl])]]) (11))
 (test ((↑(List.length
 (Prod.snd
 (S.faiS (List.length (S.madeL nl (fun (j : Nat) => tl (j + al)) fun (j : Nat) => vl (j + al)))
 (S.netE (List.length (S.madeL nl (fun (j : Nat) => tl (j + al)) fun (j : Nat) => vl (j + al)))
 (fun (j : Nat) =>
 (S.at' (S.madeL nl (fun (j : Nat) => tl (j + al)) fun (j : Nat) => vl (j + al)) j).1)
 (fun (j : Nat) =>
 Prod.fst
 (Prod.snd
 (S.at' (S.madeL nl (fun (j : Nat) => tl (j + al)) fun (j : Nat) => vl (j + al)) j)))
 (fun (j : Nat) =>
 Prod.snd
 (Prod.snd
 (S.at' (S.madeL nl (fun (j : Nat) => tl (j + al)) fun (j : Nat) => vl (j + al)) j)))
 b2)))) :
 Int) ==
 (0 : Int))
 (Kret (PV.tf false) ([[(0, false, Blk.cols ml [Col.int IntKind.u8 tl, Col.int IntKind.u8 vl])]]) (11))
 (test (lim IntKind.i64 fa)
 (test (decide
 ((↑(List.length
 (Prod.snd
 (S.faiS (List.length (S.madeL nl (fun (j : Nat) => tl (j + al)) fun (j : Nat) => vl (j + al)))
 (S.netE (List.length (S.madeL nl (fun (j : Nat) => tl (j + al)) fun (j : Nat) => vl (j + al)))
 (fun (j : Nat) =>
 Prod.fst
 (S.at' (S.madeL nl (fun (j : Nat) => tl (j + al)) fun (j : Nat) => vl (j + al)) j))
 (fun (j : Nat) =>
 Prod.fst
 (Prod.snd
 (S.at' (S.madeL nl (fun (j : Nat) => tl (j + al)) fun (j : Nat) => vl (j + al)) j)))
 (fun (j : Nat) =>
 Prod.snd
 (Prod.snd
 (S.at' (S.madeL nl (fun (j : Nat) => tl (j + al)) fun (j : Nat) => vl (j + al)) j)))
 b2)))) :
 Int) =
 (0 : Int)))
 (False)
 (test (decide
 ((0 : Int) ≤
 Int.tmod fa
 (↑(List.length
 (Prod.snd
 (S.faiS
 (List.length (S.madeL nl (fun (j : Nat) => tl (j + al)) fun (j : Nat) => vl (j + al)))
 (S.netE
 (List.length (S.madeL nl (fun (j : Nat) => tl (j + al)) fun (j : Nat) => vl (j + al)))
 (fun (j : Nat) =>
 Prod.fst
 (S.at' (S.madeL nl (fun (j : Nat) => tl (j + al)) fun (j : Nat) => vl (j + al)) j))
 (fun (j : Nat) =>
 Prod.fst
 (Prod.snd
 (S.at' (S.madeL nl (fun (j : Nat) => tl (j + al)) fun (j : Nat) => vl (j + al))
 j)))
 (fun (j : Nat) =>
 Prod.snd
 (Prod.snd
 (S.at' (S.madeL nl (fun (j : Nat) => tl (j + al)) fun (j : Nat) => vl (j + al))
 j)))
 b2)))) :
 Int) ∧
 Int.tmod fa
 (↑(List.length
 (Prod.snd
 (S.faiS
 (List.length (S.madeL nl (fun (j : Nat) => tl (j + al)) fun (j : Nat) => vl (j + al)))
 (S.netE
 (List.length (S.madeL nl (fun (j : Nat) => tl (j + al)) fun (j : Nat) => vl (j + al)))
 (fun (j : Nat) =>
 Prod.fst
 (S.at' (S.madeL nl (fun (j : Nat) => tl (j + al)) fun (j : Nat) => vl (j + al)) j))
 (fun (j : Nat) =>
 Prod.fst
 (Prod.snd
 (S.at' (S.madeL nl (fun (j : Nat) => tl (j + al)) fun (j : Nat) => vl (j + al))
 j)))
 (fun (j : Nat) =>
 Prod.snd
 (Prod.snd
 (S.at' (S.madeL nl (fun (j : Nat) => tl (j + al)) fun (j : Nat) => vl (j + al))
 j)))
 b2)))) :
 Int) <
 (↑(List.length
 (Prod.snd
 (S.faiS (List.length (S.madeL nl (fun (j : Nat) => tl (j + al)) fun (j : Nat) => vl (j + al)))
 (S.netE
 (List.length (S.madeL nl (fun (j : Nat) => tl (j + al)) fun (j : Nat) => vl (j + al)))
 (fun (j : Nat) =>
 Prod.fst
 (S.at' (S.madeL nl (fun (j : Nat) => tl (j + al)) fun (j : Nat) => vl (j + al)) j))
 (fun (j : Nat) =>
 Prod.fst
 (Prod.snd
 (S.at' (S.madeL nl (fun (j : Nat) => tl (j + al)) fun (j : Nat) => vl (j + al)) j)))
 (fun (j : Nat) =>
 Prod.snd
 (Prod.snd
 (S.at' (S.madeL nl (fun (j : Nat) => tl (j + al)) fun (j : Nat) => vl (j + al)) j)))
 b2)))) :
 Int)))
 (test (decide
 (Int.toNat
 (Int.tmod fa
 (↑(List.length
 (Prod.snd
 (S.faiS
 (List.length (S.madeL nl (fun (j : Nat) => tl (j + al)) fun (j : Nat) => vl (j + al)))
 (S.netE
 (List.length (S.madeL nl (fun (j : Nat) => tl (j + al)) fun (j : Nat) => vl (j + al)))
 (fun (j : Nat) =>
 Prod.fst
 (S.at' (S.madeL nl (fun (j : Nat) => tl (j + al)) fun (j : Nat) => vl (j + al)) j))
 (fun (j : Nat) =>
 Prod.fst
 (Prod.snd
 (S.at' (S.madeL nl (fun (j : Nat) => tl (j + al)) fun (j : Nat) => vl (j + al))
 j)))
 (fun (j : Nat) =>
 Prod.snd
 (Prod.snd
 (S.at' (S.madeL nl (fun (j : Nat) => tl (j + al)) fun (j : Nat) => vl (j + al))
 j)))
 b2)))) :
 Int)) <
 List.length
 (Prod.snd
 (S.faiS (List.length (S.madeL nl (fun (j : Nat) => tl (j + al)) fun (j : Nat) => vl (j + al)))
 (S.netE (List.length (S.madeL nl (fun (j : Nat) => tl (j + al)) fun (j : Nat) => vl (j + al)))
 (fun (j : Nat) =>
 (S.at' (S.madeL nl (fun (j : Nat) => tl (j + al)) fun (j : Nat) => vl (j + al)) j).1)
 (fun (j : Nat) =>
 Prod.fst
 (Prod.snd
 (S.at' (S.madeL nl (fun (j : Nat) => tl (j + al)) fun (j : Nat) => vl (j + al)) j)))
 (fun (j : Nat) =>
 Prod.snd
 (Prod.snd
 (S.at' (S.madeL nl (fun (j : Nat) => tl (j + al)) fun (j : Nat) => vl (j + al)) j)))
 b2)))))
 (test (decide
 (Int.toNat
 (Int.tmod fa
 (↑(List.length
 (Prod.snd
 (S.faiS
 (List.length (S.madeL nl (fun (j : Nat) => tl (j + al)) fun (j : Nat) => vl (j + al)))
 (S.netE
 (List.length (S.madeL nl (fun (j : Nat) => tl (j + al)) fun (j : Nat) => vl (j + al)))
 (fun (j : Nat) =>
 Prod.fst
 (S.at' (S.madeL nl (fun (j : Nat) => tl (j + al)) fun (j : Nat) => vl (j + al)) j))
 (fun (j : Nat) =>
 Prod.fst
 (Prod.snd
 (S.at' (S.madeL nl (fun (j : Nat) => tl (j + al)) fun (j : Nat) => vl (j + al))
 j)))
 (fun (j : Nat) =>
 Prod.snd
 (Prod.snd
 (S.at' (S.madeL nl (fun (j : Nat) => tl (j + al)) fun (j : Nat) => vl (j + al))
 j)))
 b2)))) :
 Int)) <
 List.length
 (Prod.snd
 (S.faiS (List.length (S.madeL nl (fun (j : Nat) => tl (j + al)) fun (j : Nat) => vl (j + al)))
 (S.netE (List.length (S.madeL nl (fun (j : Nat) => tl (j + al)) fun (j : Nat) => vl (j + al)))
 (fun (j : Nat) =>
 (S.at' (S.madeL nl (fun (j : Nat) => tl (j + al)) fun (j : Nat) => vl (j + al)) j).1)
 (fun (j : Nat) =>
 Prod.fst
 (Prod.snd
 (S.at' (S.madeL nl (fun (j : Nat) => tl (j + al)) fun (j : Nat) => vl (j + al)) j)))
 (fun (j : Nat) =>
 Prod.snd
 (Prod.snd
 (S.at' (S.madeL nl (fun (j : Nat) => tl (j + al)) fun (j : Nat) => vl (j + al)) j)))
 b2)))))
 (test (decide
 (Int.toNat
 (Int.tmod fa
 (↑(List.length
 (Prod.snd
 (S.faiS
 (List.length (S.madeL nl (fun (j : Nat) => tl (j + al)) fun (j : Nat) => vl (j + al)))
 (S.netE
 (List.length (S.madeL nl (fun (j : Nat) => tl (j + al)) fun (j : Nat) => vl (j + al)))
 (fun (j : Nat) =>
 Prod.fst
 (S.at' (S.madeL nl (fun (j : Nat) => tl (j + al)) fun (j : Nat) => vl (j + al)) j))
 (fun (j : Nat) =>
 Prod.fst
 (Prod.snd
 (S.at' (S.madeL nl (fun (j : Nat) => tl (j + al)) fun (j : Nat) => vl (j + al))
 j)))
 (fun (j : Nat) =>
 Prod.snd
 (Prod.snd
 (S.at' (S.madeL nl (fun (j : Nat) => tl (j + al)) fun (j : Nat) => vl (j + al))
 j)))
 b2)))) :
 Int)) <
 List.length
 (Prod.snd
 (S.faiS (List.length (S.madeL nl (fun (j : Nat) => tl (j + al)) fun (j : Nat) => vl (j + al)))
 (S.netE (List.length (S.madeL nl (fun (j : Nat) => tl (j + al)) fun (j : Nat) => vl (j + al)))
 (fun (j : Nat) =>
 (S.at' (S.madeL nl (fun (j : Nat) => tl (j + al)) fun (j : Nat) => vl (j + al)) j).1)
 (fun (j : Nat) =>
 Prod.fst
 (Prod.snd
 (S.at' (S.madeL nl (fun (j : Nat) => tl (j + al)) fun (j : Nat) => vl (j + al)) j)))
 (fun (j : Nat) =>
 Prod.snd
 (Prod.snd
 (S.at' (S.madeL nl (fun (j : Nat) => tl (j + al)) fun (j : Nat) => vl (j + al)) j)))
 b2)))))
 (Kst (hd Try.f11 0) ([PV.ptr (PA.mk (5) (0) (0) (0)),
 PV.ptr (PA.mk (8) (0) (0) (0)),
 PV.ptr (PA.mk (11) (0) (0) (0)),
 PV.int IntKind.i64
 (↑(List.length (S.madeL nl (fun (j : Nat) => tl (j + al)) fun (j : Nat) => vl (j + al))) : Int),
 PV.int IntKind.i64 (0 : Int)]) ([[(0, false, Blk.cols ml [Col.int IntKind.u8 tl, Col.int IntKind.u8 vl]),
 (11, true,
 Blk.cells
 [PV.int IntKind.i64
 (Prod.fst
 (S.at'
 (Prod.snd
 (S.faiS
 (List.length (S.madeL nl (fun (j : Nat) => tl (j + al)) fun (j : Nat) => vl (j + al)))
 (S.netE
 (List.length (S.madeL nl (fun (j : Nat) => tl (j + al)) fun (j : Nat) => vl (j + al)))
 (fun (j : Nat) =>
 Prod.fst
 (S.at' (S.madeL nl (fun (j : Nat) => tl (j + al)) fun (j : Nat) => vl (j + al))
 j))
 (fun (j : Nat) =>
 Prod.fst
 (Prod.snd
 (S.at' (S.madeL nl (fun (j : Nat) => tl (j + al)) fun (j : Nat) => vl (j + al))
 j)))
 (fun (j : Nat) =>
 Prod.snd
 (Prod.snd
 (S.at' (S.madeL nl (fun (j : Nat) => tl (j + al)) fun (j : Nat) => vl (j + al))
 j)))
 b2)))
 (Int.toNat
 (Int.tmod fa
 (↑(List.length
 (Prod.snd
 (S.faiS
 (List.length
 (S.madeL nl (fun (j : Nat) => tl (j + al)) fun (j : Nat) => vl (j + al)))
 (S.netE
 (List.length
 (S.madeL nl (fun (j : Nat) => tl (j + al)) fun (j : Nat) => vl (j + al)))
 (fun (j : Nat) =>
 Prod.fst
 (S.at'
 (S.madeL nl (fun (j : Nat) => tl (j + al)) fun (j : Nat) => vl (j + al)) j))
 (fun (j : Nat) =>
 Prod.fst
 (Prod.snd
 (S.at'
 (S.madeL nl (fun (j : Nat) => tl (j + al)) fun (j : Nat) => vl (j + al))
 j)))
 (fun (j : Nat) =>
 Prod.snd
 (Prod.snd
 (S.at'
 (S.madeL nl (fun (j : Nat) => tl (j + al)) fun (j : Nat) => vl (j + al))
 j)))
 b2)))) :
 Int))))),
 PV.int IntKind.i64
 (Prod.fst
 (Prod.snd
 (S.at'
 (Prod.snd
 (S.faiS
 (List.length (S.madeL nl (fun (j : Nat) => tl (j + al)) fun (j : Nat) => vl (j + al)))
 (S.netE
 (List.length (S.madeL nl (fun (j : Nat) => tl (j + al)) fun (j : Nat) => vl (j + al)))
 (fun (j : Nat) =>
 Prod.fst
 (S.at' (S.madeL nl (fun (j : Nat) => tl (j + al)) fun (j : Nat) => vl (j + al))
 j))
 (fun (j : Nat) =>
 Prod.fst
 (Prod.snd
 (S.at'
 (S.madeL nl (fun (j : Nat) => tl (j + al)) fun (j : Nat) => vl (j + al)) j)))
 (fun (j : Nat) =>
 Prod.snd
 (Prod.snd
 (S.at'
 (S.madeL nl (fun (j : Nat) => tl (j + al)) fun (j : Nat) => vl (j + al)) j)))
 b2)))
 (Int.toNat
 (Int.tmod fa
 (↑(List.length
 (Prod.snd
 (S.faiS
 (List.length
 (S.madeL nl (fun (j : Nat) => tl (j + al)) fun (j : Nat) => vl (j + al)))
 (S.netE
 (List.length
 (S.madeL nl (fun (j : Nat) => tl (j + al)) fun (j : Nat) => vl (j + al)))
 (fun (j : Nat) =>
 Prod.fst
 (S.at'
 (S.madeL nl (fun (j : Nat) => tl (j + al)) fun (j : Nat) => vl (j + al))
 j))
 (fun (j : Nat) =>
 Prod.fst
 (Prod.snd
 (S.at'
 (S.madeL nl (fun (j : Nat) => tl (j + al)) fun (j : Nat) => vl (j + al))
 j)))
 (fun (j : Nat) =>
 Prod.snd
 (Prod.snd
 (S.at'
 (S.madeL nl (fun (j : Nat) => tl (j + al)) fun (j : Nat) => vl (j + al))
 j)))
 b2)))) :
 Int)))))),
 PV.int IntKind.i64
 (Prod.snd
 (Prod.snd
 (S.at'
 (Prod.snd
 (S.faiS
 (List.length (S.madeL nl (fun (j : Nat) => tl (j + al)) fun (j : Nat) => vl (j + al)))
 (S.netE
 (List.length (S.madeL nl (fun (j : Nat) => tl (j + al)) fun (j : Nat) => vl (j + al)))
 (fun (j : Nat) =>
 Prod.fst
 (S.at' (S.madeL nl (fun (j : Nat) => tl (j + al)) fun (j : Nat) => vl (j + al))
 j))
 (fun (j : Nat) =>
 Prod.fst
 (Prod.snd
 (S.at'
 (S.madeL nl (fun (j : Nat) => tl (j + al)) fun (j : Nat) => vl (j + al)) j)))
 (fun (j : Nat) =>
 Prod.snd
 (Prod.snd
 (S.at'
 (S.madeL nl (fun (j : Nat) => tl (j + al)) fun (j : Nat) => vl (j + al)) j)))
 b2)))
 (Int.toNat
 (Int.tmod fa
 (↑(List.length
 (Prod.snd
 (S.faiS
 (List.length
 (S.madeL nl (fun (j : Nat) => tl (j + al)) fun (j : Nat) => vl (j + al)))
 (S.netE
 (List.length
 (S.madeL nl (fun (j : Nat) => tl (j + al)) fun (j : Nat) => vl (j + al)))
 (fun (j : Nat) =>
 Prod.fst
 (S.at'
 (S.madeL nl (fun (j : Nat) => tl (j + al)) fun (j : Nat) => vl (j + al))
 j))
 (fun (j : Nat) =>
 Prod.fst
 (Prod.snd
 (S.at'
 (S.madeL nl (fun (j : Nat) => tl (j + al)) fun (j : Nat) => vl (j + al))
 j)))
 (fun (j : Nat) =>
 Prod.snd
 (Prod.snd
 (S.at'
 (S.madeL nl (fun (j : Nat) => tl (j + al)) fun (j : Nat) => vl (j + al))
 j)))
 b2)))) :
 Int))))))]),
 (8, true,
 Blk.cells
 [PV.own (7) (3)
 (List.length
 (S.mkl (List.length (S.madeL nl (fun (j : Nat) => tl (j + al)) fun (j : Nat) => vl (j + al)))
 fun (j : Nat) =>
 (Prod.fst
 (S.at' (S.madeL nl (fun (j : Nat) => tl (j + al)) fun (j : Nat) => vl (j + al)) j),
 Prod.fst
 (Prod.snd
 (S.at' (S.madeL nl (fun (j : Nat) => tl (j + al)) fun (j : Nat) => vl (j + al)) j)),
 Prod.snd
 (Prod.snd
 (S.at' (S.madeL nl (fun (j : Nat) => tl (j + al)) fun (j : Nat) => vl (j + al))
 j))))),
 PV.int IntKind.i64 (b2 + Int.tmod b1 (2 : Int))]),
 (5, true,
 Blk.cells
 [PV.own (4) (3)
 (List.length (S.madeL nl (fun (j : Nat) => tl (j + al)) fun (j : Nat) => vl (j + al))),
 PV.int IntKind.i64 b2]),
 (4, true,
 Blk.cols (List.length (S.madeL nl (fun (j : Nat) => tl (j + al)) fun (j : Nat) => vl (j + al)))
 [Col.str fun (j : Nat) =>
 (S.at' (S.madeL nl (fun (j : Nat) => tl (j + al)) fun (j : Nat) => vl (j + al)) j).1,
 Col.int IntKind.i64 fun (j : Nat) =>
 Prod.fst
 ((S.at' (S.madeL nl (fun (j : Nat) => tl (j + al)) fun (j : Nat) => vl (j + al)) j).2),
 Col.int IntKind.i64 fun (j : Nat) =>
 Prod.snd
 (Prod.snd
 (S.at' (S.madeL nl (fun (j : Nat) => tl (j + al)) fun (j : Nat) => vl (j + al)) j))]),
 (7, true,
 Blk.cols
 (List.length
 (S.mkl (List.length (S.madeL nl (fun (j : Nat) => tl (j + al)) fun (j : Nat) => vl (j + al)))
 fun (j : Nat) =>
 ((S.at' (S.madeL nl (fun (j : Nat) => tl (j + al)) fun (j : Nat) => vl (j + al)) j).1,
 Prod.fst
 (Prod.snd
 (S.at' (S.madeL nl (fun (j : Nat) => tl (j + al)) fun (j : Nat) => vl (j + al)) j)),
 Prod.snd
 (Prod.snd
 (S.at' (S.madeL nl (fun (j : Nat) => tl (j + al)) fun (j : Nat) => vl (j + al)) j)))))
 [Col.str fun (j : Nat) =>
 Prod.fst
 (S.at'
 (S.mkl
 (List.length (S.madeL nl (fun (j : Nat) => tl (j + al)) fun (j : Nat) => vl (j + al)))
 fun (j : Nat) =>
 (Prod.fst
 (S.at' (S.madeL nl (fun (j : Nat) => tl (j + al)) fun (j : Nat) => vl (j + al)) j),
 Prod.fst
 (Prod.snd
 (S.at' (S.madeL nl (fun (j : Nat) => tl (j + al)) fun (j : Nat) => vl (j + al)) j)),
 Prod.snd
 (Prod.snd
 (S.at' (S.madeL nl (fun (j : Nat) => tl (j + al)) fun (j : Nat) => vl (j + al))
 j))))
 j),
 Col.int IntKind.i64 fun (j : Nat) =>
 bif
 Nat.beq j
 (Int.toNat
 (Int.tmod b0
 (↑(List.length (S.madeL nl (fun (j : Nat) => tl (j + al)) fun (j : Nat) => vl (j + al))) :
 Int))) then
 Prod.fst
 (Prod.snd
 (S.at'
 (S.mkl
 (List.length (S.madeL nl (fun (j : Nat) => tl (j + al)) fun (j : Nat) => vl (j + al)))
 fun (j : Nat) =>
 (Prod.fst
 (S.at' (S.madeL nl (fun (j : Nat) => tl (j + al)) fun (j : Nat) => vl (j + al))
 j),
 Prod.fst
 (Prod.snd
 (S.at'
 (S.madeL nl (fun (j : Nat) => tl (j + al)) fun (j : Nat) => vl (j + al)) j)),
 Prod.snd
 (Prod.snd
 (S.at'
 (S.madeL nl (fun (j : Nat) => tl (j + al)) fun (j : Nat) => vl (j + al)) j))))
 (Int.toNat
 (Int.tmod b0
 (↑(List.length
 (S.madeL nl (fun (j : Nat) => tl (j + al)) fun (j : Nat) => vl (j + al))) :
 Int))))) +
 b1
 else
 Prod.fst
 (Prod.snd
 (S.at'
 (S.mkl
 (List.length (S.madeL nl (fun (j : Nat) => tl (j + al)) fun (j : Nat) => vl (j + al)))
 fun (j : Nat) =>
 (Prod.fst
 (S.at' (S.madeL nl (fun (j : Nat) => tl (j + al)) fun (j : Nat) => vl (j + al))
 j),
 Prod.fst
 (Prod.snd
 (S.at' (S.madeL nl (fun (j : Nat) => tl (j + al)) fun (j : Nat) => vl (j + al))
 j)),
 Prod.snd
 (Prod.snd
 (S.at' (S.madeL nl (fun (j : Nat) => tl (j + al)) fun (j : Nat) => vl (j + al))
 j))))
 j)),
 Col.int IntKind.i64 fun (j : Nat) =>
 bif
 Nat.beq j
 (Int.toNat
 (Int.tmod b0
 (↑(List.length (S.madeL nl (fun (j : Nat) => tl (j + al)) fun (j : Nat) => vl (j + al))) :
 Int))) then
 Prod.snd
 (Prod.snd
 (S.at'
 (S.mkl
 (List.length (S.madeL nl (fun (j : Nat) => tl (j + al)) fun (j : Nat) => vl (j + al)))
 fun (j : Nat) =>
 (Prod.fst
 (S.at' (S.madeL nl (fun (j : Nat) => tl (j + al)) fun (j : Nat) => vl (j + al))
 j),
 Prod.fst
 (Prod.snd
 (S.at'
 (S.madeL nl (fun (j : Nat) => tl (j + al)) fun (j : Nat) => vl (j + al)) j)),
 Prod.snd
 (Prod.snd
 (S.at'
 (S.madeL nl (fun (j : Nat) => tl (j + al)) fun (j : Nat) => vl (j + al)) j))))
 (Int.toNat
 (Int.tmod b0
 (↑(List.length
 (S.madeL nl (fun (j : Nat) => tl (j + al)) fun (j : Nat) => vl (j + al))) :
 Int))))) +
 Int.tdiv b1 (3 : Int)
 else
 Prod.snd
 (Prod.snd
 (S.at'
 (S.mkl
 (List.length (S.madeL nl (fun (j : Nat) => tl (j + al)) fun (j : Nat) => vl (j + al)))
 fun (j : Nat) =>
 (Prod.fst
 (S.at' (S.madeL nl (fun (j : Nat) => tl (j + al)) fun (j : Nat) => vl (j + al))
 j),
 Prod.fst
 (Prod.snd
 (S.at' (S.madeL nl (fun (j : Nat) => tl (j + al)) fun (j : Nat) => vl (j + al))
 j)),
 Prod.snd
 (Prod.snd
 (S.at' (S.madeL nl (fun (j : Nat) => tl (j + al)) fun (j : Nat) => vl (j + al))
 j))))
 j))])]]) (12))
 (False))
 (False))
 (False))
 (False)))
 (False))))
 (False))
 (False))
 (False)))
 (False))
 (False))
 (False))
 (False))
 (False))
 (False)))
 (False))
 (False))
 (False))
 (False))
 (False))
 (False))
 (False))
 (False))
 (False))
 (False)))
 (False))
 (False))
 (False))
 (False))
 (False)))
 (test (true)
 (test (true)
 (Kret (PV.tf true) ([[(0, false, Blk.cols ml [Col.int IntKind.u8 tl, Col.int IntKind.u8 vl])]]) (4))
 (Kret (PV.tf false) ([[(0, false, Blk.cols ml [Col.int IntKind.u8 tl, Col.int IntKind.u8 vl])]]) (4)))
 (False)))
 (False)
set_option maxRecDepth 100000 in
theorem te11 (test : Bool → Prop → Prop → Prop) (Kst : KS) (Kret : KR) (al nl ml : Nat) (tl : Nat → Int) (vl : Nat → Int) (b0 : Int) (b1 : Int) (b2 : Int) (fa : Int) : run test Try.env true (xL8 test) true 400 ⟨11, [.cd (mkFn Try.f11).body], argT 0 [.loose ⟨0, 2, al, 0⟩ nl, .agg [.int .u8 b0, .int .u8 b1, .int .u8 b2], .int .u8 fa], [[], [(0, (false, .cols ml [.int .u8 tl, .int .u8 vl]))]], 1⟩ (proj 1 [7, 8, 12, 94, 95] Kst Kret) =
  Te11 test Kst Kret al nl ml tl vl b0 b1 b2 fa := by kernel_rfl
noncomputable def T11_0 (test : Bool → Prop → Prop → Prop) (Kst : KS) (Kret : KR) (al nl ml : Nat) (tl : Nat → Int) (vl : Nat → Int) (b0 : Int) (b1 : Int) (b2 : Int) (fa : Int) (x0 : Int) (x1 : List (ByteArray × Int × Int)) (x2 : List (ByteArray × Int × Int)) : Prop :=
  test (decide
 (x0 < (↑(List.length (S.madeL nl (fun (j : Nat) => tl (j + al)) fun (j : Nat) => vl (j + al))) : Int)))
 (test (decide (0 + List.length x1 ≤ List.length x1 ∧ List.length x1 ≤ 1000000))
 (test (decide (0 + List.length x2 ≤ List.length x2 ∧ List.length x2 ≤ 1000000))
 (test (Prod.snd
 (S.latS (List.length x1) (fun (j : Nat) => (S.at' x1 j).2.1)
 (fun (j : Nat) => (S.at' x1 j).2.2) b2
 (S.netE (List.length x1) (fun (j : Nat) => (S.at' x1 j).1)
 (fun (j : Nat) => (S.at' x1 j).2.1)
 (fun (j : Nat) => (S.at' x1 j).2.2) b2)
 x0
 (Prod.fst
 (S.at'
 (Prod.snd
 (S.faiS (List.length (S.madeL nl (fun (j : Nat) => tl (j + al)) fun (j : Nat) => vl (j + al)))
 (S.netE (List.length (S.madeL nl (fun (j : Nat) => tl (j + al)) fun (j : Nat) => vl (j + al)))
 (fun (j : Nat) =>
 Prod.fst
 (S.at' (S.madeL nl (fun (j : Nat) => tl (j + al)) fun (j : Nat) => vl (j + al)) j))
 (fun (j : Nat) =>
 Prod.fst
 (Prod.snd
 (S.at' (S.madeL nl (fun (j : Nat) => tl (j + al)) fun (j : Nat) => vl (j + al)) j)))
 (fun (j : Nat) =>
 Prod.snd
 (Prod.snd
 (S.at' (S.madeL nl (fun (j : Nat) => tl (j + al)) fun (j : Nat) => vl (j + al)) j)))
 b2)))
 (Int.toNat
 (Int.tmod fa
 (↑(List.length
 (Prod.snd
 (S.faiS
 (List.length (S.madeL nl (fun (j : Nat) => tl (j + al)) fun (j : Nat) => vl (j + al)))
 (S.netE
 (List.length (S.madeL nl (fun (j : Nat) => tl (j + al)) fun (j : Nat) => vl (j + al)))
 (fun (j : Nat) =>
 Prod.fst
 (S.at'
 (S.madeL nl (fun (j : Nat) => tl (j + al)) fun (j : Nat) => vl (j + al)) j))
 (fun (j : Nat) =>
 Prod.fst
 (Prod.snd
 (S.at'
 (S.madeL nl (fun (j : Nat) => tl (j + al)) fun (j : Nat) => vl (j + al)) j)))
 (fun (j : Nat) =>
 Prod.snd
 (Prod.snd
 (S.at'
 (S.madeL nl (fun (j : Nat) => tl (j + al)) fun (j : Nat) => vl (j + al)) j)))
 b2)))) :
 Int)))))
 (Prod.fst
 (Prod.snd
 (S.at'
 (Prod.snd
 (S.faiS (List.length (S.madeL nl (fun (j : Nat) => tl (j + al)) fun (j : Nat) => vl (j + al)))
 (S.netE
 (List.length (S.madeL nl (fun (j : Nat) => tl (j + al)) fun (j : Nat) => vl (j + al)))
 (fun (j : Nat) =>
 Prod.fst
 (S.at' (S.madeL nl (fun (j : Nat) => tl (j + al)) fun (j : Nat) => vl (j + al)) j))
 (fun (j : Nat) =>
 Prod.fst
 (Prod.snd
 (S.at' (S.madeL nl (fun (j : Nat) => tl (j + al)) fun (j : Nat) => vl (j + al)) j)))
 (fun (j : Nat) =>
 Prod.snd
 (Prod.snd
 (S.at' (S.madeL nl (fun (j : Nat) => tl (j + al)) fun (j : Nat) => vl (j + al)) j)))
 b2)))
 (Int.toNat
 (Int.tmod fa
 (↑(List.length
 (Prod.snd
 (S.faiS
 (List.length (S.madeL nl (fun (j : Nat) => tl (j + al)) fun (j : Nat) => vl (j + al)))
 (S.netE
 (List.length (S.madeL nl (fun (j : Nat) => tl (j + al)) fun (j : Nat) => vl (j + al)))
 (fun (j : Nat) =>
 Prod.fst
 (S.at'
 (S.madeL nl (fun (j : Nat) => tl (j + al)) fun (j : Nat) => vl (j + al)) j))
 (fun (j : Nat) =>
 Prod.fst
 (Prod.snd
 (S.at'
 (S.madeL nl (fun (j : Nat) => tl (j + al)) fun (j : Nat) => vl (j + al)) j)))
 (fun (j : Nat) =>
 Prod.snd
 (Prod.snd
 (S.at'
 (S.madeL nl (fun (j : Nat) => tl (j + al)) fun (j : Nat) => vl (j + al)) j)))
 b2)))) :
 Int))))))
 (Prod.snd
 (Prod.snd
 (S.at'
 (Prod.snd
 (S.faiS (List.length (S.madeL nl (fun (j : Nat) => tl (j + al)) fun (j : Nat) => vl (j + al)))
 (S.netE
 (List.length (S.madeL nl (fun (j : Nat) => tl (j + al)) fun (j : Nat) => vl (j + al)))
 (fun (j : Nat) =>
 Prod.fst
 (S.at' (S.madeL nl (fun (j : Nat) => tl (j + al)) fun (j : Nat) => vl (j + al)) j))
 (fun (j : Nat) =>
 Prod.fst
 (Prod.snd
 (S.at' (S.madeL nl (fun (j : Nat) => tl (j + al)) fun (j : Nat) => vl (j + al)) j)))
 (fun (j : Nat) =>
 Prod.snd
 (Prod.snd
 (S.at' (S.madeL nl (fun (j : Nat) => tl (j + al)) fun (j : Nat) => vl (j + al)) j)))
 b2)))
 (Int.toNat
 (Int.tmod fa
 (↑(List.length
 (Prod.snd
 (S.faiS
 (List.length (S.madeL nl (fun (j : Nat) => tl (j + al)) fun (j : Nat) => vl (j + al)))
 (S.netE
 (List.length (S.madeL nl (fun (j : Nat) => tl (j + al)) fun (j : Nat) => vl (j + al)))
 (fun (j : Nat) =>
 Prod.fst
 (S.at'
 (S.madeL nl (fun (j : Nat) => tl (j + al)) fun (j : Nat) => vl (j + al)) j))
 (fun (j : Nat) =>
 Prod.fst
 (Prod.snd
 (S.at'
 (S.madeL nl (fun (j : Nat) => tl (j + al)) fun (j : Nat) => vl (j + al)) j)))
 (fun (j : Nat) =>
 Prod.snd
 (Prod.snd
 (S.at'
 (S.madeL nl (fun (j : Nat) => tl (j + al)) fun (j : Nat) => vl (j + al)) j)))
 b2)))) :
 Int))))))) !=
 (0 : Int))
 (Kret (PV.tf false) ([[(0, false, Blk.cols ml [Col.int IntKind.u8 tl, Col.int IntKind.u8 vl])]]) (8))
 (test (Prod.snd
 (S.latS (List.length x2) (fun (j : Nat) => (S.at' x2 j).2.1)
 (fun (j : Nat) => (S.at' x2 j).2.2) (b2 + Int.tmod b1 (2 : Int))
 (S.netE (List.length x2) (fun (j : Nat) => (S.at' x2 j).1)
 (fun (j : Nat) => (S.at' x2 j).2.1)
 (fun (j : Nat) => (S.at' x2 j).2.2) (b2 + Int.tmod b1 (2 : Int)))
 x0
 (Prod.fst
 (S.at'
 (Prod.snd
 (S.faiS (List.length (S.madeL nl (fun (j : Nat) => tl (j + al)) fun (j : Nat) => vl (j + al)))
 (S.netE (List.length (S.madeL nl (fun (j : Nat) => tl (j + al)) fun (j : Nat) => vl (j + al)))
 (fun (j : Nat) =>
 Prod.fst
 (S.at' (S.madeL nl (fun (j : Nat) => tl (j + al)) fun (j : Nat) => vl (j + al)) j))
 (fun (j : Nat) =>
 Prod.fst
 (Prod.snd
 (S.at' (S.madeL nl (fun (j : Nat) => tl (j + al)) fun (j : Nat) => vl (j + al)) j)))
 (fun (j : Nat) =>
 Prod.snd
 (Prod.snd
 (S.at' (S.madeL nl (fun (j : Nat) => tl (j + al)) fun (j : Nat) => vl (j + al)) j)))
 b2)))
 (Int.toNat
 (Int.tmod fa
 (↑(List.length
 (Prod.snd
 (S.faiS
 (List.length (S.madeL nl (fun (j : Nat) => tl (j + al)) fun (j : Nat) => vl (j + al)))
 (S.netE
 (List.length (S.madeL nl (fun (j : Nat) => tl (j + al)) fun (j : Nat) => vl (j + al)))
 (fun (j : Nat) =>
 Prod.fst
 (S.at'
 (S.madeL nl (fun (j : Nat) => tl (j + al)) fun (j : Nat) => vl (j + al)) j))
 (fun (j : Nat) =>
 Prod.fst
 (Prod.snd
 (S.at'
 (S.madeL nl (fun (j : Nat) => tl (j + al)) fun (j : Nat) => vl (j + al)) j)))
 (fun (j : Nat) =>
 Prod.snd
 (Prod.snd
 (S.at'
 (S.madeL nl (fun (j : Nat) => tl (j + al)) fun (j : Nat) => vl (j + al)) j)))
 b2)))) :
 Int)))))
 (Prod.fst
 (Prod.snd
 (S.at'
 (Prod.snd
 (S.faiS (List.length (S.madeL nl (fun (j : Nat) => tl (j + al)) fun (j : Nat) => vl (j + al)))
 (S.netE
 (List.length (S.madeL nl (fun (j : Nat) => tl (j + al)) fun (j : Nat) => vl (j + al)))
 (fun (j : Nat) =>
 Prod.fst
 (S.at' (S.madeL nl (fun (j : Nat) => tl (j + al)) fun (j : Nat) => vl (j + al)) j))
 (fun (j : Nat) =>
 Prod.fst
 (Prod.snd
 (S.at' (S.madeL nl (fun (j : Nat) => tl (j + al)) fun (j : Nat) => vl (j + al)) j)))
 (fun (j : Nat) =>
 Prod.snd
 (Prod.snd
 (S.at' (S.madeL nl (fun (j : Nat) => tl (j + al)) fun (j : Nat) => vl (j + al)) j)))
 b2)))
 (Int.toNat
 (Int.tmod fa
 (↑(List.length
 (Prod.snd
 (S.faiS
 (List.length (S.madeL nl (fun (j : Nat) => tl (j + al)) fun (j : Nat) => vl (j + al)))
 (S.netE
 (List.length (S.madeL nl (fun (j : Nat) => tl (j + al)) fun (j : Nat) => vl (j + al)))
 (fun (j : Nat) =>
 Prod.fst
 (S.at'
 (S.madeL nl (fun (j : Nat) => tl (j + al)) fun (j : Nat) => vl (j + al)) j))
 (fun (j : Nat) =>
 Prod.fst
 (Prod.snd
 (S.at'
 (S.madeL nl (fun (j : Nat) => tl (j + al)) fun (j : Nat) => vl (j + al)) j)))
 (fun (j : Nat) =>
 Prod.snd
 (Prod.snd
 (S.at'
 (S.madeL nl (fun (j : Nat) => tl (j + al)) fun (j : Nat) => vl (j + al)) j)))
 b2)))) :
 Int))))))
 (Prod.snd
 (Prod.snd
 (S.at'
 (Prod.snd
 (S.faiS (List.length (S.madeL nl (fun (j : Nat) => tl (j + al)) fun (j : Nat) => vl (j + al)))
 (S.netE
 (List.length (S.madeL nl (fun (j : Nat) => tl (j + al)) fun (j : Nat) => vl (j + al)))
 (fun (j : Nat) =>
 Prod.fst
 (S.at' (S.madeL nl (fun (j : Nat) => tl (j + al)) fun (j : Nat) => vl (j + al)) j))
 (fun (j : Nat) =>
 Prod.fst
 (Prod.snd
 (S.at' (S.madeL nl (fun (j : Nat) => tl (j + al)) fun (j : Nat) => vl (j + al)) j)))
 (fun (j : Nat) =>
 Prod.snd
 (Prod.snd
 (S.at' (S.madeL nl (fun (j : Nat) => tl (j + al)) fun (j : Nat) => vl (j + al)) j)))
 b2)))
 (Int.toNat
 (Int.tmod fa
 (↑(List.length
 (Prod.snd
 (S.faiS
 (List.length (S.madeL nl (fun (j : Nat) => tl (j + al)) fun (j : Nat) => vl (j + al)))
 (S.netE
 (List.length (S.madeL nl (fun (j : Nat) => tl (j + al)) fun (j : Nat) => vl (j + al)))
 (fun (j : Nat) =>
 Prod.fst
 (S.at'
 (S.madeL nl (fun (j : Nat) => tl (j + al)) fun (j : Nat) => vl (j + al)) j))
 (fun (j : Nat) =>
 Prod.fst
 (Prod.snd
 (S.at'
 (S.madeL nl (fun (j : Nat) => tl (j + al)) fun (j : Nat) => vl (j + al)) j)))
 (fun (j : Nat) =>
 Prod.snd
 (Prod.snd
 (S.at'
 (S.madeL nl (fun (j : Nat) => tl (j + al)) fun (j : Nat) => vl (j + al)) j)))
 b2)))) :
 Int))))))) !=
 (0 : Int))
 (Kret (PV.tf false) ([[(0, false, Blk.cols ml [Col.int IntKind.u8 tl, Col.int IntKind.u8 vl])]]) (8))
 (test (decide
 (Prod.fst
 (S.latS (List.length x1) (fun (j : Nat) => (S.at' x1 j).2.1)
 (fun (j : Nat) => (S.at' x1 j).2.2) b2
 (S.netE (List.length x1) (fun (j : Nat) => (S.at' x1 j).1)
 (fun (j : Nat) => (S.at' x1 j).2.1)
 (fun (j : Nat) => (S.at' x1 j).2.2) b2)
 x0
 (Prod.fst
 (S.at'
 (Prod.snd
 (S.faiS (List.length (S.madeL nl (fun (j : Nat) => tl (j + al)) fun (j : Nat) => vl (j + al)))
 (S.netE
 (List.length (S.madeL nl (fun (j : Nat) => tl (j + al)) fun (j : Nat) => vl (j + al)))
 (fun (j : Nat) =>
 Prod.fst
 (S.at' (S.madeL nl (fun (j : Nat) => tl (j + al)) fun (j : Nat) => vl (j + al)) j))
 (fun (j : Nat) =>
 Prod.fst
 (Prod.snd
 (S.at' (S.madeL nl (fun (j : Nat) => tl (j + al)) fun (j : Nat) => vl (j + al)) j)))
 (fun (j : Nat) =>
 Prod.snd
 (Prod.snd
 (S.at' (S.madeL nl (fun (j : Nat) => tl (j + al)) fun (j : Nat) => vl (j + al)) j)))
 b2)))
 (Int.toNat
 (Int.tmod fa
 (↑(List.length
 (Prod.snd
 (S.faiS
 (List.length (S.madeL nl (fun (j : Nat) => tl (j + al)) fun (j : Nat) => vl (j + al)))
 (S.netE
 (List.length (S.madeL nl (fun (j : Nat) => tl (j + al)) fun (j : Nat) => vl (j + al)))
 (fun (j : Nat) =>
 Prod.fst
 (S.at'
 (S.madeL nl (fun (j : Nat) => tl (j + al)) fun (j : Nat) => vl (j + al)) j))
 (fun (j : Nat) =>
 Prod.fst
 (Prod.snd
 (S.at'
 (S.madeL nl (fun (j : Nat) => tl (j + al)) fun (j : Nat) => vl (j + al)) j)))
 (fun (j : Nat) =>
 Prod.snd
 (Prod.snd
 (S.at'
 (S.madeL nl (fun (j : Nat) => tl (j + al)) fun (j : Nat) => vl (j + al)) j)))
 b2)))) :
 Int)))))
 (Prod.fst
 (Prod.snd
 (S.at'
 (Prod.snd
 (S.faiS
 (List.length (S.madeL nl (fun (j : Nat) => tl (j + al)) fun (j : Nat) => vl (j + al)))
 (S.netE
 (List.length (S.madeL nl (fun (j : Nat) => tl (j + al)) fun (j : Nat) => vl (j + al)))
 (fun (j : Nat) =>
 Prod.fst
 (S.at' (S.madeL nl (fun (j : Nat) => tl (j + al)) fun (j : Nat) => vl (j + al)) j))
 (fun (j : Nat) =>
 Prod.fst
 (Prod.snd
 (S.at' (S.madeL nl (fun (j : Nat) => tl (j + al)) fun (j : Nat) => vl (j + al))
 j)))
 (fun (j : Nat) =>
 Prod.snd
 (Prod.snd
 (S.at' (S.madeL nl (fun (j : Nat) => tl (j + al)) fun (j : Nat) => vl (j + al))
 j)))
 b2)))
 (Int.toNat
 (Int.tmod fa
 (↑(List.length
 (Prod.snd
 (S.faiS
 (List.length (S.madeL nl (fun (j : Nat) => tl (j + al)) fun (j : Nat) => vl (j + al)))
 (S.netE
 (List.length
 (S.madeL nl (fun (j : Nat) => tl (j + al)) fun (j : Nat) => vl (j + al)))
 (fun (j : Nat) =>
 Prod.fst
 (S.at'
 (S.madeL nl (fun (j : Nat) => tl (j + al)) fun (j : Nat) => vl (j + al)) j))
 (fun (j : Nat) =>
 Prod.fst
 (Prod.snd
 (S.at'
 (S.madeL nl (fun (j : Nat) => tl (j + al)) fun (j : Nat) => vl (j + al))
 j)))
 (fun (j : Nat) =>
 Prod.snd
 (Prod.snd
 (S.at'
 (S.madeL nl (fun (j : Nat) => tl (j + al)) fun (j : Nat) => vl (j + al))
 j)))
 b2)))) :
 Int))))))
 (Prod.snd
 (Prod.snd
 (S.at'
 (Prod.snd
 (S.faiS
 (List.length (S.madeL nl (fun (j : Nat) => tl (j + al)) fun (j : Nat) => vl (j + al)))
 (S.netE
 (List.length (S.madeL nl (fun (j : Nat) => tl (j + al)) fun (j : Nat) => vl (j + al)))
 (fun (j : Nat) =>
 Prod.fst
 (S.at' (S.madeL nl (fun (j : Nat) => tl (j + al)) fun (j : Nat) => vl (j + al)) j))
 (fun (j : Nat) =>
 Prod.fst
 (Prod.snd
 (S.at' (S.madeL nl (fun (j : Nat) => tl (j + al)) fun (j : Nat) => vl (j + al))
 j)))
 (fun (j : Nat) =>
 Prod.snd
 (Prod.snd
 (S.at' (S.madeL nl (fun (j : Nat) => tl (j + al)) fun (j : Nat) => vl (j + al))
 j)))
 b2)))
 (Int.toNat
 (Int.tmod fa
 (↑(List.length
 (Prod.snd
 (S.faiS
 (List.length (S.madeL nl (fun (j : Nat) => tl (j + al)) fun (j : Nat) => vl (j + al)))
 (S.netE
 (List.length
 (S.madeL nl (fun (j : Nat) => tl (j + al)) fun (j : Nat) => vl (j + al)))
 (fun (j : Nat) =>
 Prod.fst
 (S.at'
 (S.madeL nl (fun (j : Nat) => tl (j + al)) fun (j : Nat) => vl (j + al)) j))
 (fun (j : Nat) =>
 Prod.fst
 (Prod.snd
 (S.at'
 (S.madeL nl (fun (j : Nat) => tl (j + al)) fun (j : Nat) => vl (j + al))
 j)))
 (fun (j : Nat) =>
 Prod.snd
 (Prod.snd
 (S.at'
 (S.madeL nl (fun (j : Nat) => tl (j + al)) fun (j : Nat) => vl (j + al))
 j)))
 b2)))) :
 Int))))))) >
 Prod.fst
 (S.latS (List.length x2) (fun (j : Nat) => (S.at' x2 j).2.1)
 (fun (j : Nat) => (S.at' x2 j).2.2) (b2 + Int.tmod b1 (2 : Int))
 (S.netE (List.length x2) (fun (j : Nat) => (S.at' x2 j).1)
 (fun (j : Nat) => (S.at' x2 j).2.1)
 (fun (j : Nat) => (S.at' x2 j).2.2) (b2 + Int.tmod b1 (2 : Int)))
 x0
 (Prod.fst
 (S.at'
 (Prod.snd
 (S.faiS (List.length (S.madeL nl (fun (j : Nat) => tl (j + al)) fun (j : Nat) => vl (j + al)))
 (S.netE
 (List.length (S.madeL nl (fun (j : Nat) => tl (j + al)) fun (j : Nat) => vl (j + al)))
 (fun (j : Nat) =>
 Prod.fst
 (S.at' (S.madeL nl (fun (j : Nat) => tl (j + al)) fun (j : Nat) => vl (j + al)) j))
 (fun (j : Nat) =>
 Prod.fst
 (Prod.snd
 (S.at' (S.madeL nl (fun (j : Nat) => tl (j + al)) fun (j : Nat) => vl (j + al)) j)))
 (fun (j : Nat) =>
 Prod.snd
 (Prod.snd
 (S.at' (S.madeL nl (fun (j : Nat) => tl (j + al)) fun (j : Nat) => vl (j + al)) j)))
 b2)))
 (Int.toNat
 (Int.tmod fa
 (↑(List.length
 (Prod.snd
 (S.faiS
 (List.length (S.madeL nl (fun (j : Nat) => tl (j + al)) fun (j : Nat) => vl (j + al)))
 (S.netE
 (List.length (S.madeL nl (fun (j : Nat) => tl (j + al)) fun (j : Nat) => vl (j + al)))
 (fun (j : Nat) =>
 Prod.fst
 (S.at'
 (S.madeL nl (fun (j : Nat) => tl (j + al)) fun (j : Nat) => vl (j + al)) j))
 (fun (j : Nat) =>
 Prod.fst
 (Prod.snd
 (S.at'
 (S.madeL nl (fun (j : Nat) => tl (j + al)) fun (j : Nat) => vl (j + al)) j)))
 (fun (j : Nat) =>
 Prod.snd
 (Prod.snd
 (S.at'
 (S.madeL nl (fun (j : Nat) => tl (j + al)) fun (j : Nat) => vl (j + al)) j)))
 b2)))) :
 Int)))))
 (Prod.fst
 (Prod.snd
 (S.at'
 (Prod.snd
 (S.faiS
 (List.length (S.madeL nl (fun (j : Nat) => tl (j + al)) fun (j : Nat) => vl (j + al)))
 (S.netE
 (List.length (S.madeL nl (fun (j : Nat) => tl (j + al)) fun (j : Nat) => vl (j + al)))
 (fun (j : Nat) =>
 Prod.fst
 (S.at' (S.madeL nl (fun (j : Nat) => tl (j + al)) fun (j : Nat) => vl (j + al)) j))
 (fun (j : Nat) =>
 Prod.fst
 (Prod.snd
 (S.at' (S.madeL nl (fun (j : Nat) => tl (j + al)) fun (j : Nat) => vl (j + al))
 j)))
 (fun (j : Nat) =>
 Prod.snd
 (Prod.snd
 (S.at' (S.madeL nl (fun (j : Nat) => tl (j + al)) fun (j : Nat) => vl (j + al))
 j)))
 b2)))
 (Int.toNat
 (Int.tmod fa
 (↑(List.length
 (Prod.snd
 (S.faiS
 (List.length (S.madeL nl (fun (j : Nat) => tl (j + al)) fun (j : Nat) => vl (j + al)))
 (S.netE
 (List.length
 (S.madeL nl (fun (j : Nat) => tl (j + al)) fun (j : Nat) => vl (j + al)))
 (fun (j : Nat) =>
 Prod.fst
 (S.at'
 (S.madeL nl (fun (j : Nat) => tl (j + al)) fun (j : Nat) => vl (j + al)) j))
 (fun (j : Nat) =>
 Prod.fst
 (Prod.snd
 (S.at'
 (S.madeL nl (fun (j : Nat) => tl (j + al)) fun (j : Nat) => vl (j + al))
 j)))
 (fun (j : Nat) =>
 Prod.snd
 (Prod.snd
 (S.at'
 (S.madeL nl (fun (j : Nat) => tl (j + al)) fun (j : Nat) => vl (j + al))
 j)))
 b2)))) :
 Int))))))
 (Prod.snd
 (Prod.snd
 (S.at'
 (Prod.snd
 (S.faiS
 (List.length (S.madeL nl (fun (j : Nat) => tl (j + al)) fun (j : Nat) => vl (j + al)))
 (S.netE
 (List.length (S.madeL nl (fun (j : Nat) => tl (j + al)) fun (j : Nat) => vl (j + al)))
 (fun (j : Nat) =>
 Prod.fst
 (S.at' (S.madeL nl (fun (j : Nat) => tl (j + al)) fun (j : Nat) => vl (j + al)) j))
 (fun (j : Nat) =>
 Prod.fst
 (Prod.snd
 (S.at' (S.madeL nl (fun (j : Nat) => tl (j + al)) fun (j : Nat) => vl (j + al))
 j)))
 (fun (j : Nat) =>
 Prod.snd
 (Prod.snd
 (S.at' (S.madeL nl (fun (j : Nat) => tl (j + al)) fun (j : Nat) => vl (j + al))
 j)))
 b2)))
 (Int.toNat
 (Int.tmod fa
 (↑(List.length
 (Prod.snd
 (S.faiS
 (List.length (S.madeL nl (fun (j : Nat) => tl (j + al)) fun (j : Nat) => vl (j + al)))
 (S.netE
 (List.length
 (S.madeL nl (fun (j : Nat) => tl (j + al)) fun (j : Nat) => vl (j + al)))
 (fun (j : Nat) =>
 Prod.fst
 (S.at'
 (S.madeL nl (fun (j : Nat) => tl (j + al)) fun (j : Nat) => vl (j + al)) j))
 (fun (j : Nat) =>
 Prod.fst
 (Prod.snd
 (S.at'
 (S.madeL nl (fun (j : Nat) => tl (j + al)) fun (j : Nat) => vl (j + al))
 j)))
 (fun (j : Nat) =>
 Prod.snd
 (Prod.snd
 (S.at'
 (S.madeL nl (fun (j : Nat) => tl (j + al)) fun (j : Nat) => vl (j + al))
 j)))
 b2)))) :
 Int)))))))))
 (Kret (PV.tf false) ([[(0, false, Blk.cols ml [Col.int IntKind.u8 tl, Col.int IntKind.u8 vl])]]) (8))
 (test (lim IntKind.i64 (x0 + (1 : Int)))
 (Kst (hd Try.f11 0) ([PV.ptr (PA.mk (1) (0) (0) (0)),
 PV.ptr (PA.mk (3) (0) (0) (0)),
 PV.ptr (PA.mk (5) (0) (0) (0)),
 PV.int IntKind.i64
 (↑(List.length (S.madeL nl (fun (j : Nat) => tl (j + al)) fun (j : Nat) => vl (j + al))) : Int),
 PV.int IntKind.i64 (x0 + (1 : Int))]) ([[(0, false, Blk.cols ml [Col.int IntKind.u8 tl, Col.int IntKind.u8 vl]),
 (5, true,
 Blk.cells
 [PV.int IntKind.i64
 (Prod.fst
 (S.at'
 (Prod.snd
 (S.faiS
 (List.length (S.madeL nl (fun (j : Nat) => tl (j + al)) fun (j : Nat) => vl (j + al)))
 (S.netE
 (List.length (S.madeL nl (fun (j : Nat) => tl (j + al)) fun (j : Nat) => vl (j + al)))
 (fun (j : Nat) =>
 Prod.fst
 (S.at' (S.madeL nl (fun (j : Nat) => tl (j + al)) fun (j : Nat) => vl (j + al))
 j))
 (fun (j : Nat) =>
 Prod.fst
 (Prod.snd
 (S.at' (S.madeL nl (fun (j : Nat) => tl (j + al)) fun (j : Nat) => vl (j + al))
 j)))
 (fun (j : Nat) =>
 Prod.snd
 (Prod.snd
 (S.at' (S.madeL nl (fun (j : Nat) => tl (j + al)) fun (j : Nat) => vl (j + al))
 j)))
 b2)))
 (Int.toNat
 (Int.tmod fa
 (↑(List.length
 (Prod.snd
 (S.faiS
 (List.length
 (S.madeL nl (fun (j : Nat) => tl (j + al)) fun (j : Nat) => vl (j + al)))
 (S.netE
 (List.length
 (S.madeL nl (fun (j : Nat) => tl (j + al)) fun (j : Nat) => vl (j + al)))
 (fun (j : Nat) =>
 Prod.fst
 (S.at'
 (S.madeL nl (fun (j : Nat) => tl (j + al)) fun (j : Nat) => vl (j + al)) j))
 (fun (j : Nat) =>
 Prod.fst
 (Prod.snd
 (S.at'
 (S.madeL nl (fun (j : Nat) => tl (j + al)) fun (j : Nat) => vl (j + al))
 j)))
 (fun (j : Nat) =>
 Prod.snd
 (Prod.snd
 (S.at'
 (S.madeL nl (fun (j : Nat) => tl (j + al)) fun (j : Nat) => vl (j + al))
 j)))
 b2)))) :
 Int))))),
 PV.int IntKind.i64
 (Prod.fst
 (Prod.snd
 (S.at'
 (Prod.snd
 (S.faiS
 (List.length (S.madeL nl (fun (j : Nat) => tl (j + al)) fun (j : Nat) => vl (j + al)))
 (S.netE
 (List.length (S.madeL nl (fun (j : Nat) => tl (j + al)) fun (j : Nat) => vl (j + al)))
 (fun (j : Nat) =>
 Prod.fst
 (S.at' (S.madeL nl (fun (j : Nat) => tl (j + al)) fun (j : Nat) => vl (j + al))
 j))
 (fun (j : Nat) =>
 Prod.fst
 (Prod.snd
 (S.at'
 (S.madeL nl (fun (j : Nat) => tl (j + al)) fun (j : Nat) => vl (j + al)) j)))
 (fun (j : Nat) =>
 Prod.snd
 (Prod.snd
 (S.at'
 (S.madeL nl (fun (j : Nat) => tl (j + al)) fun (j : Nat) => vl (j + al)) j)))
 b2)))
 (Int.toNat
 (Int.tmod fa
 (↑(List.length
 (Prod.snd
 (S.faiS
 (List.length
 (S.madeL nl (fun (j : Nat) => tl (j + al)) fun (j : Nat) => vl (j + al)))
 (S.netE
 (List.length
 (S.madeL nl (fun (j : Nat) => tl (j + al)) fun (j : Nat) => vl (j + al)))
 (fun (j : Nat) =>
 Prod.fst
 (S.at'
 (S.madeL nl (fun (j : Nat) => tl (j + al)) fun (j : Nat) => vl (j + al))
 j))
 (fun (j : Nat) =>
 Prod.fst
 (Prod.snd
 (S.at'
 (S.madeL nl (fun (j : Nat) => tl (j + al)) fun (j : Nat) => vl (j + al))
 j)))
 (fun (j : Nat) =>
 Prod.snd
 (Prod.snd
 (S.at'
 (S.madeL nl (fun (j : Nat) => tl (j + al)) fun (j : Nat) => vl (j + al))
 j)))
 b2)))) :
 Int)))))),
 PV.int IntKind.i64
 (Prod.snd
 (Prod.snd
 (S.at'
 (Prod.snd
 (S.faiS
 (List.length (S.madeL nl (fun (j : Nat) => tl (j + al)) fun (j : Nat) => vl (j + al)))
 (S.netE
 (List.length (S.madeL nl (fun (j : Nat) => tl (j + al)) fun (j : Nat) => vl (j + al)))
 (fun (j : Nat) =>
 Prod.fst
 (S.at' (S.madeL nl (fun (j : Nat) => tl (j + al)) fun (j : Nat) => vl (j + al))
 j))
 (fun (j : Nat) =>
 Prod.fst
 (Prod.snd
 (S.at'
 (S.madeL nl (fun (j : Nat) => tl (j + al)) fun (j : Nat) => vl (j + al)) j)))
 (fun (j : Nat) =>
 Prod.snd
 (Prod.snd
 (S.at'
 (S.madeL nl (fun (j : Nat) => tl (j + al)) fun (j : Nat) => vl (j + al)) j)))
 b2)))
 (Int.toNat
 (Int.tmod fa
 (↑(List.length
 (Prod.snd
 (S.faiS
 (List.length
 (S.madeL nl (fun (j : Nat) => tl (j + al)) fun (j : Nat) => vl (j + al)))
 (S.netE
 (List.length
 (S.madeL nl (fun (j : Nat) => tl (j + al)) fun (j : Nat) => vl (j + al)))
 (fun (j : Nat) =>
 Prod.fst
 (S.at'
 (S.madeL nl (fun (j : Nat) => tl (j + al)) fun (j : Nat) => vl (j + al))
 j))
 (fun (j : Nat) =>
 Prod.fst
 (Prod.snd
 (S.at'
 (S.madeL nl (fun (j : Nat) => tl (j + al)) fun (j : Nat) => vl (j + al))
 j)))
 (fun (j : Nat) =>
 Prod.snd
 (Prod.snd
 (S.at'
 (S.madeL nl (fun (j : Nat) => tl (j + al)) fun (j : Nat) => vl (j + al))
 j)))
 b2)))) :
 Int))))))]),
 (3, true,
 Blk.cells
 [PV.own (4) (3) (List.length x2),
 PV.int IntKind.i64 (b2 + Int.tmod b1 (2 : Int))]),
 (1, true,
 Blk.cells [PV.own (2) (3) (List.length x1), PV.int IntKind.i64 b2]),
 (2, true,
 Blk.cols (List.length x1)
 [Col.str fun (j : Nat) => (S.at' x1 j).1,
 Col.int IntKind.i64 fun (j : Nat) => (S.at' x1 j).2.1,
 Col.int IntKind.i64 fun (j : Nat) => (S.at' x1 j).2.2]),
 (4, true,
 Blk.cols (List.length x2)
 [Col.str fun (j : Nat) => (S.at' x2 j).1,
 Col.int IntKind.i64 fun (j : Nat) => (S.at' x2 j).2.1,
 Col.int IntKind.i64 fun (j : Nat) => (S.at' x2 j).2.2])]]) (8))
 (False)))))
 (False))
 (False))
 (Kret (PV.tf true) ([[(0, false, Blk.cols ml [Col.int IntKind.u8 tl, Col.int IntKind.u8 vl])]]) (6))
set_option maxRecDepth 100000 in
theorem t11_0 (test : Bool → Prop → Prop → Prop) (Kst : KS) (Kret : KR) (al nl ml : Nat) (tl : Nat → Int) (vl : Nat → Int) (b0 : Int) (b1 : Int) (b2 : Int) (fa : Int) (x0 : Int) (x1 : List (ByteArray × Int × Int)) (x2 : List (ByteArray × Int × Int)) : run test Try.env true (xL8 test) true 400 ⟨11, hd Try.f11 0, zipT [7, 8, 12, 94, 95] [PV.ptr (PA.mk (1) (0) (0) (0)),
 PV.ptr (PA.mk (3) (0) (0) (0)),
 PV.ptr (PA.mk (5) (0) (0) (0)),
 PV.int IntKind.i64
 (↑(List.length (S.madeL nl (fun (j : Nat) => tl (j + al)) fun (j : Nat) => vl (j + al))) : Int),
 PV.int IntKind.i64 x0], [[(1, (true, Blk.cells [PV.own (2) (3) (List.length x1), PV.int IntKind.i64 b2])), (2, (true, Blk.cols (List.length x1)
 [Col.str fun (j : Nat) => (S.at' x1 j).1,
 Col.int IntKind.i64 fun (j : Nat) => (S.at' x1 j).2.1,
 Col.int IntKind.i64 fun (j : Nat) => (S.at' x1 j).2.2])), (3, (true, Blk.cells
 [PV.own (4) (3) (List.length x2), PV.int IntKind.i64 (b2 + Int.tmod b1 (2 : Int))])), (4, (true, Blk.cols (List.length x2)
 [Col.str fun (j : Nat) => (S.at' x2 j).1,
 Col.int IntKind.i64 fun (j : Nat) => (S.at' x2 j).2.1,
 Col.int IntKind.i64 fun (j : Nat) => (S.at' x2 j).2.2])), (5, (true, Blk.cells
 [PV.int IntKind.i64
 (Prod.fst
 (S.at'
 (Prod.snd
 (S.faiS (List.length (S.madeL nl (fun (j : Nat) => tl (j + al)) fun (j : Nat) => vl (j + al)))
 (S.netE (List.length (S.madeL nl (fun (j : Nat) => tl (j + al)) fun (j : Nat) => vl (j + al)))
 (fun (j : Nat) =>
 Prod.fst
 (S.at' (S.madeL nl (fun (j : Nat) => tl (j + al)) fun (j : Nat) => vl (j + al)) j))
 (fun (j : Nat) =>
 Prod.fst
 (Prod.snd
 (S.at' (S.madeL nl (fun (j : Nat) => tl (j + al)) fun (j : Nat) => vl (j + al)) j)))
 (fun (j : Nat) =>
 Prod.snd
 (Prod.snd
 (S.at' (S.madeL nl (fun (j : Nat) => tl (j + al)) fun (j : Nat) => vl (j + al)) j)))
 b2)))
 (Int.toNat
 (Int.tmod fa
 (↑(List.length
 (Prod.snd
 (S.faiS
 (List.length (S.madeL nl (fun (j : Nat) => tl (j + al)) fun (j : Nat) => vl (j + al)))
 (S.netE
 (List.length (S.madeL nl (fun (j : Nat) => tl (j + al)) fun (j : Nat) => vl (j + al)))
 (fun (j : Nat) =>
 Prod.fst
 (S.at'
 (S.madeL nl (fun (j : Nat) => tl (j + al)) fun (j : Nat) => vl (j + al)) j))
 (fun (j : Nat) =>
 Prod.fst
 (Prod.snd
 (S.at'
 (S.madeL nl (fun (j : Nat) => tl (j + al)) fun (j : Nat) => vl (j + al)) j)))
 (fun (j : Nat) =>
 Prod.snd
 (Prod.snd
 (S.at'
 (S.madeL nl (fun (j : Nat) => tl (j + al)) fun (j : Nat) => vl (j + al)) j)))
 b2)))) :
 Int))))),
 PV.int IntKind.i64
 (Prod.fst
 (Prod.snd
 (S.at'
 (Prod.snd
 (S.faiS (List.length (S.madeL nl (fun (j : Nat) => tl (j + al)) fun (j : Nat) => vl (j + al)))
 (S.netE
 (List.length (S.madeL nl (fun (j : Nat) => tl (j + al)) fun (j : Nat) => vl (j + al)))
 (fun (j : Nat) =>
 Prod.fst
 (S.at' (S.madeL nl (fun (j : Nat) => tl (j + al)) fun (j : Nat) => vl (j + al)) j))
 (fun (j : Nat) =>
 Prod.fst
 (Prod.snd
 (S.at' (S.madeL nl (fun (j : Nat) => tl (j + al)) fun (j : Nat) => vl (j + al)) j)))
 (fun (j : Nat) =>
 Prod.snd
 (Prod.snd
 (S.at' (S.madeL nl (fun (j : Nat) => tl (j + al)) fun (j : Nat) => vl (j + al)) j)))
 b2)))
 (Int.toNat
 (Int.tmod fa
 (↑(List.length
 (Prod.snd
 (S.faiS
 (List.length (S.madeL nl (fun (j : Nat) => tl (j + al)) fun (j : Nat) => vl (j + al)))
 (S.netE
 (List.length (S.madeL nl (fun (j : Nat) => tl (j + al)) fun (j : Nat) => vl (j + al)))
 (fun (j : Nat) =>
 Prod.fst
 (S.at'
 (S.madeL nl (fun (j : Nat) => tl (j + al)) fun (j : Nat) => vl (j + al)) j))
 (fun (j : Nat) =>
 Prod.fst
 (Prod.snd
 (S.at'
 (S.madeL nl (fun (j : Nat) => tl (j + al)) fun (j : Nat) => vl (j + al)) j)))
 (fun (j : Nat) =>
 Prod.snd
 (Prod.snd
 (S.at'
 (S.madeL nl (fun (j : Nat) => tl (j + al)) fun (j : Nat) => vl (j + al)) j)))
 b2)))) :
 Int)))))),
 PV.int IntKind.i64
 (Prod.snd
 (Prod.snd
 (S.at'
 (Prod.snd
 (S.faiS (List.length (S.madeL nl (fun (j : Nat) => tl (j + al)) fun (j : Nat) => vl (j + al)))
 (S.netE
 (List.length (S.madeL nl (fun (j : Nat) => tl (j + al)) fun (j : Nat) => vl (j + al)))
 (fun (j : Nat) =>
 Prod.fst
 (S.at' (S.madeL nl (fun (j : Nat) => tl (j + al)) fun (j : Nat) => vl (j + al)) j))
 (fun (j : Nat) =>
 Prod.fst
 (Prod.snd
 (S.at' (S.madeL nl (fun (j : Nat) => tl (j + al)) fun (j : Nat) => vl (j + al)) j)))
 (fun (j : Nat) =>
 Prod.snd
 (Prod.snd
 (S.at' (S.madeL nl (fun (j : Nat) => tl (j + al)) fun (j : Nat) => vl (j + al)) j)))
 b2)))
 (Int.toNat
 (Int.tmod fa
 (↑(List.length
 (Prod.snd
 (S.faiS
 (List.length (S.madeL nl (fun (j : Nat) => tl (j + al)) fun (j : Nat) => vl (j + al)))
 (S.netE
 (List.length (S.madeL nl (fun (j : Nat) => tl (j + al)) fun (j : Nat) => vl (j + al)))
 (fun (j : Nat) =>
 Prod.fst
 (S.at'
 (S.madeL nl (fun (j : Nat) => tl (j + al)) fun (j : Nat) => vl (j + al)) j))
 (fun (j : Nat) =>
 Prod.fst
 (Prod.snd
 (S.at'
 (S.madeL nl (fun (j : Nat) => tl (j + al)) fun (j : Nat) => vl (j + al)) j)))
 (fun (j : Nat) =>
 Prod.snd
 (Prod.snd
 (S.at'
 (S.madeL nl (fun (j : Nat) => tl (j + al)) fun (j : Nat) => vl (j + al)) j)))
 b2)))) :
 Int))))))]))], [(0, (false, .cols ml [.int .u8 tl, .int .u8 vl]))]], 6⟩ (proj 1 [7, 8, 12, 94, 95] Kst Kret) =
  T11_0 test Kst Kret al nl ml tl vl b0 b1 b2 fa x0 x1 x2 := by kernel_rfl
set_option maxRecDepth 100000 in
theorem be11 (al nl ml : Nat) (tl : Nat → Int) (vl : Nat → Int) (b0 : Int) (b1 : Int) (b2 : Int) (fa : Int) (Kst : KS) (Kret : KR) (x : St11 ⊕ Rt11) (hS : HS 1 400 ((I11 al nl ml tl vl b0 b1 b2 fa)) Kst x) (hR : HR 1 400 ((V11 al nl ml tl vl b0 b1 b2 fa)) (fun r => [newL (1 + 1) ((N11 al nl ml tl vl b0 b1 b2 fa) r) ++ [(0, (false, .cols ml [.int .u8 tl, .int .u8 vl]))]]) Kret x) (h : (bif (decide ((↑nl : Int) > (8 : Int)))
 then (some (.inr (true)))
 else (bif (decide
 ((al + nl ≤ ml ∧ nl ≤ 1000000) ∧
 ((0 : Int) ≤ b2 ∧ b2 ≤ (255 : Int)) ∧
 S.byB (fun (j : Nat) => tl (j + al)) nl = true ∧
 S.byB (fun (j : Nat) => vl (j + al)) nl = true))
 then (bif (decide
 (0 + List.length (S.madeL nl (fun (j : Nat) => tl (j + al)) fun (j : Nat) => vl (j + al)) ≤
 List.length (S.madeL nl (fun (j : Nat) => tl (j + al)) fun (j : Nat) => vl (j + al)) ∧
 List.length (S.madeL nl (fun (j : Nat) => tl (j + al)) fun (j : Nat) => vl (j + al)) ≤ 1000000))
 then (bif (lim IntKind.i64 b0)
 then (bif (decide
 ((↑(List.length (S.madeL nl (fun (j : Nat) => tl (j + al)) fun (j : Nat) => vl (j + al))) : Int) = (0 : Int)))
 then (none)
 else (bif (decide
 ((0 : Int) ≤
 Int.tmod b0
 (↑(List.length (S.madeL nl (fun (j : Nat) => tl (j + al)) fun (j : Nat) => vl (j + al))) : Int) ∧
 Int.tmod b0 (↑(List.length (S.madeL nl (fun (j : Nat) => tl (j + al)) fun (j : Nat) => vl (j + al))) : Int) <
 (↑(List.length
 (S.mkl (List.length (S.madeL nl (fun (j : Nat) => tl (j + al)) fun (j : Nat) => vl (j + al)))
 fun (j : Nat) =>
 ((S.at' (S.madeL nl (fun (j : Nat) => tl (j + al)) fun (j : Nat) => vl (j + al)) j).1,
 Prod.fst
 (Prod.snd
 (S.at' (S.madeL nl (fun (j : Nat) => tl (j + al)) fun (j : Nat) => vl (j + al)) j)),
 Prod.snd
 (Prod.snd
 (S.at' (S.madeL nl (fun (j : Nat) => tl (j + al)) fun (j : Nat) => vl (j + al)) j))))) :
 Int)))
 then (bif (decide
 (Int.toNat
 (Int.tmod b0
 (↑(List.length (S.madeL nl (fun (j : Nat) => tl (j + al)) fun (j : Nat) => vl (j + al))) : Int)) <
 List.length
 (S.mkl (List.length (S.madeL nl (fun (j : Nat) => tl (j + al)) fun (j : Nat) => vl (j + al)))
 fun (j : Nat) =>
 ((S.at' (S.madeL nl (fun (j : Nat) => tl (j + al)) fun (j : Nat) => vl (j + al)) j).1,
 Prod.fst
 ((S.at' (S.madeL nl (fun (j : Nat) => tl (j + al)) fun (j : Nat) => vl (j + al)) j).2),
 Prod.snd
 ((S.at' (S.madeL nl (fun (j : Nat) => tl (j + al)) fun (j : Nat) => vl (j + al)) j).2)))))
 then (bif (lim IntKind.i64 b1)
 then (bif (lim IntKind.i64
 (Prod.fst
 (Prod.snd
 (S.at'
 (S.mkl (List.length (S.madeL nl (fun (j : Nat) => tl (j + al)) fun (j : Nat) => vl (j + al)))
 fun (j : Nat) =>
 ((S.at' (S.madeL nl (fun (j : Nat) => tl (j + al)) fun (j : Nat) => vl (j + al)) j).1,
 Prod.fst
 (Prod.snd
 (S.at' (S.madeL nl (fun (j : Nat) => tl (j + al)) fun (j : Nat) => vl (j + al)) j)),
 Prod.snd
 (Prod.snd
 (S.at' (S.madeL nl (fun (j : Nat) => tl (j + al)) fun (j : Nat) => vl (j + al)) j))))
 (Int.toNat
 (Int.tmod b0
 (↑(List.length (S.madeL nl (fun (j : Nat) => tl (j + al)) fun (j : Nat) => vl (j + al))) :
 Int))))) +
 b1))
 then (bif (lim IntKind.u8 (Int.tdiv b1 (3 : Int)))
 then (bif (lim IntKind.i64 (Int.tdiv b1 (3 : Int)))
 then (bif (lim IntKind.i64
 (Prod.snd
 (Prod.snd
 (S.at'
 (S.mkl (List.length (S.madeL nl (fun (j : Nat) => tl (j + al)) fun (j : Nat) => vl (j + al)))
 fun (j : Nat) =>
 ((S.at' (S.madeL nl (fun (j : Nat) => tl (j + al)) fun (j : Nat) => vl (j + al)) j).1,
 Prod.fst
 (Prod.snd
 (S.at' (S.madeL nl (fun (j : Nat) => tl (j + al)) fun (j : Nat) => vl (j + al)) j)),
 Prod.snd
 (Prod.snd
 (S.at' (S.madeL nl (fun (j : Nat) => tl (j + al)) fun (j : Nat) => vl (j + al)) j))))
 (Int.toNat
 (Int.tmod b0
 (↑(List.length (S.madeL nl (fun (j : Nat) => tl (j + al)) fun (j : Nat) => vl (j + al))) :
 Int))))) +
 Int.tdiv b1 (3 : Int)))
 then (bif (lim IntKind.i64 (Int.tmod b1 (2 : Int)))
 then (bif (lim IntKind.i64 (b2 + Int.tmod b1 (2 : Int)))
 then (bif (Prod.fst
 (S.faiS (List.length (S.madeL nl (fun (j : Nat) => tl (j + al)) fun (j : Nat) => vl (j + al)))
 (S.netE (List.length (S.madeL nl (fun (j : Nat) => tl (j + al)) fun (j : Nat) => vl (j + al)))
 (fun (j : Nat) =>
 (S.at' (S.madeL nl (fun (j : Nat) => tl (j + al)) fun (j : Nat) => vl (j + al)) j).1)
 (fun (j : Nat) =>
 Prod.fst
 ((S.at' (S.madeL nl (fun (j : Nat) => tl (j + al)) fun (j : Nat) => vl (j + al)) j).2))
 (fun (j : Nat) =>
 Prod.snd
 ((S.at' (S.madeL nl (fun (j : Nat) => tl (j + al)) fun (j : Nat) => vl (j + al)) j).2))
 b2)) !=
 (0 : Int))
 then (some (.inr (false)))
 else (bif ((↑(List.length
 (Prod.snd
 (S.faiS (List.length (S.madeL nl (fun (j : Nat) => tl (j + al)) fun (j : Nat) => vl (j + al)))
 (S.netE (List.length (S.madeL nl (fun (j : Nat) => tl (j + al)) fun (j : Nat) => vl (j + al)))
 (fun (j : Nat) =>
 (S.at' (S.madeL nl (fun (j : Nat) => tl (j + al)) fun (j : Nat) => vl (j + al)) j).1)
 (fun (j : Nat) =>
 Prod.fst
 (Prod.snd
 (S.at' (S.madeL nl (fun (j : Nat) => tl (j + al)) fun (j : Nat) => vl (j + al)) j)))
 (fun (j : Nat) =>
 Prod.snd
 (Prod.snd
 (S.at' (S.madeL nl (fun (j : Nat) => tl (j + al)) fun (j : Nat) => vl (j + al)) j)))
 b2)))) :
 Int) ==
 (0 : Int))
 then (some (.inr (false)))
 else (bif (lim IntKind.i64 fa)
 then (bif (decide
 ((↑(List.length
 (Prod.snd
 (S.faiS (List.length (S.madeL nl (fun (j : Nat) => tl (j + al)) fun (j : Nat) => vl (j + al)))
 (S.netE (List.length (S.madeL nl (fun (j : Nat) => tl (j + al)) fun (j : Nat) => vl (j + al)))
 (fun (j : Nat) =>
 Prod.fst
 (S.at' (S.madeL nl (fun (j : Nat) => tl (j + al)) fun (j : Nat) => vl (j + al)) j))
 (fun (j : Nat) =>
 Prod.fst
 (Prod.snd
 (S.at' (S.madeL nl (fun (j : Nat) => tl (j + al)) fun (j : Nat) => vl (j + al)) j)))
 (fun (j : Nat) =>
 Prod.snd
 (Prod.snd
 (S.at' (S.madeL nl (fun (j : Nat) => tl (j + al)) fun (j : Nat) => vl (j + al)) j)))
 b2)))) :
 Int) =
 (0 : Int)))
 then (none)
 else (bif (decide
 ((0 : Int) ≤
 Int.tmod fa
 (↑(List.length
 (Prod.snd
 (S.faiS
 (List.length (S.madeL nl (fun (j : Nat) => tl (j + al)) fun (j : Nat) => vl (j + al)))
 (S.netE
 (List.length (S.madeL nl (fun (j : Nat) => tl (j + al)) fun (j : Nat) => vl (j + al)))
 (fun (j : Nat) =>
 Prod.fst
 (S.at' (S.madeL nl (fun (j : Nat) => tl (j + al)) fun (j : Nat) => vl (j + al)) j))
 (fun (j : Nat) =>
 Prod.fst
 (Prod.snd
 (S.at' (S.madeL nl (fun (j : Nat) => tl (j + al)) fun (j : Nat) => vl (j + al))
 j)))
 (fun (j : Nat) =>
 Prod.snd
 (Prod.snd
 (S.at' (S.madeL nl (fun (j : Nat) => tl (j + al)) fun (j : Nat) => vl (j + al))
 j)))
 b2)))) :
 Int) ∧
 Int.tmod fa
 (↑(List.length
 (Prod.snd
 (S.faiS
 (List.length (S.madeL nl (fun (j : Nat) => tl (j + al)) fun (j : Nat) => vl (j + al)))
 (S.netE
 (List.length (S.madeL nl (fun (j : Nat) => tl (j + al)) fun (j : Nat) => vl (j + al)))
 (fun (j : Nat) =>
 Prod.fst
 (S.at' (S.madeL nl (fun (j : Nat) => tl (j + al)) fun (j : Nat) => vl (j + al)) j))
 (fun (j : Nat) =>
 Prod.fst
 (Prod.snd
 (S.at' (S.madeL nl (fun (j : Nat) => tl (j + al)) fun (j : Nat) => vl (j + al))
 j)))
 (fun (j : Nat) =>
 Prod.snd
 (Prod.snd
 (S.at' (S.madeL nl (fun (j : Nat) => tl (j + al)) fun (j : Nat) => vl (j + al))
 j)))
 b2)))) :
 Int) <
 (↑(List.length
 (Prod.snd
 (S.faiS (List.length (S.madeL nl (fun (j : Nat) => tl (j + al)) fun (j : Nat) => vl (j + al)))
 (S.netE
 (List.length (S.madeL nl (fun (j : Nat) => tl (j + al)) fun (j : Nat) => vl (j + al)))
 (fun (j : Nat) =>
 Prod.fst
 (S.at' (S.madeL nl (fun (j : Nat) => tl (j + al)) fun (j : Nat) => vl (j + al)) j))
 (fun (j : Nat) =>
 Prod.fst
 (Prod.snd
 (S.at' (S.madeL nl (fun (j : Nat) => tl (j + al)) fun (j : Nat) => vl (j + al)) j)))
 (fun (j : Nat) =>
 Prod.snd
 (Prod.snd
 (S.at' (S.madeL nl (fun (j : Nat) => tl (j + al)) fun (j : Nat) => vl (j + al)) j)))
 b2)))) :
 Int)))
 then (bif (decide
 (Int.toNat
 (Int.tmod fa
 (↑(List.length
 (Prod.snd
 (S.faiS
 (List.length (S.madeL nl (fun (j : Nat) => tl (j + al)) fun (j : Nat) => vl (j + al)))
 (S.netE
 (List.length (S.madeL nl (fun (j : Nat) => tl (j + al)) fun (j : Nat) => vl (j + al)))
 (fun (j : Nat) =>
 Prod.fst
 (S.at' (S.madeL nl (fun (j : Nat) => tl (j + al)) fun (j : Nat) => vl (j + al)) j))
 (fun (j : Nat) =>
 Prod.fst
 (Prod.snd
 (S.at' (S.madeL nl (fun (j : Nat) => tl (j + al)) fun (j : Nat) => vl (j + al))
 j)))
 (fun (j : Nat) =>
 Prod.snd
 (Prod.snd
 (S.at' (S.madeL nl (fun (j : Nat) => tl (j + al)) fun (j : Nat) => vl (j + al))
 j)))
 b2)))) :
 Int)) <
 List.length
 (Prod.snd
 (S.faiS (List.length (S.madeL nl (fun (j : Nat) => tl (j + al)) fun (j : Nat) => vl (j + al)))
 (S.netE (List.length (S.madeL nl (fun (j : Nat) => tl (j + al)) fun (j : Nat) => vl (j + al)))
 (fun (j : Nat) =>
 (S.at' (S.madeL nl (fun (j : Nat) => tl (j + al)) fun (j : Nat) => vl (j + al)) j).1)
 (fun (j : Nat) =>
 Prod.fst
 (Prod.snd
 (S.at' (S.madeL nl (fun (j : Nat) => tl (j + al)) fun (j : Nat) => vl (j + al)) j)))
 (fun (j : Nat) =>
 Prod.snd
 (Prod.snd
 (S.at' (S.madeL nl (fun (j : Nat) => tl (j + al)) fun (j : Nat) => vl (j + al)) j)))
 b2)))))
 then (some (.inl (.h0 ((0 : Int)) (S.madeL nl (fun (j : Nat) => tl (j + al)) fun (j : Nat) => vl (j + al)) (S.mkl
 (List.length
 (S.mkl (List.length (S.madeL nl (fun (j : Nat) => tl (j + al)) fun (j : Nat) => vl (j + al)))
 fun (j : Nat) =>
 ((S.at' (S.madeL nl (fun (j : Nat) => tl (j + al)) fun (j : Nat) => vl (j + al)) j).1,
 Prod.fst
 ((S.at' (S.madeL nl (fun (j : Nat) => tl (j + al)) fun (j : Nat) => vl (j + al)) j).2),
 Prod.snd
 ((S.at' (S.madeL nl (fun (j : Nat) => tl (j + al)) fun (j : Nat) => vl (j + al)) j).2))))
 fun (j : Nat) =>
 (Prod.fst
 (S.at'
 (S.mkl (List.length (S.madeL nl (fun (j : Nat) => tl (j + al)) fun (j : Nat) => vl (j + al)))
 fun (j : Nat) =>
 ((S.at' (S.madeL nl (fun (j : Nat) => tl (j + al)) fun (j : Nat) => vl (j + al)) j).1,
 Prod.fst
 ((S.at' (S.madeL nl (fun (j : Nat) => tl (j + al)) fun (j : Nat) => vl (j + al)) j).2),
 Prod.snd
 (Prod.snd
 (S.at' (S.madeL nl (fun (j : Nat) => tl (j + al)) fun (j : Nat) => vl (j + al)) j))))
 j),
 bif
 Nat.beq j
 (Int.toNat
 (Int.tmod b0
 (↑(List.length (S.madeL nl (fun (j : Nat) => tl (j + al)) fun (j : Nat) => vl (j + al))) :
 Int))) then
 Prod.fst
 (Prod.snd
 (S.at'
 (S.mkl (List.length (S.madeL nl (fun (j : Nat) => tl (j + al)) fun (j : Nat) => vl (j + al)))
 fun (j : Nat) =>
 (Prod.fst
 (S.at' (S.madeL nl (fun (j : Nat) => tl (j + al)) fun (j : Nat) => vl (j + al)) j),
 Prod.fst
 (Prod.snd
 (S.at' (S.madeL nl (fun (j : Nat) => tl (j + al)) fun (j : Nat) => vl (j + al)) j)),
 Prod.snd
 (Prod.snd
 (S.at' (S.madeL nl (fun (j : Nat) => tl (j + al)) fun (j : Nat) => vl (j + al)) j))))
 (Int.toNat
 (Int.tmod b0
 (↑(List.length (S.madeL nl (fun (j : Nat) => tl (j + al)) fun (j : Nat) => vl (j + al))) :
 Int))))) +
 b1
 else
 Prod.fst
 (Prod.snd
 (S.at'
 (S.mkl (List.length (S.madeL nl (fun (j : Nat) => tl (j + al)) fun (j : Nat) => vl (j + al)))
 fun (j : Nat) =>
 ((S.at' (S.madeL nl (fun (j : Nat) => tl (j + al)) fun (j : Nat) => vl (j + al)) j).1,
 Prod.fst
 (Prod.snd
 (S.at' (S.madeL nl (fun (j : Nat) => tl (j + al)) fun (j : Nat) => vl (j + al)) j)),
 Prod.snd
 (Prod.snd
 (S.at' (S.madeL nl (fun (j : Nat) => tl (j + al)) fun (j : Nat) => vl (j + al)) j))))
 j)),
 bif
 Nat.beq j
 (Int.toNat
 (Int.tmod b0
 (↑(List.length (S.madeL nl (fun (j : Nat) => tl (j + al)) fun (j : Nat) => vl (j + al))) :
 Int))) then
 Prod.snd
 (Prod.snd
 (S.at'
 (S.mkl (List.length (S.madeL nl (fun (j : Nat) => tl (j + al)) fun (j : Nat) => vl (j + al)))
 fun (j : Nat) =>
 (Prod.fst
 (S.at' (S.madeL nl (fun (j : Nat) => tl (j + al)) fun (j : Nat) => vl (j + al)) j),
 Prod.fst
 (Prod.snd
 (S.at' (S.madeL nl (fun (j : Nat) => tl (j + al)) fun (j : Nat) => vl (j + al)) j)),
 Prod.snd
 (Prod.snd
 (S.at' (S.madeL nl (fun (j : Nat) => tl (j + al)) fun (j : Nat) => vl (j + al)) j))))
 (Int.toNat
 (Int.tmod b0
 (↑(List.length (S.madeL nl (fun (j : Nat) => tl (j + al)) fun (j : Nat) => vl (j + al))) :
 Int))))) +
 Int.tdiv b1 (3 : Int)
 else
 Prod.snd
 (Prod.snd
 (S.at'
 (S.mkl (List.length (S.madeL nl (fun (j : Nat) => tl (j + al)) fun (j : Nat) => vl (j + al)))
 fun (j : Nat) =>
 ((S.at' (S.madeL nl (fun (j : Nat) => tl (j + al)) fun (j : Nat) => vl (j + al)) j).1,
 Prod.fst
 (Prod.snd
 (S.at' (S.madeL nl (fun (j : Nat) => tl (j + al)) fun (j : Nat) => vl (j + al)) j)),
 Prod.snd
 (Prod.snd
 (S.at' (S.madeL nl (fun (j : Nat) => tl (j + al)) fun (j : Nat) => vl (j + al)) j))))
 j)))))))
 else (none))
 else (none)))
 else (none))))
 else (none))
 else (none))
 else (none))
 else (none))
 else (none))
 else (none))
 else (none))
 else (none))
 else (none)))
 else (none))
 else (none))
 else (none)) : Option (St11 ⊕ Rt11)) = some x) : Te11 cond Kst Kret al nl ml tl vl b0 b1 b2 fa := by
  unfold Te11
  exact cond_yes rfl (cond_yes rfl (bif_split h
   (fun c0 h => cond_yes rfl (cond_yes rfl (ret_at hR _ h (fun n => n) rfl rfl rfl (rn_bool_tf rfl) rfl (entl_bor (use_lo rfl) rfl rfl entl_nil))))
   (fun c0 h => cond_yes rfl (bif_split h
   (fun c1 h => bif_split h
   (fun c2 h => cond_yes rfl (bif_split h
   (fun c3 h => bif_split h
   (fun c4 h => no_some h)
   (fun c4 h => bif_split h
   (fun c5 h => bif_split h
   (fun c6 h => cond_yes rfl (bif_split h
   (fun c7 h => bif_split h
   (fun c8 h => cond_yes c5 (cond_yes c6 (cond_yes c5 (cond_yes c6 (cond_yes rfl (cond_no rfl (bif_split h
   (fun c9 h => bif_split h
   (fun c10 h => bif_split h
   (fun c11 h => cond_yes c5 (cond_yes c6 (cond_yes rfl (cond_no rfl (bif_split h
   (fun c12 h => bif_split h
   (fun c13 h => cond_yes c2 (bif_split h
   (fun c14 h => ret_at hR _ h (fun n => n) rfl rfl rfl (rn_bool_tf rfl) rfl (entl_bor (use_lo rfl) rfl rfl entl_nil))
   (fun c14 h => bif_split h
   (fun c15 h => ret_at hR _ h (fun n => n) rfl rfl rfl (rn_bool_tf rfl) rfl (entl_bor (use_lo rfl) rfl rfl entl_nil))
   (fun c15 h => bif_split h
   (fun c16 h => bif_split h
   (fun c17 h => no_some h)
   (fun c17 h => bif_split h
   (fun c18 h => bif_split h
   (fun c19 h => cond_yes c19 (cond_yes c19 (stop_at hS _ h (fun n => bif Nat.beq n 1 then 5 else bif Nat.beq n 2 then 4 else bif Nat.beq n 3 then 8 else bif Nat.beq n 4 then 7 else bif Nat.beq n 5 then 11 else n) rfl rfl rfl ⟨(rn_ptr (use_own rfl) rfl rfl), ⟨(rn_ptr (use_own rfl) rfl rfl), ⟨(rn_ptr (use_own rfl) rfl rfl), ⟨(rn_int rfl), ⟨(rn_int rfl), trivial⟩⟩⟩⟩⟩ rfl (entl_b (use_own rfl) rfl (by simp) (rb_cells ⟨(rn_own (use_own rfl) rfl rfl), (rn_int rfl), trivial⟩) (entl_new (use_own rfl) rfl (Nat.le_of_eq rfl) (rcs_str (fun _ _ => rfl) (rcs_int (fun _ _ => rfl) (rcs_int (fun _ _ => rfl) rcs_nil))) (entl_b (use_own rfl) rfl (by simp) (rb_cells ⟨(rn_own (use_own rfl) rfl mkl_len), (rn_int rfl), trivial⟩) (entl_new (use_own rfl) rfl (Nat.le_of_eq mkl_len) (rcs_str (fun _ hj => col_mkl (fun (t : ByteArray × Int × Int) => t.1) hj) (rcs_int (fun _ hj => col_mkl (fun (t : ByteArray × Int × Int) => t.2.1) hj) (rcs_int (fun _ hj => col_mkl (fun (t : ByteArray × Int × Int) => t.2.2) hj) rcs_nil))) (entl_b (use_own rfl) rfl (by simp) (rb_cells ⟨(rn_int rfl), (rn_int rfl), (rn_int rfl), trivial⟩) (entl_bor (use_lo rfl) rfl rfl entl_nil)))))))))
   (fun c19 h => no_some h))
   (fun c18 h => no_some h)))
   (fun c16 h => no_some h)))))
   (fun c13 h => no_some h))
   (fun c12 h => no_some h))))))
   (fun c11 h => no_some h))
   (fun c10 h => no_some h))
   (fun c9 h => no_some h))))))))
   (fun c8 h => no_some h))
   (fun c7 h => no_some h)))
   (fun c6 h => no_some h))
   (fun c5 h => no_some h)))
   (fun c3 h => no_some h)))
   (fun c2 h => no_some h))
   (fun c1 h => no_some h)))))
set_option maxRecDepth 100000 in
theorem b11_0 (al nl ml : Nat) (tl : Nat → Int) (vl : Nat → Int) (b0 : Int) (b1 : Int) (b2 : Int) (fa : Int) (Kst : KS) (Kret : KR) (x : St11 ⊕ Rt11) (hS : HS 1 400 ((I11 al nl ml tl vl b0 b1 b2 fa)) Kst x) (hR : HR 1 400 ((V11 al nl ml tl vl b0 b1 b2 fa)) (fun r => [newL (1 + 1) ((N11 al nl ml tl vl b0 b1 b2 fa) r) ++ [(0, (false, .cols ml [.int .u8 tl, .int .u8 vl]))]]) Kret x) (x0 : Int) (x1 : List (ByteArray × Int × Int)) (x2 : List (ByteArray × Int × Int)) (h : (bif (decide
 (x0 < (↑(List.length (S.madeL nl (fun (j : Nat) => tl (j + al)) fun (j : Nat) => vl (j + al))) : Int)))
 then (bif (decide (0 + List.length x1 ≤ List.length x1 ∧ List.length x1 ≤ 1000000))
 then (bif (decide (0 + List.length x2 ≤ List.length x2 ∧ List.length x2 ≤ 1000000))
 then (bif (Prod.snd
 (S.latS (List.length x1) (fun (j : Nat) => (S.at' x1 j).2.1)
 (fun (j : Nat) => (S.at' x1 j).2.2) b2
 (S.netE (List.length x1) (fun (j : Nat) => (S.at' x1 j).1)
 (fun (j : Nat) => (S.at' x1 j).2.1)
 (fun (j : Nat) => (S.at' x1 j).2.2) b2)
 x0
 (Prod.fst
 (S.at'
 (Prod.snd
 (S.faiS (List.length (S.madeL nl (fun (j : Nat) => tl (j + al)) fun (j : Nat) => vl (j + al)))
 (S.netE (List.length (S.madeL nl (fun (j : Nat) => tl (j + al)) fun (j : Nat) => vl (j + al)))
 (fun (j : Nat) =>
 Prod.fst
 (S.at' (S.madeL nl (fun (j : Nat) => tl (j + al)) fun (j : Nat) => vl (j + al)) j))
 (fun (j : Nat) =>
 Prod.fst
 (Prod.snd
 (S.at' (S.madeL nl (fun (j : Nat) => tl (j + al)) fun (j : Nat) => vl (j + al)) j)))
 (fun (j : Nat) =>
 Prod.snd
 (Prod.snd
 (S.at' (S.madeL nl (fun (j : Nat) => tl (j + al)) fun (j : Nat) => vl (j + al)) j)))
 b2)))
 (Int.toNat
 (Int.tmod fa
 (↑(List.length
 (Prod.snd
 (S.faiS
 (List.length (S.madeL nl (fun (j : Nat) => tl (j + al)) fun (j : Nat) => vl (j + al)))
 (S.netE
 (List.length (S.madeL nl (fun (j : Nat) => tl (j + al)) fun (j : Nat) => vl (j + al)))
 (fun (j : Nat) =>
 Prod.fst
 (S.at'
 (S.madeL nl (fun (j : Nat) => tl (j + al)) fun (j : Nat) => vl (j + al)) j))
 (fun (j : Nat) =>
 Prod.fst
 (Prod.snd
 (S.at'
 (S.madeL nl (fun (j : Nat) => tl (j + al)) fun (j : Nat) => vl (j + al)) j)))
 (fun (j : Nat) =>
 Prod.snd
 (Prod.snd
 (S.at'
 (S.madeL nl (fun (j : Nat) => tl (j + al)) fun (j : Nat) => vl (j + al)) j)))
 b2)))) :
 Int)))))
 (Prod.fst
 (Prod.snd
 (S.at'
 (Prod.snd
 (S.faiS (List.length (S.madeL nl (fun (j : Nat) => tl (j + al)) fun (j : Nat) => vl (j + al)))
 (S.netE
 (List.length (S.madeL nl (fun (j : Nat) => tl (j + al)) fun (j : Nat) => vl (j + al)))
 (fun (j : Nat) =>
 Prod.fst
 (S.at' (S.madeL nl (fun (j : Nat) => tl (j + al)) fun (j : Nat) => vl (j + al)) j))
 (fun (j : Nat) =>
 Prod.fst
 (Prod.snd
 (S.at' (S.madeL nl (fun (j : Nat) => tl (j + al)) fun (j : Nat) => vl (j + al)) j)))
 (fun (j : Nat) =>
 Prod.snd
 (Prod.snd
 (S.at' (S.madeL nl (fun (j : Nat) => tl (j + al)) fun (j : Nat) => vl (j + al)) j)))
 b2)))
 (Int.toNat
 (Int.tmod fa
 (↑(List.length
 (Prod.snd
 (S.faiS
 (List.length (S.madeL nl (fun (j : Nat) => tl (j + al)) fun (j : Nat) => vl (j + al)))
 (S.netE
 (List.length (S.madeL nl (fun (j : Nat) => tl (j + al)) fun (j : Nat) => vl (j + al)))
 (fun (j : Nat) =>
 Prod.fst
 (S.at'
 (S.madeL nl (fun (j : Nat) => tl (j + al)) fun (j : Nat) => vl (j + al)) j))
 (fun (j : Nat) =>
 Prod.fst
 (Prod.snd
 (S.at'
 (S.madeL nl (fun (j : Nat) => tl (j + al)) fun (j : Nat) => vl (j + al)) j)))
 (fun (j : Nat) =>
 Prod.snd
 (Prod.snd
 (S.at'
 (S.madeL nl (fun (j : Nat) => tl (j + al)) fun (j : Nat) => vl (j + al)) j)))
 b2)))) :
 Int))))))
 (Prod.snd
 (Prod.snd
 (S.at'
 (Prod.snd
 (S.faiS (List.length (S.madeL nl (fun (j : Nat) => tl (j + al)) fun (j : Nat) => vl (j + al)))
 (S.netE
 (List.length (S.madeL nl (fun (j : Nat) => tl (j + al)) fun (j : Nat) => vl (j + al)))
 (fun (j : Nat) =>
 Prod.fst
 (S.at' (S.madeL nl (fun (j : Nat) => tl (j + al)) fun (j : Nat) => vl (j + al)) j))
 (fun (j : Nat) =>
 Prod.fst
 (Prod.snd
 (S.at' (S.madeL nl (fun (j : Nat) => tl (j + al)) fun (j : Nat) => vl (j + al)) j)))
 (fun (j : Nat) =>
 Prod.snd
 (Prod.snd
 (S.at' (S.madeL nl (fun (j : Nat) => tl (j + al)) fun (j : Nat) => vl (j + al)) j)))
 b2)))
 (Int.toNat
 (Int.tmod fa
 (↑(List.length
 (Prod.snd
 (S.faiS
 (List.length (S.madeL nl (fun (j : Nat) => tl (j + al)) fun (j : Nat) => vl (j + al)))
 (S.netE
 (List.length (S.madeL nl (fun (j : Nat) => tl (j + al)) fun (j : Nat) => vl (j + al)))
 (fun (j : Nat) =>
 Prod.fst
 (S.at'
 (S.madeL nl (fun (j : Nat) => tl (j + al)) fun (j : Nat) => vl (j + al)) j))
 (fun (j : Nat) =>
 Prod.fst
 (Prod.snd
 (S.at'
 (S.madeL nl (fun (j : Nat) => tl (j + al)) fun (j : Nat) => vl (j + al)) j)))
 (fun (j : Nat) =>
 Prod.snd
 (Prod.snd
 (S.at'
 (S.madeL nl (fun (j : Nat) => tl (j + al)) fun (j : Nat) => vl (j + al)) j)))
 b2)))) :
 Int))))))) !=
 (0 : Int))
 then (some (.inr (false)))
 else (bif (Prod.snd
 (S.latS (List.length x2) (fun (j : Nat) => (S.at' x2 j).2.1)
 (fun (j : Nat) => (S.at' x2 j).2.2) (b2 + Int.tmod b1 (2 : Int))
 (S.netE (List.length x2) (fun (j : Nat) => (S.at' x2 j).1)
 (fun (j : Nat) => (S.at' x2 j).2.1)
 (fun (j : Nat) => (S.at' x2 j).2.2) (b2 + Int.tmod b1 (2 : Int)))
 x0
 (Prod.fst
 (S.at'
 (Prod.snd
 (S.faiS (List.length (S.madeL nl (fun (j : Nat) => tl (j + al)) fun (j : Nat) => vl (j + al)))
 (S.netE (List.length (S.madeL nl (fun (j : Nat) => tl (j + al)) fun (j : Nat) => vl (j + al)))
 (fun (j : Nat) =>
 Prod.fst
 (S.at' (S.madeL nl (fun (j : Nat) => tl (j + al)) fun (j : Nat) => vl (j + al)) j))
 (fun (j : Nat) =>
 Prod.fst
 (Prod.snd
 (S.at' (S.madeL nl (fun (j : Nat) => tl (j + al)) fun (j : Nat) => vl (j + al)) j)))
 (fun (j : Nat) =>
 Prod.snd
 (Prod.snd
 (S.at' (S.madeL nl (fun (j : Nat) => tl (j + al)) fun (j : Nat) => vl (j + al)) j)))
 b2)))
 (Int.toNat
 (Int.tmod fa
 (↑(List.length
 (Prod.snd
 (S.faiS
 (List.length (S.madeL nl (fun (j : Nat) => tl (j + al)) fun (j : Nat) => vl (j + al)))
 (S.netE
 (List.length (S.madeL nl (fun (j : Nat) => tl (j + al)) fun (j : Nat) => vl (j + al)))
 (fun (j : Nat) =>
 Prod.fst
 (S.at'
 (S.madeL nl (fun (j : Nat) => tl (j + al)) fun (j : Nat) => vl (j + al)) j))
 (fun (j : Nat) =>
 Prod.fst
 (Prod.snd
 (S.at'
 (S.madeL nl (fun (j : Nat) => tl (j + al)) fun (j : Nat) => vl (j + al)) j)))
 (fun (j : Nat) =>
 Prod.snd
 (Prod.snd
 (S.at'
 (S.madeL nl (fun (j : Nat) => tl (j + al)) fun (j : Nat) => vl (j + al)) j)))
 b2)))) :
 Int)))))
 (Prod.fst
 (Prod.snd
 (S.at'
 (Prod.snd
 (S.faiS (List.length (S.madeL nl (fun (j : Nat) => tl (j + al)) fun (j : Nat) => vl (j + al)))
 (S.netE
 (List.length (S.madeL nl (fun (j : Nat) => tl (j + al)) fun (j : Nat) => vl (j + al)))
 (fun (j : Nat) =>
 Prod.fst
 (S.at' (S.madeL nl (fun (j : Nat) => tl (j + al)) fun (j : Nat) => vl (j + al)) j))
 (fun (j : Nat) =>
 Prod.fst
 (Prod.snd
 (S.at' (S.madeL nl (fun (j : Nat) => tl (j + al)) fun (j : Nat) => vl (j + al)) j)))
 (fun (j : Nat) =>
 Prod.snd
 (Prod.snd
 (S.at' (S.madeL nl (fun (j : Nat) => tl (j + al)) fun (j : Nat) => vl (j + al)) j)))
 b2)))
 (Int.toNat
 (Int.tmod fa
 (↑(List.length
 (Prod.snd
 (S.faiS
 (List.length (S.madeL nl (fun (j : Nat) => tl (j + al)) fun (j : Nat) => vl (j + al)))
 (S.netE
 (List.length (S.madeL nl (fun (j : Nat) => tl (j + al)) fun (j : Nat) => vl (j + al)))
 (fun (j : Nat) =>
 Prod.fst
 (S.at'
 (S.madeL nl (fun (j : Nat) => tl (j + al)) fun (j : Nat) => vl (j + al)) j))
 (fun (j : Nat) =>
 Prod.fst
 (Prod.snd
 (S.at'
 (S.madeL nl (fun (j : Nat) => tl (j + al)) fun (j : Nat) => vl (j + al)) j)))
 (fun (j : Nat) =>
 Prod.snd
 (Prod.snd
 (S.at'
 (S.madeL nl (fun (j : Nat) => tl (j + al)) fun (j : Nat) => vl (j + al)) j)))
 b2)))) :
 Int))))))
 (Prod.snd
 (Prod.snd
 (S.at'
 (Prod.snd
 (S.faiS (List.length (S.madeL nl (fun (j : Nat) => tl (j + al)) fun (j : Nat) => vl (j + al)))
 (S.netE
 (List.length (S.madeL nl (fun (j : Nat) => tl (j + al)) fun (j : Nat) => vl (j + al)))
 (fun (j : Nat) =>
 Prod.fst
 (S.at' (S.madeL nl (fun (j : Nat) => tl (j + al)) fun (j : Nat) => vl (j + al)) j))
 (fun (j : Nat) =>
 Prod.fst
 (Prod.snd
 (S.at' (S.madeL nl (fun (j : Nat) => tl (j + al)) fun (j : Nat) => vl (j + al)) j)))
 (fun (j : Nat) =>
 Prod.snd
 (Prod.snd
 (S.at' (S.madeL nl (fun (j : Nat) => tl (j + al)) fun (j : Nat) => vl (j + al)) j)))
 b2)))
 (Int.toNat
 (Int.tmod fa
 (↑(List.length
 (Prod.snd
 (S.faiS
 (List.length (S.madeL nl (fun (j : Nat) => tl (j + al)) fun (j : Nat) => vl (j + al)))
 (S.netE
 (List.length (S.madeL nl (fun (j : Nat) => tl (j + al)) fun (j : Nat) => vl (j + al)))
 (fun (j : Nat) =>
 Prod.fst
 (S.at'
 (S.madeL nl (fun (j : Nat) => tl (j + al)) fun (j : Nat) => vl (j + al)) j))
 (fun (j : Nat) =>
 Prod.fst
 (Prod.snd
 (S.at'
 (S.madeL nl (fun (j : Nat) => tl (j + al)) fun (j : Nat) => vl (j + al)) j)))
 (fun (j : Nat) =>
 Prod.snd
 (Prod.snd
 (S.at'
 (S.madeL nl (fun (j : Nat) => tl (j + al)) fun (j : Nat) => vl (j + al)) j)))
 b2)))) :
 Int))))))) !=
 (0 : Int))
 then (some (.inr (false)))
 else (bif (decide
 (Prod.fst
 (S.latS (List.length x1) (fun (j : Nat) => (S.at' x1 j).2.1)
 (fun (j : Nat) => (S.at' x1 j).2.2) b2
 (S.netE (List.length x1) (fun (j : Nat) => (S.at' x1 j).1)
 (fun (j : Nat) => (S.at' x1 j).2.1)
 (fun (j : Nat) => (S.at' x1 j).2.2) b2)
 x0
 (Prod.fst
 (S.at'
 (Prod.snd
 (S.faiS (List.length (S.madeL nl (fun (j : Nat) => tl (j + al)) fun (j : Nat) => vl (j + al)))
 (S.netE
 (List.length (S.madeL nl (fun (j : Nat) => tl (j + al)) fun (j : Nat) => vl (j + al)))
 (fun (j : Nat) =>
 Prod.fst
 (S.at' (S.madeL nl (fun (j : Nat) => tl (j + al)) fun (j : Nat) => vl (j + al)) j))
 (fun (j : Nat) =>
 Prod.fst
 (Prod.snd
 (S.at' (S.madeL nl (fun (j : Nat) => tl (j + al)) fun (j : Nat) => vl (j + al)) j)))
 (fun (j : Nat) =>
 Prod.snd
 (Prod.snd
 (S.at' (S.madeL nl (fun (j : Nat) => tl (j + al)) fun (j : Nat) => vl (j + al)) j)))
 b2)))
 (Int.toNat
 (Int.tmod fa
 (↑(List.length
 (Prod.snd
 (S.faiS
 (List.length (S.madeL nl (fun (j : Nat) => tl (j + al)) fun (j : Nat) => vl (j + al)))
 (S.netE
 (List.length (S.madeL nl (fun (j : Nat) => tl (j + al)) fun (j : Nat) => vl (j + al)))
 (fun (j : Nat) =>
 Prod.fst
 (S.at'
 (S.madeL nl (fun (j : Nat) => tl (j + al)) fun (j : Nat) => vl (j + al)) j))
 (fun (j : Nat) =>
 Prod.fst
 (Prod.snd
 (S.at'
 (S.madeL nl (fun (j : Nat) => tl (j + al)) fun (j : Nat) => vl (j + al)) j)))
 (fun (j : Nat) =>
 Prod.snd
 (Prod.snd
 (S.at'
 (S.madeL nl (fun (j : Nat) => tl (j + al)) fun (j : Nat) => vl (j + al)) j)))
 b2)))) :
 Int)))))
 (Prod.fst
 (Prod.snd
 (S.at'
 (Prod.snd
 (S.faiS
 (List.length (S.madeL nl (fun (j : Nat) => tl (j + al)) fun (j : Nat) => vl (j + al)))
 (S.netE
 (List.length (S.madeL nl (fun (j : Nat) => tl (j + al)) fun (j : Nat) => vl (j + al)))
 (fun (j : Nat) =>
 Prod.fst
 (S.at' (S.madeL nl (fun (j : Nat) => tl (j + al)) fun (j : Nat) => vl (j + al)) j))
 (fun (j : Nat) =>
 Prod.fst
 (Prod.snd
 (S.at' (S.madeL nl (fun (j : Nat) => tl (j + al)) fun (j : Nat) => vl (j + al))
 j)))
 (fun (j : Nat) =>
 Prod.snd
 (Prod.snd
 (S.at' (S.madeL nl (fun (j : Nat) => tl (j + al)) fun (j : Nat) => vl (j + al))
 j)))
 b2)))
 (Int.toNat
 (Int.tmod fa
 (↑(List.length
 (Prod.snd
 (S.faiS
 (List.length (S.madeL nl (fun (j : Nat) => tl (j + al)) fun (j : Nat) => vl (j + al)))
 (S.netE
 (List.length
 (S.madeL nl (fun (j : Nat) => tl (j + al)) fun (j : Nat) => vl (j + al)))
 (fun (j : Nat) =>
 Prod.fst
 (S.at'
 (S.madeL nl (fun (j : Nat) => tl (j + al)) fun (j : Nat) => vl (j + al)) j))
 (fun (j : Nat) =>
 Prod.fst
 (Prod.snd
 (S.at'
 (S.madeL nl (fun (j : Nat) => tl (j + al)) fun (j : Nat) => vl (j + al))
 j)))
 (fun (j : Nat) =>
 Prod.snd
 (Prod.snd
 (S.at'
 (S.madeL nl (fun (j : Nat) => tl (j + al)) fun (j : Nat) => vl (j + al))
 j)))
 b2)))) :
 Int))))))
 (Prod.snd
 (Prod.snd
 (S.at'
 (Prod.snd
 (S.faiS
 (List.length (S.madeL nl (fun (j : Nat) => tl (j + al)) fun (j : Nat) => vl (j + al)))
 (S.netE
 (List.length (S.madeL nl (fun (j : Nat) => tl (j + al)) fun (j : Nat) => vl (j + al)))
 (fun (j : Nat) =>
 Prod.fst
 (S.at' (S.madeL nl (fun (j : Nat) => tl (j + al)) fun (j : Nat) => vl (j + al)) j))
 (fun (j : Nat) =>
 Prod.fst
 (Prod.snd
 (S.at' (S.madeL nl (fun (j : Nat) => tl (j + al)) fun (j : Nat) => vl (j + al))
 j)))
 (fun (j : Nat) =>
 Prod.snd
 (Prod.snd
 (S.at' (S.madeL nl (fun (j : Nat) => tl (j + al)) fun (j : Nat) => vl (j + al))
 j)))
 b2)))
 (Int.toNat
 (Int.tmod fa
 (↑(List.length
 (Prod.snd
 (S.faiS
 (List.length (S.madeL nl (fun (j : Nat) => tl (j + al)) fun (j : Nat) => vl (j + al)))
 (S.netE
 (List.length
 (S.madeL nl (fun (j : Nat) => tl (j + al)) fun (j : Nat) => vl (j + al)))
 (fun (j : Nat) =>
 Prod.fst
 (S.at'
 (S.madeL nl (fun (j : Nat) => tl (j + al)) fun (j : Nat) => vl (j + al)) j))
 (fun (j : Nat) =>
 Prod.fst
 (Prod.snd
 (S.at'
 (S.madeL nl (fun (j : Nat) => tl (j + al)) fun (j : Nat) => vl (j + al))
 j)))
 (fun (j : Nat) =>
 Prod.snd
 (Prod.snd
 (S.at'
 (S.madeL nl (fun (j : Nat) => tl (j + al)) fun (j : Nat) => vl (j + al))
 j)))
 b2)))) :
 Int))))))) >
 Prod.fst
 (S.latS (List.length x2) (fun (j : Nat) => (S.at' x2 j).2.1)
 (fun (j : Nat) => (S.at' x2 j).2.2) (b2 + Int.tmod b1 (2 : Int))
 (S.netE (List.length x2) (fun (j : Nat) => (S.at' x2 j).1)
 (fun (j : Nat) => (S.at' x2 j).2.1)
 (fun (j : Nat) => (S.at' x2 j).2.2) (b2 + Int.tmod b1 (2 : Int)))
 x0
 (Prod.fst
 (S.at'
 (Prod.snd
 (S.faiS (List.length (S.madeL nl (fun (j : Nat) => tl (j + al)) fun (j : Nat) => vl (j + al)))
 (S.netE
 (List.length (S.madeL nl (fun (j : Nat) => tl (j + al)) fun (j : Nat) => vl (j + al)))
 (fun (j : Nat) =>
 Prod.fst
 (S.at' (S.madeL nl (fun (j : Nat) => tl (j + al)) fun (j : Nat) => vl (j + al)) j))
 (fun (j : Nat) =>
 Prod.fst
 (Prod.snd
 (S.at' (S.madeL nl (fun (j : Nat) => tl (j + al)) fun (j : Nat) => vl (j + al)) j)))
 (fun (j : Nat) =>
 Prod.snd
 (Prod.snd
 (S.at' (S.madeL nl (fun (j : Nat) => tl (j + al)) fun (j : Nat) => vl (j + al)) j)))
 b2)))
 (Int.toNat
 (Int.tmod fa
 (↑(List.length
 (Prod.snd
 (S.faiS
 (List.length (S.madeL nl (fun (j : Nat) => tl (j + al)) fun (j : Nat) => vl (j + al)))
 (S.netE
 (List.length (S.madeL nl (fun (j : Nat) => tl (j + al)) fun (j : Nat) => vl (j + al)))
 (fun (j : Nat) =>
 Prod.fst
 (S.at'
 (S.madeL nl (fun (j : Nat) => tl (j + al)) fun (j : Nat) => vl (j + al)) j))
 (fun (j : Nat) =>
 Prod.fst
 (Prod.snd
 (S.at'
 (S.madeL nl (fun (j : Nat) => tl (j + al)) fun (j : Nat) => vl (j + al)) j)))
 (fun (j : Nat) =>
 Prod.snd
 (Prod.snd
 (S.at'
 (S.madeL nl (fun (j : Nat) => tl (j + al)) fun (j : Nat) => vl (j + al)) j)))
 b2)))) :
 Int)))))
 (Prod.fst
 (Prod.snd
 (S.at'
 (Prod.snd
 (S.faiS
 (List.length (S.madeL nl (fun (j : Nat) => tl (j + al)) fun (j : Nat) => vl (j + al)))
 (S.netE
 (List.length (S.madeL nl (fun (j : Nat) => tl (j + al)) fun (j : Nat) => vl (j + al)))
 (fun (j : Nat) =>
 Prod.fst
 (S.at' (S.madeL nl (fun (j : Nat) => tl (j + al)) fun (j : Nat) => vl (j + al)) j))
 (fun (j : Nat) =>
 Prod.fst
 (Prod.snd
 (S.at' (S.madeL nl (fun (j : Nat) => tl (j + al)) fun (j : Nat) => vl (j + al))
 j)))
 (fun (j : Nat) =>
 Prod.snd
 (Prod.snd
 (S.at' (S.madeL nl (fun (j : Nat) => tl (j + al)) fun (j : Nat) => vl (j + al))
 j)))
 b2)))
 (Int.toNat
 (Int.tmod fa
 (↑(List.length
 (Prod.snd
 (S.faiS
 (List.length (S.madeL nl (fun (j : Nat) => tl (j + al)) fun (j : Nat) => vl (j + al)))
 (S.netE
 (List.length
 (S.madeL nl (fun (j : Nat) => tl (j + al)) fun (j : Nat) => vl (j + al)))
 (fun (j : Nat) =>
 Prod.fst
 (S.at'
 (S.madeL nl (fun (j : Nat) => tl (j + al)) fun (j : Nat) => vl (j + al)) j))
 (fun (j : Nat) =>
 Prod.fst
 (Prod.snd
 (S.at'
 (S.madeL nl (fun (j : Nat) => tl (j + al)) fun (j : Nat) => vl (j + al))
 j)))
 (fun (j : Nat) =>
 Prod.snd
 (Prod.snd
 (S.at'
 (S.madeL nl (fun (j : Nat) => tl (j + al)) fun (j : Nat) => vl (j + al))
 j)))
 b2)))) :
 Int))))))
 (Prod.snd
 (Prod.snd
 (S.at'
 (Prod.snd
 (S.faiS
 (List.length (S.madeL nl (fun (j : Nat) => tl (j + al)) fun (j : Nat) => vl (j + al)))
 (S.netE
 (List.length (S.madeL nl (fun (j : Nat) => tl (j + al)) fun (j : Nat) => vl (j + al)))
 (fun (j : Nat) =>
 Prod.fst
 (S.at' (S.madeL nl (fun (j : Nat) => tl (j + al)) fun (j : Nat) => vl (j + al)) j))
 (fun (j : Nat) =>
 Prod.fst
 (Prod.snd
 (S.at' (S.madeL nl (fun (j : Nat) => tl (j + al)) fun (j : Nat) => vl (j + al))
 j)))
 (fun (j : Nat) =>
 Prod.snd
 (Prod.snd
 (S.at' (S.madeL nl (fun (j : Nat) => tl (j + al)) fun (j : Nat) => vl (j + al))
 j)))
 b2)))
 (Int.toNat
 (Int.tmod fa
 (↑(List.length
 (Prod.snd
 (S.faiS
 (List.length (S.madeL nl (fun (j : Nat) => tl (j + al)) fun (j : Nat) => vl (j + al)))
 (S.netE
 (List.length
 (S.madeL nl (fun (j : Nat) => tl (j + al)) fun (j : Nat) => vl (j + al)))
 (fun (j : Nat) =>
 Prod.fst
 (S.at'
 (S.madeL nl (fun (j : Nat) => tl (j + al)) fun (j : Nat) => vl (j + al)) j))
 (fun (j : Nat) =>
 Prod.fst
 (Prod.snd
 (S.at'
 (S.madeL nl (fun (j : Nat) => tl (j + al)) fun (j : Nat) => vl (j + al))
 j)))
 (fun (j : Nat) =>
 Prod.snd
 (Prod.snd
 (S.at'
 (S.madeL nl (fun (j : Nat) => tl (j + al)) fun (j : Nat) => vl (j + al))
 j)))
 b2)))) :
 Int)))))))))
 then (some (.inr (false)))
 else (bif (lim IntKind.i64 (x0 + (1 : Int)))
 then (some (.inl (.h0 (x0 + (1 : Int)) (x1) (x2))))
 else (none)))))
 else (none))
 else (none))
 else (some (.inr (true))) : Option (St11 ⊕ Rt11)) = some x) : T11_0 cond Kst Kret al nl ml tl vl b0 b1 b2 fa x0 x1 x2 := by
  unfold T11_0
  exact bif_split h
   (fun c0 h => bif_split h
   (fun c1 h => bif_split h
   (fun c2 h => bif_split h
   (fun c3 h => ret_at hR _ h (fun n => n) rfl rfl rfl (rn_bool_tf rfl) rfl (entl_bor (use_lo rfl) rfl rfl entl_nil))
   (fun c3 h => bif_split h
   (fun c4 h => ret_at hR _ h (fun n => n) rfl rfl rfl (rn_bool_tf rfl) rfl (entl_bor (use_lo rfl) rfl rfl entl_nil))
   (fun c4 h => bif_split h
   (fun c5 h => ret_at hR _ h (fun n => n) rfl rfl rfl (rn_bool_tf rfl) rfl (entl_bor (use_lo rfl) rfl rfl entl_nil))
   (fun c5 h => bif_split h
   (fun c6 h => stop_at hS _ h (fun n => bif Nat.beq n 1 then 1 else bif Nat.beq n 2 then 2 else bif Nat.beq n 3 then 3 else bif Nat.beq n 4 then 4 else bif Nat.beq n 5 then 5 else n) rfl rfl rfl ⟨(rn_ptr (use_own rfl) rfl rfl), ⟨(rn_ptr (use_own rfl) rfl rfl), ⟨(rn_ptr (use_own rfl) rfl rfl), ⟨(rn_int rfl), ⟨(rn_int rfl), trivial⟩⟩⟩⟩⟩ rfl (entl_b (use_own rfl) rfl (by simp) (rb_cells ⟨(rn_own (use_own rfl) rfl rfl), (rn_int rfl), trivial⟩) (entl_new (use_own rfl) rfl (Nat.le_of_eq rfl) (rcs_str (fun _ _ => rfl) (rcs_int (fun _ _ => rfl) (rcs_int (fun _ _ => rfl) rcs_nil))) (entl_b (use_own rfl) rfl (by simp) (rb_cells ⟨(rn_own (use_own rfl) rfl rfl), (rn_int rfl), trivial⟩) (entl_new (use_own rfl) rfl (Nat.le_of_eq rfl) (rcs_str (fun _ _ => rfl) (rcs_int (fun _ _ => rfl) (rcs_int (fun _ _ => rfl) rcs_nil))) (entl_b (use_own rfl) rfl (by simp) (rb_cells ⟨(rn_int rfl), (rn_int rfl), (rn_int rfl), trivial⟩) (entl_bor (use_lo rfl) rfl rfl entl_nil)))))))
   (fun c6 h => no_some h)))))
   (fun c2 h => no_some h))
   (fun c1 h => no_some h))
   (fun c0 h => ret_at hR _ h (fun n => n) rfl rfl rfl (rn_bool_tf rfl) rfl (entl_bor (use_lo rfl) rfl rfl entl_nil))
theorem a11 (al nl ml : Nat) (tl : Nat → Int) (vl : Nat → Int) (b0 : Int) (b1 : Int) (b2 : Int) (fa : Int) {r : Rt11} (h : Goes ((q11 al nl ml tl vl b0 b1 b2 fa)) ((p11 al nl ml tl vl b0 b1 b2 fa)) r) : CallR Try.prog 11 [.loose ⟨0, 2, al, 0⟩ nl, .agg [.int .u8 b0, .int .u8 b1, .int .u8 b2], .int .u8 fa] [[(0, (false, .cols ml [.int .u8 tl, .int .u8 vl]))]] 1 ((V11 al nl ml tl vl b0 b1 b2 fa) r) ((fun r => [newL (1 + 1) ((N11 al nl ml tl vl b0 b1 b2 fa) r) ++ [(0, (false, .cols ml [.int .u8 tl, .int .u8 vl]))]]) r) 400 ∧ ∃ F, Try.prog.funcs[11]? = some F ∧ F.body.isSome = true ∧ (F.name == "runtime.NumGoroutine") = false := by
  refine dec_calls (f := 11) (lo := 1) (hi := 400) (H := [[(0, (false, .cols ml [.int .u8 tl, .int .u8 vl]))]]) (args := [.loose ⟨0, 2, al, 0⟩ nl, .agg [.int .u8 b0, .int .u8 b1, .int .u8 b2], .int .u8 fa]) Try.envOk Try.mixed xL8_ok ((I11 al nl ml tl vl b0 b1 b2 fa)) ((V11 al nl ml tl vl b0 b1 b2 fa)) (fun r => [newL (1 + 1) ((N11 al nl ml tl vl b0 b1 b2 fa) r) ++ [(0, (false, .cols ml [.int .u8 tl, .int .u8 vl]))]]) (fn := mkFn Try.f11) (ts := [7, 8, 12, 94, 95]) (n := 400) rfl (by decide) (by simp) (names_of rfl) ?_ ?_ ?_ h
  · intro s; cases s <;> exact ⟨hd_ok _ _, by simp [I11], names_of rfl, Nat.le_of_ble_eq_true rfl⟩
  · intro Kst Kret x hS hR h
    exact Holds.eq (te11 cond Kst Kret al nl ml tl vl b0 b1 b2 fa) (be11 al nl ml tl vl b0 b1 b2 fa Kst Kret x hS hR h)
  · intro Kst Kret x hS hR s h
    cases s with
    | h0 x0 x1 x2 => exact Holds.eq (t11_0 cond Kst Kret al nl ml tl vl b0 b1 b2 fa x0 x1 x2) (b11_0 al nl ml tl vl b0 b1 b2 fa Kst Kret x hS hR x0 x1 x2 h)
noncomputable def k11 : Con := ⟨11, [.one (.list [.int .u8, .int .u8]), .agg [.plain (.int .u8), .plain (.int .u8), .plain (.int .u8)], .one (.plain (.int .u8))], fun (x : (Nat × Nat × Nat × (Nat → Int) × (Nat → Int) × Unit) × (Int × Int × Int × Unit) × Int × Unit) => (fun (al nl ml : Nat) (tl : Nat → Int) (vl : Nat → Int) (b0 : Int) (b1 : Int) (b2 : Int) (fa : Int) => decide ((al + nl ≤ ml) ∧ ((0 ≤ b0 ∧ b0 ≤ 255) ∧ (0 ≤ b1 ∧ b1 ≤ 255) ∧ (0 ≤ b2 ∧ b2 ≤ 255) ∧ 0 ≤ fa ∧ fa ≤ 255) ∧ S.byB (fun j => tl (j + al)) nl = true ∧ S.byB (fun j => vl (j + al)) nl = true)) x.1.1 x.1.2.1 x.1.2.2.1 x.1.2.2.2.1 x.1.2.2.2.2.1 x.2.1.1 x.2.1.2.1 x.2.1.2.2.1 x.2.2.1, fun (x : (Nat × Nat × Nat × (Nat → Int) × (Nat → Int) × Unit) × (Int × Int × Int × Unit) × Int × Unit) => (fun (al nl ml : Nat) (tl : Nat → Int) (vl : Nat → Int) (b0 : Int) (b1 : Int) (b2 : Int) (fa : Int) => (V11 al nl ml tl vl b0 b1 b2 fa) (true)) x.1.1 x.1.2.1 x.1.2.2.1 x.1.2.2.2.1 x.1.2.2.2.2.1 x.2.1.1 x.2.1.2.1 x.2.1.2.2.1 x.2.2.1, fun (x : (Nat × Nat × Nat × (Nat → Int) × (Nat → Int) × Unit) × (Int × Int × Int × Unit) × Int × Unit) => (fun (al nl ml : Nat) (tl : Nat → Int) (vl : Nat → Int) (b0 : Int) (b1 : Int) (b2 : Int) (fa : Int) => (N11 al nl ml tl vl b0 b1 b2 fa) (true)) x.1.1 x.1.2.1 x.1.2.2.1 x.1.2.2.2.1 x.1.2.2.2.2.1 x.2.1.1 x.2.1.2.1 x.2.1.2.2.1 x.2.2.1, fun _ _ => .dead⟩
theorem s11' (al nl ml : Nat) (tl : Nat → Int) (vl : Nat → Int) (b0 : Int) (b1 : Int) (b2 : Int) (fa : Int) (M M2 : List (ByteArray × Int × Int)) (hM : S.madeL nl (fun j => tl (j + al)) (fun j => vl (j + al)) = M) (hl : M2.length = M.length) (hv : S.netL M b2 = 0) (hv2 : S.netL M2 (b2 + Int.tmod b1 2) = 0) (hx : S.okF M.length (S.at' (S.failL M.length) (Int.tmod fa (((S.failL M.length).length : Nat) : Int)).toNat).1 (S.at' (S.failL M.length) (Int.tmod fa (((S.failL M.length).length : Nat) : Int)).toNat).2.1 (S.at' (S.failL M.length) (Int.tmod fa (((S.failL M.length).length : Nat) : Int)).toNat).2.2) (h1 : 0 ≤ Int.tmod b1 2) (hle : ∀ j, j < M.length → (S.at' M j).2.1 ≤ (S.at' M2 j).2.1 ∧ (S.at' M j).2.2 ≤ (S.at' M2 j).2.2) : ∀ (k i : Nat), i + k = M.length → Comes (q11 al nl ml tl vl b0 b1 b2 fa) (.h0 (i : Int) M M2) true := by
  obtain ⟨v1, v2, v3⟩ := net_ok hv
  have hf1 : S.faiS M.length 0 = (0, S.failL M.length) := rfl
  intro k
  induction k with
  | zero =>
    intro i hi
    apply Comes.of
    show Goes _ _ _
    rw [q11]
    simp only [hM, net_nil, hv, hf1]
    show Goes _ _ _
    repeat' first
      | with_reducible refine goes_if (fun h => ?_) (fun h => ?_) <;> (try simp only [lim64, imp_false, decide_eq_true_eq, decide_eq_false_iff_not, Int.toNat_natCast, toNat_pred, toNat_succ, Option.getD_some, Option.getD_none, Bool.not_eq_true', Bool.not_eq_false', Bool.and_eq_true, Bool.or_eq_true, Bool.and_eq_false_iff, Bool.or_eq_false_iff, bne_iff_ne, beq_iff_eq, bne_eq_false_iff_eq, beq_eq_false_iff_ne, ne_eq, not_and, Int.not_le, Int.not_lt, ge_iff_le, gt_iff_lt, Nat.not_lt, Nat.not_le, Bool.not_eq_true, Bool.not_eq_false, Bool.true_eq_false, Bool.false_eq_true, not_false_eq_true, not_true_eq_false] at h)
      | exact goes_none.mpr (by omega)
    all_goals first | (exfalso; omega) | exact goes_inr.mpr rfl
  | succ k ih =>
    intro i hi
    have ih := ih (i + 1) (by omega)
    have e1 : S.latS M.length (fun j => (S.at' M j).2.1) (fun j => (S.at' M j).2.2) b2 0 (i : Int) (S.at' (S.failL M.length) (Int.tmod fa (((S.failL M.length).length : Nat) : Int)).toNat).1 (S.at' (S.failL M.length) (Int.tmod fa (((S.failL M.length).length : Nat) : Int)).toNat).2.1 (S.at' (S.failL M.length) (Int.tmod fa (((S.failL M.length).length : Nat) : Int)).toNat).2.2 = (S.latI M.length (fun j => (S.at' M j).2.1) (fun j => (S.at' M j).2.2) b2 (i : Int) (S.at' (S.failL M.length) (Int.tmod fa (((S.failL M.length).length : Nat) : Int)).toNat).1 (S.at' (S.failL M.length) (Int.tmod fa (((S.failL M.length).length : Nat) : Int)).toNat).2.1 (S.at' (S.failL M.length) (Int.tmod fa (((S.failL M.length).length : Nat) : Int)).toNat).2.2, 0) := lat_of (by omega) hx
    have e2 : S.latS M2.length (fun j => (S.at' M2 j).2.1) (fun j => (S.at' M2 j).2.2) (b2 + Int.tmod b1 2) 0 (i : Int) (S.at' (S.failL M.length) (Int.tmod fa (((S.failL M.length).length : Nat) : Int)).toNat).1 (S.at' (S.failL M.length) (Int.tmod fa (((S.failL M.length).length : Nat) : Int)).toNat).2.1 (S.at' (S.failL M.length) (Int.tmod fa (((S.failL M.length).length : Nat) : Int)).toNat).2.2 = (S.latI M2.length (fun j => (S.at' M2 j).2.1) (fun j => (S.at' M2 j).2.2) (b2 + Int.tmod b1 2) (i : Int) (S.at' (S.failL M.length) (Int.tmod fa (((S.failL M.length).length : Nat) : Int)).toNat).1 (S.at' (S.failL M.length) (Int.tmod fa (((S.failL M.length).length : Nat) : Int)).toNat).2.1 (S.at' (S.failL M.length) (Int.tmod fa (((S.failL M.length).length : Nat) : Int)).toNat).2.2, 0) := lat_of (by omega) (by rw [hl]; exact hx)
    have hc : S.latI M.length (fun j => (S.at' M j).2.1) (fun j => (S.at' M j).2.2) b2 (i : Int) (S.at' (S.failL M.length) (Int.tmod fa (((S.failL M.length).length : Nat) : Int)).toNat).1 (S.at' (S.failL M.length) (Int.tmod fa (((S.failL M.length).length : Nat) : Int)).toNat).2.1 (S.at' (S.failL M.length) (Int.tmod fa (((S.failL M.length).length : Nat) : Int)).toNat).2.2 ≤ S.latI M2.length (fun j => (S.at' M2 j).2.1) (fun j => (S.at' M2 j).2.2) (b2 + Int.tmod b1 2) (i : Int) (S.at' (S.failL M.length) (Int.tmod fa (((S.failL M.length).length : Nat) : Int)).toNat).1 (S.at' (S.failL M.length) (Int.tmod fa (((S.failL M.length).length : Nat) : Int)).toNat).2.1 (S.at' (S.failL M.length) (Int.tmod fa (((S.failL M.length).length : Nat) : Int)).toNat).2.2 := by
      rw [hl]; exact latI_le (by omega) hle
    apply Comes.of
    show Goes _ _ _
    rw [q11]
    simp only [hM, net_nil, hv, hv2, hf1, e1, e2]
    generalize S.latI M.length (fun j => (S.at' M j).2.1) (fun j => (S.at' M j).2.2) b2 (i : Int) (S.at' (S.failL M.length) (Int.tmod fa (((S.failL M.length).length : Nat) : Int)).toNat).1 (S.at' (S.failL M.length) (Int.tmod fa (((S.failL M.length).length : Nat) : Int)).toNat).2.1 (S.at' (S.failL M.length) (Int.tmod fa (((S.failL M.length).length : Nat) : Int)).toNat).2.2 = la at *
    generalize S.latI M2.length (fun j => (S.at' M2 j).2.1) (fun j => (S.at' M2 j).2.2) (b2 + Int.tmod b1 2) (i : Int) (S.at' (S.failL M.length) (Int.tmod fa (((S.failL M.length).length : Nat) : Int)).toNat).1 (S.at' (S.failL M.length) (Int.tmod fa (((S.failL M.length).length : Nat) : Int)).toNat).2.1 (S.at' (S.failL M.length) (Int.tmod fa (((S.failL M.length).length : Nat) : Int)).toNat).2.2 = lb at *
    clear e1 e2 hx hle
    show Goes _ _ _
    repeat' first
      | with_reducible refine goes_if (fun h => ?_) (fun h => ?_) <;> (try simp only [lim64, imp_false, decide_eq_true_eq, decide_eq_false_iff_not, Int.toNat_natCast, toNat_pred, toNat_succ, Option.getD_some, Option.getD_none, Bool.not_eq_true', Bool.not_eq_false', Bool.and_eq_true, Bool.or_eq_true, Bool.and_eq_false_iff, Bool.or_eq_false_iff, bne_iff_ne, beq_iff_eq, bne_eq_false_iff_eq, beq_eq_false_iff_ne, ne_eq, not_and, Int.not_le, Int.not_lt, ge_iff_le, gt_iff_lt, Nat.not_lt, Nat.not_le, Bool.not_eq_true, Bool.not_eq_false, Bool.true_eq_false, Bool.false_eq_true, not_false_eq_true, not_true_eq_false] at h)
      | exact goes_none.mpr (by omega)
    all_goals first | (exfalso; omega) | exact ih | (exfalso; simp_all; done) | (exfalso; simp at *; done)
theorem s11 (al nl ml : Nat) (tl : Nat → Int) (vl : Nat → Int) (b0 : Int) (b1 : Int) (b2 : Int) (fa : Int) (hp : (al + nl ≤ ml) ∧ ((0 ≤ b0 ∧ b0 ≤ 255) ∧ (0 ≤ b1 ∧ b1 ≤ 255) ∧ (0 ≤ b2 ∧ b2 ≤ 255) ∧ 0 ≤ fa ∧ fa ≤ 255) ∧ S.byB (fun j => tl (j + al)) nl = true ∧ S.byB (fun j => vl (j + al)) nl = true) : Goes ((q11 al nl ml tl vl b0 b1 b2 fa)) ((p11 al nl ml tl vl b0 b1 b2 fa)) (true) := by
  obtain ⟨hp1, ⟨hb0, hb1, hb2, hfa⟩, ht, hv⟩ := hp
  by_cases h8 : nl ≤ 8
  · obtain ⟨m1, m2⟩ := made_ok h8 ht hv
    generalize hM : S.madeL nl (fun j => tl (j + al)) (fun j => vl (j + al)) = M at *
    have hv0 := net_yes (L := M) (de := b2) m1 (by omega) (fun j hj => by have := m2 j hj; exact ⟨this.1, by omega, by omega⟩)
    have hf1 : S.faiS M.length 0 = (0, S.failL M.length) := rfl
    have hfl := fail_len (n := M.length)
    have hk : 0 ≤ Int.tmod b0 (M.length : Int) ∧ Int.tmod b0 (M.length : Int) < (M.length : Int) := ⟨Int.tmod_nonneg _ hb0.1, Int.tmod_lt_of_pos _ (by omega)⟩
    have hk2 : 0 ≤ Int.tmod fa (((S.failL M.length).length : Nat) : Int) ∧ Int.tmod fa (((S.failL M.length).length : Nat) : Int) < (((S.failL M.length).length : Nat) : Int) := ⟨Int.tmod_nonneg _ hfa.1, Int.tmod_lt_of_pos _ (by omega)⟩
    have hd : 0 ≤ Int.tdiv b1 3 ∧ Int.tdiv b1 3 ≤ 85 := by rw [Int.tdiv_eq_ediv_of_nonneg hb1.1]; omega
    have hm2 : 0 ≤ Int.tmod b1 2 ∧ Int.tmod b1 2 < 2 := ⟨Int.tmod_nonneg _ hb1.1, Int.tmod_lt_of_pos _ (by decide)⟩
    have hx : S.okF M.length (S.at' (S.failL M.length) (Int.tmod fa (((S.failL M.length).length : Nat) : Int)).toNat).1 (S.at' (S.failL M.length) (Int.tmod fa (((S.failL M.length).length : Nat) : Int)).toNat).2.1 (S.at' (S.failL M.length) (Int.tmod fa (((S.failL M.length).length : Nat) : Int)).toNat).2.2 := all_memF (List.mem_cons_of_mem _ (at_mem (by omega)))
    have hmk : (S.mkl M.length fun j => ((S.at' M j).1, (S.at' M j).2.1, (S.at' M j).2.2)) = M := mkl3_at M
    have mk1 := m2 (Int.tmod b0 (M.length : Int)).toNat (by omega)
    have hat : ∀ j, j < M.length → S.at' (S.mkl M.length fun j => ((S.at' M j).1, bif Nat.beq j (Int.tmod b0 (M.length : Int)).toNat then (S.at' M (Int.tmod b0 (M.length : Int)).toNat).2.1 + b1 else (S.at' M j).2.1, bif Nat.beq j (Int.tmod b0 (M.length : Int)).toNat then (S.at' M (Int.tmod b0 (M.length : Int)).toNat).2.2 + Int.tdiv b1 3 else (S.at' M j).2.2)) j = ((S.at' M j).1, bif Nat.beq j (Int.tmod b0 (M.length : Int)).toNat then (S.at' M (Int.tmod b0 (M.length : Int)).toNat).2.1 + b1 else (S.at' M j).2.1, bif Nat.beq j (Int.tmod b0 (M.length : Int)).toNat then (S.at' M (Int.tmod b0 (M.length : Int)).toNat).2.2 + Int.tdiv b1 3 else (S.at' M j).2.2) := fun j hj => at_mkl hj
    have hl2 : (S.mkl M.length fun j => ((S.at' M j).1, bif Nat.beq j (Int.tmod b0 (M.length : Int)).toNat then (S.at' M (Int.tmod b0 (M.length : Int)).toNat).2.1 + b1 else (S.at' M j).2.1, bif Nat.beq j (Int.tmod b0 (M.length : Int)).toNat then (S.at' M (Int.tmod b0 (M.length : Int)).toNat).2.2 + Int.tdiv b1 3 else (S.at' M j).2.2)).length = M.length := mkl_len
    generalize hMM : (S.mkl M.length fun j => ((S.at' M j).1, bif Nat.beq j (Int.tmod b0 (M.length : Int)).toNat then (S.at' M (Int.tmod b0 (M.length : Int)).toNat).2.1 + b1 else (S.at' M j).2.1, bif Nat.beq j (Int.tmod b0 (M.length : Int)).toNat then (S.at' M (Int.tmod b0 (M.length : Int)).toNat).2.2 + Int.tdiv b1 3 else (S.at' M j).2.2)) = M2 at *
    have hv2 := net_yes (L := M2) (de := b2 + Int.tmod b1 2) (by omega) (by omega) (fun j hj => by
      rw [hl2] at hj
      have := m2 j hj
      rw [hat j hj]
      refine ⟨this.1, ?_, ?_⟩
      · cases Nat.beq j (Int.tmod b0 (M.length : Int)).toNat <;> simp only [cond_true, cond_false] <;> omega
      · cases Nat.beq j (Int.tmod b0 (M.length : Int)).toNat <;> simp only [cond_true, cond_false] <;> omega)
    have hm := s11' al nl ml tl vl b0 b1 b2 fa M M2 hM hl2 hv0 hv2 hx hm2.1 (fun j hj => by
      rw [hat j hj]
      dsimp only
      constructor
      · cases hb : Nat.beq j (Int.tmod b0 (M.length : Int)).toNat
        · exact Int.le_refl _
        · rw [Nat.eq_of_beq_eq_true hb, cond_true]; omega
      · cases hb : Nat.beq j (Int.tmod b0 (M.length : Int)).toNat
        · exact Int.le_refl _
        · rw [Nat.eq_of_beq_eq_true hb, cond_true]; omega) M.length 0 (Nat.zero_add _)
    clear hx hat hv2
    have hlu : lim .u8 (Int.tdiv b1 3) = true := decide_eq_true (show (0 : Int) ≤ Int.tdiv b1 3 ∧ Int.tdiv b1 3 ≤ 255 by omega)
    unfold p11
    simp only [hM, net_nil, hv0, hf1, ht, hv, hmk, mkl_len, hlu]
    simp only [hMM]
    show Goes _ _ _
    repeat' first
      | with_reducible exact goes_inr.mpr rfl
      | with_reducible refine goes_if (fun h => ?_) (fun h => ?_) <;> (try simp only [lim64, imp_false, decide_eq_true_eq, decide_eq_false_iff_not, Int.toNat_natCast, toNat_pred, toNat_succ, Option.getD_some, Option.getD_none, Bool.not_eq_true', Bool.not_eq_false', Bool.and_eq_true, Bool.or_eq_true, Bool.and_eq_false_iff, Bool.or_eq_false_iff, bne_iff_ne, beq_iff_eq, bne_eq_false_iff_eq, beq_eq_false_iff_ne, ne_eq, not_and, Int.not_le, Int.not_lt, ge_iff_le, gt_iff_lt, Nat.not_lt, Nat.not_le, Bool.not_eq_true, Bool.not_eq_false, Bool.true_eq_false, Bool.false_eq_true, not_false_eq_true, not_true_eq_false] at h)
      | exact goes_none.mpr (by omega)
    all_goals first | (exfalso; omega) | exact hm | (exfalso; simp_all; done) | (exfalso; simp at *; done)
  · unfold p11
    rw [decide_eq_true (show (nl : Int) > 8 by omega)]
    exact goes_inr.mpr rfl
theorem k11_ok : k11.ok Try.prog := by
  intro x hx
  obtain ⟨⟨al, nl, ml, tl, vl, _⟩, ⟨b0, b1, b2, _⟩, fa, _⟩ := x
  obtain ⟨h1, h2⟩ := a11 al nl ml tl vl b0 b1 b2 fa (s11 al nl ml tl vl b0 b1 b2 fa (of_dec hx rfl))
  exact ⟨⟨400, (by decide : 1 + 1 + 0 ≤ 400), h1⟩, h2⟩
theorem pre11 {x : SsI k11.ss} (hx : ssFits k11.ss x) : k11.pre (ssj k11.ss x) = true := by
  obtain ⟨⟨n, t, v, u'⟩, ⟨b0, b1, b2, u2⟩, fa, u''⟩ := x
  obtain ⟨⟨hn, ht, hv, -⟩, ⟨h0, h1, h2, -⟩, hf, -⟩ := hx
  exact decide_eq_true ⟨Nat.le_of_eq (Nat.zero_add _), ⟨h0, h1, h2, hf⟩, byB_mk ht, byB_mk hv⟩
end Go.Ev
