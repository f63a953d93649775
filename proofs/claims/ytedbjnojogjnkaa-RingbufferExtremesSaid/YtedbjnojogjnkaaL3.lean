/-
  Put, in the program and in the reference.
-/
import Derived.Test.YtedbjnojogjnkaaL3b
namespace Go.Ev
open Go.Proofs
set_option linter.unusedVariables false
set_option linter.unusedSimpArgs false
abbrev St12 := Empty
abbrev Rt12 := Int × Int × Int × Int × Bool × Int × List (Int × Int × Bool)
noncomputable def V12 (ca : Int) (af : Int) (al nl ml : Nat) (tl : Nat → Int) (vl : Nat → Int) (gl : Nat → Bool) (ov : Int) (re : Int) (fz : Bool) (st : Int) (sv : Int) (sg : Bool) (r : Rt12) : PV := PV.tup
 [PV.agg
 [PV.int IntKind.i64 r.1, PV.int IntKind.i64 r.2.1,
 PV.own (2) (3) (List.length r.2.2.2.2.2.2), PV.int IntKind.i64 r.2.2.1,
 PV.int IntKind.i64 r.2.2.2.1, PV.bool r.2.2.2.2.1],
 PV.int IntKind.i64 r.2.2.2.2.2.1]
noncomputable def N12 (ca : Int) (af : Int) (al nl ml : Nat) (tl : Nat → Int) (vl : Nat → Int) (gl : Nat → Bool) (ov : Int) (re : Int) (fz : Bool) (st : Int) (sv : Int) (sg : Bool) (r : Rt12) : List Blk := [Blk.cols (List.length r.2.2.2.2.2.2)
 [Col.int IntKind.i64 fun (j : Nat) => (S.at' r.2.2.2.2.2.2 j).1,
 Col.int IntKind.i64 fun (j : Nat) => (S.at' r.2.2.2.2.2.2 j).2.1,
 Col.bool fun (j : Nat) => (S.at' r.2.2.2.2.2.2 j).2.2]]
noncomputable def I12 (ca : Int) (af : Int) (al nl ml : Nat) (tl : Nat → Int) (vl : Nat → Int) (gl : Nat → Bool) (ov : Int) (re : Int) (fz : Bool) (st : Int) (sv : Int) (sg : Bool) : St12 → Hd := fun s => s.elim
noncomputable def q12 (ca : Int) (af : Int) (al nl ml : Nat) (tl : Nat → Int) (vl : Nat → Int) (gl : Nat → Bool) (ov : Int) (re : Int) (fz : Bool) (st : Int) (sv : Int) (sg : Bool) : St12 → Option (St12 ⊕ Rt12) := fun s => s.elim
noncomputable def p12 (ca : Int) (af : Int) (al nl ml : Nat) (tl : Nat → Int) (vl : Nat → Int) (gl : Nat → Bool) (ov : Int) (re : Int) (fz : Bool) (st : Int) (sv : Int) (sg : Bool) : Option (St12 ⊕ Rt12) := bif (decide (al + nl ≤ ml ∧ nl ≤ 1000000))
 then (bif (S.vB ca af nl (fun (j : Nat) => tl (j + al)) (fun (j : Nat) => vl (j + al)) ov re fz != (0 : Int))
 then (some (.inr ((0 : Int), (0 : Int), (0 : Int), (0 : Int), false, S.vB ca af nl (fun (j : Nat) => tl (j + al)) (fun (j : Nat) => vl (j + al)) ov re fz, [])))
 else (bif (fz)
 then (some (.inr ((0 : Int), (0 : Int), (0 : Int), (0 : Int), false, (8 : Int), [])))
 else (bif (decide (st ≥ (0 : Int)))
 then (bif (decide (st ≤ (1099511627776 : Int)))
 then (bif (decide (sv ≥ (-1099511627776 : Int)))
 then (bif (decide (sv ≤ (1099511627776 : Int)))
 then (bif (decide ((↑nl : Int) > (0 : Int)))
 then (bif (lim IntKind.i64 ((↑nl : Int) - (1 : Int)))
 then (bif (decide ((0 : Int) ≤ (↑nl : Int) - (1 : Int) ∧ (↑nl : Int) - (1 : Int) < (↑nl : Int)))
 then (bif (decide (Int.toNat ((↑nl : Int) - (1 : Int)) + al < ml))
 then (bif (decide (st < tl (Int.toNat ((↑nl : Int) - (1 : Int)) + al)))
 then (some (.inr ((0 : Int), (0 : Int), (0 : Int), (0 : Int), false, (15 : Int), [])))
 else (bif (ov == (1099511627776 : Int))
 then (some (.inr ((0 : Int), (0 : Int), (0 : Int), (0 : Int), false, (16 : Int), [])))
 else (bif ((↑nl : Int) == ca)
 then (bif (decide
 ((0 : Int) ≤ Option.getD (Option.some (1 : Int)) (0 : Int) ∧ (1 : Int) ≤ (↑nl : Int) ∧ (↑nl : Int) ≤ (↑nl : Int)))
 then (bif (lim IntKind.i64 (ov + (1 : Int)))
 then (bif (decide (1 + al + (nl - 1) ≤ ml ∧ nl - 1 ≤ 1000000))
 then (bif (decide (nl - 1 + 1 ≤ 1000000))
 then (bif (decide (nl - 1 ≤ nl - 1))
 then (bif (decide (re > (0 : Int)))
 then (bif (lim IntKind.i64 (re - (1 : Int)))
 then (bif (re - (1 : Int) == (0 : Int))
 then (some (.inr (ca, af, ov + (1 : Int), re - (1 : Int), true, (0 : Int), S.snoc
 (S.mkl (nl - 1) fun (j : Nat) =>
 (tl (j + (1 + al)), vl (j + (1 + al)), gl (j + (1 + al))))
 (st, sv, sg))))
 else (some (.inr (ca, af, ov + (1 : Int), re - (1 : Int), false, (0 : Int), S.snoc
 (S.mkl (nl - 1) fun (j : Nat) =>
 (tl (j + (1 + al)), vl (j + (1 + al)), gl (j + (1 + al))))
 (st, sv, sg)))))
 else (none))
 else (some (.inr (ca, af, ov + (1 : Int), re, fz, (0 : Int), S.snoc
 (S.mkl (nl - 1) fun (j : Nat) =>
 (tl (j + (1 + al)), vl (j + (1 + al)), gl (j + (1 + al))))
 (st, sv, sg)))))
 else (none))
 else (none))
 else (none))
 else (none))
 else (none))
 else (bif (decide (nl + 1 ≤ 1000000))
 then (bif (decide (nl ≤ nl))
 then (bif (decide (re > (0 : Int)))
 then (bif (lim IntKind.i64 (re - (1 : Int)))
 then (bif (re - (1 : Int) == (0 : Int))
 then (some (.inr (ca, af, ov, re - (1 : Int), true, (0 : Int), S.snoc (S.mkl nl fun (j : Nat) => (tl (j + al), vl (j + al), gl (j + al))) (st, sv, sg))))
 else (some (.inr (ca, af, ov, re - (1 : Int), false, (0 : Int), S.snoc (S.mkl nl fun (j : Nat) => (tl (j + al), vl (j + al), gl (j + al))) (st, sv, sg)))))
 else (none))
 else (some (.inr (ca, af, ov, re, fz, (0 : Int), S.snoc (S.mkl nl fun (j : Nat) => (tl (j + al), vl (j + al), gl (j + al))) (st, sv, sg)))))
 else (none))
 else (none)))))
 else (none))
 else (none))
 else (none))
 else (bif (ov == (1099511627776 : Int))
 then (some (.inr ((0 : Int), (0 : Int), (0 : Int), (0 : Int), false, (16 : Int), [])))
 else (bif ((↑nl : Int) == ca)
 then (bif (decide
 ((0 : Int) ≤ Option.getD (Option.some (1 : Int)) (0 : Int) ∧ (1 : Int) ≤ (↑nl : Int) ∧ (↑nl : Int) ≤ (↑nl : Int)))
 then (bif (lim IntKind.i64 (ov + (1 : Int)))
 then (bif (decide (1 + al + (nl - 1) ≤ ml ∧ nl - 1 ≤ 1000000))
 then (bif (decide (nl - 1 + 1 ≤ 1000000))
 then (bif (decide (nl - 1 ≤ nl - 1))
 then (bif (decide (re > (0 : Int)))
 then (bif (lim IntKind.i64 (re - (1 : Int)))
 then (bif (re - (1 : Int) == (0 : Int))
 then (some (.inr (ca, af, ov + (1 : Int), re - (1 : Int), true, (0 : Int), S.snoc
 (S.mkl (nl - 1) fun (j : Nat) =>
 (tl (j + (1 + al)), vl (j + (1 + al)), gl (j + (1 + al))))
 (st, sv, sg))))
 else (some (.inr (ca, af, ov + (1 : Int), re - (1 : Int), false, (0 : Int), S.snoc
 (S.mkl (nl - 1) fun (j : Nat) =>
 (tl (j + (1 + al)), vl (j + (1 + al)), gl (j + (1 + al))))
 (st, sv, sg)))))
 else (none))
 else (some (.inr (ca, af, ov + (1 : Int), re, fz, (0 : Int), S.snoc
 (S.mkl (nl - 1) fun (j : Nat) =>
 (tl (j + (1 + al)), vl (j + (1 + al)), gl (j + (1 + al))))
 (st, sv, sg)))))
 else (none))
 else (none))
 else (none))
 else (none))
 else (none))
 else (bif (decide (nl + 1 ≤ 1000000))
 then (bif (decide (nl ≤ nl))
 then (bif (decide (re > (0 : Int)))
 then (bif (lim IntKind.i64 (re - (1 : Int)))
 then (bif (re - (1 : Int) == (0 : Int))
 then (some (.inr (ca, af, ov, re - (1 : Int), true, (0 : Int), S.snoc (S.mkl nl fun (j : Nat) => (tl (j + al), vl (j + al), gl (j + al))) (st, sv, sg))))
 else (some (.inr (ca, af, ov, re - (1 : Int), false, (0 : Int), S.snoc (S.mkl nl fun (j : Nat) => (tl (j + al), vl (j + al), gl (j + al))) (st, sv, sg)))))
 else (none))
 else (some (.inr (ca, af, ov, re, fz, (0 : Int), S.snoc (S.mkl nl fun (j : Nat) => (tl (j + al), vl (j + al), gl (j + al))) (st, sv, sg)))))
 else (none))
 else (none)))))
 else (some (.inr ((0 : Int), (0 : Int), (0 : Int), (0 : Int), false, (6 : Int), []))))
 else (some (.inr ((0 : Int), (0 : Int), (0 : Int), (0 : Int), false, (6 : Int), []))))
 else (some (.inr ((0 : Int), (0 : Int), (0 : Int), (0 : Int), false, (6 : Int), []))))
 else (some (.inr ((0 : Int), (0 : Int), (0 : Int), (0 : Int), false, (6 : Int), []))))))
 else (none)
noncomputable def Te12 (test : Bool → Prop → Prop → Prop) (Kst : KS) (Kret : KR) (ca : Int) (af : Int) (al nl ml : Nat) (tl : Nat → Int) (vl : Nat → Int) (gl : Nat → Bool) (ov : Int) (re : Int) (fz : Bool) (st : Int) (sv : Int) (sg : Bool) : Prop :=
  test (decide (al + nl ≤ ml ∧ nl ≤ 1000000))
 (test (S.vB ca af nl (fun (j : Nat) => tl (j + al)) (fun (j : Nat) => vl (j + al)) ov re fz != (0 : Int))
 (Kret (PV.tup
 [PV.agg
 [PV.int IntKind.i64 (0 : Int), PV.int IntKind.i64 (0 : Int), PV.nils,
 PV.int IntKind.i64 (0 : Int), PV.int IntKind.i64 (0 : Int), PV.tf false],
 PV.int IntKind.i64
 (S.vB ca af nl (fun (j : Nat) => tl (j + al)) (fun (j : Nat) => vl (j + al)) ov re fz)]) ([[(0, false,
 Blk.cols ml [Col.int IntKind.i64 tl, Col.int IntKind.i64 vl, Col.bool gl])]]) (5))
 (test (fz)
 (Kret (PV.tup
 [PV.agg
 [PV.int IntKind.i64 (0 : Int), PV.int IntKind.i64 (0 : Int), PV.nils,
 PV.int IntKind.i64 (0 : Int), PV.int IntKind.i64 (0 : Int), PV.tf false],
 PV.int IntKind.i64 (8 : Int)]) ([[(0, false,
 Blk.cols ml [Col.int IntKind.i64 tl, Col.int IntKind.i64 vl, Col.bool gl])]]) (5))
 (test (decide (st ≥ (0 : Int)))
 (test (decide (st ≤ (1099511627776 : Int)))
 (test (decide (sv ≥ (-1099511627776 : Int)))
 (test (decide (sv ≤ (1099511627776 : Int)))
 (test (false)
 (Kret (PV.tup
 [PV.agg
 [PV.int IntKind.i64 (0 : Int), PV.int IntKind.i64 (0 : Int), PV.nils,
 PV.int IntKind.i64 (0 : Int), PV.int IntKind.i64 (0 : Int), PV.tf false],
 PV.int IntKind.i64 (0 : Int)]) ([[(0, false,
 Blk.cols ml [Col.int IntKind.i64 tl, Col.int IntKind.i64 vl, Col.bool gl])]]) (6))
 (test (decide ((↑nl : Int) > (0 : Int)))
 (test (lim IntKind.i64 ((↑nl : Int) - (1 : Int)))
 (test (decide ((0 : Int) ≤ (↑nl : Int) - (1 : Int) ∧ (↑nl : Int) - (1 : Int) < (↑nl : Int)))
 (test (decide (Int.toNat ((↑nl : Int) - (1 : Int)) + al < ml))
 (test (decide (st < tl (Int.toNat ((↑nl : Int) - (1 : Int)) + al)))
 (Kret (PV.tup
 [PV.agg
 [PV.int IntKind.i64 (0 : Int), PV.int IntKind.i64 (0 : Int), PV.nils,
 PV.int IntKind.i64 (0 : Int), PV.int IntKind.i64 (0 : Int), PV.tf false],
 PV.int IntKind.i64 (15 : Int)]) ([[(0, false,
 Blk.cols ml [Col.int IntKind.i64 tl, Col.int IntKind.i64 vl, Col.bool gl])]]) (6))
 (test (ov == (1099511627776 : Int))
 (Kret (PV.tup
 [PV.agg
 [PV.int IntKind.i64 (0 : Int), PV.int IntKind.i64 (0 : Int), PV.nils,
 PV.int IntKind.i64 (0 : Int), PV.int IntKind.i64 (0 : Int), PV.tf false],
 PV.int IntKind.i64 (16 : Int)]) ([[(0, false,
 Blk.cols ml [Col.int IntKind.i64 tl, Col.int IntKind.i64 vl, Col.bool gl])]]) (6))
 (test ((↑nl : Int) == ca)
 (test (decide
 ((0 : Int) ≤ Option.getD (Option.some (1 : Int)) (0 : Int) ∧ (1 : Int) ≤ (↑nl : Int) ∧ (↑nl : Int) ≤ (↑nl : Int)))
 (test (lim IntKind.i64 (ov + (1 : Int)))
 (test (decide (1 + al + (nl - 1) ≤ ml ∧ nl - 1 ≤ 1000000))
 (test (decide (nl - 1 + 1 ≤ 1000000))
 (test (decide (nl - 1 ≤ nl - 1))
 (test (true)
 (test (decide (re > (0 : Int)))
 (test (lim IntKind.i64 (re - (1 : Int)))
 (test (re - (1 : Int) == (0 : Int))
 (Kret (PV.tup
 [PV.agg
 [PV.int IntKind.i64 ca, PV.int IntKind.i64 af,
 PV.own (9) (3) (nl - 1 + 1), PV.int IntKind.i64 (ov + (1 : Int)),
 PV.int IntKind.i64 (re - (1 : Int)), PV.tf true],
 PV.int IntKind.i64 (0 : Int)]) ([[(0, false,
 Blk.cols ml [Col.int IntKind.i64 tl, Col.int IntKind.i64 vl, Col.bool gl]),
 (9, true,
 Blk.cols (nl - 1 + 1)
 [Col.int IntKind.i64 fun (j : Nat) =>
 bif Nat.blt j (nl - 1) then tl (j + (1 + al)) else st,
 Col.int IntKind.i64 fun (j : Nat) =>
 bif Nat.blt j (nl - 1) then vl (j + (1 + al)) else sv,
 Col.bool fun (j : Nat) => bif Nat.blt j (nl - 1) then gl (j + (1 + al)) else sg])]]) (10))
 (Kret (PV.tup
 [PV.agg
 [PV.int IntKind.i64 ca, PV.int IntKind.i64 af,
 PV.own (9) (3) (nl - 1 + 1), PV.int IntKind.i64 (ov + (1 : Int)),
 PV.int IntKind.i64 (re - (1 : Int)), PV.tf false],
 PV.int IntKind.i64 (0 : Int)]) ([[(0, false,
 Blk.cols ml [Col.int IntKind.i64 tl, Col.int IntKind.i64 vl, Col.bool gl]),
 (9, true,
 Blk.cols (nl - 1 + 1)
 [Col.int IntKind.i64 fun (j : Nat) =>
 bif Nat.blt j (nl - 1) then tl (j + (1 + al)) else st,
 Col.int IntKind.i64 fun (j : Nat) =>
 bif Nat.blt j (nl - 1) then vl (j + (1 + al)) else sv,
 Col.bool fun (j : Nat) => bif Nat.blt j (nl - 1) then gl (j + (1 + al)) else sg])]]) (10)))
 (False))
 (Kret (PV.tup
 [PV.agg
 [PV.int IntKind.i64 ca, PV.int IntKind.i64 af,
 PV.own (9) (3) (nl - 1 + 1), PV.int IntKind.i64 (ov + (1 : Int)),
 PV.int IntKind.i64 re, PV.bool fz],
 PV.int IntKind.i64 (0 : Int)]) ([[(0, false,
 Blk.cols ml [Col.int IntKind.i64 tl, Col.int IntKind.i64 vl, Col.bool gl]),
 (9, true,
 Blk.cols (nl - 1 + 1)
 [Col.int IntKind.i64 fun (j : Nat) =>
 bif Nat.blt j (nl - 1) then tl (j + (1 + al)) else st,
 Col.int IntKind.i64 fun (j : Nat) =>
 bif Nat.blt j (nl - 1) then vl (j + (1 + al)) else sv,
 Col.bool fun (j : Nat) => bif Nat.blt j (nl - 1) then gl (j + (1 + al)) else sg])]]) (10)))
 (False))
 (False))
 (False))
 (False))
 (False))
 (False))
 (test (decide (al + nl ≤ ml ∧ nl ≤ 1000000))
 (test (decide (nl + 1 ≤ 1000000))
 (test (decide (nl ≤ nl))
 (test (true)
 (test (decide (re > (0 : Int)))
 (test (lim IntKind.i64 (re - (1 : Int)))
 (test (re - (1 : Int) == (0 : Int))
 (Kret (PV.tup
 [PV.agg
 [PV.int IntKind.i64 ca, PV.int IntKind.i64 af,
 PV.own (9) (3) (nl + 1), PV.int IntKind.i64 ov,
 PV.int IntKind.i64 (re - (1 : Int)), PV.tf true],
 PV.int IntKind.i64 (0 : Int)]) ([[(0, false,
 Blk.cols ml [Col.int IntKind.i64 tl, Col.int IntKind.i64 vl, Col.bool gl]),
 (9, true,
 Blk.cols (nl + 1)
 [Col.int IntKind.i64 fun (j : Nat) => bif Nat.blt j nl then tl (j + al) else st,
 Col.int IntKind.i64 fun (j : Nat) => bif Nat.blt j nl then vl (j + al) else sv,
 Col.bool fun (j : Nat) => bif Nat.blt j nl then gl (j + al) else sg])]]) (10))
 (Kret (PV.tup
 [PV.agg
 [PV.int IntKind.i64 ca, PV.int IntKind.i64 af,
 PV.own (9) (3) (nl + 1), PV.int IntKind.i64 ov,
 PV.int IntKind.i64 (re - (1 : Int)), PV.tf false],
 PV.int IntKind.i64 (0 : Int)]) ([[(0, false,
 Blk.cols ml [Col.int IntKind.i64 tl, Col.int IntKind.i64 vl, Col.bool gl]),
 (9, true,
 Blk.cols (nl + 1)
 [Col.int IntKind.i64 fun (j : Nat) => bif Nat.blt j nl then tl (j + al) else st,
 Col.int IntKind.i64 fun (j : Nat) => bif Nat.blt j nl then vl (j + al) else sv,
 Col.bool fun (j : Nat) => bif Nat.blt j nl then gl (j + al) else sg])]]) (10)))
 (False))
 (Kret (PV.tup
 [PV.agg
 [PV.int IntKind.i64 ca, PV.int IntKind.i64 af,
 PV.own (9) (3) (nl + 1), PV.int IntKind.i64 ov,
 PV.int IntKind.i64 re, PV.bool fz],
 PV.int IntKind.i64 (0 : Int)]) ([[(0, false,
 Blk.cols ml [Col.int IntKind.i64 tl, Col.int IntKind.i64 vl, Col.bool gl]),
 (9, true,
 Blk.cols (nl + 1)
 [Col.int IntKind.i64 fun (j : Nat) => bif Nat.blt j nl then tl (j + al) else st,
 Col.int IntKind.i64 fun (j : Nat) => bif Nat.blt j nl then vl (j + al) else sv,
 Col.bool fun (j : Nat) => bif Nat.blt j nl then gl (j + al) else sg])]]) (10)))
 (False))
 (False))
 (False))
 (False)))))
 (False))
 (False))
 (False))
 (test (ov == (1099511627776 : Int))
 (Kret (PV.tup
 [PV.agg
 [PV.int IntKind.i64 (0 : Int), PV.int IntKind.i64 (0 : Int), PV.nils,
 PV.int IntKind.i64 (0 : Int), PV.int IntKind.i64 (0 : Int), PV.tf false],
 PV.int IntKind.i64 (16 : Int)]) ([[(0, false,
 Blk.cols ml [Col.int IntKind.i64 tl, Col.int IntKind.i64 vl, Col.bool gl])]]) (6))
 (test ((↑nl : Int) == ca)
 (test (decide
 ((0 : Int) ≤ Option.getD (Option.some (1 : Int)) (0 : Int) ∧ (1 : Int) ≤ (↑nl : Int) ∧ (↑nl : Int) ≤ (↑nl : Int)))
 (test (lim IntKind.i64 (ov + (1 : Int)))
 (test (decide (1 + al + (nl - 1) ≤ ml ∧ nl - 1 ≤ 1000000))
 (test (decide (nl - 1 + 1 ≤ 1000000))
 (test (decide (nl - 1 ≤ nl - 1))
 (test (true)
 (test (decide (re > (0 : Int)))
 (test (lim IntKind.i64 (re - (1 : Int)))
 (test (re - (1 : Int) == (0 : Int))
 (Kret (PV.tup
 [PV.agg
 [PV.int IntKind.i64 ca, PV.int IntKind.i64 af,
 PV.own (9) (3) (nl - 1 + 1), PV.int IntKind.i64 (ov + (1 : Int)),
 PV.int IntKind.i64 (re - (1 : Int)), PV.tf true],
 PV.int IntKind.i64 (0 : Int)]) ([[(0, false,
 Blk.cols ml [Col.int IntKind.i64 tl, Col.int IntKind.i64 vl, Col.bool gl]),
 (9, true,
 Blk.cols (nl - 1 + 1)
 [Col.int IntKind.i64 fun (j : Nat) =>
 bif Nat.blt j (nl - 1) then tl (j + (1 + al)) else st,
 Col.int IntKind.i64 fun (j : Nat) =>
 bif Nat.blt j (nl - 1) then vl (j + (1 + al)) else sv,
 Col.bool fun (j : Nat) => bif Nat.blt j (nl - 1) then gl (j + (1 + al)) else sg])]]) (10))
 (Kret (PV.tup
 [PV.agg
 [PV.int IntKind.i64 ca, PV.int IntKind.i64 af,
 PV.own (9) (3) (nl - 1 + 1), PV.int IntKind.i64 (ov + (1 : Int)),
 PV.int IntKind.i64 (re - (1 : Int)), PV.tf false],
 PV.int IntKind.i64 (0 : Int)]) ([[(0, false,
 Blk.cols ml [Col.int IntKind.i64 tl, Col.int IntKind.i64 vl, Col.bool gl]),
 (9, true,
 Blk.cols (nl - 1 + 1)
 [Col.int IntKind.i64 fun (j : Nat) =>
 bif Nat.blt j (nl - 1) then tl (j + (1 + al)) else st,
 Col.int IntKind.i64 fun (j : Nat) =>
 bif Nat.blt j (nl - 1) then vl (j + (1 + al)) else sv,
 Col.bool fun (j : Nat) => bif Nat.blt j (nl - 1) then gl (j + (1 + al)) else sg])]]) (10)))
 (False))
 (Kret (PV.tup
 [PV.agg
 [PV.int IntKind.i64 ca, PV.int IntKind.i64 af,
 PV.own (9) (3) (nl - 1 + 1), PV.int IntKind.i64 (ov + (1 : Int)),
 PV.int IntKind.i64 re, PV.bool fz],
 PV.int IntKind.i64 (0 : Int)]) ([[(0, false,
 Blk.cols ml [Col.int IntKind.i64 tl, Col.int IntKind.i64 vl, Col.bool gl]),
 (9, true,
 Blk.cols (nl - 1 + 1)
 [Col.int IntKind.i64 fun (j : Nat) =>
 bif Nat.blt j (nl - 1) then tl (j + (1 + al)) else st,
 Col.int IntKind.i64 fun (j : Nat) =>
 bif Nat.blt j (nl - 1) then vl (j + (1 + al)) else sv,
 Col.bool fun (j : Nat) => bif Nat.blt j (nl - 1) then gl (j + (1 + al)) else sg])]]) (10)))
 (False))
 (False))
 (False))
 (False))
 (False))
 (False))
 (test (decide (al + nl ≤ ml ∧ nl ≤ 1000000))
 (test (decide (nl + 1 ≤ 1000000))
 (test (decide (nl ≤ nl))
 (test (true)
 (test (decide (re > (0 : Int)))
 (test (lim IntKind.i64 (re - (1 : Int)))
 (test (re - (1 : Int) == (0 : Int))
 (Kret (PV.tup
 [PV.agg
 [PV.int IntKind.i64 ca, PV.int IntKind.i64 af,
 PV.own (9) (3) (nl + 1), PV.int IntKind.i64 ov,
 PV.int IntKind.i64 (re - (1 : Int)), PV.tf true],
 PV.int IntKind.i64 (0 : Int)]) ([[(0, false,
 Blk.cols ml [Col.int IntKind.i64 tl, Col.int IntKind.i64 vl, Col.bool gl]),
 (9, true,
 Blk.cols (nl + 1)
 [Col.int IntKind.i64 fun (j : Nat) => bif Nat.blt j nl then tl (j + al) else st,
 Col.int IntKind.i64 fun (j : Nat) => bif Nat.blt j nl then vl (j + al) else sv,
 Col.bool fun (j : Nat) => bif Nat.blt j nl then gl (j + al) else sg])]]) (10))
 (Kret (PV.tup
 [PV.agg
 [PV.int IntKind.i64 ca, PV.int IntKind.i64 af,
 PV.own (9) (3) (nl + 1), PV.int IntKind.i64 ov,
 PV.int IntKind.i64 (re - (1 : Int)), PV.tf false],
 PV.int IntKind.i64 (0 : Int)]) ([[(0, false,
 Blk.cols ml [Col.int IntKind.i64 tl, Col.int IntKind.i64 vl, Col.bool gl]),
 (9, true,
 Blk.cols (nl + 1)
 [Col.int IntKind.i64 fun (j : Nat) => bif Nat.blt j nl then tl (j + al) else st,
 Col.int IntKind.i64 fun (j : Nat) => bif Nat.blt j nl then vl (j + al) else sv,
 Col.bool fun (j : Nat) => bif Nat.blt j nl then gl (j + al) else sg])]]) (10)))
 (False))
 (Kret (PV.tup
 [PV.agg
 [PV.int IntKind.i64 ca, PV.int IntKind.i64 af,
 PV.own (9) (3) (nl + 1), PV.int IntKind.i64 ov,
 PV.int IntKind.i64 re, PV.bool fz],
 PV.int IntKind.i64 (0 : Int)]) ([[(0, false,
 Blk.cols ml [Col.int IntKind.i64 tl, Col.int IntKind.i64 vl, Col.bool gl]),
 (9, true,
 Blk.cols (nl + 1)
 [Col.int IntKind.i64 fun (j : Nat) => bif Nat.blt j nl then tl (j + al) else st,
 Col.int IntKind.i64 fun (j : Nat) => bif Nat.blt j nl then vl (j + al) else sv,
 Col.bool fun (j : Nat) => bif Nat.blt j nl then gl (j + al) else sg])]]) (10)))
 (False))
 (False))
 (False))
 (False))))))
 (test (true)
 (Kret (PV.tup
 [PV.agg
 [PV.int IntKind.i64 (0 : Int), PV.int IntKind.i64 (0 : Int), PV.nils,
 PV.int IntKind.i64 (0 : Int), PV.int IntKind.i64 (0 : Int), PV.tf false],
 PV.int IntKind.i64 (6 : Int)]) ([[(0, false,
 Blk.cols ml [Col.int IntKind.i64 tl, Col.int IntKind.i64 vl, Col.bool gl])]]) (6))
 (test (decide ((↑nl : Int) > (0 : Int)))
 (test (lim IntKind.i64 ((↑nl : Int) - (1 : Int)))
 (test (decide ((0 : Int) ≤ (↑nl : Int) - (1 : Int) ∧ (↑nl : Int) - (1 : Int) < (↑nl : Int)))
 (test (decide (Int.toNat ((↑nl : Int) - (1 : Int)) + al < ml))
 (test (decide (st < tl (Int.toNat ((↑nl : Int) - (1 : Int)) + al)))
 (Kret (PV.tup
 [PV.agg
 [PV.int IntKind.i64 (0 : Int), PV.int IntKind.i64 (0 : Int), PV.nils,
 PV.int IntKind.i64 (0 : Int), PV.int IntKind.i64 (0 : Int), PV.tf false],
 PV.int IntKind.i64 (15 : Int)]) ([[(0, false,
 Blk.cols ml [Col.int IntKind.i64 tl, Col.int IntKind.i64 vl, Col.bool gl])]]) (6))
 (test (ov == (1099511627776 : Int))
 (Kret (PV.tup
 [PV.agg
 [PV.int IntKind.i64 (0 : Int), PV.int IntKind.i64 (0 : Int), PV.nils,
 PV.int IntKind.i64 (0 : Int), PV.int IntKind.i64 (0 : Int), PV.tf false],
 PV.int IntKind.i64 (16 : Int)]) ([[(0, false,
 Blk.cols ml [Col.int IntKind.i64 tl, Col.int IntKind.i64 vl, Col.bool gl])]]) (6))
 (test ((↑nl : Int) == ca)
 (test (decide
 ((0 : Int) ≤ Option.getD (Option.some (1 : Int)) (0 : Int) ∧ (1 : Int) ≤ (↑nl : Int) ∧ (↑nl : Int) ≤ (↑nl : Int)))
 (test (lim IntKind.i64 (ov + (1 : Int)))
 (test (decide (1 + al + (nl - 1) ≤ ml ∧ nl - 1 ≤ 1000000))
 (test (decide (nl - 1 + 1 ≤ 1000000))
 (test (decide (nl - 1 ≤ nl - 1))
 (test (true)
 (test (decide (re > (0 : Int)))
 (test (lim IntKind.i64 (re - (1 : Int)))
 (test (re - (1 : Int) == (0 : Int))
 (Kret (PV.tup
 [PV.agg
 [PV.int IntKind.i64 ca, PV.int IntKind.i64 af,
 PV.own (9) (3) (nl - 1 + 1), PV.int IntKind.i64 (ov + (1 : Int)),
 PV.int IntKind.i64 (re - (1 : Int)), PV.tf true],
 PV.int IntKind.i64 (0 : Int)]) ([[(0, false,
 Blk.cols ml [Col.int IntKind.i64 tl, Col.int IntKind.i64 vl, Col.bool gl]),
 (9, true,
 Blk.cols (nl - 1 + 1)
 [Col.int IntKind.i64 fun (j : Nat) =>
 bif Nat.blt j (nl - 1) then tl (j + (1 + al)) else st,
 Col.int IntKind.i64 fun (j : Nat) =>
 bif Nat.blt j (nl - 1) then vl (j + (1 + al)) else sv,
 Col.bool fun (j : Nat) => bif Nat.blt j (nl - 1) then gl (j + (1 + al)) else sg])]]) (10))
 (Kret (PV.tup
 [PV.agg
 [PV.int IntKind.i64 ca, PV.int IntKind.i64 af,
 PV.own (9) (3) (nl - 1 + 1), PV.int IntKind.i64 (ov + (1 : Int)),
 PV.int IntKind.i64 (re - (1 : Int)), PV.tf false],
 PV.int IntKind.i64 (0 : Int)]) ([[(0, false,
 Blk.cols ml [Col.int IntKind.i64 tl, Col.int IntKind.i64 vl, Col.bool gl]),
 (9, true,
 Blk.cols (nl - 1 + 1)
 [Col.int IntKind.i64 fun (j : Nat) =>
 bif Nat.blt j (nl - 1) then tl (j + (1 + al)) else st,
 Col.int IntKind.i64 fun (j : Nat) =>
 bif Nat.blt j (nl - 1) then vl (j + (1 + al)) else sv,
 Col.bool fun (j : Nat) => bif Nat.blt j (nl - 1) then gl (j + (1 + al)) else sg])]]) (10)))
 (False))
 (Kret (PV.tup
 [PV.agg
 [PV.int IntKind.i64 ca, PV.int IntKind.i64 af,
 PV.own (9) (3) (nl - 1 + 1), PV.int IntKind.i64 (ov + (1 : Int)),
 PV.int IntKind.i64 re, PV.bool fz],
 PV.int IntKind.i64 (0 : Int)]) ([[(0, false,
 Blk.cols ml [Col.int IntKind.i64 tl, Col.int IntKind.i64 vl, Col.bool gl]),
 (9, true,
 Blk.cols (nl - 1 + 1)
 [Col.int IntKind.i64 fun (j : Nat) =>
 bif Nat.blt j (nl - 1) then tl (j + (1 + al)) else st,
 Col.int IntKind.i64 fun (j : Nat) =>
 bif Nat.blt j (nl - 1) then vl (j + (1 + al)) else sv,
 Col.bool fun (j : Nat) => bif Nat.blt j (nl - 1) then gl (j + (1 + al)) else sg])]]) (10)))
 (False))
 (False))
 (False))
 (False))
 (False))
 (False))
 (test (decide (al + nl ≤ ml ∧ nl ≤ 1000000))
 (test (decide (nl + 1 ≤ 1000000))
 (test (decide (nl ≤ nl))
 (test (true)
 (test (decide (re > (0 : Int)))
 (test (lim IntKind.i64 (re - (1 : Int)))
 (test (re - (1 : Int) == (0 : Int))
 (Kret (PV.tup
 [PV.agg
 [PV.int IntKind.i64 ca, PV.int IntKind.i64 af,
 PV.own (9) (3) (nl + 1), PV.int IntKind.i64 ov,
 PV.int IntKind.i64 (re - (1 : Int)), PV.tf true],
 PV.int IntKind.i64 (0 : Int)]) ([[(0, false,
 Blk.cols ml [Col.int IntKind.i64 tl, Col.int IntKind.i64 vl, Col.bool gl]),
 (9, true,
 Blk.cols (nl + 1)
 [Col.int IntKind.i64 fun (j : Nat) => bif Nat.blt j nl then tl (j + al) else st,
 Col.int IntKind.i64 fun (j : Nat) => bif Nat.blt j nl then vl (j + al) else sv,
 Col.bool fun (j : Nat) => bif Nat.blt j nl then gl (j + al) else sg])]]) (10))
 (Kret (PV.tup
 [PV.agg
 [PV.int IntKind.i64 ca, PV.int IntKind.i64 af,
 PV.own (9) (3) (nl + 1), PV.int IntKind.i64 ov,
 PV.int IntKind.i64 (re - (1 : Int)), PV.tf false],
 PV.int IntKind.i64 (0 : Int)]) ([[(0, false,
 Blk.cols ml [Col.int IntKind.i64 tl, Col.int IntKind.i64 vl, Col.bool gl]),
 (9, true,
 Blk.cols (nl + 1)
 [Col.int IntKind.i64 fun (j : Nat) => bif Nat.blt j nl then tl (j + al) else st,
 Col.int IntKind.i64 fun (j : Nat) => bif Nat.blt j nl then vl (j + al) else sv,
 Col.bool fun (j : Nat) => bif Nat.blt j nl then gl (j + al) else sg])]]) (10)))
 (False))
 (Kret (PV.tup
 [PV.agg
 [PV.int IntKind.i64 ca, PV.int IntKind.i64 af,
 PV.own (9) (3) (nl + 1), PV.int IntKind.i64 ov,
 PV.int IntKind.i64 re, PV.bool fz],
 PV.int IntKind.i64 (0 : Int)]) ([[(0, false,
 Blk.cols ml [Col.int IntKind.i64 tl, Col.int IntKind.i64 vl, Col.bool gl]),
 (9, true,
 Blk.cols (nl + 1)
 [Col.int IntKind.i64 fun (j : Nat) => bif Nat.blt j nl then tl (j + al) else st,
 Col.int IntKind.i64 fun (j : Nat) => bif Nat.blt j nl then vl (j + al) else sv,
 Col.bool fun (j : Nat) => bif Nat.blt j nl then gl (j + al) else sg])]]) (10)))
 (False))
 (False))
 (False))
 (False)))))
 (False))
 (False))
 (False))
 (test (ov == (1099511627776 : Int))
 (Kret (PV.tup
 [PV.agg
 [PV.int IntKind.i64 (0 : Int), PV.int IntKind.i64 (0 : Int), PV.nils,
 PV.int IntKind.i64 (0 : Int), PV.int IntKind.i64 (0 : Int), PV.tf false],
 PV.int IntKind.i64 (16 : Int)]) ([[(0, false,
 Blk.cols ml [Col.int IntKind.i64 tl, Col.int IntKind.i64 vl, Col.bool gl])]]) (6))
 (test ((↑nl : Int) == ca)
 (test (decide
 ((0 : Int) ≤ Option.getD (Option.some (1 : Int)) (0 : Int) ∧ (1 : Int) ≤ (↑nl : Int) ∧ (↑nl : Int) ≤ (↑nl : Int)))
 (test (lim IntKind.i64 (ov + (1 : Int)))
 (test (decide (1 + al + (nl - 1) ≤ ml ∧ nl - 1 ≤ 1000000))
 (test (decide (nl - 1 + 1 ≤ 1000000))
 (test (decide (nl - 1 ≤ nl - 1))
 (test (true)
 (test (decide (re > (0 : Int)))
 (test (lim IntKind.i64 (re - (1 : Int)))
 (test (re - (1 : Int) == (0 : Int))
 (Kret (PV.tup
 [PV.agg
 [PV.int IntKind.i64 ca, PV.int IntKind.i64 af,
 PV.own (9) (3) (nl - 1 + 1), PV.int IntKind.i64 (ov + (1 : Int)),
 PV.int IntKind.i64 (re - (1 : Int)), PV.tf true],
 PV.int IntKind.i64 (0 : Int)]) ([[(0, false,
 Blk.cols ml [Col.int IntKind.i64 tl, Col.int IntKind.i64 vl, Col.bool gl]),
 (9, true,
 Blk.cols (nl - 1 + 1)
 [Col.int IntKind.i64 fun (j : Nat) =>
 bif Nat.blt j (nl - 1) then tl (j + (1 + al)) else st,
 Col.int IntKind.i64 fun (j : Nat) =>
 bif Nat.blt j (nl - 1) then vl (j + (1 + al)) else sv,
 Col.bool fun (j : Nat) => bif Nat.blt j (nl - 1) then gl (j + (1 + al)) else sg])]]) (10))
 (Kret (PV.tup
 [PV.agg
 [PV.int IntKind.i64 ca, PV.int IntKind.i64 af,
 PV.own (9) (3) (nl - 1 + 1), PV.int IntKind.i64 (ov + (1 : Int)),
 PV.int IntKind.i64 (re - (1 : Int)), PV.tf false],
 PV.int IntKind.i64 (0 : Int)]) ([[(0, false,
 Blk.cols ml [Col.int IntKind.i64 tl, Col.int IntKind.i64 vl, Col.bool gl]),
 (9, true,
 Blk.cols (nl - 1 + 1)
 [Col.int IntKind.i64 fun (j : Nat) =>
 bif Nat.blt j (nl - 1) then tl (j + (1 + al)) else st,
 Col.int IntKind.i64 fun (j : Nat) =>
 bif Nat.blt j (nl - 1) then vl (j + (1 + al)) else sv,
 Col.bool fun (j : Nat) => bif Nat.blt j (nl - 1) then gl (j + (1 + al)) else sg])]]) (10)))
 (False))
 (Kret (PV.tup
 [PV.agg
 [PV.int IntKind.i64 ca, PV.int IntKind.i64 af,
 PV.own (9) (3) (nl - 1 + 1), PV.int IntKind.i64 (ov + (1 : Int)),
 PV.int IntKind.i64 re, PV.bool fz],
 PV.int IntKind.i64 (0 : Int)]) ([[(0, false,
 Blk.cols ml [Col.int IntKind.i64 tl, Col.int IntKind.i64 vl, Col.bool gl]),
 (9, true,
 Blk.cols (nl - 1 + 1)
 [Col.int IntKind.i64 fun (j : Nat) =>
 bif Nat.blt j (nl - 1) then tl (j + (1 + al)) else st,
 Col.int IntKind.i64 fun (j : Nat) =>
 bif Nat.blt j (nl - 1) then vl (j + (1 + al)) else sv,
 Col.bool fun (j : Nat) => bif Nat.blt j (nl - 1) then gl (j + (1 + al)) else sg])]]) (10)))
 (False))
 (False))
 (False))
 (False))
 (False))
 (False))
 (test (decide (al + nl ≤ ml ∧ nl ≤ 1000000))
 (test (decide (nl + 1 ≤ 1000000))
 (test (decide (nl ≤ nl))
 (test (true)
 (test (decide (re > (0 : Int)))
 (test (lim IntKind.i64 (re - (1 : Int)))
 (test (re - (1 : Int) == (0 : Int))
 (Kret (PV.tup
 [PV.agg
 [PV.int IntKind.i64 ca, PV.int IntKind.i64 af,
 PV.own (9) (3) (nl + 1), PV.int IntKind.i64 ov,
 PV.int IntKind.i64 (re - (1 : Int)), PV.tf true],
 PV.int IntKind.i64 (0 : Int)]) ([[(0, false,
 Blk.cols ml [Col.int IntKind.i64 tl, Col.int IntKind.i64 vl, Col.bool gl]),
 (9, true,
 Blk.cols (nl + 1)
 [Col.int IntKind.i64 fun (j : Nat) => bif Nat.blt j nl then tl (j + al) else st,
 Col.int IntKind.i64 fun (j : Nat) => bif Nat.blt j nl then vl (j + al) else sv,
 Col.bool fun (j : Nat) => bif Nat.blt j nl then gl (j + al) else sg])]]) (10))
 (Kret (PV.tup
 [PV.agg
 [PV.int IntKind.i64 ca, PV.int IntKind.i64 af,
 PV.own (9) (3) (nl + 1), PV.int IntKind.i64 ov,
 PV.int IntKind.i64 (re - (1 : Int)), PV.tf false],
 PV.int IntKind.i64 (0 : Int)]) ([[(0, false,
 Blk.cols ml [Col.int IntKind.i64 tl, Col.int IntKind.i64 vl, Col.bool gl]),
 (9, true,
 Blk.cols (nl + 1)
 [Col.int IntKind.i64 fun (j : Nat) => bif Nat.blt j nl then tl (j + al) else st,
 Col.int IntKind.i64 fun (j : Nat) => bif Nat.blt j nl then vl (j + al) else sv,
 Col.bool fun (j : Nat) => bif Nat.blt j nl then gl (j + al) else sg])]]) (10)))
 (False))
 (Kret (PV.tup
 [PV.agg
 [PV.int IntKind.i64 ca, PV.int IntKind.i64 af,
 PV.own (9) (3) (nl + 1), PV.int IntKind.i64 ov,
 PV.int IntKind.i64 re, PV.bool fz],
 PV.int IntKind.i64 (0 : Int)]) ([[(0, false,
 Blk.cols ml [Col.int IntKind.i64 tl, Col.int IntKind.i64 vl, Col.bool gl]),
 (9, true,
 Blk.cols (nl + 1)
 [Col.int IntKind.i64 fun (j : Nat) => bif Nat.blt j nl then tl (j + al) else st,
 Col.int IntKind.i64 fun (j : Nat) => bif Nat.blt j nl then vl (j + al) else sv,
 Col.bool fun (j : Nat) => bif Nat.blt j nl then gl (j + al) else sg])]]) (10)))
 (False))
 (False))
 (False))
 (False)))))))
 (test (true)
 (Kret (PV.tup
 [PV.agg
 [PV.int IntKind.i64 (0 : Int), PV.int IntKind.i64 (0 : Int), PV.nils,
 PV.int IntKind.i64 (0 : Int), PV.int IntKind.i64 (0 : Int), PV.tf false],
 PV.int IntKind.i64 (6 : Int)]) ([[(0, false,
 Blk.cols ml [Col.int IntKind.i64 tl, Col.int IntKind.i64 vl, Col.bool gl])]]) (6))
 (test (decide ((↑nl : Int) > (0 : Int)))
 (test (lim IntKind.i64 ((↑nl : Int) - (1 : Int)))
 (test (decide ((0 : Int) ≤ (↑nl : Int) - (1 : Int) ∧ (↑nl : Int) - (1 : Int) < (↑nl : Int)))
 (test (decide (Int.toNat ((↑nl : Int) - (1 : Int)) + al < ml))
 (test (decide (st < tl (Int.toNat ((↑nl : Int) - (1 : Int)) + al)))
 (Kret (PV.tup
 [PV.agg
 [PV.int IntKind.i64 (0 : Int), PV.int IntKind.i64 (0 : Int), PV.nils,
 PV.int IntKind.i64 (0 : Int), PV.int IntKind.i64 (0 : Int), PV.tf false],
 PV.int IntKind.i64 (15 : Int)]) ([[(0, false,
 Blk.cols ml [Col.int IntKind.i64 tl, Col.int IntKind.i64 vl, Col.bool gl])]]) (6))
 (test (ov == (1099511627776 : Int))
 (Kret (PV.tup
 [PV.agg
 [PV.int IntKind.i64 (0 : Int), PV.int IntKind.i64 (0 : Int), PV.nils,
 PV.int IntKind.i64 (0 : Int), PV.int IntKind.i64 (0 : Int), PV.tf false],
 PV.int IntKind.i64 (16 : Int)]) ([[(0, false,
 Blk.cols ml [Col.int IntKind.i64 tl, Col.int IntKind.i64 vl, Col.bool gl])]]) (6))
 (test ((↑nl : Int) == ca)
 (test (decide
 ((0 : Int) ≤ Option.getD (Option.some (1 : Int)) (0 : Int) ∧ (1 : Int) ≤ (↑nl : Int) ∧ (↑nl : Int) ≤ (↑nl : Int)))
 (test (lim IntKind.i64 (ov + (1 : Int)))
 (test (decide (1 + al + (nl - 1) ≤ ml ∧ nl - 1 ≤ 1000000))
 (test (decide (nl - 1 + 1 ≤ 1000000))
 (test (decide (nl - 1 ≤ nl - 1))
 (test (true)
 (test (decide (re > (0 : Int)))
 (test (lim IntKind.i64 (re - (1 : Int)))
 (test (re - (1 : Int) == (0 : Int))
 (Kret (PV.tup
 [PV.agg
 [PV.int IntKind.i64 ca, PV.int IntKind.i64 af,
 PV.own (9) (3) (nl - 1 + 1), PV.int IntKind.i64 (ov + (1 : Int)),
 PV.int IntKind.i64 (re - (1 : Int)), PV.tf true],
 PV.int IntKind.i64 (0 : Int)]) ([[(0, false,
 Blk.cols ml [Col.int IntKind.i64 tl, Col.int IntKind.i64 vl, Col.bool gl]),
 (9, true,
 Blk.cols (nl - 1 + 1)
 [Col.int IntKind.i64 fun (j : Nat) =>
 bif Nat.blt j (nl - 1) then tl (j + (1 + al)) else st,
 Col.int IntKind.i64 fun (j : Nat) =>
 bif Nat.blt j (nl - 1) then vl (j + (1 + al)) else sv,
 Col.bool fun (j : Nat) => bif Nat.blt j (nl - 1) then gl (j + (1 + al)) else sg])]]) (10))
 (Kret (PV.tup
 [PV.agg
 [PV.int IntKind.i64 ca, PV.int IntKind.i64 af,
 PV.own (9) (3) (nl - 1 + 1), PV.int IntKind.i64 (ov + (1 : Int)),
 PV.int IntKind.i64 (re - (1 : Int)), PV.tf false],
 PV.int IntKind.i64 (0 : Int)]) ([[(0, false,
 Blk.cols ml [Col.int IntKind.i64 tl, Col.int IntKind.i64 vl, Col.bool gl]),
 (9, true,
 Blk.cols (nl - 1 + 1)
 [Col.int IntKind.i64 fun (j : Nat) =>
 bif Nat.blt j (nl - 1) then tl (j + (1 + al)) else st,
 Col.int IntKind.i64 fun (j : Nat) =>
 bif Nat.blt j (nl - 1) then vl (j + (1 + al)) else sv,
 Col.bool fun (j : Nat) => bif Nat.blt j (nl - 1) then gl (j + (1 + al)) else sg])]]) (10)))
 (False))
 (Kret (PV.tup
 [PV.agg
 [PV.int IntKind.i64 ca, PV.int IntKind.i64 af,
 PV.own (9) (3) (nl - 1 + 1), PV.int IntKind.i64 (ov + (1 : Int)),
 PV.int IntKind.i64 re, PV.bool fz],
 PV.int IntKind.i64 (0 : Int)]) ([[(0, false,
 Blk.cols ml [Col.int IntKind.i64 tl, Col.int IntKind.i64 vl, Col.bool gl]),
 (9, true,
 Blk.cols (nl - 1 + 1)
 [Col.int IntKind.i64 fun (j : Nat) =>
 bif Nat.blt j (nl - 1) then tl (j + (1 + al)) else st,
 Col.int IntKind.i64 fun (j : Nat) =>
 bif Nat.blt j (nl - 1) then vl (j + (1 + al)) else sv,
 Col.bool fun (j : Nat) => bif Nat.blt j (nl - 1) then gl (j + (1 + al)) else sg])]]) (10)))
 (False))
 (False))
 (False))
 (False))
 (False))
 (False))
 (test (decide (al + nl ≤ ml ∧ nl ≤ 1000000))
 (test (decide (nl + 1 ≤ 1000000))
 (test (decide (nl ≤ nl))
 (test (true)
 (test (decide (re > (0 : Int)))
 (test (lim IntKind.i64 (re - (1 : Int)))
 (test (re - (1 : Int) == (0 : Int))
 (Kret (PV.tup
 [PV.agg
 [PV.int IntKind.i64 ca, PV.int IntKind.i64 af,
 PV.own (9) (3) (nl + 1), PV.int IntKind.i64 ov,
 PV.int IntKind.i64 (re - (1 : Int)), PV.tf true],
 PV.int IntKind.i64 (0 : Int)]) ([[(0, false,
 Blk.cols ml [Col.int IntKind.i64 tl, Col.int IntKind.i64 vl, Col.bool gl]),
 (9, true,
 Blk.cols (nl + 1)
 [Col.int IntKind.i64 fun (j : Nat) => bif Nat.blt j nl then tl (j + al) else st,
 Col.int IntKind.i64 fun (j : Nat) => bif Nat.blt j nl then vl (j + al) else sv,
 Col.bool fun (j : Nat) => bif Nat.blt j nl then gl (j + al) else sg])]]) (10))
 (Kret (PV.tup
 [PV.agg
 [PV.int IntKind.i64 ca, PV.int IntKind.i64 af,
 PV.own (9) (3) (nl + 1), PV.int IntKind.i64 ov,
 PV.int IntKind.i64 (re - (1 : Int)), PV.tf false],
 PV.int IntKind.i64 (0 : Int)]) ([[(0, false,
 Blk.cols ml [Col.int IntKind.i64 tl, Col.int IntKind.i64 vl, Col.bool gl]),
 (9, true,
 Blk.cols (nl + 1)
 [Col.int IntKind.i64 fun (j : Nat) => bif Nat.blt j nl then tl (j + al) else st,
 Col.int IntKind.i64 fun (j : Nat) => bif Nat.blt j nl then vl (j + al) else sv,
 Col.bool fun (j : Nat) => bif Nat.blt j nl then gl (j + al) else sg])]]) (10)))
 (False))
 (Kret (PV.tup
 [PV.agg
 [PV.int IntKind.i64 ca, PV.int IntKind.i64 af,
 PV.own (9) (3) (nl + 1), PV.int IntKind.i64 ov,
 PV.int IntKind.i64 re, PV.bool fz],
 PV.int IntKind.i64 (0 : Int)]) ([[(0, false,
 Blk.cols ml [Col.int IntKind.i64 tl, Col.int IntKind.i64 vl, Col.bool gl]),
 (9, true,
 Blk.cols (nl + 1)
 [Col.int IntKind.i64 fun (j : Nat) => bif Nat.blt j nl then tl (j + al) else st,
 Col.int IntKind.i64 fun (j : Nat) => bif Nat.blt j nl then vl (j + al) else sv,
 Col.bool fun (j : Nat) => bif Nat.blt j nl then gl (j + al) else sg])]]) (10)))
 (False))
 (False))
 (False))
 (False)))))
 (False))
 (False))
 (False))
 (test (ov == (1099511627776 : Int))
 (Kret (PV.tup
 [PV.agg
 [PV.int IntKind.i64 (0 : Int), PV.int IntKind.i64 (0 : Int), PV.nils,
 PV.int IntKind.i64 (0 : Int), PV.int IntKind.i64 (0 : Int), PV.tf false],
 PV.int IntKind.i64 (16 : Int)]) ([[(0, false,
 Blk.cols ml [Col.int IntKind.i64 tl, Col.int IntKind.i64 vl, Col.bool gl])]]) (6))
 (test ((↑nl : Int) == ca)
 (test (decide
 ((0 : Int) ≤ Option.getD (Option.some (1 : Int)) (0 : Int) ∧ (1 : Int) ≤ (↑nl : Int) ∧ (↑nl : Int) ≤ (↑nl : Int)))
 (test (lim IntKind.i64 (ov + (1 : Int)))
 (test (decide (1 + al + (nl - 1) ≤ ml ∧ nl - 1 ≤ 1000000))
 (test (decide (nl - 1 + 1 ≤ 1000000))
 (test (decide (nl - 1 ≤ nl - 1))
 (test (true)
 (test (decide (re > (0 : Int)))
 (test (lim IntKind.i64 (re - (1 : Int)))
 (test (re - (1 : Int) == (0 : Int))
 (Kret (PV.tup
 [PV.agg
 [PV.int IntKind.i64 ca, PV.int IntKind.i64 af,
 PV.own (9) (3) (nl - 1 + 1), PV.int IntKind.i64 (ov + (1 : Int)),
 PV.int IntKind.i64 (re - (1 : Int)), PV.tf true],
 PV.int IntKind.i64 (0 : Int)]) ([[(0, false,
 Blk.cols ml [Col.int IntKind.i64 tl, Col.int IntKind.i64 vl, Col.bool gl]),
 (9, true,
 Blk.cols (nl - 1 + 1)
 [Col.int IntKind.i64 fun (j : Nat) =>
 bif Nat.blt j (nl - 1) then tl (j + (1 + al)) else st,
 Col.int IntKind.i64 fun (j : Nat) =>
 bif Nat.blt j (nl - 1) then vl (j + (1 + al)) else sv,
 Col.bool fun (j : Nat) => bif Nat.blt j (nl - 1) then gl (j + (1 + al)) else sg])]]) (10))
 (Kret (PV.tup
 [PV.agg
 [PV.int IntKind.i64 ca, PV.int IntKind.i64 af,
 PV.own (9) (3) (nl - 1 + 1), PV.int IntKind.i64 (ov + (1 : Int)),
 PV.int IntKind.i64 (re - (1 : Int)), PV.tf false],
 PV.int IntKind.i64 (0 : Int)]) ([[(0, false,
 Blk.cols ml [Col.int IntKind.i64 tl, Col.int IntKind.i64 vl, Col.bool gl]),
 (9, true,
 Blk.cols (nl - 1 + 1)
 [Col.int IntKind.i64 fun (j : Nat) =>
 bif Nat.blt j (nl - 1) then tl (j + (1 + al)) else st,
 Col.int IntKind.i64 fun (j : Nat) =>
 bif Nat.blt j (nl - 1) then vl (j + (1 + al)) else sv,
 Col.bool fun (j : Nat) => bif Nat.blt j (nl - 1) then gl (j + (1 + al)) else sg])]]) (10)))
 (False))
 (Kret (PV.tup
 [PV.agg
 [PV.int IntKind.i64 ca, PV.int IntKind.i64 af,
 PV.own (9) (3) (nl - 1 + 1), PV.int IntKind.i64 (ov + (1 : Int)),
 PV.int IntKind.i64 re, PV.bool fz],
 PV.int IntKind.i64 (0 : Int)]) ([[(0, false,
 Blk.cols ml [Col.int IntKind.i64 tl, Col.int IntKind.i64 vl, Col.bool gl]),
 (9, true,
 Blk.cols (nl - 1 + 1)
 [Col.int IntKind.i64 fun (j : Nat) =>
 bif Nat.blt j (nl - 1) then tl (j + (1 + al)) else st,
 Col.int IntKind.i64 fun (j : Nat) =>
 bif Nat.blt j (nl - 1) then vl (j + (1 + al)) else sv,
 Col.bool fun (j : Nat) => bif Nat.blt j (nl - 1) then gl (j + (1 + al)) else sg])]]) (10)))
 (False))
 (False))
 (False))
 (False))
 (False))
 (False))
 (test (decide (al + nl ≤ ml ∧ nl ≤ 1000000))
 (test (decide (nl + 1 ≤ 1000000))
 (test (decide (nl ≤ nl))
 (test (true)
 (test (decide (re > (0 : Int)))
 (test (lim IntKind.i64 (re - (1 : Int)))
 (test (re - (1 : Int) == (0 : Int))
 (Kret (PV.tup
 [PV.agg
 [PV.int IntKind.i64 ca, PV.int IntKind.i64 af,
 PV.own (9) (3) (nl + 1), PV.int IntKind.i64 ov,
 PV.int IntKind.i64 (re - (1 : Int)), PV.tf true],
 PV.int IntKind.i64 (0 : Int)]) ([[(0, false,
 Blk.cols ml [Col.int IntKind.i64 tl, Col.int IntKind.i64 vl, Col.bool gl]),
 (9, true,
 Blk.cols (nl + 1)
 [Col.int IntKind.i64 fun (j : Nat) => bif Nat.blt j nl then tl (j + al) else st,
 Col.int IntKind.i64 fun (j : Nat) => bif Nat.blt j nl then vl (j + al) else sv,
 Col.bool fun (j : Nat) => bif Nat.blt j nl then gl (j + al) else sg])]]) (10))
 (Kret (PV.tup
 [PV.agg
 [PV.int IntKind.i64 ca, PV.int IntKind.i64 af,
 PV.own (9) (3) (nl + 1), PV.int IntKind.i64 ov,
 PV.int IntKind.i64 (re - (1 : Int)), PV.tf false],
 PV.int IntKind.i64 (0 : Int)]) ([[(0, false,
 Blk.cols ml [Col.int IntKind.i64 tl, Col.int IntKind.i64 vl, Col.bool gl]),
 (9, true,
 Blk.cols (nl + 1)
 [Col.int IntKind.i64 fun (j : Nat) => bif Nat.blt j nl then tl (j + al) else st,
 Col.int IntKind.i64 fun (j : Nat) => bif Nat.blt j nl then vl (j + al) else sv,
 Col.bool fun (j : Nat) => bif Nat.blt j nl then gl (j + al) else sg])]]) (10)))
 (False))
 (Kret (PV.tup
 [PV.agg
 [PV.int IntKind.i64 ca, PV.int IntKind.i64 af,
 PV.own (9) (3) (nl + 1), PV.int IntKind.i64 ov,
 PV.int IntKind.i64 re, PV.bool fz],
 PV.int IntKind.i64 (0 : Int)]) ([[(0, false,
 Blk.cols ml [Col.int IntKind.i64 tl, Col.int IntKind.i64 vl, Col.bool gl]),
 (9, true,
 Blk.cols (nl + 1)
 [Col.int IntKind.i64 fun (j : Nat) => bif Nat.blt j nl then tl (j + al) else st,
 Col.int IntKind.i64 fun (j : Nat) => bif Nat.blt j nl then vl (j + al) else sv,
 Col.bool fun (j : Nat) => bif Nat.blt j nl then gl (j + al) else sg])]]) (10)))
 (False))
 (False))
 (False))
 (False)))))))
 (test (true)
 (Kret (PV.tup
 [PV.agg
 [PV.int IntKind.i64 (0 : Int), PV.int IntKind.i64 (0 : Int), PV.nils,
 PV.int IntKind.i64 (0 : Int), PV.int IntKind.i64 (0 : Int), PV.tf false],
 PV.int IntKind.i64 (6 : Int)]) ([[(0, false,
 Blk.cols ml [Col.int IntKind.i64 tl, Col.int IntKind.i64 vl, Col.bool gl])]]) (6))
 (test (decide ((↑nl : Int) > (0 : Int)))
 (test (lim IntKind.i64 ((↑nl : Int) - (1 : Int)))
 (test (decide ((0 : Int) ≤ (↑nl : Int) - (1 : Int) ∧ (↑nl : Int) - (1 : Int) < (↑nl : Int)))
 (test (decide (Int.toNat ((↑nl : Int) - (1 : Int)) + al < ml))
 (test (decide (st < tl (Int.toNat ((↑nl : Int) - (1 : Int)) + al)))
 (Kret (PV.tup
 [PV.agg
 [PV.int IntKind.i64 (0 : Int), PV.int IntKind.i64 (0 : Int), PV.nils,
 PV.int IntKind.i64 (0 : Int), PV.int IntKind.i64 (0 : Int), PV.tf false],
 PV.int IntKind.i64 (15 : Int)]) ([[(0, false,
 Blk.cols ml [Col.int IntKind.i64 tl, Col.int IntKind.i64 vl, Col.bool gl])]]) (6))
 (test (ov == (1099511627776 : Int))
 (Kret (PV.tup
 [PV.agg
 [PV.int IntKind.i64 (0 : Int), PV.int IntKind.i64 (0 : Int), PV.nils,
 PV.int IntKind.i64 (0 : Int), PV.int IntKind.i64 (0 : Int), PV.tf false],
 PV.int IntKind.i64 (16 : Int)]) ([[(0, false,
 Blk.cols ml [Col.int IntKind.i64 tl, Col.int IntKind.i64 vl, Col.bool gl])]]) (6))
 (test ((↑nl : Int) == ca)
 (test (decide
 ((0 : Int) ≤ Option.getD (Option.some (1 : Int)) (0 : Int) ∧ (1 : Int) ≤ (↑nl : Int) ∧ (↑nl : Int) ≤ (↑nl : Int)))
 (test (lim IntKind.i64 (ov + (1 : Int)))
 (test (decide (1 + al + (nl - 1) ≤ ml ∧ nl - 1 ≤ 1000000))
 (test (decide (nl - 1 + 1 ≤ 1000000))
 (test (decide (nl - 1 ≤ nl - 1))
 (test (true)
 (test (decide (re > (0 : Int)))
 (test (lim IntKind.i64 (re - (1 : Int)))
 (test (re - (1 : Int) == (0 : Int))
 (Kret (PV.tup
 [PV.agg
 [PV.int IntKind.i64 ca, PV.int IntKind.i64 af,
 PV.own (9) (3) (nl - 1 + 1), PV.int IntKind.i64 (ov + (1 : Int)),
 PV.int IntKind.i64 (re - (1 : Int)), PV.tf true],
 PV.int IntKind.i64 (0 : Int)]) ([[(0, false,
 Blk.cols ml [Col.int IntKind.i64 tl, Col.int IntKind.i64 vl, Col.bool gl]),
 (9, true,
 Blk.cols (nl - 1 + 1)
 [Col.int IntKind.i64 fun (j : Nat) =>
 bif Nat.blt j (nl - 1) then tl (j + (1 + al)) else st,
 Col.int IntKind.i64 fun (j : Nat) =>
 bif Nat.blt j (nl - 1) then vl (j + (1 + al)) else sv,
 Col.bool fun (j : Nat) => bif Nat.blt j (nl - 1) then gl (j + (1 + al)) else sg])]]) (10))
 (Kret (PV.tup
 [PV.agg
 [PV.int IntKind.i64 ca, PV.int IntKind.i64 af,
 PV.own (9) (3) (nl - 1 + 1), PV.int IntKind.i64 (ov + (1 : Int)),
 PV.int IntKind.i64 (re - (1 : Int)), PV.tf false],
 PV.int IntKind.i64 (0 : Int)]) ([[(0, false,
 Blk.cols ml [Col.int IntKind.i64 tl, Col.int IntKind.i64 vl, Col.bool gl]),
 (9, true,
 Blk.cols (nl - 1 + 1)
 [Col.int IntKind.i64 fun (j : Nat) =>
 bif Nat.blt j (nl - 1) then tl (j + (1 + al)) else st,
 Col.int IntKind.i64 fun (j : Nat) =>
 bif Nat.blt j (nl - 1) then vl (j + (1 + al)) else sv,
 Col.bool fun (j : Nat) => bif Nat.blt j (nl - 1) then gl (j + (1 + al)) else sg])]]) (10)))
 (False))
 (Kret (PV.tup
 [PV.agg
 [PV.int IntKind.i64 ca, PV.int IntKind.i64 af,
 PV.own (9) (3) (nl - 1 + 1), PV.int IntKind.i64 (ov + (1 : Int)),
 PV.int IntKind.i64 re, PV.bool fz],
 PV.int IntKind.i64 (0 : Int)]) ([[(0, false,
 Blk.cols ml [Col.int IntKind.i64 tl, Col.int IntKind.i64 vl, Col.bool gl]),
 (9, true,
 Blk.cols (nl - 1 + 1)
 [Col.int IntKind.i64 fun (j : Nat) =>
 bif Nat.blt j (nl - 1) then tl (j + (1 + al)) else st,
 Col.int IntKind.i64 fun (j : Nat) =>
 bif Nat.blt j (nl - 1) then vl (j + (1 + al)) else sv,
 Col.bool fun (j : Nat) => bif Nat.blt j (nl - 1) then gl (j + (1 + al)) else sg])]]) (10)))
 (False))
 (False))
 (False))
 (False))
 (False))
 (False))
 (test (decide (al + nl ≤ ml ∧ nl ≤ 1000000))
 (test (decide (nl + 1 ≤ 1000000))
 (test (decide (nl ≤ nl))
 (test (true)
 (test (decide (re > (0 : Int)))
 (test (lim IntKind.i64 (re - (1 : Int)))
 (test (re - (1 : Int) == (0 : Int))
 (Kret (PV.tup
 [PV.agg
 [PV.int IntKind.i64 ca, PV.int IntKind.i64 af,
 PV.own (9) (3) (nl + 1), PV.int IntKind.i64 ov,
 PV.int IntKind.i64 (re - (1 : Int)), PV.tf true],
 PV.int IntKind.i64 (0 : Int)]) ([[(0, false,
 Blk.cols ml [Col.int IntKind.i64 tl, Col.int IntKind.i64 vl, Col.bool gl]),
 (9, true,
 Blk.cols (nl + 1)
 [Col.int IntKind.i64 fun (j : Nat) => bif Nat.blt j nl then tl (j + al) else st,
 Col.int IntKind.i64 fun (j : Nat) => bif Nat.blt j nl then vl (j + al) else sv,
 Col.bool fun (j : Nat) => bif Nat.blt j nl then gl (j + al) else sg])]]) (10))
 (Kret (PV.tup
 [PV.agg
 [PV.int IntKind.i64 ca, PV.int IntKind.i64 af,
 PV.own (9) (3) (nl + 1), PV.int IntKind.i64 ov,
 PV.int IntKind.i64 (re - (1 : Int)), PV.tf false],
 PV.int IntKind.i64 (0 : Int)]) ([[(0, false,
 Blk.cols ml [Col.int IntKind.i64 tl, Col.int IntKind.i64 vl, Col.bool gl]),
 (9, true,
 Blk.cols (nl + 1)
 [Col.int IntKind.i64 fun (j : Nat) => bif Nat.blt j nl then tl (j + al) else st,
 Col.int IntKind.i64 fun (j : Nat) => bif Nat.blt j nl then vl (j + al) else sv,
 Col.bool fun (j : Nat) => bif Nat.blt j nl then gl (j + al) else sg])]]) (10)))
 (False))
 (Kret (PV.tup
 [PV.agg
 [PV.int IntKind.i64 ca, PV.int IntKind.i64 af,
 PV.own (9) (3) (nl + 1), PV.int IntKind.i64 ov,
 PV.int IntKind.i64 re, PV.bool fz],
 PV.int IntKind.i64 (0 : Int)]) ([[(0, false,
 Blk.cols ml [Col.int IntKind.i64 tl, Col.int IntKind.i64 vl, Col.bool gl]),
 (9, true,
 Blk.cols (nl + 1)
 [Col.int IntKind.i64 fun (j : Nat) => bif Nat.blt j nl then tl (j + al) else st,
 Col.int IntKind.i64 fun (j : Nat) => bif Nat.blt j nl then vl (j + al) else sv,
 Col.bool fun (j : Nat) => bif Nat.blt j nl then gl (j + al) else sg])]]) (10)))
 (False))
 (False))
 (False))
 (False)))))
 (False))
 (False))
 (False))
 (test (ov == (1099511627776 : Int))
 (Kret (PV.tup
 [PV.agg
 [PV.int IntKind.i64 (0 : Int), PV.int IntKind.i64 (0 : Int), PV.nils,
 PV.int IntKind.i64 (0 : Int), PV.int IntKind.i64 (0 : Int), PV.tf false],
 PV.int IntKind.i64 (16 : Int)]) ([[(0, false,
 Blk.cols ml [Col.int IntKind.i64 tl, Col.int IntKind.i64 vl, Col.bool gl])]]) (6))
 (test ((↑nl : Int) == ca)
 (test (decide
 ((0 : Int) ≤ Option.getD (Option.some (1 : Int)) (0 : Int) ∧ (1 : Int) ≤ (↑nl : Int) ∧ (↑nl : Int) ≤ (↑nl : Int)))
 (test (lim IntKind.i64 (ov + (1 : Int)))
 (test (decide (1 + al + (nl - 1) ≤ ml ∧ nl - 1 ≤ 1000000))
 (test (decide (nl - 1 + 1 ≤ 1000000))
 (test (decide (nl - 1 ≤ nl - 1))
 (test (true)
 (test (decide (re > (0 : Int)))
 (test (lim IntKind.i64 (re - (1 : Int)))
 (test (re - (1 : Int) == (0 : Int))
 (Kret (PV.tup
 [PV.agg
 [PV.int IntKind.i64 ca, PV.int IntKind.i64 af,
 PV.own (9) (3) (nl - 1 + 1), PV.int IntKind.i64 (ov + (1 : Int)),
 PV.int IntKind.i64 (re - (1 : Int)), PV.tf true],
 PV.int IntKind.i64 (0 : Int)]) ([[(0, false,
 Blk.cols ml [Col.int IntKind.i64 tl, Col.int IntKind.i64 vl, Col.bool gl]),
 (9, true,
 Blk.cols (nl - 1 + 1)
 [Col.int IntKind.i64 fun (j : Nat) =>
 bif Nat.blt j (nl - 1) then tl (j + (1 + al)) else st,
 Col.int IntKind.i64 fun (j : Nat) =>
 bif Nat.blt j (nl - 1) then vl (j + (1 + al)) else sv,
 Col.bool fun (j : Nat) => bif Nat.blt j (nl - 1) then gl (j + (1 + al)) else sg])]]) (10))
 (Kret (PV.tup
 [PV.agg
 [PV.int IntKind.i64 ca, PV.int IntKind.i64 af,
 PV.own (9) (3) (nl - 1 + 1), PV.int IntKind.i64 (ov + (1 : Int)),
 PV.int IntKind.i64 (re - (1 : Int)), PV.tf false],
 PV.int IntKind.i64 (0 : Int)]) ([[(0, false,
 Blk.cols ml [Col.int IntKind.i64 tl, Col.int IntKind.i64 vl, Col.bool gl]),
 (9, true,
 Blk.cols (nl - 1 + 1)
 [Col.int IntKind.i64 fun (j : Nat) =>
 bif Nat.blt j (nl - 1) then tl (j + (1 + al)) else st,
 Col.int IntKind.i64 fun (j : Nat) =>
 bif Nat.blt j (nl - 1) then vl (j + (1 + al)) else sv,
 Col.bool fun (j : Nat) => bif Nat.blt j (nl - 1) then gl (j + (1 + al)) else sg])]]) (10)))
 (False))
 (Kret (PV.tup
 [PV.agg
 [PV.int IntKind.i64 ca, PV.int IntKind.i64 af,
 PV.own (9) (3) (nl - 1 + 1), PV.int IntKind.i64 (ov + (1 : Int)),
 PV.int IntKind.i64 re, PV.bool fz],
 PV.int IntKind.i64 (0 : Int)]) ([[(0, false,
 Blk.cols ml [Col.int IntKind.i64 tl, Col.int IntKind.i64 vl, Col.bool gl]),
 (9, true,
 Blk.cols (nl - 1 + 1)
 [Col.int IntKind.i64 fun (j : Nat) =>
 bif Nat.blt j (nl - 1) then tl (j + (1 + al)) else st,
 Col.int IntKind.i64 fun (j : Nat) =>
 bif Nat.blt j (nl - 1) then vl (j + (1 + al)) else sv,
 Col.bool fun (j : Nat) => bif Nat.blt j (nl - 1) then gl (j + (1 + al)) else sg])]]) (10)))
 (False))
 (False))
 (False))
 (False))
 (False))
 (False))
 (test (decide (al + nl ≤ ml ∧ nl ≤ 1000000))
 (test (decide (nl + 1 ≤ 1000000))
 (test (decide (nl ≤ nl))
 (test (true)
 (test (decide (re > (0 : Int)))
 (test (lim IntKind.i64 (re - (1 : Int)))
 (test (re - (1 : Int) == (0 : Int))
 (Kret (PV.tup
 [PV.agg
 [PV.int IntKind.i64 ca, PV.int IntKind.i64 af,
 PV.own (9) (3) (nl + 1), PV.int IntKind.i64 ov,
 PV.int IntKind.i64 (re - (1 : Int)), PV.tf true],
 PV.int IntKind.i64 (0 : Int)]) ([[(0, false,
 Blk.cols ml [Col.int IntKind.i64 tl, Col.int IntKind.i64 vl, Col.bool gl]),
 (9, true,
 Blk.cols (nl + 1)
 [Col.int IntKind.i64 fun (j : Nat) => bif Nat.blt j nl then tl (j + al) else st,
 Col.int IntKind.i64 fun (j : Nat) => bif Nat.blt j nl then vl (j + al) else sv,
 Col.bool fun (j : Nat) => bif Nat.blt j nl then gl (j + al) else sg])]]) (10))
 (Kret (PV.tup
 [PV.agg
 [PV.int IntKind.i64 ca, PV.int IntKind.i64 af,
 PV.own (9) (3) (nl + 1), PV.int IntKind.i64 ov,
 PV.int IntKind.i64 (re - (1 : Int)), PV.tf false],
 PV.int IntKind.i64 (0 : Int)]) ([[(0, false,
 Blk.cols ml [Col.int IntKind.i64 tl, Col.int IntKind.i64 vl, Col.bool gl]),
 (9, true,
 Blk.cols (nl + 1)
 [Col.int IntKind.i64 fun (j : Nat) => bif Nat.blt j nl then tl (j + al) else st,
 Col.int IntKind.i64 fun (j : Nat) => bif Nat.blt j nl then vl (j + al) else sv,
 Col.bool fun (j : Nat) => bif Nat.blt j nl then gl (j + al) else sg])]]) (10)))
 (False))
 (Kret (PV.tup
 [PV.agg
 [PV.int IntKind.i64 ca, PV.int IntKind.i64 af,
 PV.own (9) (3) (nl + 1), PV.int IntKind.i64 ov,
 PV.int IntKind.i64 re, PV.bool fz],
 PV.int IntKind.i64 (0 : Int)]) ([[(0, false,
 Blk.cols ml [Col.int IntKind.i64 tl, Col.int IntKind.i64 vl, Col.bool gl]),
 (9, true,
 Blk.cols (nl + 1)
 [Col.int IntKind.i64 fun (j : Nat) => bif Nat.blt j nl then tl (j + al) else st,
 Col.int IntKind.i64 fun (j : Nat) => bif Nat.blt j nl then vl (j + al) else sv,
 Col.bool fun (j : Nat) => bif Nat.blt j nl then gl (j + al) else sg])]]) (10)))
 (False))
 (False))
 (False))
 (False)))))))
 (test (true)
 (Kret (PV.tup
 [PV.agg
 [PV.int IntKind.i64 (0 : Int), PV.int IntKind.i64 (0 : Int), PV.nils,
 PV.int IntKind.i64 (0 : Int), PV.int IntKind.i64 (0 : Int), PV.tf false],
 PV.int IntKind.i64 (6 : Int)]) ([[(0, false,
 Blk.cols ml [Col.int IntKind.i64 tl, Col.int IntKind.i64 vl, Col.bool gl])]]) (6))
 (test (decide ((↑nl : Int) > (0 : Int)))
 (test (lim IntKind.i64 ((↑nl : Int) - (1 : Int)))
 (test (decide ((0 : Int) ≤ (↑nl : Int) - (1 : Int) ∧ (↑nl : Int) - (1 : Int) < (↑nl : Int)))
 (test (decide (Int.toNat ((↑nl : Int) - (1 : Int)) + al < ml))
 (test (decide (st < tl (Int.toNat ((↑nl : Int) - (1 : Int)) + al)))
 (Kret (PV.tup
 [PV.agg
 [PV.int IntKind.i64 (0 : Int), PV.int IntKind.i64 (0 : Int), PV.nils,
 PV.int IntKind.i64 (0 : Int), PV.int IntKind.i64 (0 : Int), PV.tf false],
 PV.int IntKind.i64 (15 : Int)]) ([[(0, false,
 Blk.cols ml [Col.int IntKind.i64 tl, Col.int IntKind.i64 vl, Col.bool gl])]]) (6))
 (test (ov == (1099511627776 : Int))
 (Kret (PV.tup
 [PV.agg
 [PV.int IntKind.i64 (0 : Int), PV.int IntKind.i64 (0 : Int), PV.nils,
 PV.int IntKind.i64 (0 : Int), PV.int IntKind.i64 (0 : Int), PV.tf false],
 PV.int IntKind.i64 (16 : Int)]) ([[(0, false,
 Blk.cols ml [Col.int IntKind.i64 tl, Col.int IntKind.i64 vl, Col.bool gl])]]) (6))
 (test ((↑nl : Int) == ca)
 (test (decide
 ((0 : Int) ≤ Option.getD (Option.some (1 : Int)) (0 : Int) ∧ (1 : Int) ≤ (↑nl : Int) ∧ (↑nl : Int) ≤ (↑nl : Int)))
 (test (lim IntKind.i64 (ov + (1 : Int)))
 (test (decide (1 + al + (nl - 1) ≤ ml ∧ nl - 1 ≤ 1000000))
 (test (decide (nl - 1 + 1 ≤ 1000000))
 (test (decide (nl - 1 ≤ nl - 1))
 (test (true)
 (test (decide (re > (0 : Int)))
 (test (lim IntKind.i64 (re - (1 : Int)))
 (test (re - (1 : Int) == (0 : Int))
 (Kret (PV.tup
 [PV.agg
 [PV.int IntKind.i64 ca, PV.int IntKind.i64 af,
 PV.own (9) (3) (nl - 1 + 1), PV.int IntKind.i64 (ov + (1 : Int)),
 PV.int IntKind.i64 (re - (1 : Int)), PV.tf true],
 PV.int IntKind.i64 (0 : Int)]) ([[(0, false,
 Blk.cols ml [Col.int IntKind.i64 tl, Col.int IntKind.i64 vl, Col.bool gl]),
 (9, true,
 Blk.cols (nl - 1 + 1)
 [Col.int IntKind.i64 fun (j : Nat) =>
 bif Nat.blt j (nl - 1) then tl (j + (1 + al)) else st,
 Col.int IntKind.i64 fun (j : Nat) =>
 bif Nat.blt j (nl - 1) then vl (j + (1 + al)) else sv,
 Col.bool fun (j : Nat) => bif Nat.blt j (nl - 1) then gl (j + (1 + al)) else sg])]]) (10))
 (Kret (PV.tup
 [PV.agg
 [PV.int IntKind.i64 ca, PV.int IntKind.i64 af,
 PV.own (9) (3) (nl - 1 + 1), PV.int IntKind.i64 (ov + (1 : Int)),
 PV.int IntKind.i64 (re - (1 : Int)), PV.tf false],
 PV.int IntKind.i64 (0 : Int)]) ([[(0, false,
 Blk.cols ml [Col.int IntKind.i64 tl, Col.int IntKind.i64 vl, Col.bool gl]),
 (9, true,
 Blk.cols (nl - 1 + 1)
 [Col.int IntKind.i64 fun (j : Nat) =>
 bif Nat.blt j (nl - 1) then tl (j + (1 + al)) else st,
 Col.int IntKind.i64 fun (j : Nat) =>
 bif Nat.blt j (nl - 1) then vl (j + (1 + al)) else sv,
 Col.bool fun (j : Nat) => bif Nat.blt j (nl - 1) then gl (j + (1 + al)) else sg])]]) (10)))
 (False))
 (Kret (PV.tup
 [PV.agg
 [PV.int IntKind.i64 ca, PV.int IntKind.i64 af,
 PV.own (9) (3) (nl - 1 + 1), PV.int IntKind.i64 (ov + (1 : Int)),
 PV.int IntKind.i64 re, PV.bool fz],
 PV.int IntKind.i64 (0 : Int)]) ([[(0, false,
 Blk.cols ml [Col.int IntKind.i64 tl, Col.int IntKind.i64 vl, Col.bool gl]),
 (9, true,
 Blk.cols (nl - 1 + 1)
 [Col.int IntKind.i64 fun (j : Nat) =>
 bif Nat.blt j (nl - 1) then tl (j + (1 + al)) else st,
 Col.int IntKind.i64 fun (j : Nat) =>
 bif Nat.blt j (nl - 1) then vl (j + (1 + al)) else sv,
 Col.bool fun (j : Nat) => bif Nat.blt j (nl - 1) then gl (j + (1 + al)) else sg])]]) (10)))
 (False))
 (False))
 (False))
 (False))
 (False))
 (False))
 (test (decide (al + nl ≤ ml ∧ nl ≤ 1000000))
 (test (decide (nl + 1 ≤ 1000000))
 (test (decide (nl ≤ nl))
 (test (true)
 (test (decide (re > (0 : Int)))
 (test (lim IntKind.i64 (re - (1 : Int)))
 (test (re - (1 : Int) == (0 : Int))
 (Kret (PV.tup
 [PV.agg
 [PV.int IntKind.i64 ca, PV.int IntKind.i64 af,
 PV.own (9) (3) (nl + 1), PV.int IntKind.i64 ov,
 PV.int IntKind.i64 (re - (1 : Int)), PV.tf true],
 PV.int IntKind.i64 (0 : Int)]) ([[(0, false,
 Blk.cols ml [Col.int IntKind.i64 tl, Col.int IntKind.i64 vl, Col.bool gl]),
 (9, true,
 Blk.cols (nl + 1)
 [Col.int IntKind.i64 fun (j : Nat) => bif Nat.blt j nl then tl (j + al) else st,
 Col.int IntKind.i64 fun (j : Nat) => bif Nat.blt j nl then vl (j + al) else sv,
 Col.bool fun (j : Nat) => bif Nat.blt j nl then gl (j + al) else sg])]]) (10))
 (Kret (PV.tup
 [PV.agg
 [PV.int IntKind.i64 ca, PV.int IntKind.i64 af,
 PV.own (9) (3) (nl + 1), PV.int IntKind.i64 ov,
 PV.int IntKind.i64 (re - (1 : Int)), PV.tf false],
 PV.int IntKind.i64 (0 : Int)]) ([[(0, false,
 Blk.cols ml [Col.int IntKind.i64 tl, Col.int IntKind.i64 vl, Col.bool gl]),
 (9, true,
 Blk.cols (nl + 1)
 [Col.int IntKind.i64 fun (j : Nat) => bif Nat.blt j nl then tl (j + al) else st,
 Col.int IntKind.i64 fun (j : Nat) => bif Nat.blt j nl then vl (j + al) else sv,
 Col.bool fun (j : Nat) => bif Nat.blt j nl then gl (j + al) else sg])]]) (10)))
 (False))
 (Kret (PV.tup
 [PV.agg
 [PV.int IntKind.i64 ca, PV.int IntKind.i64 af,
 PV.own (9) (3) (nl + 1), PV.int IntKind.i64 ov,
 PV.int IntKind.i64 re, PV.bool fz],
 PV.int IntKind.i64 (0 : Int)]) ([[(0, false,
 Blk.cols ml [Col.int IntKind.i64 tl, Col.int IntKind.i64 vl, Col.bool gl]),
 (9, true,
 Blk.cols (nl + 1)
 [Col.int IntKind.i64 fun (j : Nat) => bif Nat.blt j nl then tl (j + al) else st,
 Col.int IntKind.i64 fun (j : Nat) => bif Nat.blt j nl then vl (j + al) else sv,
 Col.bool fun (j : Nat) => bif Nat.blt j nl then gl (j + al) else sg])]]) (10)))
 (False))
 (False))
 (False))
 (False)))))
 (False))
 (False))
 (False))
 (test (ov == (1099511627776 : Int))
 (Kret (PV.tup
 [PV.agg
 [PV.int IntKind.i64 (0 : Int), PV.int IntKind.i64 (0 : Int), PV.nils,
 PV.int IntKind.i64 (0 : Int), PV.int IntKind.i64 (0 : Int), PV.tf false],
 PV.int IntKind.i64 (16 : Int)]) ([[(0, false,
 Blk.cols ml [Col.int IntKind.i64 tl, Col.int IntKind.i64 vl, Col.bool gl])]]) (6))
 (test ((↑nl : Int) == ca)
 (test (decide
 ((0 : Int) ≤ Option.getD (Option.some (1 : Int)) (0 : Int) ∧ (1 : Int) ≤ (↑nl : Int) ∧ (↑nl : Int) ≤ (↑nl : Int)))
 (test (lim IntKind.i64 (ov + (1 : Int)))
 (test (decide (1 + al + (nl - 1) ≤ ml ∧ nl - 1 ≤ 1000000))
 (test (decide (nl - 1 + 1 ≤ 1000000))
 (test (decide (nl - 1 ≤ nl - 1))
 (test (true)
 (test (decide (re > (0 : Int)))
 (test (lim IntKind.i64 (re - (1 : Int)))
 (test (re - (1 : Int) == (0 : Int))
 (Kret (PV.tup
 [PV.agg
 [PV.int IntKind.i64 ca, PV.int IntKind.i64 af,
 PV.own (9) (3) (nl - 1 + 1), PV.int IntKind.i64 (ov + (1 : Int)),
 PV.int IntKind.i64 (re - (1 : Int)), PV.tf true],
 PV.int IntKind.i64 (0 : Int)]) ([[(0, false,
 Blk.cols ml [Col.int IntKind.i64 tl, Col.int IntKind.i64 vl, Col.bool gl]),
 (9, true,
 Blk.cols (nl - 1 + 1)
 [Col.int IntKind.i64 fun (j : Nat) =>
 bif Nat.blt j (nl - 1) then tl (j + (1 + al)) else st,
 Col.int IntKind.i64 fun (j : Nat) =>
 bif Nat.blt j (nl - 1) then vl (j + (1 + al)) else sv,
 Col.bool fun (j : Nat) => bif Nat.blt j (nl - 1) then gl (j + (1 + al)) else sg])]]) (10))
 (Kret (PV.tup
 [PV.agg
 [PV.int IntKind.i64 ca, PV.int IntKind.i64 af,
 PV.own (9) (3) (nl - 1 + 1), PV.int IntKind.i64 (ov + (1 : Int)),
 PV.int IntKind.i64 (re - (1 : Int)), PV.tf false],
 PV.int IntKind.i64 (0 : Int)]) ([[(0, false,
 Blk.cols ml [Col.int IntKind.i64 tl, Col.int IntKind.i64 vl, Col.bool gl]),
 (9, true,
 Blk.cols (nl - 1 + 1)
 [Col.int IntKind.i64 fun (j : Nat) =>
 bif Nat.blt j (nl - 1) then tl (j + (1 + al)) else st,
 Col.int IntKind.i64 fun (j : Nat) =>
 bif Nat.blt j (nl - 1) then vl (j + (1 + al)) else sv,
 Col.bool fun (j : Nat) => bif Nat.blt j (nl - 1) then gl (j + (1 + al)) else sg])]]) (10)))
 (False))
 (Kret (PV.tup
 [PV.agg
 [PV.int IntKind.i64 ca, PV.int IntKind.i64 af,
 PV.own (9) (3) (nl - 1 + 1), PV.int IntKind.i64 (ov + (1 : Int)),
 PV.int IntKind.i64 re, PV.bool fz],
 PV.int IntKind.i64 (0 : Int)]) ([[(0, false,
 Blk.cols ml [Col.int IntKind.i64 tl, Col.int IntKind.i64 vl, Col.bool gl]),
 (9, true,
 Blk.cols (nl - 1 + 1)
 [Col.int IntKind.i64 fun (j : Nat) =>
 bif Nat.blt j (nl - 1) then tl (j + (1 + al)) else st,
 Col.int IntKind.i64 fun (j : Nat) =>
 bif Nat.blt j (nl - 1) then vl (j + (1 + al)) else sv,
 Col.bool fun (j : Nat) => bif Nat.blt j (nl - 1) then gl (j + (1 + al)) else sg])]]) (10)))
 (False))
 (False))
 (False))
 (False))
 (False))
 (False))
 (test (decide (al + nl ≤ ml ∧ nl ≤ 1000000))
 (test (decide (nl + 1 ≤ 1000000))
 (test (decide (nl ≤ nl))
 (test (true)
 (test (decide (re > (0 : Int)))
 (test (lim IntKind.i64 (re - (1 : Int)))
 (test (re - (1 : Int) == (0 : Int))
 (Kret (PV.tup
 [PV.agg
 [PV.int IntKind.i64 ca, PV.int IntKind.i64 af,
 PV.own (9) (3) (nl + 1), PV.int IntKind.i64 ov,
 PV.int IntKind.i64 (re - (1 : Int)), PV.tf true],
 PV.int IntKind.i64 (0 : Int)]) ([[(0, false,
 Blk.cols ml [Col.int IntKind.i64 tl, Col.int IntKind.i64 vl, Col.bool gl]),
 (9, true,
 Blk.cols (nl + 1)
 [Col.int IntKind.i64 fun (j : Nat) => bif Nat.blt j nl then tl (j + al) else st,
 Col.int IntKind.i64 fun (j : Nat) => bif Nat.blt j nl then vl (j + al) else sv,
 Col.bool fun (j : Nat) => bif Nat.blt j nl then gl (j + al) else sg])]]) (10))
 (Kret (PV.tup
 [PV.agg
 [PV.int IntKind.i64 ca, PV.int IntKind.i64 af,
 PV.own (9) (3) (nl + 1), PV.int IntKind.i64 ov,
 PV.int IntKind.i64 (re - (1 : Int)), PV.tf false],
 PV.int IntKind.i64 (0 : Int)]) ([[(0, false,
 Blk.cols ml [Col.int IntKind.i64 tl, Col.int IntKind.i64 vl, Col.bool gl]),
 (9, true,
 Blk.cols (nl + 1)
 [Col.int IntKind.i64 fun (j : Nat) => bif Nat.blt j nl then tl (j + al) else st,
 Col.int IntKind.i64 fun (j : Nat) => bif Nat.blt j nl then vl (j + al) else sv,
 Col.bool fun (j : Nat) => bif Nat.blt j nl then gl (j + al) else sg])]]) (10)))
 (False))
 (Kret (PV.tup
 [PV.agg
 [PV.int IntKind.i64 ca, PV.int IntKind.i64 af,
 PV.own (9) (3) (nl + 1), PV.int IntKind.i64 ov,
 PV.int IntKind.i64 re, PV.bool fz],
 PV.int IntKind.i64 (0 : Int)]) ([[(0, false,
 Blk.cols ml [Col.int IntKind.i64 tl, Col.int IntKind.i64 vl, Col.bool gl]),
 (9, true,
 Blk.cols (nl + 1)
 [Col.int IntKind.i64 fun (j : Nat) => bif Nat.blt j nl then tl (j + al) else st,
 Col.int IntKind.i64 fun (j : Nat) => bif Nat.blt j nl then vl (j + al) else sv,
 Col.bool fun (j : Nat) => bif Nat.blt j nl then gl (j + al) else sg])]]) (10)))
 (False))
 (False))
 (False))
 (False)))))))))
 (False)
set_option maxRecDepth 100000 in
theorem te12 (test : Bool → Prop → Prop → Prop) (Kst : KS) (Kret : KR) (ca : Int) (af : Int) (al nl ml : Nat) (tl : Nat → Int) (vl : Nat → Int) (gl : Nat → Bool) (ov : Int) (re : Int) (fz : Bool) (st : Int) (sv : Int) (sg : Bool) : run test Try.env true (xB test) true 400 ⟨12, [.cd (mkFn Try.f12).body], argT 0 [.agg [.int .i64 ca, .int .i64 af, .loose ⟨0, 3, al, 0⟩ nl, .int .i64 ov, .int .i64 re, .bool fz], .agg [.int .i64 st, .int .i64 sv, .bool sg]], [[], [(0, (false, .cols ml [.int .i64 tl, .int .i64 vl, .bool gl]))]], 1⟩ (proj 1 [] Kst Kret) =
  Te12 test Kst Kret ca af al nl ml tl vl gl ov re fz st sv sg := by kernel_rfl
set_option maxRecDepth 100000 in
theorem be12 (ca : Int) (af : Int) (al nl ml : Nat) (tl : Nat → Int) (vl : Nat → Int) (gl : Nat → Bool) (ov : Int) (re : Int) (fz : Bool) (st : Int) (sv : Int) (sg : Bool) (Kst : KS) (Kret : KR) (x : St12 ⊕ Rt12) (hS : HS 1 400 ((I12 ca af al nl ml tl vl gl ov re fz st sv sg)) Kst x) (hR : HR 1 400 ((V12 ca af al nl ml tl vl gl ov re fz st sv sg)) (fun r => [newL (1 + 1) ((N12 ca af al nl ml tl vl gl ov re fz st sv sg) r) ++ [(0, (false, .cols ml [.int .i64 tl, .int .i64 vl, .bool gl]))]]) Kret x) (h : (bif (decide (al + nl ≤ ml ∧ nl ≤ 1000000))
 then (bif (S.vB ca af nl (fun (j : Nat) => tl (j + al)) (fun (j : Nat) => vl (j + al)) ov re fz != (0 : Int))
 then (some (.inr ((0 : Int), (0 : Int), (0 : Int), (0 : Int), false, S.vB ca af nl (fun (j : Nat) => tl (j + al)) (fun (j : Nat) => vl (j + al)) ov re fz, [])))
 else (bif (fz)
 then (some (.inr ((0 : Int), (0 : Int), (0 : Int), (0 : Int), false, (8 : Int), [])))
 else (bif (decide (st ≥ (0 : Int)))
 then (bif (decide (st ≤ (1099511627776 : Int)))
 then (bif (decide (sv ≥ (-1099511627776 : Int)))
 then (bif (decide (sv ≤ (1099511627776 : Int)))
 then (bif (decide ((↑nl : Int) > (0 : Int)))
 then (bif (lim IntKind.i64 ((↑nl : Int) - (1 : Int)))
 then (bif (decide ((0 : Int) ≤ (↑nl : Int) - (1 : Int) ∧ (↑nl : Int) - (1 : Int) < (↑nl : Int)))
 then (bif (decide (Int.toNat ((↑nl : Int) - (1 : Int)) + al < ml))
 then (bif (decide (st < tl (Int.toNat ((↑nl : Int) - (1 : Int)) + al)))
 then (some (.inr ((0 : Int), (0 : Int), (0 : Int), (0 : Int), false, (15 : Int), [])))
 else (bif (ov == (1099511627776 : Int))
 then (some (.inr ((0 : Int), (0 : Int), (0 : Int), (0 : Int), false, (16 : Int), [])))
 else (bif ((↑nl : Int) == ca)
 then (bif (decide
 ((0 : Int) ≤ Option.getD (Option.some (1 : Int)) (0 : Int) ∧ (1 : Int) ≤ (↑nl : Int) ∧ (↑nl : Int) ≤ (↑nl : Int)))
 then (bif (lim IntKind.i64 (ov + (1 : Int)))
 then (bif (decide (1 + al + (nl - 1) ≤ ml ∧ nl - 1 ≤ 1000000))
 then (bif (decide (nl - 1 + 1 ≤ 1000000))
 then (bif (decide (nl - 1 ≤ nl - 1))
 then (bif (decide (re > (0 : Int)))
 then (bif (lim IntKind.i64 (re - (1 : Int)))
 then (bif (re - (1 : Int) == (0 : Int))
 then (some (.inr (ca, af, ov + (1 : Int), re - (1 : Int), true, (0 : Int), S.snoc
 (S.mkl (nl - 1) fun (j : Nat) =>
 (tl (j + (1 + al)), vl (j + (1 + al)), gl (j + (1 + al))))
 (st, sv, sg))))
 else (some (.inr (ca, af, ov + (1 : Int), re - (1 : Int), false, (0 : Int), S.snoc
 (S.mkl (nl - 1) fun (j : Nat) =>
 (tl (j + (1 + al)), vl (j + (1 + al)), gl (j + (1 + al))))
 (st, sv, sg)))))
 else (none))
 else (some (.inr (ca, af, ov + (1 : Int), re, fz, (0 : Int), S.snoc
 (S.mkl (nl - 1) fun (j : Nat) =>
 (tl (j + (1 + al)), vl (j + (1 + al)), gl (j + (1 + al))))
 (st, sv, sg)))))
 else (none))
 else (none))
 else (none))
 else (none))
 else (none))
 else (bif (decide (nl + 1 ≤ 1000000))
 then (bif (decide (nl ≤ nl))
 then (bif (decide (re > (0 : Int)))
 then (bif (lim IntKind.i64 (re - (1 : Int)))
 then (bif (re - (1 : Int) == (0 : Int))
 then (some (.inr (ca, af, ov, re - (1 : Int), true, (0 : Int), S.snoc (S.mkl nl fun (j : Nat) => (tl (j + al), vl (j + al), gl (j + al))) (st, sv, sg))))
 else (some (.inr (ca, af, ov, re - (1 : Int), false, (0 : Int), S.snoc (S.mkl nl fun (j : Nat) => (tl (j + al), vl (j + al), gl (j + al))) (st, sv, sg)))))
 else (none))
 else (some (.inr (ca, af, ov, re, fz, (0 : Int), S.snoc (S.mkl nl fun (j : Nat) => (tl (j + al), vl (j + al), gl (j + al))) (st, sv, sg)))))
 else (none))
 else (none)))))
 else (none))
 else (none))
 else (none))
 else (bif (ov == (1099511627776 : Int))
 then (some (.inr ((0 : Int), (0 : Int), (0 : Int), (0 : Int), false, (16 : Int), [])))
 else (bif ((↑nl : Int) == ca)
 then (bif (decide
 ((0 : Int) ≤ Option.getD (Option.some (1 : Int)) (0 : Int) ∧ (1 : Int) ≤ (↑nl : Int) ∧ (↑nl : Int) ≤ (↑nl : Int)))
 then (bif (lim IntKind.i64 (ov + (1 : Int)))
 then (bif (decide (1 + al + (nl - 1) ≤ ml ∧ nl - 1 ≤ 1000000))
 then (bif (decide (nl - 1 + 1 ≤ 1000000))
 then (bif (decide (nl - 1 ≤ nl - 1))
 then (bif (decide (re > (0 : Int)))
 then (bif (lim IntKind.i64 (re - (1 : Int)))
 then (bif (re - (1 : Int) == (0 : Int))
 then (some (.inr (ca, af, ov + (1 : Int), re - (1 : Int), true, (0 : Int), S.snoc
 (S.mkl (nl - 1) fun (j : Nat) =>
 (tl (j + (1 + al)), vl (j + (1 + al)), gl (j + (1 + al))))
 (st, sv, sg))))
 else (some (.inr (ca, af, ov + (1 : Int), re - (1 : Int), false, (0 : Int), S.snoc
 (S.mkl (nl - 1) fun (j : Nat) =>
 (tl (j + (1 + al)), vl (j + (1 + al)), gl (j + (1 + al))))
 (st, sv, sg)))))
 else (none))
 else (some (.inr (ca, af, ov + (1 : Int), re, fz, (0 : Int), S.snoc
 (S.mkl (nl - 1) fun (j : Nat) =>
 (tl (j + (1 + al)), vl (j + (1 + al)), gl (j + (1 + al))))
 (st, sv, sg)))))
 else (none))
 else (none))
 else (none))
 else (none))
 else (none))
 else (bif (decide (nl + 1 ≤ 1000000))
 then (bif (decide (nl ≤ nl))
 then (bif (decide (re > (0 : Int)))
 then (bif (lim IntKind.i64 (re - (1 : Int)))
 then (bif (re - (1 : Int) == (0 : Int))
 then (some (.inr (ca, af, ov, re - (1 : Int), true, (0 : Int), S.snoc (S.mkl nl fun (j : Nat) => (tl (j + al), vl (j + al), gl (j + al))) (st, sv, sg))))
 else (some (.inr (ca, af, ov, re - (1 : Int), false, (0 : Int), S.snoc (S.mkl nl fun (j : Nat) => (tl (j + al), vl (j + al), gl (j + al))) (st, sv, sg)))))
 else (none))
 else (some (.inr (ca, af, ov, re, fz, (0 : Int), S.snoc (S.mkl nl fun (j : Nat) => (tl (j + al), vl (j + al), gl (j + al))) (st, sv, sg)))))
 else (none))
 else (none)))))
 else (some (.inr ((0 : Int), (0 : Int), (0 : Int), (0 : Int), false, (6 : Int), []))))
 else (some (.inr ((0 : Int), (0 : Int), (0 : Int), (0 : Int), false, (6 : Int), []))))
 else (some (.inr ((0 : Int), (0 : Int), (0 : Int), (0 : Int), false, (6 : Int), []))))
 else (some (.inr ((0 : Int), (0 : Int), (0 : Int), (0 : Int), false, (6 : Int), []))))))
 else (none) : Option (St12 ⊕ Rt12)) = some x) : Te12 cond Kst Kret ca af al nl ml tl vl gl ov re fz st sv sg := by
  unfold Te12
  exact bif_split h
   (fun c0 h => bif_split h
   (fun c1 h => ret_at hR _ h (fun n => bif Nat.beq n 2 then 399 else n) rfl rfl rfl (rn_tup ⟨(rn_agg ⟨(rn_int rfl), (rn_int rfl), (rn_own_nils rfl), (rn_int rfl), (rn_int rfl), (rn_bool_tf rfl), trivial⟩), (rn_int rfl), trivial⟩) rfl (entl_fresh (use_own rfl) (fresh_ok rfl) (entl_bor (use_lo rfl) rfl rfl entl_nil)))
   (fun c1 h => bif_split h
   (fun c2 h => ret_at hR _ h (fun n => bif Nat.beq n 2 then 399 else n) rfl rfl rfl (rn_tup ⟨(rn_agg ⟨(rn_int rfl), (rn_int rfl), (rn_own_nils rfl), (rn_int rfl), (rn_int rfl), (rn_bool_tf rfl), trivial⟩), (rn_int rfl), trivial⟩) rfl (entl_fresh (use_own rfl) (fresh_ok rfl) (entl_bor (use_lo rfl) rfl rfl entl_nil)))
   (fun c2 h => bif_split h
   (fun c3 h => bif_split h
   (fun c4 h => bif_split h
   (fun c5 h => bif_split h
   (fun c6 h => cond_no rfl (bif_split h
   (fun c7 h => bif_split h
   (fun c8 h => bif_split h
   (fun c9 h => bif_split h
   (fun c10 h => bif_split h
   (fun c11 h => ret_at hR _ h (fun n => bif Nat.beq n 2 then 399 else n) rfl rfl rfl (rn_tup ⟨(rn_agg ⟨(rn_int rfl), (rn_int rfl), (rn_own_nils rfl), (rn_int rfl), (rn_int rfl), (rn_bool_tf rfl), trivial⟩), (rn_int rfl), trivial⟩) rfl (entl_fresh (use_own rfl) (fresh_ok rfl) (entl_bor (use_lo rfl) rfl rfl entl_nil)))
   (fun c11 h => bif_split h
   (fun c12 h => ret_at hR _ h (fun n => bif Nat.beq n 2 then 399 else n) rfl rfl rfl (rn_tup ⟨(rn_agg ⟨(rn_int rfl), (rn_int rfl), (rn_own_nils rfl), (rn_int rfl), (rn_int rfl), (rn_bool_tf rfl), trivial⟩), (rn_int rfl), trivial⟩) rfl (entl_fresh (use_own rfl) (fresh_ok rfl) (entl_bor (use_lo rfl) rfl rfl entl_nil)))
   (fun c12 h => bif_split h
   (fun c13 h => bif_split h
   (fun c14 h => bif_split h
   (fun c15 h => bif_split h
   (fun c16 h => bif_split h
   (fun c17 h => bif_split h
   (fun c18 h => cond_yes rfl (bif_split h
   (fun c19 h => bif_split h
   (fun c20 h => bif_split h
   (fun c21 h => ret_at hR _ h (fun n => bif Nat.beq n 2 then 9 else n) rfl rfl rfl (rn_tup ⟨(rn_agg ⟨(rn_int rfl), (rn_int rfl), (rn_own (use_own rfl) rfl (snoc_len' mkl_len)), (rn_int rfl), (rn_int rfl), (rn_bool_tf rfl), trivial⟩), (rn_int rfl), trivial⟩) rfl (entl_new (use_own rfl) rfl (Nat.le_of_eq (snoc_len' mkl_len)) (rcs_int (col_snoc' (fun (t : Int × Int × Bool) => t.1) mkl_len (fun _ hj => col_mkl (fun (t : Int × Int × Bool) => t.1) hj)) (rcs_int (col_snoc' (fun (t : Int × Int × Bool) => t.2.1) mkl_len (fun _ hj => col_mkl (fun (t : Int × Int × Bool) => t.2.1) hj)) (rcs_bool (col_snoc' (fun (t : Int × Int × Bool) => t.2.2) mkl_len (fun _ hj => col_mkl (fun (t : Int × Int × Bool) => t.2.2) hj)) rcs_nil))) (entl_bor (use_lo rfl) rfl rfl entl_nil)))
   (fun c21 h => ret_at hR _ h (fun n => bif Nat.beq n 2 then 9 else n) rfl rfl rfl (rn_tup ⟨(rn_agg ⟨(rn_int rfl), (rn_int rfl), (rn_own (use_own rfl) rfl (snoc_len' mkl_len)), (rn_int rfl), (rn_int rfl), (rn_bool_tf rfl), trivial⟩), (rn_int rfl), trivial⟩) rfl (entl_new (use_own rfl) rfl (Nat.le_of_eq (snoc_len' mkl_len)) (rcs_int (col_snoc' (fun (t : Int × Int × Bool) => t.1) mkl_len (fun _ hj => col_mkl (fun (t : Int × Int × Bool) => t.1) hj)) (rcs_int (col_snoc' (fun (t : Int × Int × Bool) => t.2.1) mkl_len (fun _ hj => col_mkl (fun (t : Int × Int × Bool) => t.2.1) hj)) (rcs_bool (col_snoc' (fun (t : Int × Int × Bool) => t.2.2) mkl_len (fun _ hj => col_mkl (fun (t : Int × Int × Bool) => t.2.2) hj)) rcs_nil))) (entl_bor (use_lo rfl) rfl rfl entl_nil))))
   (fun c20 h => no_some h))
   (fun c19 h => ret_at hR _ h (fun n => bif Nat.beq n 2 then 9 else n) rfl rfl rfl (rn_tup ⟨(rn_agg ⟨(rn_int rfl), (rn_int rfl), (rn_own (use_own rfl) rfl (snoc_len' mkl_len)), (rn_int rfl), (rn_int rfl), (rn_bool rfl), trivial⟩), (rn_int rfl), trivial⟩) rfl (entl_new (use_own rfl) rfl (Nat.le_of_eq (snoc_len' mkl_len)) (rcs_int (col_snoc' (fun (t : Int × Int × Bool) => t.1) mkl_len (fun _ hj => col_mkl (fun (t : Int × Int × Bool) => t.1) hj)) (rcs_int (col_snoc' (fun (t : Int × Int × Bool) => t.2.1) mkl_len (fun _ hj => col_mkl (fun (t : Int × Int × Bool) => t.2.1) hj)) (rcs_bool (col_snoc' (fun (t : Int × Int × Bool) => t.2.2) mkl_len (fun _ hj => col_mkl (fun (t : Int × Int × Bool) => t.2.2) hj)) rcs_nil))) (entl_bor (use_lo rfl) rfl rfl entl_nil)))))
   (fun c18 h => no_some h))
   (fun c17 h => no_some h))
   (fun c16 h => no_some h))
   (fun c15 h => no_some h))
   (fun c14 h => no_some h))
   (fun c13 h => cond_yes c0 (bif_split h
   (fun c14 h => bif_split h
   (fun c15 h => cond_yes rfl (bif_split h
   (fun c16 h => bif_split h
   (fun c17 h => bif_split h
   (fun c18 h => ret_at hR _ h (fun n => bif Nat.beq n 2 then 9 else n) rfl rfl rfl (rn_tup ⟨(rn_agg ⟨(rn_int rfl), (rn_int rfl), (rn_own (use_own rfl) rfl (snoc_len' mkl_len)), (rn_int rfl), (rn_int rfl), (rn_bool_tf rfl), trivial⟩), (rn_int rfl), trivial⟩) rfl (entl_new (use_own rfl) rfl (Nat.le_of_eq (snoc_len' mkl_len)) (rcs_int (col_snoc' (fun (t : Int × Int × Bool) => t.1) mkl_len (fun _ hj => col_mkl (fun (t : Int × Int × Bool) => t.1) hj)) (rcs_int (col_snoc' (fun (t : Int × Int × Bool) => t.2.1) mkl_len (fun _ hj => col_mkl (fun (t : Int × Int × Bool) => t.2.1) hj)) (rcs_bool (col_snoc' (fun (t : Int × Int × Bool) => t.2.2) mkl_len (fun _ hj => col_mkl (fun (t : Int × Int × Bool) => t.2.2) hj)) rcs_nil))) (entl_bor (use_lo rfl) rfl rfl entl_nil)))
   (fun c18 h => ret_at hR _ h (fun n => bif Nat.beq n 2 then 9 else n) rfl rfl rfl (rn_tup ⟨(rn_agg ⟨(rn_int rfl), (rn_int rfl), (rn_own (use_own rfl) rfl (snoc_len' mkl_len)), (rn_int rfl), (rn_int rfl), (rn_bool_tf rfl), trivial⟩), (rn_int rfl), trivial⟩) rfl (entl_new (use_own rfl) rfl (Nat.le_of_eq (snoc_len' mkl_len)) (rcs_int (col_snoc' (fun (t : Int × Int × Bool) => t.1) mkl_len (fun _ hj => col_mkl (fun (t : Int × Int × Bool) => t.1) hj)) (rcs_int (col_snoc' (fun (t : Int × Int × Bool) => t.2.1) mkl_len (fun _ hj => col_mkl (fun (t : Int × Int × Bool) => t.2.1) hj)) (rcs_bool (col_snoc' (fun (t : Int × Int × Bool) => t.2.2) mkl_len (fun _ hj => col_mkl (fun (t : Int × Int × Bool) => t.2.2) hj)) rcs_nil))) (entl_bor (use_lo rfl) rfl rfl entl_nil))))
   (fun c17 h => no_some h))
   (fun c16 h => ret_at hR _ h (fun n => bif Nat.beq n 2 then 9 else n) rfl rfl rfl (rn_tup ⟨(rn_agg ⟨(rn_int rfl), (rn_int rfl), (rn_own (use_own rfl) rfl (snoc_len' mkl_len)), (rn_int rfl), (rn_int rfl), (rn_bool rfl), trivial⟩), (rn_int rfl), trivial⟩) rfl (entl_new (use_own rfl) rfl (Nat.le_of_eq (snoc_len' mkl_len)) (rcs_int (col_snoc' (fun (t : Int × Int × Bool) => t.1) mkl_len (fun _ hj => col_mkl (fun (t : Int × Int × Bool) => t.1) hj)) (rcs_int (col_snoc' (fun (t : Int × Int × Bool) => t.2.1) mkl_len (fun _ hj => col_mkl (fun (t : Int × Int × Bool) => t.2.1) hj)) (rcs_bool (col_snoc' (fun (t : Int × Int × Bool) => t.2.2) mkl_len (fun _ hj => col_mkl (fun (t : Int × Int × Bool) => t.2.2) hj)) rcs_nil))) (entl_bor (use_lo rfl) rfl rfl entl_nil)))))
   (fun c15 h => no_some h))
   (fun c14 h => no_some h))))))
   (fun c10 h => no_some h))
   (fun c9 h => no_some h))
   (fun c8 h => no_some h))
   (fun c7 h => bif_split h
   (fun c8 h => ret_at hR _ h (fun n => bif Nat.beq n 2 then 399 else n) rfl rfl rfl (rn_tup ⟨(rn_agg ⟨(rn_int rfl), (rn_int rfl), (rn_own_nils rfl), (rn_int rfl), (rn_int rfl), (rn_bool_tf rfl), trivial⟩), (rn_int rfl), trivial⟩) rfl (entl_fresh (use_own rfl) (fresh_ok rfl) (entl_bor (use_lo rfl) rfl rfl entl_nil)))
   (fun c8 h => bif_split h
   (fun c9 h => bif_split h
   (fun c10 h => bif_split h
   (fun c11 h => bif_split h
   (fun c12 h => bif_split h
   (fun c13 h => bif_split h
   (fun c14 h => cond_yes rfl (bif_split h
   (fun c15 h => bif_split h
   (fun c16 h => bif_split h
   (fun c17 h => ret_at hR _ h (fun n => bif Nat.beq n 2 then 9 else n) rfl rfl rfl (rn_tup ⟨(rn_agg ⟨(rn_int rfl), (rn_int rfl), (rn_own (use_own rfl) rfl (snoc_len' mkl_len)), (rn_int rfl), (rn_int rfl), (rn_bool_tf rfl), trivial⟩), (rn_int rfl), trivial⟩) rfl (entl_new (use_own rfl) rfl (Nat.le_of_eq (snoc_len' mkl_len)) (rcs_int (col_snoc' (fun (t : Int × Int × Bool) => t.1) mkl_len (fun _ hj => col_mkl (fun (t : Int × Int × Bool) => t.1) hj)) (rcs_int (col_snoc' (fun (t : Int × Int × Bool) => t.2.1) mkl_len (fun _ hj => col_mkl (fun (t : Int × Int × Bool) => t.2.1) hj)) (rcs_bool (col_snoc' (fun (t : Int × Int × Bool) => t.2.2) mkl_len (fun _ hj => col_mkl (fun (t : Int × Int × Bool) => t.2.2) hj)) rcs_nil))) (entl_bor (use_lo rfl) rfl rfl entl_nil)))
   (fun c17 h => ret_at hR _ h (fun n => bif Nat.beq n 2 then 9 else n) rfl rfl rfl (rn_tup ⟨(rn_agg ⟨(rn_int rfl), (rn_int rfl), (rn_own (use_own rfl) rfl (snoc_len' mkl_len)), (rn_int rfl), (rn_int rfl), (rn_bool_tf rfl), trivial⟩), (rn_int rfl), trivial⟩) rfl (entl_new (use_own rfl) rfl (Nat.le_of_eq (snoc_len' mkl_len)) (rcs_int (col_snoc' (fun (t : Int × Int × Bool) => t.1) mkl_len (fun _ hj => col_mkl (fun (t : Int × Int × Bool) => t.1) hj)) (rcs_int (col_snoc' (fun (t : Int × Int × Bool) => t.2.1) mkl_len (fun _ hj => col_mkl (fun (t : Int × Int × Bool) => t.2.1) hj)) (rcs_bool (col_snoc' (fun (t : Int × Int × Bool) => t.2.2) mkl_len (fun _ hj => col_mkl (fun (t : Int × Int × Bool) => t.2.2) hj)) rcs_nil))) (entl_bor (use_lo rfl) rfl rfl entl_nil))))
   (fun c16 h => no_some h))
   (fun c15 h => ret_at hR _ h (fun n => bif Nat.beq n 2 then 9 else n) rfl rfl rfl (rn_tup ⟨(rn_agg ⟨(rn_int rfl), (rn_int rfl), (rn_own (use_own rfl) rfl (snoc_len' mkl_len)), (rn_int rfl), (rn_int rfl), (rn_bool rfl), trivial⟩), (rn_int rfl), trivial⟩) rfl (entl_new (use_own rfl) rfl (Nat.le_of_eq (snoc_len' mkl_len)) (rcs_int (col_snoc' (fun (t : Int × Int × Bool) => t.1) mkl_len (fun _ hj => col_mkl (fun (t : Int × Int × Bool) => t.1) hj)) (rcs_int (col_snoc' (fun (t : Int × Int × Bool) => t.2.1) mkl_len (fun _ hj => col_mkl (fun (t : Int × Int × Bool) => t.2.1) hj)) (rcs_bool (col_snoc' (fun (t : Int × Int × Bool) => t.2.2) mkl_len (fun _ hj => col_mkl (fun (t : Int × Int × Bool) => t.2.2) hj)) rcs_nil))) (entl_bor (use_lo rfl) rfl rfl entl_nil)))))
   (fun c14 h => no_some h))
   (fun c13 h => no_some h))
   (fun c12 h => no_some h))
   (fun c11 h => no_some h))
   (fun c10 h => no_some h))
   (fun c9 h => cond_yes c0 (bif_split h
   (fun c10 h => bif_split h
   (fun c11 h => cond_yes rfl (bif_split h
   (fun c12 h => bif_split h
   (fun c13 h => bif_split h
   (fun c14 h => ret_at hR _ h (fun n => bif Nat.beq n 2 then 9 else n) rfl rfl rfl (rn_tup ⟨(rn_agg ⟨(rn_int rfl), (rn_int rfl), (rn_own (use_own rfl) rfl (snoc_len' mkl_len)), (rn_int rfl), (rn_int rfl), (rn_bool_tf rfl), trivial⟩), (rn_int rfl), trivial⟩) rfl (entl_new (use_own rfl) rfl (Nat.le_of_eq (snoc_len' mkl_len)) (rcs_int (col_snoc' (fun (t : Int × Int × Bool) => t.1) mkl_len (fun _ hj => col_mkl (fun (t : Int × Int × Bool) => t.1) hj)) (rcs_int (col_snoc' (fun (t : Int × Int × Bool) => t.2.1) mkl_len (fun _ hj => col_mkl (fun (t : Int × Int × Bool) => t.2.1) hj)) (rcs_bool (col_snoc' (fun (t : Int × Int × Bool) => t.2.2) mkl_len (fun _ hj => col_mkl (fun (t : Int × Int × Bool) => t.2.2) hj)) rcs_nil))) (entl_bor (use_lo rfl) rfl rfl entl_nil)))
   (fun c14 h => ret_at hR _ h (fun n => bif Nat.beq n 2 then 9 else n) rfl rfl rfl (rn_tup ⟨(rn_agg ⟨(rn_int rfl), (rn_int rfl), (rn_own (use_own rfl) rfl (snoc_len' mkl_len)), (rn_int rfl), (rn_int rfl), (rn_bool_tf rfl), trivial⟩), (rn_int rfl), trivial⟩) rfl (entl_new (use_own rfl) rfl (Nat.le_of_eq (snoc_len' mkl_len)) (rcs_int (col_snoc' (fun (t : Int × Int × Bool) => t.1) mkl_len (fun _ hj => col_mkl (fun (t : Int × Int × Bool) => t.1) hj)) (rcs_int (col_snoc' (fun (t : Int × Int × Bool) => t.2.1) mkl_len (fun _ hj => col_mkl (fun (t : Int × Int × Bool) => t.2.1) hj)) (rcs_bool (col_snoc' (fun (t : Int × Int × Bool) => t.2.2) mkl_len (fun _ hj => col_mkl (fun (t : Int × Int × Bool) => t.2.2) hj)) rcs_nil))) (entl_bor (use_lo rfl) rfl rfl entl_nil))))
   (fun c13 h => no_some h))
   (fun c12 h => ret_at hR _ h (fun n => bif Nat.beq n 2 then 9 else n) rfl rfl rfl (rn_tup ⟨(rn_agg ⟨(rn_int rfl), (rn_int rfl), (rn_own (use_own rfl) rfl (snoc_len' mkl_len)), (rn_int rfl), (rn_int rfl), (rn_bool rfl), trivial⟩), (rn_int rfl), trivial⟩) rfl (entl_new (use_own rfl) rfl (Nat.le_of_eq (snoc_len' mkl_len)) (rcs_int (col_snoc' (fun (t : Int × Int × Bool) => t.1) mkl_len (fun _ hj => col_mkl (fun (t : Int × Int × Bool) => t.1) hj)) (rcs_int (col_snoc' (fun (t : Int × Int × Bool) => t.2.1) mkl_len (fun _ hj => col_mkl (fun (t : Int × Int × Bool) => t.2.1) hj)) (rcs_bool (col_snoc' (fun (t : Int × Int × Bool) => t.2.2) mkl_len (fun _ hj => col_mkl (fun (t : Int × Int × Bool) => t.2.2) hj)) rcs_nil))) (entl_bor (use_lo rfl) rfl rfl entl_nil)))))
   (fun c11 h => no_some h))
   (fun c10 h => no_some h)))))))
   (fun c6 h => cond_yes rfl (ret_at hR _ h (fun n => bif Nat.beq n 2 then 399 else n) rfl rfl rfl (rn_tup ⟨(rn_agg ⟨(rn_int rfl), (rn_int rfl), (rn_own_nils rfl), (rn_int rfl), (rn_int rfl), (rn_bool_tf rfl), trivial⟩), (rn_int rfl), trivial⟩) rfl (entl_fresh (use_own rfl) (fresh_ok rfl) (entl_bor (use_lo rfl) rfl rfl entl_nil)))))
   (fun c5 h => cond_yes rfl (ret_at hR _ h (fun n => bif Nat.beq n 2 then 399 else n) rfl rfl rfl (rn_tup ⟨(rn_agg ⟨(rn_int rfl), (rn_int rfl), (rn_own_nils rfl), (rn_int rfl), (rn_int rfl), (rn_bool_tf rfl), trivial⟩), (rn_int rfl), trivial⟩) rfl (entl_fresh (use_own rfl) (fresh_ok rfl) (entl_bor (use_lo rfl) rfl rfl entl_nil)))))
   (fun c4 h => cond_yes rfl (ret_at hR _ h (fun n => bif Nat.beq n 2 then 399 else n) rfl rfl rfl (rn_tup ⟨(rn_agg ⟨(rn_int rfl), (rn_int rfl), (rn_own_nils rfl), (rn_int rfl), (rn_int rfl), (rn_bool_tf rfl), trivial⟩), (rn_int rfl), trivial⟩) rfl (entl_fresh (use_own rfl) (fresh_ok rfl) (entl_bor (use_lo rfl) rfl rfl entl_nil)))))
   (fun c3 h => cond_yes rfl (ret_at hR _ h (fun n => bif Nat.beq n 2 then 399 else n) rfl rfl rfl (rn_tup ⟨(rn_agg ⟨(rn_int rfl), (rn_int rfl), (rn_own_nils rfl), (rn_int rfl), (rn_int rfl), (rn_bool_tf rfl), trivial⟩), (rn_int rfl), trivial⟩) rfl (entl_fresh (use_own rfl) (fresh_ok rfl) (entl_bor (use_lo rfl) rfl rfl entl_nil)))))))
   (fun c0 h => no_some h)
theorem a12 (ca : Int) (af : Int) (al nl ml : Nat) (tl : Nat → Int) (vl : Nat → Int) (gl : Nat → Bool) (ov : Int) (re : Int) (fz : Bool) (st : Int) (sv : Int) (sg : Bool) {r : Rt12} (h : Goes ((q12 ca af al nl ml tl vl gl ov re fz st sv sg)) ((p12 ca af al nl ml tl vl gl ov re fz st sv sg)) r) : CallR Try.prog 12 [.agg [.int .i64 ca, .int .i64 af, .loose ⟨0, 3, al, 0⟩ nl, .int .i64 ov, .int .i64 re, .bool fz], .agg [.int .i64 st, .int .i64 sv, .bool sg]] [[(0, (false, .cols ml [.int .i64 tl, .int .i64 vl, .bool gl]))]] 1 ((V12 ca af al nl ml tl vl gl ov re fz st sv sg) r) ((fun r => [newL (1 + 1) ((N12 ca af al nl ml tl vl gl ov re fz st sv sg) r) ++ [(0, (false, .cols ml [.int .i64 tl, .int .i64 vl, .bool gl]))]]) r) 400 ∧ ∃ F, Try.prog.funcs[12]? = some F ∧ F.body.isSome = true ∧ (F.name == "runtime.NumGoroutine") = false := by
  refine dec_calls (f := 12) (lo := 1) (hi := 400) (H := [[(0, (false, .cols ml [.int .i64 tl, .int .i64 vl, .bool gl]))]]) (args := [.agg [.int .i64 ca, .int .i64 af, .loose ⟨0, 3, al, 0⟩ nl, .int .i64 ov, .int .i64 re, .bool fz], .agg [.int .i64 st, .int .i64 sv, .bool sg]]) Try.envOk Try.mixed xB_ok ((I12 ca af al nl ml tl vl gl ov re fz st sv sg)) ((V12 ca af al nl ml tl vl gl ov re fz st sv sg)) (fun r => [newL (1 + 1) ((N12 ca af al nl ml tl vl gl ov re fz st sv sg) r) ++ [(0, (false, .cols ml [.int .i64 tl, .int .i64 vl, .bool gl]))]]) (fn := mkFn Try.f12) (ts := []) (n := 400) rfl (by decide) (by simp) (names_of rfl) ?_ ?_ ?_ h
  · intro s; exact s.elim
  · intro Kst Kret x hS hR h
    exact Holds.eq (te12 cond Kst Kret ca af al nl ml tl vl gl ov re fz st sv sg) (be12 ca af al nl ml tl vl gl ov re fz st sv sg Kst Kret x hS hR h)
  · intro Kst Kret x hS hR s h; exact s.elim
noncomputable def k12 : Con := ⟨12, [.agg [.plain (.int .i64), .plain (.int .i64), .list [.int .i64, .int .i64, .bool], .plain (.int .i64), .plain (.int .i64), .plain (.bool)], .agg [.plain (.int .i64), .plain (.int .i64), .plain (.bool)]], fun (x : (Int × Int × (Nat × Nat × Nat × (Nat → Int) × (Nat → Int) × (Nat → Bool) × Unit) × Int × Int × Bool × Unit) × (Int × Int × Bool × Unit) × Unit) => (fun (ca : Int) (af : Int) (al nl ml : Nat) (tl : Nat → Int) (vl : Nat → Int) (gl : Nat → Bool) (ov : Int) (re : Int) (fz : Bool) (st : Int) (sv : Int) (sg : Bool) => decide (al + nl ≤ ml ∧ nl ≤ 1000000)) x.1.1 x.1.2.1 x.1.2.2.1.1 x.1.2.2.1.2.1 x.1.2.2.1.2.2.1 x.1.2.2.1.2.2.2.1 x.1.2.2.1.2.2.2.2.1 x.1.2.2.1.2.2.2.2.2.1 x.1.2.2.2.1 x.1.2.2.2.2.1 x.1.2.2.2.2.2.1 x.2.1.1 x.2.1.2.1 x.2.1.2.2.1, fun (x : (Int × Int × (Nat × Nat × Nat × (Nat → Int) × (Nat → Int) × (Nat → Bool) × Unit) × Int × Int × Bool × Unit) × (Int × Int × Bool × Unit) × Unit) => (fun (ca : Int) (af : Int) (al nl ml : Nat) (tl : Nat → Int) (vl : Nat → Int) (gl : Nat → Bool) (ov : Int) (re : Int) (fz : Bool) (st : Int) (sv : Int) (sg : Bool) => (V12 ca af al nl ml tl vl gl ov re fz st sv sg) (S.putS ca af nl (fun j => tl (j + al)) (fun j => vl (j + al)) (fun j => gl (j + al)) ov re fz st sv sg)) x.1.1 x.1.2.1 x.1.2.2.1.1 x.1.2.2.1.2.1 x.1.2.2.1.2.2.1 x.1.2.2.1.2.2.2.1 x.1.2.2.1.2.2.2.2.1 x.1.2.2.1.2.2.2.2.2.1 x.1.2.2.2.1 x.1.2.2.2.2.1 x.1.2.2.2.2.2.1 x.2.1.1 x.2.1.2.1 x.2.1.2.2.1, fun (x : (Int × Int × (Nat × Nat × Nat × (Nat → Int) × (Nat → Int) × (Nat → Bool) × Unit) × Int × Int × Bool × Unit) × (Int × Int × Bool × Unit) × Unit) => (fun (ca : Int) (af : Int) (al nl ml : Nat) (tl : Nat → Int) (vl : Nat → Int) (gl : Nat → Bool) (ov : Int) (re : Int) (fz : Bool) (st : Int) (sv : Int) (sg : Bool) => (N12 ca af al nl ml tl vl gl ov re fz st sv sg) (S.putS ca af nl (fun j => tl (j + al)) (fun j => vl (j + al)) (fun j => gl (j + al)) ov re fz st sv sg)) x.1.1 x.1.2.1 x.1.2.2.1.1 x.1.2.2.1.2.1 x.1.2.2.1.2.2.1 x.1.2.2.1.2.2.2.1 x.1.2.2.1.2.2.2.2.1 x.1.2.2.1.2.2.2.2.2.1 x.1.2.2.2.1 x.1.2.2.2.2.1 x.1.2.2.2.2.2.1 x.2.1.1 x.2.1.2.1 x.2.1.2.2.1⟩
set_option maxHeartbeats 4000000 in
theorem s12 (ca : Int) (af : Int) (al nl ml : Nat) (tl : Nat → Int) (vl : Nat → Int) (gl : Nat → Bool) (ov : Int) (re : Int) (fz : Bool) (st : Int) (sv : Int) (sg : Bool) (hp : al + nl ≤ ml ∧ nl ≤ 1000000) : Goes ((q12 ca af al nl ml tl vl gl ov re fz st sv sg)) ((p12 ca af al nl ml tl vl gl ov re fz st sv sg)) (S.putS ca af nl (fun j => tl (j + al)) (fun j => vl (j + al)) (fun j => gl (j + al)) ov re fz st sv sg) := by
  obtain ⟨hp1, hp2⟩ := hp
  have hv : S.vB ca af nl (fun j => tl (j + al)) (fun j => vl (j + al)) ov re fz = 0 → _ := vB_ok
  generalize he : S.vB ca af nl (fun j => tl (j + al)) (fun j => vl (j + al)) ov re fz = e at hv
  by_cases h0 : e = 0
  · obtain ⟨v1, v2, v3, v4, v5, v6, v7, v8, v9, v10, v11, v12, -⟩ := hv h0
    subst h0
    cases fz <;> simp only [Bool.false_eq_true, true_imp_iff, false_imp_iff, imp_false, eq_self, reduceCtorEq, Bool.true_eq_false] at v10 v11 <;> (
    show Goes _ _ _
    unfold p12; rw [he]
    repeat' first
      | with_reducible refine goes_if (fun h => ?_) (fun h => ?_) <;> (try simp only [lim64, decide_eq_true_eq, decide_eq_false_iff_not, Int.toNat_natCast, toNat_pred, toNat_succ, Option.getD_some, Option.getD_none, Bool.not_eq_true', Bool.not_eq_false', Bool.and_eq_true, Bool.or_eq_true, Bool.and_eq_false_iff, Bool.or_eq_false_iff, bne_iff_ne, beq_iff_eq, bne_eq_false_iff_eq, beq_eq_false_iff_ne, ne_eq, not_and, Int.not_le, Int.not_lt, ge_iff_le, gt_iff_lt, Nat.not_lt, Nat.not_le, Bool.not_eq_true, Bool.not_eq_false, Bool.true_eq_false, Bool.false_eq_true, not_false_eq_true, not_true_eq_false] at h)
      | exact goes_none.mpr (by omega)
    all_goals first | (exfalso; omega) | (refine goes_inr.mpr ?_; simp only [S.putS, S.putE, he, S.okS, decide_eq_true_eq, S.noB, Nat.add_assoc, Nat.zero_add, Nat.add_zero, toNat_pred]; (repeat' split) <;> first | rfl | omega | (exfalso; simp_all; done) | (exfalso; simp_all; omega)))
  · show Goes _ _ _
    unfold p12; rw [he]
    repeat' first
      | with_reducible refine goes_if (fun h => ?_) (fun h => ?_) <;> (try simp only [lim64, decide_eq_true_eq, decide_eq_false_iff_not, Int.toNat_natCast, toNat_pred, toNat_succ, Option.getD_some, Option.getD_none, Bool.not_eq_true', Bool.not_eq_false', Bool.and_eq_true, Bool.or_eq_true, Bool.and_eq_false_iff, Bool.or_eq_false_iff, bne_iff_ne, beq_iff_eq, bne_eq_false_iff_eq, beq_eq_false_iff_ne, ne_eq, not_and, Int.not_le, Int.not_lt, ge_iff_le, gt_iff_lt, Nat.not_lt, Nat.not_le, Bool.not_eq_true, Bool.not_eq_false, Bool.true_eq_false, Bool.false_eq_true, not_false_eq_true, not_true_eq_false] at h)
      | exact goes_none.mpr (by omega)
    all_goals first | (exfalso; omega) | (refine goes_inr.mpr ?_; simp only [S.putS, S.putE, he, S.okS, decide_eq_true_eq, S.noB, Nat.add_assoc, Nat.zero_add, Nat.add_zero, toNat_pred]; (repeat' split) <;> first | rfl | omega | (exfalso; simp_all; done) | (exfalso; simp_all; omega))

theorem k12_ok : k12.ok Try.prog := by
  intro x hx
  obtain ⟨⟨ca, af, ⟨al, nl, ml, tl, vl, gl, _⟩, ov, re, fz, _⟩, ⟨st, sv, sg, _⟩, _⟩ := x
  obtain ⟨h1, h2⟩ := a12 ca af al nl ml tl vl gl ov re fz st sv sg (s12 ca af al nl ml tl vl gl ov re fz st sv sg (of_decide_eq_true hx))
  exact ⟨⟨400, (by decide : 1 + 1 + 1 ≤ 400), h1⟩, h2⟩
abbrev St14 := Empty
abbrev Rt14 := Int × Int × Int × Int × Bool × Int × List (Int × Int × Bool)
noncomputable def V14 (ca : Int) (af : Int) (al nl ml : Nat) (tl : Nat → Int) (vl : Nat → Int) (gl : Nat → Bool) (ov : Int) (re : Int) (fz : Bool) (st : Int) (sv : Int) (sg : Bool) (r : Rt14) : PV := PV.tup
 [PV.agg
 [PV.int IntKind.i64 r.1, PV.int IntKind.i64 r.2.1,
 PV.own (2) (3) (List.length r.2.2.2.2.2.2), PV.int IntKind.i64 r.2.2.1,
 PV.int IntKind.i64 r.2.2.2.1, PV.bool r.2.2.2.2.1],
 PV.int IntKind.i64 r.2.2.2.2.2.1]
noncomputable def N14 (ca : Int) (af : Int) (al nl ml : Nat) (tl : Nat → Int) (vl : Nat → Int) (gl : Nat → Bool) (ov : Int) (re : Int) (fz : Bool) (st : Int) (sv : Int) (sg : Bool) (r : Rt14) : List Blk := [Blk.cols (List.length r.2.2.2.2.2.2)
 [Col.int IntKind.i64 fun (j : Nat) => (S.at' r.2.2.2.2.2.2 j).1,
 Col.int IntKind.i64 fun (j : Nat) => (S.at' r.2.2.2.2.2.2 j).2.1,
 Col.bool fun (j : Nat) => (S.at' r.2.2.2.2.2.2 j).2.2]]
noncomputable def I14 (ca : Int) (af : Int) (al nl ml : Nat) (tl : Nat → Int) (vl : Nat → Int) (gl : Nat → Bool) (ov : Int) (re : Int) (fz : Bool) (st : Int) (sv : Int) (sg : Bool) : St14 → Hd := fun s => s.elim
noncomputable def q14 (ca : Int) (af : Int) (al nl ml : Nat) (tl : Nat → Int) (vl : Nat → Int) (gl : Nat → Bool) (ov : Int) (re : Int) (fz : Bool) (st : Int) (sv : Int) (sg : Bool) : St14 → Option (St14 ⊕ Rt14) := fun s => s.elim
noncomputable def p14 (ca : Int) (af : Int) (al nl ml : Nat) (tl : Nat → Int) (vl : Nat → Int) (gl : Nat → Bool) (ov : Int) (re : Int) (fz : Bool) (st : Int) (sv : Int) (sg : Bool) : Option (St14 ⊕ Rt14) := bif (decide (al + nl ≤ ml ∧ nl ≤ 1000000))
 then (bif (S.vB ca af nl (fun (j : Nat) => tl (j + al)) (fun (j : Nat) => vl (j + al)) ov re fz != (0 : Int))
 then (some (.inr ((0 : Int), (0 : Int), (0 : Int), (0 : Int), false, S.vB ca af nl (fun (j : Nat) => tl (j + al)) (fun (j : Nat) => vl (j + al)) ov re fz, [])))
 else (bif (fz)
 then (some (.inr ((0 : Int), (0 : Int), (0 : Int), (0 : Int), false, (8 : Int), [])))
 else (bif (decide (st ≥ (0 : Int)))
 then (bif (decide (st ≤ (1099511627776 : Int)))
 then (bif (decide (sv ≥ (-1099511627776 : Int)))
 then (bif (decide (sv ≤ (1099511627776 : Int)))
 then (bif (decide ((↑nl : Int) > (0 : Int)))
 then (bif (lim IntKind.i64 ((↑nl : Int) - (1 : Int)))
 then (bif (decide ((0 : Int) ≤ (↑nl : Int) - (1 : Int) ∧ (↑nl : Int) - (1 : Int) < (↑nl : Int)))
 then (bif (decide (Int.toNat ((↑nl : Int) - (1 : Int)) + al < ml))
 then (bif (decide (st < tl (Int.toNat ((↑nl : Int) - (1 : Int)) + al)))
 then (some (.inr ((0 : Int), (0 : Int), (0 : Int), (0 : Int), false, (15 : Int), [])))
 else (bif ((↑nl : Int) == ca)
 then (bif (ov == (1099511627776 : Int))
 then (some (.inr ((0 : Int), (0 : Int), (0 : Int), (0 : Int), false, (16 : Int), [])))
 else (bif (lim IntKind.i64 (ov + (1 : Int)))
 then (bif (decide
 ((0 : Int) ≤ Option.getD (Option.some (1 : Int)) (0 : Int) ∧ (1 : Int) ≤ (↑nl : Int) ∧ (↑nl : Int) ≤ (↑nl : Int)))
 then (bif (decide (0 + (nl - 1) ≤ 1000000))
 then (bif (decide (1 + al + (nl - 1) ≤ ml))
 then (bif (decide (0 + (nl - 1) + 1 ≤ 1000000))
 then (bif (decide (0 + (nl - 1) ≤ 0 + (nl - 1)))
 then (bif (decide (re > (0 : Int)))
 then (bif (lim IntKind.i64 (re - (1 : Int)))
 then (bif (re - (1 : Int) == (0 : Int))
 then (some (.inr (ca, af, ov + (1 : Int), re - (1 : Int), true, (0 : Int), S.snoc
 (S.mkl (0 + (nl - 1)) fun (j : Nat) =>
 (tl (j + (1 + al)), vl (j + (1 + al)), gl (j + (1 + al))))
 (st, sv, sg))))
 else (some (.inr (ca, af, ov + (1 : Int), re - (1 : Int), false, (0 : Int), S.snoc
 (S.mkl (0 + (nl - 1)) fun (j : Nat) =>
 (tl (j + (1 + al)), vl (j + (1 + al)), gl (j + (1 + al))))
 (st, sv, sg)))))
 else (none))
 else (some (.inr (ca, af, ov + (1 : Int), re, false, (0 : Int), S.snoc
 (S.mkl (0 + (nl - 1)) fun (j : Nat) =>
 (tl (j + (1 + al)), vl (j + (1 + al)), gl (j + (1 + al))))
 (st, sv, sg)))))
 else (none))
 else (none))
 else (none))
 else (none))
 else (none))
 else (none)))
 else (bif (decide
 ((0 : Int) ≤ Option.getD (Option.some (0 : Int)) (0 : Int) ∧ (0 : Int) ≤ (↑nl : Int) ∧ (↑nl : Int) ≤ (↑nl : Int)))
 then (bif (decide (0 + nl ≤ 1000000))
 then (bif (decide (0 + al + nl ≤ ml))
 then (bif (decide (0 + nl + 1 ≤ 1000000))
 then (bif (decide (0 + nl ≤ 0 + nl))
 then (bif (decide (re > (0 : Int)))
 then (bif (lim IntKind.i64 (re - (1 : Int)))
 then (bif (re - (1 : Int) == (0 : Int))
 then (some (.inr (ca, af, ov, re - (1 : Int), true, (0 : Int), S.snoc
 (S.mkl (0 + nl) fun (j : Nat) =>
 (tl (j + (0 + al)), vl (j + (0 + al)), gl (j + (0 + al))))
 (st, sv, sg))))
 else (some (.inr (ca, af, ov, re - (1 : Int), false, (0 : Int), S.snoc
 (S.mkl (0 + nl) fun (j : Nat) =>
 (tl (j + (0 + al)), vl (j + (0 + al)), gl (j + (0 + al))))
 (st, sv, sg)))))
 else (none))
 else (some (.inr (ca, af, ov, re, false, (0 : Int), S.snoc
 (S.mkl (0 + nl) fun (j : Nat) =>
 (tl (j + (0 + al)), vl (j + (0 + al)), gl (j + (0 + al))))
 (st, sv, sg)))))
 else (none))
 else (none))
 else (none))
 else (none))
 else (none))))
 else (none))
 else (none))
 else (none))
 else (bif ((↑nl : Int) == ca)
 then (bif (ov == (1099511627776 : Int))
 then (some (.inr ((0 : Int), (0 : Int), (0 : Int), (0 : Int), false, (16 : Int), [])))
 else (bif (lim IntKind.i64 (ov + (1 : Int)))
 then (bif (decide
 ((0 : Int) ≤ Option.getD (Option.some (1 : Int)) (0 : Int) ∧ (1 : Int) ≤ (↑nl : Int) ∧ (↑nl : Int) ≤ (↑nl : Int)))
 then (bif (decide (0 + (nl - 1) ≤ 1000000))
 then (bif (decide (1 + al + (nl - 1) ≤ ml))
 then (bif (decide (0 + (nl - 1) + 1 ≤ 1000000))
 then (bif (decide (0 + (nl - 1) ≤ 0 + (nl - 1)))
 then (bif (decide (re > (0 : Int)))
 then (bif (lim IntKind.i64 (re - (1 : Int)))
 then (bif (re - (1 : Int) == (0 : Int))
 then (some (.inr (ca, af, ov + (1 : Int), re - (1 : Int), true, (0 : Int), S.snoc
 (S.mkl (0 + (nl - 1)) fun (j : Nat) =>
 (tl (j + (1 + al)), vl (j + (1 + al)), gl (j + (1 + al))))
 (st, sv, sg))))
 else (some (.inr (ca, af, ov + (1 : Int), re - (1 : Int), false, (0 : Int), S.snoc
 (S.mkl (0 + (nl - 1)) fun (j : Nat) =>
 (tl (j + (1 + al)), vl (j + (1 + al)), gl (j + (1 + al))))
 (st, sv, sg)))))
 else (none))
 else (some (.inr (ca, af, ov + (1 : Int), re, false, (0 : Int), S.snoc
 (S.mkl (0 + (nl - 1)) fun (j : Nat) =>
 (tl (j + (1 + al)), vl (j + (1 + al)), gl (j + (1 + al))))
 (st, sv, sg)))))
 else (none))
 else (none))
 else (none))
 else (none))
 else (none))
 else (none)))
 else (bif (decide
 ((0 : Int) ≤ Option.getD (Option.some (0 : Int)) (0 : Int) ∧ (0 : Int) ≤ (↑nl : Int) ∧ (↑nl : Int) ≤ (↑nl : Int)))
 then (bif (decide (0 + nl ≤ 1000000))
 then (bif (decide (0 + al + nl ≤ ml))
 then (bif (decide (0 + nl + 1 ≤ 1000000))
 then (bif (decide (0 + nl ≤ 0 + nl))
 then (bif (decide (re > (0 : Int)))
 then (bif (lim IntKind.i64 (re - (1 : Int)))
 then (bif (re - (1 : Int) == (0 : Int))
 then (some (.inr (ca, af, ov, re - (1 : Int), true, (0 : Int), S.snoc
 (S.mkl (0 + nl) fun (j : Nat) =>
 (tl (j + (0 + al)), vl (j + (0 + al)), gl (j + (0 + al))))
 (st, sv, sg))))
 else (some (.inr (ca, af, ov, re - (1 : Int), false, (0 : Int), S.snoc
 (S.mkl (0 + nl) fun (j : Nat) =>
 (tl (j + (0 + al)), vl (j + (0 + al)), gl (j + (0 + al))))
 (st, sv, sg)))))
 else (none))
 else (some (.inr (ca, af, ov, re, false, (0 : Int), S.snoc
 (S.mkl (0 + nl) fun (j : Nat) =>
 (tl (j + (0 + al)), vl (j + (0 + al)), gl (j + (0 + al))))
 (st, sv, sg)))))
 else (none))
 else (none))
 else (none))
 else (none))
 else (none))))
 else (some (.inr ((0 : Int), (0 : Int), (0 : Int), (0 : Int), false, (6 : Int), []))))
 else (some (.inr ((0 : Int), (0 : Int), (0 : Int), (0 : Int), false, (6 : Int), []))))
 else (some (.inr ((0 : Int), (0 : Int), (0 : Int), (0 : Int), false, (6 : Int), []))))
 else (some (.inr ((0 : Int), (0 : Int), (0 : Int), (0 : Int), false, (6 : Int), []))))))
 else (none)
noncomputable def Te14 (test : Bool → Prop → Prop → Prop) (Kst : KS) (Kret : KR) (ca : Int) (af : Int) (al nl ml : Nat) (tl : Nat → Int) (vl : Nat → Int) (gl : Nat → Bool) (ov : Int) (re : Int) (fz : Bool) (st : Int) (sv : Int) (sg : Bool) : Prop :=
  test (decide (al + nl ≤ ml ∧ nl ≤ 1000000))
 (test (S.vB ca af nl (fun (j : Nat) => tl (j + al)) (fun (j : Nat) => vl (j + al)) ov re fz != (0 : Int))
 (Kret (PV.tup
 [PV.agg
 [PV.int IntKind.i64 (0 : Int), PV.int IntKind.i64 (0 : Int), PV.nils,
 PV.int IntKind.i64 (0 : Int), PV.int IntKind.i64 (0 : Int), PV.tf false],
 PV.int IntKind.i64
 (S.vB ca af nl (fun (j : Nat) => tl (j + al)) (fun (j : Nat) => vl (j + al)) ov re fz)]) ([[(0, false,
 Blk.cols ml [Col.int IntKind.i64 tl, Col.int IntKind.i64 vl, Col.bool gl])]]) (5))
 (test (fz)
 (Kret (PV.tup
 [PV.agg
 [PV.int IntKind.i64 (0 : Int), PV.int IntKind.i64 (0 : Int), PV.nils,
 PV.int IntKind.i64 (0 : Int), PV.int IntKind.i64 (0 : Int), PV.tf false],
 PV.int IntKind.i64 (8 : Int)]) ([[(0, false,
 Blk.cols ml [Col.int IntKind.i64 tl, Col.int IntKind.i64 vl, Col.bool gl])]]) (5))
 (test (decide (st ≥ (0 : Int)))
 (test (decide (st ≤ (1099511627776 : Int)))
 (test (decide (sv ≥ (-1099511627776 : Int)))
 (test (decide (sv ≤ (1099511627776 : Int)))
 (test (decide ((↑nl : Int) > (0 : Int)))
 (test (lim IntKind.i64 ((↑nl : Int) - (1 : Int)))
 (test (decide ((0 : Int) ≤ (↑nl : Int) - (1 : Int) ∧ (↑nl : Int) - (1 : Int) < (↑nl : Int)))
 (test (decide (Int.toNat ((↑nl : Int) - (1 : Int)) + al < ml))
 (test (decide (st < tl (Int.toNat ((↑nl : Int) - (1 : Int)) + al)))
 (Kret (PV.tup
 [PV.agg
 [PV.int IntKind.i64 (0 : Int), PV.int IntKind.i64 (0 : Int), PV.nils,
 PV.int IntKind.i64 (0 : Int), PV.int IntKind.i64 (0 : Int), PV.tf false],
 PV.int IntKind.i64 (15 : Int)]) ([[(0, false,
 Blk.cols ml [Col.int IntKind.i64 tl, Col.int IntKind.i64 vl, Col.bool gl])]]) (6))
 (test ((↑nl : Int) == ca)
 (test (ov == (1099511627776 : Int))
 (Kret (PV.tup
 [PV.agg
 [PV.int IntKind.i64 (0 : Int), PV.int IntKind.i64 (0 : Int), PV.nils,
 PV.int IntKind.i64 (0 : Int), PV.int IntKind.i64 (0 : Int), PV.tf false],
 PV.int IntKind.i64 (16 : Int)]) ([[(0, false,
 Blk.cols ml [Col.int IntKind.i64 tl, Col.int IntKind.i64 vl, Col.bool gl])]]) (6))
 (test ((↑nl : Int) == ca)
 (test (lim IntKind.i64 (ov + (1 : Int)))
 (test (decide
 ((0 : Int) ≤ Option.getD (Option.some (1 : Int)) (0 : Int) ∧ (1 : Int) ≤ (↑nl : Int) ∧ (↑nl : Int) ≤ (↑nl : Int)))
 (test (decide (0 + (nl - 1) ≤ 1000000))
 (test (true)
 (test (decide (1 + al + (nl - 1) ≤ ml))
 (test (decide (0 + (nl - 1) + 1 ≤ 1000000))
 (test (decide (0 + (nl - 1) ≤ 0 + (nl - 1)))
 (test (true)
 (test (decide (re > (0 : Int)))
 (test (lim IntKind.i64 (re - (1 : Int)))
 (test (re - (1 : Int) == (0 : Int))
 (Kret (PV.tup
 [PV.agg
 [PV.int IntKind.i64 ca, PV.int IntKind.i64 af,
 PV.own (10) (3) (0 + (nl - 1) + 1),
 PV.int IntKind.i64 (ov + (1 : Int)), PV.int IntKind.i64 (re - (1 : Int)),
 PV.tf true],
 PV.int IntKind.i64 (0 : Int)]) ([[(0, false,
 Blk.cols ml [Col.int IntKind.i64 tl, Col.int IntKind.i64 vl, Col.bool gl]),
 (10, true,
 Blk.cols (0 + (nl - 1) + 1)
 [Col.int IntKind.i64 fun (j : Nat) =>
 bif Nat.blt j (0 + (nl - 1)) then tl (j + (1 + al)) else st,
 Col.int IntKind.i64 fun (j : Nat) =>
 bif Nat.blt j (0 + (nl - 1)) then vl (j + (1 + al)) else sv,
 Col.bool fun (j : Nat) =>
 bif Nat.blt j (0 + (nl - 1)) then gl (j + (1 + al)) else sg])]]) (11))
 (Kret (PV.tup
 [PV.agg
 [PV.int IntKind.i64 ca, PV.int IntKind.i64 af,
 PV.own (10) (3) (0 + (nl - 1) + 1),
 PV.int IntKind.i64 (ov + (1 : Int)), PV.int IntKind.i64 (re - (1 : Int)),
 PV.tf false],
 PV.int IntKind.i64 (0 : Int)]) ([[(0, false,
 Blk.cols ml [Col.int IntKind.i64 tl, Col.int IntKind.i64 vl, Col.bool gl]),
 (10, true,
 Blk.cols (0 + (nl - 1) + 1)
 [Col.int IntKind.i64 fun (j : Nat) =>
 bif Nat.blt j (0 + (nl - 1)) then tl (j + (1 + al)) else st,
 Col.int IntKind.i64 fun (j : Nat) =>
 bif Nat.blt j (0 + (nl - 1)) then vl (j + (1 + al)) else sv,
 Col.bool fun (j : Nat) =>
 bif Nat.blt j (0 + (nl - 1)) then gl (j + (1 + al)) else sg])]]) (11)))
 (False))
 (Kret (PV.tup
 [PV.agg
 [PV.int IntKind.i64 ca, PV.int IntKind.i64 af,
 PV.own (10) (3) (0 + (nl - 1) + 1),
 PV.int IntKind.i64 (ov + (1 : Int)), PV.int IntKind.i64 re, PV.tf false],
 PV.int IntKind.i64 (0 : Int)]) ([[(0, false,
 Blk.cols ml [Col.int IntKind.i64 tl, Col.int IntKind.i64 vl, Col.bool gl]),
 (10, true,
 Blk.cols (0 + (nl - 1) + 1)
 [Col.int IntKind.i64 fun (j : Nat) =>
 bif Nat.blt j (0 + (nl - 1)) then tl (j + (1 + al)) else st,
 Col.int IntKind.i64 fun (j : Nat) =>
 bif Nat.blt j (0 + (nl - 1)) then vl (j + (1 + al)) else sv,
 Col.bool fun (j : Nat) =>
 bif Nat.blt j (0 + (nl - 1)) then gl (j + (1 + al)) else sg])]]) (11)))
 (False))
 (False))
 (False))
 (False))
 (False))
 (False))
 (False))
 (False))
 (test (decide
 ((0 : Int) ≤ Option.getD (Option.some (0 : Int)) (0 : Int) ∧ (0 : Int) ≤ (↑nl : Int) ∧ (↑nl : Int) ≤ (↑nl : Int)))
 (test (decide (0 + nl ≤ 1000000))
 (test (true)
 (test (decide (0 + al + nl ≤ ml))
 (test (decide (0 + nl + 1 ≤ 1000000))
 (test (decide (0 + nl ≤ 0 + nl))
 (test (true)
 (test (decide (re > (0 : Int)))
 (test (lim IntKind.i64 (re - (1 : Int)))
 (test (re - (1 : Int) == (0 : Int))
 (Kret (PV.tup
 [PV.agg
 [PV.int IntKind.i64 ca, PV.int IntKind.i64 af,
 PV.own (10) (3) (0 + nl + 1), PV.int IntKind.i64 ov,
 PV.int IntKind.i64 (re - (1 : Int)), PV.tf true],
 PV.int IntKind.i64 (0 : Int)]) ([[(0, false,
 Blk.cols ml [Col.int IntKind.i64 tl, Col.int IntKind.i64 vl, Col.bool gl]),
 (10, true,
 Blk.cols (0 + nl + 1)
 [Col.int IntKind.i64 fun (j : Nat) =>
 bif Nat.blt j (0 + nl) then tl (j + (0 + al)) else st,
 Col.int IntKind.i64 fun (j : Nat) =>
 bif Nat.blt j (0 + nl) then vl (j + (0 + al)) else sv,
 Col.bool fun (j : Nat) => bif Nat.blt j (0 + nl) then gl (j + (0 + al)) else sg])]]) (11))
 (Kret (PV.tup
 [PV.agg
 [PV.int IntKind.i64 ca, PV.int IntKind.i64 af,
 PV.own (10) (3) (0 + nl + 1), PV.int IntKind.i64 ov,
 PV.int IntKind.i64 (re - (1 : Int)), PV.tf false],
 PV.int IntKind.i64 (0 : Int)]) ([[(0, false,
 Blk.cols ml [Col.int IntKind.i64 tl, Col.int IntKind.i64 vl, Col.bool gl]),
 (10, true,
 Blk.cols (0 + nl + 1)
 [Col.int IntKind.i64 fun (j : Nat) =>
 bif Nat.blt j (0 + nl) then tl (j + (0 + al)) else st,
 Col.int IntKind.i64 fun (j : Nat) =>
 bif Nat.blt j (0 + nl) then vl (j + (0 + al)) else sv,
 Col.bool fun (j : Nat) => bif Nat.blt j (0 + nl) then gl (j + (0 + al)) else sg])]]) (11)))
 (False))
 (Kret (PV.tup
 [PV.agg
 [PV.int IntKind.i64 ca, PV.int IntKind.i64 af,
 PV.own (10) (3) (0 + nl + 1), PV.int IntKind.i64 ov,
 PV.int IntKind.i64 re, PV.tf false],
 PV.int IntKind.i64 (0 : Int)]) ([[(0, false,
 Blk.cols ml [Col.int IntKind.i64 tl, Col.int IntKind.i64 vl, Col.bool gl]),
 (10, true,
 Blk.cols (0 + nl + 1)
 [Col.int IntKind.i64 fun (j : Nat) =>
 bif Nat.blt j (0 + nl) then tl (j + (0 + al)) else st,
 Col.int IntKind.i64 fun (j : Nat) =>
 bif Nat.blt j (0 + nl) then vl (j + (0 + al)) else sv,
 Col.bool fun (j : Nat) => bif Nat.blt j (0 + nl) then gl (j + (0 + al)) else sg])]]) (11)))
 (False))
 (False))
 (False))
 (False))
 (False))
 (False))
 (False))))
 (test ((↑nl : Int) == ca)
 (test (lim IntKind.i64 (ov + (1 : Int)))
 (test (decide
 ((0 : Int) ≤ Option.getD (Option.some (1 : Int)) (0 : Int) ∧ (1 : Int) ≤ (↑nl : Int) ∧ (↑nl : Int) ≤ (↑nl : Int)))
 (test (decide (0 + (nl - 1) ≤ 1000000))
 (test (true)
 (test (decide (1 + al + (nl - 1) ≤ ml))
 (test (decide (0 + (nl - 1) + 1 ≤ 1000000))
 (test (decide (0 + (nl - 1) ≤ 0 + (nl - 1)))
 (test (true)
 (test (decide (re > (0 : Int)))
 (test (lim IntKind.i64 (re - (1 : Int)))
 (test (re - (1 : Int) == (0 : Int))
 (Kret (PV.tup
 [PV.agg
 [PV.int IntKind.i64 ca, PV.int IntKind.i64 af,
 PV.own (10) (3) (0 + (nl - 1) + 1),
 PV.int IntKind.i64 (ov + (1 : Int)), PV.int IntKind.i64 (re - (1 : Int)),
 PV.tf true],
 PV.int IntKind.i64 (0 : Int)]) ([[(0, false,
 Blk.cols ml [Col.int IntKind.i64 tl, Col.int IntKind.i64 vl, Col.bool gl]),
 (10, true,
 Blk.cols (0 + (nl - 1) + 1)
 [Col.int IntKind.i64 fun (j : Nat) =>
 bif Nat.blt j (0 + (nl - 1)) then tl (j + (1 + al)) else st,
 Col.int IntKind.i64 fun (j : Nat) =>
 bif Nat.blt j (0 + (nl - 1)) then vl (j + (1 + al)) else sv,
 Col.bool fun (j : Nat) =>
 bif Nat.blt j (0 + (nl - 1)) then gl (j + (1 + al)) else sg])]]) (11))
 (Kret (PV.tup
 [PV.agg
 [PV.int IntKind.i64 ca, PV.int IntKind.i64 af,
 PV.own (10) (3) (0 + (nl - 1) + 1),
 PV.int IntKind.i64 (ov + (1 : Int)), PV.int IntKind.i64 (re - (1 : Int)),
 PV.tf false],
 PV.int IntKind.i64 (0 : Int)]) ([[(0, false,
 Blk.cols ml [Col.int IntKind.i64 tl, Col.int IntKind.i64 vl, Col.bool gl]),
 (10, true,
 Blk.cols (0 + (nl - 1) + 1)
 [Col.int IntKind.i64 fun (j : Nat) =>
 bif Nat.blt j (0 + (nl - 1)) then tl (j + (1 + al)) else st,
 Col.int IntKind.i64 fun (j : Nat) =>
 bif Nat.blt j (0 + (nl - 1)) then vl (j + (1 + al)) else sv,
 Col.bool fun (j : Nat) =>
 bif Nat.blt j (0 + (nl - 1)) then gl (j + (1 + al)) else sg])]]) (11)))
 (False))
 (Kret (PV.tup
 [PV.agg
 [PV.int IntKind.i64 ca, PV.int IntKind.i64 af,
 PV.own (10) (3) (0 + (nl - 1) + 1),
 PV.int IntKind.i64 (ov + (1 : Int)), PV.int IntKind.i64 re, PV.tf false],
 PV.int IntKind.i64 (0 : Int)]) ([[(0, false,
 Blk.cols ml [Col.int IntKind.i64 tl, Col.int IntKind.i64 vl, Col.bool gl]),
 (10, true,
 Blk.cols (0 + (nl - 1) + 1)
 [Col.int IntKind.i64 fun (j : Nat) =>
 bif Nat.blt j (0 + (nl - 1)) then tl (j + (1 + al)) else st,
 Col.int IntKind.i64 fun (j : Nat) =>
 bif Nat.blt j (0 + (nl - 1)) then vl (j + (1 + al)) else sv,
 Col.bool fun (j : Nat) =>
 bif Nat.blt j (0 + (nl - 1)) then gl (j + (1 + al)) else sg])]]) (11)))
 (False))
 (False))
 (False))
 (False))
 (False))
 (False))
 (False))
 (False))
 (test (decide
 ((0 : Int) ≤ Option.getD (Option.some (0 : Int)) (0 : Int) ∧ (0 : Int) ≤ (↑nl : Int) ∧ (↑nl : Int) ≤ (↑nl : Int)))
 (test (decide (0 + nl ≤ 1000000))
 (test (true)
 (test (decide (0 + al + nl ≤ ml))
 (test (decide (0 + nl + 1 ≤ 1000000))
 (test (decide (0 + nl ≤ 0 + nl))
 (test (true)
 (test (decide (re > (0 : Int)))
 (test (lim IntKind.i64 (re - (1 : Int)))
 (test (re - (1 : Int) == (0 : Int))
 (Kret (PV.tup
 [PV.agg
 [PV.int IntKind.i64 ca, PV.int IntKind.i64 af,
 PV.own (10) (3) (0 + nl + 1), PV.int IntKind.i64 ov,
 PV.int IntKind.i64 (re - (1 : Int)), PV.tf true],
 PV.int IntKind.i64 (0 : Int)]) ([[(0, false,
 Blk.cols ml [Col.int IntKind.i64 tl, Col.int IntKind.i64 vl, Col.bool gl]),
 (10, true,
 Blk.cols (0 + nl + 1)
 [Col.int IntKind.i64 fun (j : Nat) =>
 bif Nat.blt j (0 + nl) then tl (j + (0 + al)) else st,
 Col.int IntKind.i64 fun (j : Nat) =>
 bif Nat.blt j (0 + nl) then vl (j + (0 + al)) else sv,
 Col.bool fun (j : Nat) => bif Nat.blt j (0 + nl) then gl (j + (0 + al)) else sg])]]) (11))
 (Kret (PV.tup
 [PV.agg
 [PV.int IntKind.i64 ca, PV.int IntKind.i64 af,
 PV.own (10) (3) (0 + nl + 1), PV.int IntKind.i64 ov,
 PV.int IntKind.i64 (re - (1 : Int)), PV.tf false],
 PV.int IntKind.i64 (0 : Int)]) ([[(0, false,
 Blk.cols ml [Col.int IntKind.i64 tl, Col.int IntKind.i64 vl, Col.bool gl]),
 (10, true,
 Blk.cols (0 + nl + 1)
 [Col.int IntKind.i64 fun (j : Nat) =>
 bif Nat.blt j (0 + nl) then tl (j + (0 + al)) else st,
 Col.int IntKind.i64 fun (j : Nat) =>
 bif Nat.blt j (0 + nl) then vl (j + (0 + al)) else sv,
 Col.bool fun (j : Nat) => bif Nat.blt j (0 + nl) then gl (j + (0 + al)) else sg])]]) (11)))
 (False))
 (Kret (PV.tup
 [PV.agg
 [PV.int IntKind.i64 ca, PV.int IntKind.i64 af,
 PV.own (10) (3) (0 + nl + 1), PV.int IntKind.i64 ov,
 PV.int IntKind.i64 re, PV.tf false],
 PV.int IntKind.i64 (0 : Int)]) ([[(0, false,
 Blk.cols ml [Col.int IntKind.i64 tl, Col.int IntKind.i64 vl, Col.bool gl]),
 (10, true,
 Blk.cols (0 + nl + 1)
 [Col.int IntKind.i64 fun (j : Nat) =>
 bif Nat.blt j (0 + nl) then tl (j + (0 + al)) else st,
 Col.int IntKind.i64 fun (j : Nat) =>
 bif Nat.blt j (0 + nl) then vl (j + (0 + al)) else sv,
 Col.bool fun (j : Nat) => bif Nat.blt j (0 + nl) then gl (j + (0 + al)) else sg])]]) (11)))
 (False))
 (False))
 (False))
 (False))
 (False))
 (False))
 (False)))))
 (False))
 (False))
 (False))
 (test ((↑nl : Int) == ca)
 (test (ov == (1099511627776 : Int))
 (Kret (PV.tup
 [PV.agg
 [PV.int IntKind.i64 (0 : Int), PV.int IntKind.i64 (0 : Int), PV.nils,
 PV.int IntKind.i64 (0 : Int), PV.int IntKind.i64 (0 : Int), PV.tf false],
 PV.int IntKind.i64 (16 : Int)]) ([[(0, false,
 Blk.cols ml [Col.int IntKind.i64 tl, Col.int IntKind.i64 vl, Col.bool gl])]]) (6))
 (test ((↑nl : Int) == ca)
 (test (lim IntKind.i64 (ov + (1 : Int)))
 (test (decide
 ((0 : Int) ≤ Option.getD (Option.some (1 : Int)) (0 : Int) ∧ (1 : Int) ≤ (↑nl : Int) ∧ (↑nl : Int) ≤ (↑nl : Int)))
 (test (decide (0 + (nl - 1) ≤ 1000000))
 (test (true)
 (test (decide (1 + al + (nl - 1) ≤ ml))
 (test (decide (0 + (nl - 1) + 1 ≤ 1000000))
 (test (decide (0 + (nl - 1) ≤ 0 + (nl - 1)))
 (test (true)
 (test (decide (re > (0 : Int)))
 (test (lim IntKind.i64 (re - (1 : Int)))
 (test (re - (1 : Int) == (0 : Int))
 (Kret (PV.tup
 [PV.agg
 [PV.int IntKind.i64 ca, PV.int IntKind.i64 af,
 PV.own (10) (3) (0 + (nl - 1) + 1),
 PV.int IntKind.i64 (ov + (1 : Int)), PV.int IntKind.i64 (re - (1 : Int)),
 PV.tf true],
 PV.int IntKind.i64 (0 : Int)]) ([[(0, false,
 Blk.cols ml [Col.int IntKind.i64 tl, Col.int IntKind.i64 vl, Col.bool gl]),
 (10, true,
 Blk.cols (0 + (nl - 1) + 1)
 [Col.int IntKind.i64 fun (j : Nat) =>
 bif Nat.blt j (0 + (nl - 1)) then tl (j + (1 + al)) else st,
 Col.int IntKind.i64 fun (j : Nat) =>
 bif Nat.blt j (0 + (nl - 1)) then vl (j + (1 + al)) else sv,
 Col.bool fun (j : Nat) =>
 bif Nat.blt j (0 + (nl - 1)) then gl (j + (1 + al)) else sg])]]) (11))
 (Kret (PV.tup
 [PV.agg
 [PV.int IntKind.i64 ca, PV.int IntKind.i64 af,
 PV.own (10) (3) (0 + (nl - 1) + 1),
 PV.int IntKind.i64 (ov + (1 : Int)), PV.int IntKind.i64 (re - (1 : Int)),
 PV.tf false],
 PV.int IntKind.i64 (0 : Int)]) ([[(0, false,
 Blk.cols ml [Col.int IntKind.i64 tl, Col.int IntKind.i64 vl, Col.bool gl]),
 (10, true,
 Blk.cols (0 + (nl - 1) + 1)
 [Col.int IntKind.i64 fun (j : Nat) =>
 bif Nat.blt j (0 + (nl - 1)) then tl (j + (1 + al)) else st,
 Col.int IntKind.i64 fun (j : Nat) =>
 bif Nat.blt j (0 + (nl - 1)) then vl (j + (1 + al)) else sv,
 Col.bool fun (j : Nat) =>
 bif Nat.blt j (0 + (nl - 1)) then gl (j + (1 + al)) else sg])]]) (11)))
 (False))
 (Kret (PV.tup
 [PV.agg
 [PV.int IntKind.i64 ca, PV.int IntKind.i64 af,
 PV.own (10) (3) (0 + (nl - 1) + 1),
 PV.int IntKind.i64 (ov + (1 : Int)), PV.int IntKind.i64 re, PV.tf false],
 PV.int IntKind.i64 (0 : Int)]) ([[(0, false,
 Blk.cols ml [Col.int IntKind.i64 tl, Col.int IntKind.i64 vl, Col.bool gl]),
 (10, true,
 Blk.cols (0 + (nl - 1) + 1)
 [Col.int IntKind.i64 fun (j : Nat) =>
 bif Nat.blt j (0 + (nl - 1)) then tl (j + (1 + al)) else st,
 Col.int IntKind.i64 fun (j : Nat) =>
 bif Nat.blt j (0 + (nl - 1)) then vl (j + (1 + al)) else sv,
 Col.bool fun (j : Nat) =>
 bif Nat.blt j (0 + (nl - 1)) then gl (j + (1 + al)) else sg])]]) (11)))
 (False))
 (False))
 (False))
 (False))
 (False))
 (False))
 (False))
 (False))
 (test (decide
 ((0 : Int) ≤ Option.getD (Option.some (0 : Int)) (0 : Int) ∧ (0 : Int) ≤ (↑nl : Int) ∧ (↑nl : Int) ≤ (↑nl : Int)))
 (test (decide (0 + nl ≤ 1000000))
 (test (true)
 (test (decide (0 + al + nl ≤ ml))
 (test (decide (0 + nl + 1 ≤ 1000000))
 (test (decide (0 + nl ≤ 0 + nl))
 (test (true)
 (test (decide (re > (0 : Int)))
 (test (lim IntKind.i64 (re - (1 : Int)))
 (test (re - (1 : Int) == (0 : Int))
 (Kret (PV.tup
 [PV.agg
 [PV.int IntKind.i64 ca, PV.int IntKind.i64 af,
 PV.own (10) (3) (0 + nl + 1), PV.int IntKind.i64 ov,
 PV.int IntKind.i64 (re - (1 : Int)), PV.tf true],
 PV.int IntKind.i64 (0 : Int)]) ([[(0, false,
 Blk.cols ml [Col.int IntKind.i64 tl, Col.int IntKind.i64 vl, Col.bool gl]),
 (10, true,
 Blk.cols (0 + nl + 1)
 [Col.int IntKind.i64 fun (j : Nat) =>
 bif Nat.blt j (0 + nl) then tl (j + (0 + al)) else st,
 Col.int IntKind.i64 fun (j : Nat) =>
 bif Nat.blt j (0 + nl) then vl (j + (0 + al)) else sv,
 Col.bool fun (j : Nat) => bif Nat.blt j (0 + nl) then gl (j + (0 + al)) else sg])]]) (11))
 (Kret (PV.tup
 [PV.agg
 [PV.int IntKind.i64 ca, PV.int IntKind.i64 af,
 PV.own (10) (3) (0 + nl + 1), PV.int IntKind.i64 ov,
 PV.int IntKind.i64 (re - (1 : Int)), PV.tf false],
 PV.int IntKind.i64 (0 : Int)]) ([[(0, false,
 Blk.cols ml [Col.int IntKind.i64 tl, Col.int IntKind.i64 vl, Col.bool gl]),
 (10, true,
 Blk.cols (0 + nl + 1)
 [Col.int IntKind.i64 fun (j : Nat) =>
 bif Nat.blt j (0 + nl) then tl (j + (0 + al)) else st,
 Col.int IntKind.i64 fun (j : Nat) =>
 bif Nat.blt j (0 + nl) then vl (j + (0 + al)) else sv,
 Col.bool fun (j : Nat) => bif Nat.blt j (0 + nl) then gl (j + (0 + al)) else sg])]]) (11)))
 (False))
 (Kret (PV.tup
 [PV.agg
 [PV.int IntKind.i64 ca, PV.int IntKind.i64 af,
 PV.own (10) (3) (0 + nl + 1), PV.int IntKind.i64 ov,
 PV.int IntKind.i64 re, PV.tf false],
 PV.int IntKind.i64 (0 : Int)]) ([[(0, false,
 Blk.cols ml [Col.int IntKind.i64 tl, Col.int IntKind.i64 vl, Col.bool gl]),
 (10, true,
 Blk.cols (0 + nl + 1)
 [Col.int IntKind.i64 fun (j : Nat) =>
 bif Nat.blt j (0 + nl) then tl (j + (0 + al)) else st,
 Col.int IntKind.i64 fun (j : Nat) =>
 bif Nat.blt j (0 + nl) then vl (j + (0 + al)) else sv,
 Col.bool fun (j : Nat) => bif Nat.blt j (0 + nl) then gl (j + (0 + al)) else sg])]]) (11)))
 (False))
 (False))
 (False))
 (False))
 (False))
 (False))
 (False))))
 (test ((↑nl : Int) == ca)
 (test (lim IntKind.i64 (ov + (1 : Int)))
 (test (decide
 ((0 : Int) ≤ Option.getD (Option.some (1 : Int)) (0 : Int) ∧ (1 : Int) ≤ (↑nl : Int) ∧ (↑nl : Int) ≤ (↑nl : Int)))
 (test (decide (0 + (nl - 1) ≤ 1000000))
 (test (true)
 (test (decide (1 + al + (nl - 1) ≤ ml))
 (test (decide (0 + (nl - 1) + 1 ≤ 1000000))
 (test (decide (0 + (nl - 1) ≤ 0 + (nl - 1)))
 (test (true)
 (test (decide (re > (0 : Int)))
 (test (lim IntKind.i64 (re - (1 : Int)))
 (test (re - (1 : Int) == (0 : Int))
 (Kret (PV.tup
 [PV.agg
 [PV.int IntKind.i64 ca, PV.int IntKind.i64 af,
 PV.own (10) (3) (0 + (nl - 1) + 1),
 PV.int IntKind.i64 (ov + (1 : Int)), PV.int IntKind.i64 (re - (1 : Int)),
 PV.tf true],
 PV.int IntKind.i64 (0 : Int)]) ([[(0, false,
 Blk.cols ml [Col.int IntKind.i64 tl, Col.int IntKind.i64 vl, Col.bool gl]),
 (10, true,
 Blk.cols (0 + (nl - 1) + 1)
 [Col.int IntKind.i64 fun (j : Nat) =>
 bif Nat.blt j (0 + (nl - 1)) then tl (j + (1 + al)) else st,
 Col.int IntKind.i64 fun (j : Nat) =>
 bif Nat.blt j (0 + (nl - 1)) then vl (j + (1 + al)) else sv,
 Col.bool fun (j : Nat) =>
 bif Nat.blt j (0 + (nl - 1)) then gl (j + (1 + al)) else sg])]]) (11))
 (Kret (PV.tup
 [PV.agg
 [PV.int IntKind.i64 ca, PV.int IntKind.i64 af,
 PV.own (10) (3) (0 + (nl - 1) + 1),
 PV.int IntKind.i64 (ov + (1 : Int)), PV.int IntKind.i64 (re - (1 : Int)),
 PV.tf false],
 PV.int IntKind.i64 (0 : Int)]) ([[(0, false,
 Blk.cols ml [Col.int IntKind.i64 tl, Col.int IntKind.i64 vl, Col.bool gl]),
 (10, true,
 Blk.cols (0 + (nl - 1) + 1)
 [Col.int IntKind.i64 fun (j : Nat) =>
 bif Nat.blt j (0 + (nl - 1)) then tl (j + (1 + al)) else st,
 Col.int IntKind.i64 fun (j : Nat) =>
 bif Nat.blt j (0 + (nl - 1)) then vl (j + (1 + al)) else sv,
 Col.bool fun (j : Nat) =>
 bif Nat.blt j (0 + (nl - 1)) then gl (j + (1 + al)) else sg])]]) (11)))
 (False))
 (Kret (PV.tup
 [PV.agg
 [PV.int IntKind.i64 ca, PV.int IntKind.i64 af,
 PV.own (10) (3) (0 + (nl - 1) + 1),
 PV.int IntKind.i64 (ov + (1 : Int)), PV.int IntKind.i64 re, PV.tf false],
 PV.int IntKind.i64 (0 : Int)]) ([[(0, false,
 Blk.cols ml [Col.int IntKind.i64 tl, Col.int IntKind.i64 vl, Col.bool gl]),
 (10, true,
 Blk.cols (0 + (nl - 1) + 1)
 [Col.int IntKind.i64 fun (j : Nat) =>
 bif Nat.blt j (0 + (nl - 1)) then tl (j + (1 + al)) else st,
 Col.int IntKind.i64 fun (j : Nat) =>
 bif Nat.blt j (0 + (nl - 1)) then vl (j + (1 + al)) else sv,
 Col.bool fun (j : Nat) =>
 bif Nat.blt j (0 + (nl - 1)) then gl (j + (1 + al)) else sg])]]) (11)))
 (False))
 (False))
 (False))
 (False))
 (False))
 (False))
 (False))
 (False))
 (test (decide
 ((0 : Int) ≤ Option.getD (Option.some (0 : Int)) (0 : Int) ∧ (0 : Int) ≤ (↑nl : Int) ∧ (↑nl : Int) ≤ (↑nl : Int)))
 (test (decide (0 + nl ≤ 1000000))
 (test (true)
 (test (decide (0 + al + nl ≤ ml))
 (test (decide (0 + nl + 1 ≤ 1000000))
 (test (decide (0 + nl ≤ 0 + nl))
 (test (true)
 (test (decide (re > (0 : Int)))
 (test (lim IntKind.i64 (re - (1 : Int)))
 (test (re - (1 : Int) == (0 : Int))
 (Kret (PV.tup
 [PV.agg
 [PV.int IntKind.i64 ca, PV.int IntKind.i64 af,
 PV.own (10) (3) (0 + nl + 1), PV.int IntKind.i64 ov,
 PV.int IntKind.i64 (re - (1 : Int)), PV.tf true],
 PV.int IntKind.i64 (0 : Int)]) ([[(0, false,
 Blk.cols ml [Col.int IntKind.i64 tl, Col.int IntKind.i64 vl, Col.bool gl]),
 (10, true,
 Blk.cols (0 + nl + 1)
 [Col.int IntKind.i64 fun (j : Nat) =>
 bif Nat.blt j (0 + nl) then tl (j + (0 + al)) else st,
 Col.int IntKind.i64 fun (j : Nat) =>
 bif Nat.blt j (0 + nl) then vl (j + (0 + al)) else sv,
 Col.bool fun (j : Nat) => bif Nat.blt j (0 + nl) then gl (j + (0 + al)) else sg])]]) (11))
 (Kret (PV.tup
 [PV.agg
 [PV.int IntKind.i64 ca, PV.int IntKind.i64 af,
 PV.own (10) (3) (0 + nl + 1), PV.int IntKind.i64 ov,
 PV.int IntKind.i64 (re - (1 : Int)), PV.tf false],
 PV.int IntKind.i64 (0 : Int)]) ([[(0, false,
 Blk.cols ml [Col.int IntKind.i64 tl, Col.int IntKind.i64 vl, Col.bool gl]),
 (10, true,
 Blk.cols (0 + nl + 1)
 [Col.int IntKind.i64 fun (j : Nat) =>
 bif Nat.blt j (0 + nl) then tl (j + (0 + al)) else st,
 Col.int IntKind.i64 fun (j : Nat) =>
 bif Nat.blt j (0 + nl) then vl (j + (0 + al)) else sv,
 Col.bool fun (j : Nat) => bif Nat.blt j (0 + nl) then gl (j + (0 + al)) else sg])]]) (11)))
 (False))
 (Kret (PV.tup
 [PV.agg
 [PV.int IntKind.i64 ca, PV.int IntKind.i64 af,
 PV.own (10) (3) (0 + nl + 1), PV.int IntKind.i64 ov,
 PV.int IntKind.i64 re, PV.tf false],
 PV.int IntKind.i64 (0 : Int)]) ([[(0, false,
 Blk.cols ml [Col.int IntKind.i64 tl, Col.int IntKind.i64 vl, Col.bool gl]),
 (10, true,
 Blk.cols (0 + nl + 1)
 [Col.int IntKind.i64 fun (j : Nat) =>
 bif Nat.blt j (0 + nl) then tl (j + (0 + al)) else st,
 Col.int IntKind.i64 fun (j : Nat) =>
 bif Nat.blt j (0 + nl) then vl (j + (0 + al)) else sv,
 Col.bool fun (j : Nat) => bif Nat.blt j (0 + nl) then gl (j + (0 + al)) else sg])]]) (11)))
 (False))
 (False))
 (False))
 (False))
 (False))
 (False))
 (False)))))
 (Kret (PV.tup
 [PV.agg
 [PV.int IntKind.i64 (0 : Int), PV.int IntKind.i64 (0 : Int), PV.nils,
 PV.int IntKind.i64 (0 : Int), PV.int IntKind.i64 (0 : Int), PV.tf false],
 PV.int IntKind.i64 (6 : Int)]) ([[(0, false,
 Blk.cols ml [Col.int IntKind.i64 tl, Col.int IntKind.i64 vl, Col.bool gl])]]) (6)))
 (Kret (PV.tup
 [PV.agg
 [PV.int IntKind.i64 (0 : Int), PV.int IntKind.i64 (0 : Int), PV.nils,
 PV.int IntKind.i64 (0 : Int), PV.int IntKind.i64 (0 : Int), PV.tf false],
 PV.int IntKind.i64 (6 : Int)]) ([[(0, false,
 Blk.cols ml [Col.int IntKind.i64 tl, Col.int IntKind.i64 vl, Col.bool gl])]]) (6)))
 (Kret (PV.tup
 [PV.agg
 [PV.int IntKind.i64 (0 : Int), PV.int IntKind.i64 (0 : Int), PV.nils,
 PV.int IntKind.i64 (0 : Int), PV.int IntKind.i64 (0 : Int), PV.tf false],
 PV.int IntKind.i64 (6 : Int)]) ([[(0, false,
 Blk.cols ml [Col.int IntKind.i64 tl, Col.int IntKind.i64 vl, Col.bool gl])]]) (6)))
 (Kret (PV.tup
 [PV.agg
 [PV.int IntKind.i64 (0 : Int), PV.int IntKind.i64 (0 : Int), PV.nils,
 PV.int IntKind.i64 (0 : Int), PV.int IntKind.i64 (0 : Int), PV.tf false],
 PV.int IntKind.i64 (6 : Int)]) ([[(0, false,
 Blk.cols ml [Col.int IntKind.i64 tl, Col.int IntKind.i64 vl, Col.bool gl])]]) (6)))))
 (False)
set_option maxRecDepth 100000 in
theorem te14 (test : Bool → Prop → Prop → Prop) (Kst : KS) (Kret : KR) (ca : Int) (af : Int) (al nl ml : Nat) (tl : Nat → Int) (vl : Nat → Int) (gl : Nat → Bool) (ov : Int) (re : Int) (fz : Bool) (st : Int) (sv : Int) (sg : Bool) : run test Try.env true (xB test) true 400 ⟨14, [.cd (mkFn Try.f14).body], argT 0 [.agg [.int .i64 ca, .int .i64 af, .loose ⟨0, 3, al, 0⟩ nl, .int .i64 ov, .int .i64 re, .bool fz], .agg [.int .i64 st, .int .i64 sv, .bool sg]], [[], [(0, (false, .cols ml [.int .i64 tl, .int .i64 vl, .bool gl]))]], 1⟩ (proj 1 [] Kst Kret) =
  Te14 test Kst Kret ca af al nl ml tl vl gl ov re fz st sv sg := by kernel_rfl
set_option maxRecDepth 100000 in
theorem be14 (ca : Int) (af : Int) (al nl ml : Nat) (tl : Nat → Int) (vl : Nat → Int) (gl : Nat → Bool) (ov : Int) (re : Int) (fz : Bool) (st : Int) (sv : Int) (sg : Bool) (Kst : KS) (Kret : KR) (x : St14 ⊕ Rt14) (hS : HS 1 400 ((I14 ca af al nl ml tl vl gl ov re fz st sv sg)) Kst x) (hR : HR 1 400 ((V14 ca af al nl ml tl vl gl ov re fz st sv sg)) (fun r => [newL (1 + 1) ((N14 ca af al nl ml tl vl gl ov re fz st sv sg) r) ++ [(0, (false, .cols ml [.int .i64 tl, .int .i64 vl, .bool gl]))]]) Kret x) (h : (bif (decide (al + nl ≤ ml ∧ nl ≤ 1000000))
 then (bif (S.vB ca af nl (fun (j : Nat) => tl (j + al)) (fun (j : Nat) => vl (j + al)) ov re fz != (0 : Int))
 then (some (.inr ((0 : Int), (0 : Int), (0 : Int), (0 : Int), false, S.vB ca af nl (fun (j : Nat) => tl (j + al)) (fun (j : Nat) => vl (j + al)) ov re fz, [])))
 else (bif (fz)
 then (some (.inr ((0 : Int), (0 : Int), (0 : Int), (0 : Int), false, (8 : Int), [])))
 else (bif (decide (st ≥ (0 : Int)))
 then (bif (decide (st ≤ (1099511627776 : Int)))
 then (bif (decide (sv ≥ (-1099511627776 : Int)))
 then (bif (decide (sv ≤ (1099511627776 : Int)))
 then (bif (decide ((↑nl : Int) > (0 : Int)))
 then (bif (lim IntKind.i64 ((↑nl : Int) - (1 : Int)))
 then (bif (decide ((0 : Int) ≤ (↑nl : Int) - (1 : Int) ∧ (↑nl : Int) - (1 : Int) < (↑nl : Int)))
 then (bif (decide (Int.toNat ((↑nl : Int) - (1 : Int)) + al < ml))
 then (bif (decide (st < tl (Int.toNat ((↑nl : Int) - (1 : Int)) + al)))
 then (some (.inr ((0 : Int), (0 : Int), (0 : Int), (0 : Int), false, (15 : Int), [])))
 else (bif ((↑nl : Int) == ca)
 then (bif (ov == (1099511627776 : Int))
 then (some (.inr ((0 : Int), (0 : Int), (0 : Int), (0 : Int), false, (16 : Int), [])))
 else (bif (lim IntKind.i64 (ov + (1 : Int)))
 then (bif (decide
 ((0 : Int) ≤ Option.getD (Option.some (1 : Int)) (0 : Int) ∧ (1 : Int) ≤ (↑nl : Int) ∧ (↑nl : Int) ≤ (↑nl : Int)))
 then (bif (decide (0 + (nl - 1) ≤ 1000000))
 then (bif (decide (1 + al + (nl - 1) ≤ ml))
 then (bif (decide (0 + (nl - 1) + 1 ≤ 1000000))
 then (bif (decide (0 + (nl - 1) ≤ 0 + (nl - 1)))
 then (bif (decide (re > (0 : Int)))
 then (bif (lim IntKind.i64 (re - (1 : Int)))
 then (bif (re - (1 : Int) == (0 : Int))
 then (some (.inr (ca, af, ov + (1 : Int), re - (1 : Int), true, (0 : Int), S.snoc
 (S.mkl (0 + (nl - 1)) fun (j : Nat) =>
 (tl (j + (1 + al)), vl (j + (1 + al)), gl (j + (1 + al))))
 (st, sv, sg))))
 else (some (.inr (ca, af, ov + (1 : Int), re - (1 : Int), false, (0 : Int), S.snoc
 (S.mkl (0 + (nl - 1)) fun (j : Nat) =>
 (tl (j + (1 + al)), vl (j + (1 + al)), gl (j + (1 + al))))
 (st, sv, sg)))))
 else (none))
 else (some (.inr (ca, af, ov + (1 : Int), re, false, (0 : Int), S.snoc
 (S.mkl (0 + (nl - 1)) fun (j : Nat) =>
 (tl (j + (1 + al)), vl (j + (1 + al)), gl (j + (1 + al))))
 (st, sv, sg)))))
 else (none))
 else (none))
 else (none))
 else (none))
 else (none))
 else (none)))
 else (bif (decide
 ((0 : Int) ≤ Option.getD (Option.some (0 : Int)) (0 : Int) ∧ (0 : Int) ≤ (↑nl : Int) ∧ (↑nl : Int) ≤ (↑nl : Int)))
 then (bif (decide (0 + nl ≤ 1000000))
 then (bif (decide (0 + al + nl ≤ ml))
 then (bif (decide (0 + nl + 1 ≤ 1000000))
 then (bif (decide (0 + nl ≤ 0 + nl))
 then (bif (decide (re > (0 : Int)))
 then (bif (lim IntKind.i64 (re - (1 : Int)))
 then (bif (re - (1 : Int) == (0 : Int))
 then (some (.inr (ca, af, ov, re - (1 : Int), true, (0 : Int), S.snoc
 (S.mkl (0 + nl) fun (j : Nat) =>
 (tl (j + (0 + al)), vl (j + (0 + al)), gl (j + (0 + al))))
 (st, sv, sg))))
 else (some (.inr (ca, af, ov, re - (1 : Int), false, (0 : Int), S.snoc
 (S.mkl (0 + nl) fun (j : Nat) =>
 (tl (j + (0 + al)), vl (j + (0 + al)), gl (j + (0 + al))))
 (st, sv, sg)))))
 else (none))
 else (some (.inr (ca, af, ov, re, false, (0 : Int), S.snoc
 (S.mkl (0 + nl) fun (j : Nat) =>
 (tl (j + (0 + al)), vl (j + (0 + al)), gl (j + (0 + al))))
 (st, sv, sg)))))
 else (none))
 else (none))
 else (none))
 else (none))
 else (none))))
 else (none))
 else (none))
 else (none))
 else (bif ((↑nl : Int) == ca)
 then (bif (ov == (1099511627776 : Int))
 then (some (.inr ((0 : Int), (0 : Int), (0 : Int), (0 : Int), false, (16 : Int), [])))
 else (bif (lim IntKind.i64 (ov + (1 : Int)))
 then (bif (decide
 ((0 : Int) ≤ Option.getD (Option.some (1 : Int)) (0 : Int) ∧ (1 : Int) ≤ (↑nl : Int) ∧ (↑nl : Int) ≤ (↑nl : Int)))
 then (bif (decide (0 + (nl - 1) ≤ 1000000))
 then (bif (decide (1 + al + (nl - 1) ≤ ml))
 then (bif (decide (0 + (nl - 1) + 1 ≤ 1000000))
 then (bif (decide (0 + (nl - 1) ≤ 0 + (nl - 1)))
 then (bif (decide (re > (0 : Int)))
 then (bif (lim IntKind.i64 (re - (1 : Int)))
 then (bif (re - (1 : Int) == (0 : Int))
 then (some (.inr (ca, af, ov + (1 : Int), re - (1 : Int), true, (0 : Int), S.snoc
 (S.mkl (0 + (nl - 1)) fun (j : Nat) =>
 (tl (j + (1 + al)), vl (j + (1 + al)), gl (j + (1 + al))))
 (st, sv, sg))))
 else (some (.inr (ca, af, ov + (1 : Int), re - (1 : Int), false, (0 : Int), S.snoc
 (S.mkl (0 + (nl - 1)) fun (j : Nat) =>
 (tl (j + (1 + al)), vl (j + (1 + al)), gl (j + (1 + al))))
 (st, sv, sg)))))
 else (none))
 else (some (.inr (ca, af, ov + (1 : Int), re, false, (0 : Int), S.snoc
 (S.mkl (0 + (nl - 1)) fun (j : Nat) =>
 (tl (j + (1 + al)), vl (j + (1 + al)), gl (j + (1 + al))))
 (st, sv, sg)))))
 else (none))
 else (none))
 else (none))
 else (none))
 else (none))
 else (none)))
 else (bif (decide
 ((0 : Int) ≤ Option.getD (Option.some (0 : Int)) (0 : Int) ∧ (0 : Int) ≤ (↑nl : Int) ∧ (↑nl : Int) ≤ (↑nl : Int)))
 then (bif (decide (0 + nl ≤ 1000000))
 then (bif (decide (0 + al + nl ≤ ml))
 then (bif (decide (0 + nl + 1 ≤ 1000000))
 then (bif (decide (0 + nl ≤ 0 + nl))
 then (bif (decide (re > (0 : Int)))
 then (bif (lim IntKind.i64 (re - (1 : Int)))
 then (bif (re - (1 : Int) == (0 : Int))
 then (some (.inr (ca, af, ov, re - (1 : Int), true, (0 : Int), S.snoc
 (S.mkl (0 + nl) fun (j : Nat) =>
 (tl (j + (0 + al)), vl (j + (0 + al)), gl (j + (0 + al))))
 (st, sv, sg))))
 else (some (.inr (ca, af, ov, re - (1 : Int), false, (0 : Int), S.snoc
 (S.mkl (0 + nl) fun (j : Nat) =>
 (tl (j + (0 + al)), vl (j + (0 + al)), gl (j + (0 + al))))
 (st, sv, sg)))))
 else (none))
 else (some (.inr (ca, af, ov, re, false, (0 : Int), S.snoc
 (S.mkl (0 + nl) fun (j : Nat) =>
 (tl (j + (0 + al)), vl (j + (0 + al)), gl (j + (0 + al))))
 (st, sv, sg)))))
 else (none))
 else (none))
 else (none))
 else (none))
 else (none))))
 else (some (.inr ((0 : Int), (0 : Int), (0 : Int), (0 : Int), false, (6 : Int), []))))
 else (some (.inr ((0 : Int), (0 : Int), (0 : Int), (0 : Int), false, (6 : Int), []))))
 else (some (.inr ((0 : Int), (0 : Int), (0 : Int), (0 : Int), false, (6 : Int), []))))
 else (some (.inr ((0 : Int), (0 : Int), (0 : Int), (0 : Int), false, (6 : Int), []))))))
 else (none) : Option (St14 ⊕ Rt14)) = some x) : Te14 cond Kst Kret ca af al nl ml tl vl gl ov re fz st sv sg := by
  unfold Te14
  exact bif_split h
   (fun c0 h => bif_split h
   (fun c1 h => ret_at hR _ h (fun n => bif Nat.beq n 2 then 399 else n) rfl rfl rfl (rn_tup ⟨(rn_agg ⟨(rn_int rfl), (rn_int rfl), (rn_own_nils rfl), (rn_int rfl), (rn_int rfl), (rn_bool_tf rfl), trivial⟩), (rn_int rfl), trivial⟩) rfl (entl_fresh (use_own rfl) (fresh_ok rfl) (entl_bor (use_lo rfl) rfl rfl entl_nil)))
   (fun c1 h => bif_split h
   (fun c2 h => ret_at hR _ h (fun n => bif Nat.beq n 2 then 399 else n) rfl rfl rfl (rn_tup ⟨(rn_agg ⟨(rn_int rfl), (rn_int rfl), (rn_own_nils rfl), (rn_int rfl), (rn_int rfl), (rn_bool_tf rfl), trivial⟩), (rn_int rfl), trivial⟩) rfl (entl_fresh (use_own rfl) (fresh_ok rfl) (entl_bor (use_lo rfl) rfl rfl entl_nil)))
   (fun c2 h => bif_split h
   (fun c3 h => bif_split h
   (fun c4 h => bif_split h
   (fun c5 h => bif_split h
   (fun c6 h => bif_split h
   (fun c7 h => bif_split h
   (fun c8 h => bif_split h
   (fun c9 h => bif_split h
   (fun c10 h => bif_split h
   (fun c11 h => ret_at hR _ h (fun n => bif Nat.beq n 2 then 399 else n) rfl rfl rfl (rn_tup ⟨(rn_agg ⟨(rn_int rfl), (rn_int rfl), (rn_own_nils rfl), (rn_int rfl), (rn_int rfl), (rn_bool_tf rfl), trivial⟩), (rn_int rfl), trivial⟩) rfl (entl_fresh (use_own rfl) (fresh_ok rfl) (entl_bor (use_lo rfl) rfl rfl entl_nil)))
   (fun c11 h => bif_split h
   (fun c12 h => bif_split h
   (fun c13 h => ret_at hR _ h (fun n => bif Nat.beq n 2 then 399 else n) rfl rfl rfl (rn_tup ⟨(rn_agg ⟨(rn_int rfl), (rn_int rfl), (rn_own_nils rfl), (rn_int rfl), (rn_int rfl), (rn_bool_tf rfl), trivial⟩), (rn_int rfl), trivial⟩) rfl (entl_fresh (use_own rfl) (fresh_ok rfl) (entl_bor (use_lo rfl) rfl rfl entl_nil)))
   (fun c13 h => cond_yes c12 (bif_split h
   (fun c14 h => bif_split h
   (fun c15 h => bif_split h
   (fun c16 h => cond_yes rfl (bif_split h
   (fun c17 h => bif_split h
   (fun c18 h => bif_split h
   (fun c19 h => cond_yes rfl (bif_split h
   (fun c20 h => bif_split h
   (fun c21 h => bif_split h
   (fun c22 h => ret_at hR _ h (fun n => bif Nat.beq n 2 then 10 else n) rfl rfl rfl (rn_tup ⟨(rn_agg ⟨(rn_int rfl), (rn_int rfl), (rn_own (use_own rfl) rfl (snoc_len' mkl_len)), (rn_int rfl), (rn_int rfl), (rn_bool_tf rfl), trivial⟩), (rn_int rfl), trivial⟩) rfl (entl_new (use_own rfl) rfl (Nat.le_of_eq (snoc_len' mkl_len)) (rcs_int (col_snoc' (fun (t : Int × Int × Bool) => t.1) mkl_len (fun _ hj => col_mkl (fun (t : Int × Int × Bool) => t.1) hj)) (rcs_int (col_snoc' (fun (t : Int × Int × Bool) => t.2.1) mkl_len (fun _ hj => col_mkl (fun (t : Int × Int × Bool) => t.2.1) hj)) (rcs_bool (col_snoc' (fun (t : Int × Int × Bool) => t.2.2) mkl_len (fun _ hj => col_mkl (fun (t : Int × Int × Bool) => t.2.2) hj)) rcs_nil))) (entl_bor (use_lo rfl) rfl rfl entl_nil)))
   (fun c22 h => ret_at hR _ h (fun n => bif Nat.beq n 2 then 10 else n) rfl rfl rfl (rn_tup ⟨(rn_agg ⟨(rn_int rfl), (rn_int rfl), (rn_own (use_own rfl) rfl (snoc_len' mkl_len)), (rn_int rfl), (rn_int rfl), (rn_bool_tf rfl), trivial⟩), (rn_int rfl), trivial⟩) rfl (entl_new (use_own rfl) rfl (Nat.le_of_eq (snoc_len' mkl_len)) (rcs_int (col_snoc' (fun (t : Int × Int × Bool) => t.1) mkl_len (fun _ hj => col_mkl (fun (t : Int × Int × Bool) => t.1) hj)) (rcs_int (col_snoc' (fun (t : Int × Int × Bool) => t.2.1) mkl_len (fun _ hj => col_mkl (fun (t : Int × Int × Bool) => t.2.1) hj)) (rcs_bool (col_snoc' (fun (t : Int × Int × Bool) => t.2.2) mkl_len (fun _ hj => col_mkl (fun (t : Int × Int × Bool) => t.2.2) hj)) rcs_nil))) (entl_bor (use_lo rfl) rfl rfl entl_nil))))
   (fun c21 h => no_some h))
   (fun c20 h => ret_at hR _ h (fun n => bif Nat.beq n 2 then 10 else n) rfl rfl rfl (rn_tup ⟨(rn_agg ⟨(rn_int rfl), (rn_int rfl), (rn_own (use_own rfl) rfl (snoc_len' mkl_len)), (rn_int rfl), (rn_int rfl), (rn_bool_tf rfl), trivial⟩), (rn_int rfl), trivial⟩) rfl (entl_new (use_own rfl) rfl (Nat.le_of_eq (snoc_len' mkl_len)) (rcs_int (col_snoc' (fun (t : Int × Int × Bool) => t.1) mkl_len (fun _ hj => col_mkl (fun (t : Int × Int × Bool) => t.1) hj)) (rcs_int (col_snoc' (fun (t : Int × Int × Bool) => t.2.1) mkl_len (fun _ hj => col_mkl (fun (t : Int × Int × Bool) => t.2.1) hj)) (rcs_bool (col_snoc' (fun (t : Int × Int × Bool) => t.2.2) mkl_len (fun _ hj => col_mkl (fun (t : Int × Int × Bool) => t.2.2) hj)) rcs_nil))) (entl_bor (use_lo rfl) rfl rfl entl_nil)))))
   (fun c19 h => no_some h))
   (fun c18 h => no_some h))
   (fun c17 h => no_some h)))
   (fun c16 h => no_some h))
   (fun c15 h => no_some h))
   (fun c14 h => no_some h))))
   (fun c12 h => cond_no c12 (bif_split h
   (fun c13 h => bif_split h
   (fun c14 h => cond_yes rfl (bif_split h
   (fun c15 h => bif_split h
   (fun c16 h => bif_split h
   (fun c17 h => cond_yes rfl (bif_split h
   (fun c18 h => bif_split h
   (fun c19 h => bif_split h
   (fun c20 h => ret_at hR _ h (fun n => bif Nat.beq n 2 then 10 else n) rfl rfl rfl (rn_tup ⟨(rn_agg ⟨(rn_int rfl), (rn_int rfl), (rn_own (use_own rfl) rfl (snoc_len' mkl_len)), (rn_int rfl), (rn_int rfl), (rn_bool_tf rfl), trivial⟩), (rn_int rfl), trivial⟩) rfl (entl_new (use_own rfl) rfl (Nat.le_of_eq (snoc_len' mkl_len)) (rcs_int (col_snoc' (fun (t : Int × Int × Bool) => t.1) mkl_len (fun _ hj => col_mkl (fun (t : Int × Int × Bool) => t.1) hj)) (rcs_int (col_snoc' (fun (t : Int × Int × Bool) => t.2.1) mkl_len (fun _ hj => col_mkl (fun (t : Int × Int × Bool) => t.2.1) hj)) (rcs_bool (col_snoc' (fun (t : Int × Int × Bool) => t.2.2) mkl_len (fun _ hj => col_mkl (fun (t : Int × Int × Bool) => t.2.2) hj)) rcs_nil))) (entl_bor (use_lo rfl) rfl rfl entl_nil)))
   (fun c20 h => ret_at hR _ h (fun n => bif Nat.beq n 2 then 10 else n) rfl rfl rfl (rn_tup ⟨(rn_agg ⟨(rn_int rfl), (rn_int rfl), (rn_own (use_own rfl) rfl (snoc_len' mkl_len)), (rn_int rfl), (rn_int rfl), (rn_bool_tf rfl), trivial⟩), (rn_int rfl), trivial⟩) rfl (entl_new (use_own rfl) rfl (Nat.le_of_eq (snoc_len' mkl_len)) (rcs_int (col_snoc' (fun (t : Int × Int × Bool) => t.1) mkl_len (fun _ hj => col_mkl (fun (t : Int × Int × Bool) => t.1) hj)) (rcs_int (col_snoc' (fun (t : Int × Int × Bool) => t.2.1) mkl_len (fun _ hj => col_mkl (fun (t : Int × Int × Bool) => t.2.1) hj)) (rcs_bool (col_snoc' (fun (t : Int × Int × Bool) => t.2.2) mkl_len (fun _ hj => col_mkl (fun (t : Int × Int × Bool) => t.2.2) hj)) rcs_nil))) (entl_bor (use_lo rfl) rfl rfl entl_nil))))
   (fun c19 h => no_some h))
   (fun c18 h => ret_at hR _ h (fun n => bif Nat.beq n 2 then 10 else n) rfl rfl rfl (rn_tup ⟨(rn_agg ⟨(rn_int rfl), (rn_int rfl), (rn_own (use_own rfl) rfl (snoc_len' mkl_len)), (rn_int rfl), (rn_int rfl), (rn_bool_tf rfl), trivial⟩), (rn_int rfl), trivial⟩) rfl (entl_new (use_own rfl) rfl (Nat.le_of_eq (snoc_len' mkl_len)) (rcs_int (col_snoc' (fun (t : Int × Int × Bool) => t.1) mkl_len (fun _ hj => col_mkl (fun (t : Int × Int × Bool) => t.1) hj)) (rcs_int (col_snoc' (fun (t : Int × Int × Bool) => t.2.1) mkl_len (fun _ hj => col_mkl (fun (t : Int × Int × Bool) => t.2.1) hj)) (rcs_bool (col_snoc' (fun (t : Int × Int × Bool) => t.2.2) mkl_len (fun _ hj => col_mkl (fun (t : Int × Int × Bool) => t.2.2) hj)) rcs_nil))) (entl_bor (use_lo rfl) rfl rfl entl_nil)))))
   (fun c17 h => no_some h))
   (fun c16 h => no_some h))
   (fun c15 h => no_some h)))
   (fun c14 h => no_some h))
   (fun c13 h => no_some h)))))
   (fun c10 h => no_some h))
   (fun c9 h => no_some h))
   (fun c8 h => no_some h))
   (fun c7 h => bif_split h
   (fun c8 h => bif_split h
   (fun c9 h => ret_at hR _ h (fun n => bif Nat.beq n 2 then 399 else n) rfl rfl rfl (rn_tup ⟨(rn_agg ⟨(rn_int rfl), (rn_int rfl), (rn_own_nils rfl), (rn_int rfl), (rn_int rfl), (rn_bool_tf rfl), trivial⟩), (rn_int rfl), trivial⟩) rfl (entl_fresh (use_own rfl) (fresh_ok rfl) (entl_bor (use_lo rfl) rfl rfl entl_nil)))
   (fun c9 h => cond_yes c8 (bif_split h
   (fun c10 h => bif_split h
   (fun c11 h => bif_split h
   (fun c12 h => cond_yes rfl (bif_split h
   (fun c13 h => bif_split h
   (fun c14 h => bif_split h
   (fun c15 h => cond_yes rfl (bif_split h
   (fun c16 h => bif_split h
   (fun c17 h => bif_split h
   (fun c18 h => ret_at hR _ h (fun n => bif Nat.beq n 2 then 10 else n) rfl rfl rfl (rn_tup ⟨(rn_agg ⟨(rn_int rfl), (rn_int rfl), (rn_own (use_own rfl) rfl (snoc_len' mkl_len)), (rn_int rfl), (rn_int rfl), (rn_bool_tf rfl), trivial⟩), (rn_int rfl), trivial⟩) rfl (entl_new (use_own rfl) rfl (Nat.le_of_eq (snoc_len' mkl_len)) (rcs_int (col_snoc' (fun (t : Int × Int × Bool) => t.1) mkl_len (fun _ hj => col_mkl (fun (t : Int × Int × Bool) => t.1) hj)) (rcs_int (col_snoc' (fun (t : Int × Int × Bool) => t.2.1) mkl_len (fun _ hj => col_mkl (fun (t : Int × Int × Bool) => t.2.1) hj)) (rcs_bool (col_snoc' (fun (t : Int × Int × Bool) => t.2.2) mkl_len (fun _ hj => col_mkl (fun (t : Int × Int × Bool) => t.2.2) hj)) rcs_nil))) (entl_bor (use_lo rfl) rfl rfl entl_nil)))
   (fun c18 h => ret_at hR _ h (fun n => bif Nat.beq n 2 then 10 else n) rfl rfl rfl (rn_tup ⟨(rn_agg ⟨(rn_int rfl), (rn_int rfl), (rn_own (use_own rfl) rfl (snoc_len' mkl_len)), (rn_int rfl), (rn_int rfl), (rn_bool_tf rfl), trivial⟩), (rn_int rfl), trivial⟩) rfl (entl_new (use_own rfl) rfl (Nat.le_of_eq (snoc_len' mkl_len)) (rcs_int (col_snoc' (fun (t : Int × Int × Bool) => t.1) mkl_len (fun _ hj => col_mkl (fun (t : Int × Int × Bool) => t.1) hj)) (rcs_int (col_snoc' (fun (t : Int × Int × Bool) => t.2.1) mkl_len (fun _ hj => col_mkl (fun (t : Int × Int × Bool) => t.2.1) hj)) (rcs_bool (col_snoc' (fun (t : Int × Int × Bool) => t.2.2) mkl_len (fun _ hj => col_mkl (fun (t : Int × Int × Bool) => t.2.2) hj)) rcs_nil))) (entl_bor (use_lo rfl) rfl rfl entl_nil))))
   (fun c17 h => no_some h))
   (fun c16 h => ret_at hR _ h (fun n => bif Nat.beq n 2 then 10 else n) rfl rfl rfl (rn_tup ⟨(rn_agg ⟨(rn_int rfl), (rn_int rfl), (rn_own (use_own rfl) rfl (snoc_len' mkl_len)), (rn_int rfl), (rn_int rfl), (rn_bool_tf rfl), trivial⟩), (rn_int rfl), trivial⟩) rfl (entl_new (use_own rfl) rfl (Nat.le_of_eq (snoc_len' mkl_len)) (rcs_int (col_snoc' (fun (t : Int × Int × Bool) => t.1) mkl_len (fun _ hj => col_mkl (fun (t : Int × Int × Bool) => t.1) hj)) (rcs_int (col_snoc' (fun (t : Int × Int × Bool) => t.2.1) mkl_len (fun _ hj => col_mkl (fun (t : Int × Int × Bool) => t.2.1) hj)) (rcs_bool (col_snoc' (fun (t : Int × Int × Bool) => t.2.2) mkl_len (fun _ hj => col_mkl (fun (t : Int × Int × Bool) => t.2.2) hj)) rcs_nil))) (entl_bor (use_lo rfl) rfl rfl entl_nil)))))
   (fun c15 h => no_some h))
   (fun c14 h => no_some h))
   (fun c13 h => no_some h)))
   (fun c12 h => no_some h))
   (fun c11 h => no_some h))
   (fun c10 h => no_some h))))
   (fun c8 h => cond_no c8 (bif_split h
   (fun c9 h => bif_split h
   (fun c10 h => cond_yes rfl (bif_split h
   (fun c11 h => bif_split h
   (fun c12 h => bif_split h
   (fun c13 h => cond_yes rfl (bif_split h
   (fun c14 h => bif_split h
   (fun c15 h => bif_split h
   (fun c16 h => ret_at hR _ h (fun n => bif Nat.beq n 2 then 10 else n) rfl rfl rfl (rn_tup ⟨(rn_agg ⟨(rn_int rfl), (rn_int rfl), (rn_own (use_own rfl) rfl (snoc_len' mkl_len)), (rn_int rfl), (rn_int rfl), (rn_bool_tf rfl), trivial⟩), (rn_int rfl), trivial⟩) rfl (entl_new (use_own rfl) rfl (Nat.le_of_eq (snoc_len' mkl_len)) (rcs_int (col_snoc' (fun (t : Int × Int × Bool) => t.1) mkl_len (fun _ hj => col_mkl (fun (t : Int × Int × Bool) => t.1) hj)) (rcs_int (col_snoc' (fun (t : Int × Int × Bool) => t.2.1) mkl_len (fun _ hj => col_mkl (fun (t : Int × Int × Bool) => t.2.1) hj)) (rcs_bool (col_snoc' (fun (t : Int × Int × Bool) => t.2.2) mkl_len (fun _ hj => col_mkl (fun (t : Int × Int × Bool) => t.2.2) hj)) rcs_nil))) (entl_bor (use_lo rfl) rfl rfl entl_nil)))
   (fun c16 h => ret_at hR _ h (fun n => bif Nat.beq n 2 then 10 else n) rfl rfl rfl (rn_tup ⟨(rn_agg ⟨(rn_int rfl), (rn_int rfl), (rn_own (use_own rfl) rfl (snoc_len' mkl_len)), (rn_int rfl), (rn_int rfl), (rn_bool_tf rfl), trivial⟩), (rn_int rfl), trivial⟩) rfl (entl_new (use_own rfl) rfl (Nat.le_of_eq (snoc_len' mkl_len)) (rcs_int (col_snoc' (fun (t : Int × Int × Bool) => t.1) mkl_len (fun _ hj => col_mkl (fun (t : Int × Int × Bool) => t.1) hj)) (rcs_int (col_snoc' (fun (t : Int × Int × Bool) => t.2.1) mkl_len (fun _ hj => col_mkl (fun (t : Int × Int × Bool) => t.2.1) hj)) (rcs_bool (col_snoc' (fun (t : Int × Int × Bool) => t.2.2) mkl_len (fun _ hj => col_mkl (fun (t : Int × Int × Bool) => t.2.2) hj)) rcs_nil))) (entl_bor (use_lo rfl) rfl rfl entl_nil))))
   (fun c15 h => no_some h))
   (fun c14 h => ret_at hR _ h (fun n => bif Nat.beq n 2 then 10 else n) rfl rfl rfl (rn_tup ⟨(rn_agg ⟨(rn_int rfl), (rn_int rfl), (rn_own (use_own rfl) rfl (snoc_len' mkl_len)), (rn_int rfl), (rn_int rfl), (rn_bool_tf rfl), trivial⟩), (rn_int rfl), trivial⟩) rfl (entl_new (use_own rfl) rfl (Nat.le_of_eq (snoc_len' mkl_len)) (rcs_int (col_snoc' (fun (t : Int × Int × Bool) => t.1) mkl_len (fun _ hj => col_mkl (fun (t : Int × Int × Bool) => t.1) hj)) (rcs_int (col_snoc' (fun (t : Int × Int × Bool) => t.2.1) mkl_len (fun _ hj => col_mkl (fun (t : Int × Int × Bool) => t.2.1) hj)) (rcs_bool (col_snoc' (fun (t : Int × Int × Bool) => t.2.2) mkl_len (fun _ hj => col_mkl (fun (t : Int × Int × Bool) => t.2.2) hj)) rcs_nil))) (entl_bor (use_lo rfl) rfl rfl entl_nil)))))
   (fun c13 h => no_some h))
   (fun c12 h => no_some h))
   (fun c11 h => no_some h)))
   (fun c10 h => no_some h))
   (fun c9 h => no_some h)))))
   (fun c6 h => ret_at hR _ h (fun n => bif Nat.beq n 2 then 399 else n) rfl rfl rfl (rn_tup ⟨(rn_agg ⟨(rn_int rfl), (rn_int rfl), (rn_own_nils rfl), (rn_int rfl), (rn_int rfl), (rn_bool_tf rfl), trivial⟩), (rn_int rfl), trivial⟩) rfl (entl_fresh (use_own rfl) (fresh_ok rfl) (entl_bor (use_lo rfl) rfl rfl entl_nil))))
   (fun c5 h => ret_at hR _ h (fun n => bif Nat.beq n 2 then 399 else n) rfl rfl rfl (rn_tup ⟨(rn_agg ⟨(rn_int rfl), (rn_int rfl), (rn_own_nils rfl), (rn_int rfl), (rn_int rfl), (rn_bool_tf rfl), trivial⟩), (rn_int rfl), trivial⟩) rfl (entl_fresh (use_own rfl) (fresh_ok rfl) (entl_bor (use_lo rfl) rfl rfl entl_nil))))
   (fun c4 h => ret_at hR _ h (fun n => bif Nat.beq n 2 then 399 else n) rfl rfl rfl (rn_tup ⟨(rn_agg ⟨(rn_int rfl), (rn_int rfl), (rn_own_nils rfl), (rn_int rfl), (rn_int rfl), (rn_bool_tf rfl), trivial⟩), (rn_int rfl), trivial⟩) rfl (entl_fresh (use_own rfl) (fresh_ok rfl) (entl_bor (use_lo rfl) rfl rfl entl_nil))))
   (fun c3 h => ret_at hR _ h (fun n => bif Nat.beq n 2 then 399 else n) rfl rfl rfl (rn_tup ⟨(rn_agg ⟨(rn_int rfl), (rn_int rfl), (rn_own_nils rfl), (rn_int rfl), (rn_int rfl), (rn_bool_tf rfl), trivial⟩), (rn_int rfl), trivial⟩) rfl (entl_fresh (use_own rfl) (fresh_ok rfl) (entl_bor (use_lo rfl) rfl rfl entl_nil))))))
   (fun c0 h => no_some h)
theorem a14 (ca : Int) (af : Int) (al nl ml : Nat) (tl : Nat → Int) (vl : Nat → Int) (gl : Nat → Bool) (ov : Int) (re : Int) (fz : Bool) (st : Int) (sv : Int) (sg : Bool) {r : Rt14} (h : Goes ((q14 ca af al nl ml tl vl gl ov re fz st sv sg)) ((p14 ca af al nl ml tl vl gl ov re fz st sv sg)) r) : CallR Try.prog 14 [.agg [.int .i64 ca, .int .i64 af, .loose ⟨0, 3, al, 0⟩ nl, .int .i64 ov, .int .i64 re, .bool fz], .agg [.int .i64 st, .int .i64 sv, .bool sg]] [[(0, (false, .cols ml [.int .i64 tl, .int .i64 vl, .bool gl]))]] 1 ((V14 ca af al nl ml tl vl gl ov re fz st sv sg) r) ((fun r => [newL (1 + 1) ((N14 ca af al nl ml tl vl gl ov re fz st sv sg) r) ++ [(0, (false, .cols ml [.int .i64 tl, .int .i64 vl, .bool gl]))]]) r) 400 ∧ ∃ F, Try.prog.funcs[14]? = some F ∧ F.body.isSome = true ∧ (F.name == "runtime.NumGoroutine") = false := by
  refine dec_calls (f := 14) (lo := 1) (hi := 400) (H := [[(0, (false, .cols ml [.int .i64 tl, .int .i64 vl, .bool gl]))]]) (args := [.agg [.int .i64 ca, .int .i64 af, .loose ⟨0, 3, al, 0⟩ nl, .int .i64 ov, .int .i64 re, .bool fz], .agg [.int .i64 st, .int .i64 sv, .bool sg]]) Try.envOk Try.mixed xB_ok ((I14 ca af al nl ml tl vl gl ov re fz st sv sg)) ((V14 ca af al nl ml tl vl gl ov re fz st sv sg)) (fun r => [newL (1 + 1) ((N14 ca af al nl ml tl vl gl ov re fz st sv sg) r) ++ [(0, (false, .cols ml [.int .i64 tl, .int .i64 vl, .bool gl]))]]) (fn := mkFn Try.f14) (ts := []) (n := 400) rfl (by decide) (by simp) (names_of rfl) ?_ ?_ ?_ h
  · intro s; exact s.elim
  · intro Kst Kret x hS hR h
    exact Holds.eq (te14 cond Kst Kret ca af al nl ml tl vl gl ov re fz st sv sg) (be14 ca af al nl ml tl vl gl ov re fz st sv sg Kst Kret x hS hR h)
  · intro Kst Kret x hS hR s h; exact s.elim
noncomputable def k14 : Con := ⟨14, [.agg [.plain (.int .i64), .plain (.int .i64), .list [.int .i64, .int .i64, .bool], .plain (.int .i64), .plain (.int .i64), .plain (.bool)], .agg [.plain (.int .i64), .plain (.int .i64), .plain (.bool)]], fun (x : (Int × Int × (Nat × Nat × Nat × (Nat → Int) × (Nat → Int) × (Nat → Bool) × Unit) × Int × Int × Bool × Unit) × (Int × Int × Bool × Unit) × Unit) => (fun (ca : Int) (af : Int) (al nl ml : Nat) (tl : Nat → Int) (vl : Nat → Int) (gl : Nat → Bool) (ov : Int) (re : Int) (fz : Bool) (st : Int) (sv : Int) (sg : Bool) => decide (al + nl ≤ ml ∧ nl ≤ 1000000)) x.1.1 x.1.2.1 x.1.2.2.1.1 x.1.2.2.1.2.1 x.1.2.2.1.2.2.1 x.1.2.2.1.2.2.2.1 x.1.2.2.1.2.2.2.2.1 x.1.2.2.1.2.2.2.2.2.1 x.1.2.2.2.1 x.1.2.2.2.2.1 x.1.2.2.2.2.2.1 x.2.1.1 x.2.1.2.1 x.2.1.2.2.1, fun (x : (Int × Int × (Nat × Nat × Nat × (Nat → Int) × (Nat → Int) × (Nat → Bool) × Unit) × Int × Int × Bool × Unit) × (Int × Int × Bool × Unit) × Unit) => (fun (ca : Int) (af : Int) (al nl ml : Nat) (tl : Nat → Int) (vl : Nat → Int) (gl : Nat → Bool) (ov : Int) (re : Int) (fz : Bool) (st : Int) (sv : Int) (sg : Bool) => (V14 ca af al nl ml tl vl gl ov re fz st sv sg) (S.putS ca af nl (fun j => tl (j + al)) (fun j => vl (j + al)) (fun j => gl (j + al)) ov re fz st sv sg)) x.1.1 x.1.2.1 x.1.2.2.1.1 x.1.2.2.1.2.1 x.1.2.2.1.2.2.1 x.1.2.2.1.2.2.2.1 x.1.2.2.1.2.2.2.2.1 x.1.2.2.1.2.2.2.2.2.1 x.1.2.2.2.1 x.1.2.2.2.2.1 x.1.2.2.2.2.2.1 x.2.1.1 x.2.1.2.1 x.2.1.2.2.1, fun (x : (Int × Int × (Nat × Nat × Nat × (Nat → Int) × (Nat → Int) × (Nat → Bool) × Unit) × Int × Int × Bool × Unit) × (Int × Int × Bool × Unit) × Unit) => (fun (ca : Int) (af : Int) (al nl ml : Nat) (tl : Nat → Int) (vl : Nat → Int) (gl : Nat → Bool) (ov : Int) (re : Int) (fz : Bool) (st : Int) (sv : Int) (sg : Bool) => (N14 ca af al nl ml tl vl gl ov re fz st sv sg) (S.putS ca af nl (fun j => tl (j + al)) (fun j => vl (j + al)) (fun j => gl (j + al)) ov re fz st sv sg)) x.1.1 x.1.2.1 x.1.2.2.1.1 x.1.2.2.1.2.1 x.1.2.2.1.2.2.1 x.1.2.2.1.2.2.2.1 x.1.2.2.1.2.2.2.2.1 x.1.2.2.1.2.2.2.2.2.1 x.1.2.2.2.1 x.1.2.2.2.2.1 x.1.2.2.2.2.2.1 x.2.1.1 x.2.1.2.1 x.2.1.2.2.1⟩
set_option maxHeartbeats 4000000 in
theorem s14 (ca : Int) (af : Int) (al nl ml : Nat) (tl : Nat → Int) (vl : Nat → Int) (gl : Nat → Bool) (ov : Int) (re : Int) (fz : Bool) (st : Int) (sv : Int) (sg : Bool) (hp : al + nl ≤ ml ∧ nl ≤ 1000000) : Goes ((q14 ca af al nl ml tl vl gl ov re fz st sv sg)) ((p14 ca af al nl ml tl vl gl ov re fz st sv sg)) (S.putS ca af nl (fun j => tl (j + al)) (fun j => vl (j + al)) (fun j => gl (j + al)) ov re fz st sv sg) := by
  obtain ⟨hp1, hp2⟩ := hp
  have hv : S.vB ca af nl (fun j => tl (j + al)) (fun j => vl (j + al)) ov re fz = 0 → _ := vB_ok
  generalize he : S.vB ca af nl (fun j => tl (j + al)) (fun j => vl (j + al)) ov re fz = e at hv
  by_cases h0 : e = 0
  · obtain ⟨v1, v2, v3, v4, v5, v6, v7, v8, v9, v10, v11, v12, -⟩ := hv h0
    subst h0
    cases fz <;> simp only [Bool.false_eq_true, true_imp_iff, false_imp_iff, imp_false, eq_self, reduceCtorEq, Bool.true_eq_false] at v10 v11 <;> (
    show Goes _ _ _
    unfold p14; rw [he]
    repeat' first
      | with_reducible refine goes_if (fun h => ?_) (fun h => ?_) <;> (try simp only [lim64, decide_eq_true_eq, decide_eq_false_iff_not, Int.toNat_natCast, toNat_pred, toNat_succ, Option.getD_some, Option.getD_none, Bool.not_eq_true', Bool.not_eq_false', Bool.and_eq_true, Bool.or_eq_true, Bool.and_eq_false_iff, Bool.or_eq_false_iff, bne_iff_ne, beq_iff_eq, bne_eq_false_iff_eq, beq_eq_false_iff_ne, ne_eq, not_and, Int.not_le, Int.not_lt, ge_iff_le, gt_iff_lt, Nat.not_lt, Nat.not_le, Bool.not_eq_true, Bool.not_eq_false, Bool.true_eq_false, Bool.false_eq_true, not_false_eq_true, not_true_eq_false] at h)
      | exact goes_none.mpr (by omega)
    all_goals first | (exfalso; omega) | (refine goes_inr.mpr ?_; simp only [S.putS, S.putE, he, S.okS, decide_eq_true_eq, S.noB, Nat.add_assoc, Nat.zero_add, Nat.add_zero, toNat_pred]; (repeat' split) <;> first | rfl | omega | (exfalso; simp_all; done) | (exfalso; simp_all; omega)))
  · show Goes _ _ _
    unfold p14; rw [he]
    repeat' first
      | with_reducible refine goes_if (fun h => ?_) (fun h => ?_) <;> (try simp only [lim64, decide_eq_true_eq, decide_eq_false_iff_not, Int.toNat_natCast, toNat_pred, toNat_succ, Option.getD_some, Option.getD_none, Bool.not_eq_true', Bool.not_eq_false', Bool.and_eq_true, Bool.or_eq_true, Bool.and_eq_false_iff, Bool.or_eq_false_iff, bne_iff_ne, beq_iff_eq, bne_eq_false_iff_eq, beq_eq_false_iff_ne, ne_eq, not_and, Int.not_le, Int.not_lt, ge_iff_le, gt_iff_lt, Nat.not_lt, Nat.not_le, Bool.not_eq_true, Bool.not_eq_false, Bool.true_eq_false, Bool.false_eq_true, not_false_eq_true, not_true_eq_false] at h)
      | exact goes_none.mpr (by omega)
    all_goals first | (exfalso; omega) | (refine goes_inr.mpr ?_; simp only [S.putS, S.putE, he, S.okS, decide_eq_true_eq, S.noB, Nat.add_assoc, Nat.zero_add, Nat.add_zero, toNat_pred]; (repeat' split) <;> first | rfl | omega | (exfalso; simp_all; done) | (exfalso; simp_all; omega))

theorem k14_ok : k14.ok Try.prog := by
  intro x hx
  obtain ⟨⟨ca, af, ⟨al, nl, ml, tl, vl, gl, _⟩, ov, re, fz, _⟩, ⟨st, sv, sg, _⟩, _⟩ := x
  obtain ⟨h1, h2⟩ := a14 ca af al nl ml tl vl gl ov re fz st sv sg (s14 ca af al nl ml tl vl gl ov re fz st sv sg (of_decide_eq_true hx))
  exact ⟨⟨400, (by decide : 1 + 1 + 1 ≤ 400), h1⟩, h2⟩

end Go.Ev
