/-
  The parts that the statement needs, 3 of 3.
-/
import Derived.Test.YtlmomkdmbacbpaaDoorV42
namespace Go.Ev
open Go.Proofs
set_option linter.unusedVariables false
set_option linter.unusedSimpArgs false
set_option maxRecDepth 100000
noncomputable def Te4 (test : Bool → Prop → Prop → Prop) (Kst : KS) (Kret : KR) (n1 : Bool) (ap np mp : Nat) (tp : Nat → Int) (n2 : Bool) (aq nq mq : Nat) (tq : Nat → Int) : Prop :=
  test (true)
 (test (true)
 (test (true)
 (test (true)
 (test (lim IntKind.i64 ((0 : Int) + (↑np : Int)))
 (test (true)
 (test (true)
 (test (true)
 (test (lim IntKind.i64 ((0 : Int) + (↑np : Int) + (↑nq : Int)))
 (test (true)
 (test (false)
 (test (false)
 (False)
 (False))
 (test (decide ((0 : Int) + (↑np : Int) + (↑nq : Int) ≤ (170 : Int)))
 (test (decide (ap + np ≤ mp ∧ np ≤ 1000000))
 (test (decide (aq + nq ≤ mq ∧ nq ≤ 1000000))
 (test (decide
 ((0 + List.length (S.mkl np fun j => tp (j + ap)) ≤
 List.length (S.mkl np fun j => tp (j + ap)) ∧
 List.length (S.mkl np fun j => tp (j + ap)) ≤ 1000000) ∧
 0 + List.length (S.mkl nq fun j => tq (j + aq)) ≤
 List.length (S.mkl nq fun j => tq (j + aq)) ∧
 List.length (S.mkl nq fun j => tq (j + aq)) ≤ 1000000))
 (test (decide ((ap + np ≤ mp ∧ np ≤ 1000000) ∧ aq + nq ≤ mq ∧ nq ≤ 1000000))
 (test (decide (ap + np ≤ mp ∧ np ≤ 1000000))
 (test (decide (aq + nq ≤ mq ∧ nq ≤ 1000000))
 (test (decide
 ((0 + List.length (S.mkl np fun j => tp (j + ap)) ≤
 List.length (S.mkl np fun j => tp (j + ap)) ∧
 List.length (S.mkl np fun j => tp (j + ap)) ≤ 1000000) ∧
 0 + List.length (S.mkl nq fun j => tq (j + aq)) ≤
 List.length (S.mkl nq fun j => tq (j + aq)) ∧
 List.length (S.mkl nq fun j => tq (j + aq)) ≤ 1000000))
 (test (decide ((ap + np ≤ mp ∧ np ≤ 1000000) ∧ aq + nq ≤ mq ∧ nq ≤ 1000000))
 (test (Prod.fst
 (Prod.snd
 (S.addS n1 (List.length (S.mkl np fun j => tp (j + ap)))
 (fun j => S.at' (S.mkl np fun j => tp (j + ap)) j) n2
 (List.length (S.mkl nq fun j => tq (j + aq))) fun j =>
 S.at' (S.mkl nq fun j => tq (j + aq)) j)) !=
 (S.addS n1 np (fun j => tp (j + ap)) n2 nq fun j => tq (j + aq)).2.1)
 (test (Prod.fst
 (Prod.snd
 (S.addS n1 (List.length (S.mkl np fun j => tp (j + ap)))
 (fun j => S.at' (S.mkl np fun j => tp (j + ap)) j) n2
 (List.length (S.mkl nq fun j => tq (j + aq))) fun j =>
 S.at' (S.mkl nq fun j => tq (j + aq)) j)) ==
 (S.addS n1 np (fun j => tp (j + ap)) n2 nq fun j => tq (j + aq)).2.1)
 (test (decide
 ((0 +
 List.length
 (Prod.snd
 (Prod.snd
 (S.addS n1 (List.length (S.mkl np fun j => tp (j + ap)))
 (fun j => S.at' (S.mkl np fun j => tp (j + ap)) j) n2
 (List.length (S.mkl nq fun j => tq (j + aq))) fun j =>
 S.at' (S.mkl nq fun j => tq (j + aq)) j))) ≤
 List.length
 (Prod.snd
 (Prod.snd
 (S.addS n1 (List.length (S.mkl np fun j => tp (j + ap)))
 (fun j => S.at' (S.mkl np fun j => tp (j + ap)) j) n2
 (List.length (S.mkl nq fun j => tq (j + aq))) fun j =>
 S.at' (S.mkl nq fun j => tq (j + aq)) j))) ∧
 List.length
 (Prod.snd
 (Prod.snd
 (S.addS n1 (List.length (S.mkl np fun j => tp (j + ap)))
 (fun j => S.at' (S.mkl np fun j => tp (j + ap)) j) n2
 (List.length (S.mkl nq fun j => tq (j + aq))) fun j =>
 S.at' (S.mkl nq fun j => tq (j + aq)) j))) ≤
 1000000) ∧
 0 +
 List.length
 (Prod.snd
 ((S.addS n1 np (fun j => tp (j + ap)) n2 nq fun j => tq (j + aq)).2)) ≤
 List.length
 ((S.addS n1 np (fun j => tp (j + ap)) n2 nq fun j => tq (j + aq)).2.2) ∧
 List.length
 ((S.addS n1 np (fun j => tp (j + ap)) n2 nq fun j => tq (j + aq)).2.2) ≤
 1000000))
 (test (S.samI
 (Prod.fst
 (S.addS n1 (List.length (S.mkl np fun j => tp (j + ap)))
 (fun j => S.at' (S.mkl np fun j => tp (j + ap)) j) n2
 (List.length (S.mkl nq fun j => tq (j + aq))) fun j =>
 S.at' (S.mkl nq fun j => tq (j + aq)) j))
 (List.length
 (Prod.snd
 (Prod.snd
 (S.addS n1 (List.length (S.mkl np fun j => tp (j + ap)))
 (fun j => S.at' (S.mkl np fun j => tp (j + ap)) j) n2
 (List.length (S.mkl nq fun j => tq (j + aq))) fun j =>
 S.at' (S.mkl nq fun j => tq (j + aq)) j))))
 (fun j =>
 S.at'
 (Prod.snd
 (Prod.snd
 (S.addS n1 (List.length (S.mkl np fun j => tp (j + ap)))
 (fun j => S.at' (S.mkl np fun j => tp (j + ap)) j) n2
 (List.length (S.mkl nq fun j => tq (j + aq))) fun j =>
 S.at' (S.mkl nq fun j => tq (j + aq)) j)))
 j)
 ((S.addS n1 np (fun j => tp (j + ap)) n2 nq fun j => tq (j + aq)).1)
 (List.length
 ((S.addS n1 np (fun j => tp (j + ap)) n2 nq fun j => tq (j + aq)).2.2))
 fun j =>
 S.at'
 ((S.addS n1 np (fun j => tp (j + ap)) n2 nq fun j => tq (j + aq)).2.2) j)
 (test (Prod.fst
 (Prod.snd
 (S.subI n1 (List.length (S.mkl np fun j => tp (j + ap)))
 (fun j => S.at' (S.mkl np fun j => tp (j + ap)) j) n2
 (List.length (S.mkl nq fun j => tq (j + aq))) fun j =>
 S.at' (S.mkl nq fun j => tq (j + aq)) j)) ==
 (S.subI n1 np (fun j => tp (j + ap)) n2 nq fun j => tq (j + aq)).2.1)
 (test (decide
 ((0 +
 List.length
 (Prod.snd
 (Prod.snd
 (S.subI n1 (List.length (S.mkl np fun j => tp (j + ap)))
 (fun j => S.at' (S.mkl np fun j => tp (j + ap)) j) n2
 (List.length (S.mkl nq fun j => tq (j + aq))) fun j =>
 S.at' (S.mkl nq fun j => tq (j + aq)) j))) ≤
 List.length
 (Prod.snd
 (Prod.snd
 (S.subI n1 (List.length (S.mkl np fun j => tp (j + ap)))
 (fun j => S.at' (S.mkl np fun j => tp (j + ap)) j) n2
 (List.length (S.mkl nq fun j => tq (j + aq))) fun j =>
 S.at' (S.mkl nq fun j => tq (j + aq)) j))) ∧
 List.length
 (Prod.snd
 (Prod.snd
 (S.subI n1 (List.length (S.mkl np fun j => tp (j + ap)))
 (fun j => S.at' (S.mkl np fun j => tp (j + ap)) j) n2
 (List.length (S.mkl nq fun j => tq (j + aq))) fun j =>
 S.at' (S.mkl nq fun j => tq (j + aq)) j))) ≤
 1000000) ∧
 0 +
 List.length
 (Prod.snd
 ((S.subI n1 np (fun j => tp (j + ap)) n2 nq fun j => tq (j + aq)).2)) ≤
 List.length
 ((S.subI n1 np (fun j => tp (j + ap)) n2 nq fun j => tq (j + aq)).2.2) ∧
 List.length
 ((S.subI n1 np (fun j => tp (j + ap)) n2 nq fun j => tq (j + aq)).2.2) ≤
 1000000))
 (test (S.samI
 (Prod.fst
 (S.subI n1 (List.length (S.mkl np fun j => tp (j + ap)))
 (fun j => S.at' (S.mkl np fun j => tp (j + ap)) j) n2
 (List.length (S.mkl nq fun j => tq (j + aq))) fun j =>
 S.at' (S.mkl nq fun j => tq (j + aq)) j))
 (List.length
 (Prod.snd
 (Prod.snd
 (S.subI n1 (List.length (S.mkl np fun j => tp (j + ap)))
 (fun j => S.at' (S.mkl np fun j => tp (j + ap)) j) n2
 (List.length (S.mkl nq fun j => tq (j + aq))) fun j =>
 S.at' (S.mkl nq fun j => tq (j + aq)) j))))
 (fun j =>
 S.at'
 (Prod.snd
 (Prod.snd
 (S.subI n1 (List.length (S.mkl np fun j => tp (j + ap)))
 (fun j => S.at' (S.mkl np fun j => tp (j + ap)) j) n2
 (List.length (S.mkl nq fun j => tq (j + aq))) fun j =>
 S.at' (S.mkl nq fun j => tq (j + aq)) j)))
 j)
 ((S.subI n1 np (fun j => tp (j + ap)) n2 nq fun j => tq (j + aq)).1)
 (List.length
 ((S.subI n1 np (fun j => tp (j + ap)) n2 nq fun j => tq (j + aq)).2.2))
 fun j =>
 S.at'
 ((S.subI n1 np (fun j => tp (j + ap)) n2 nq fun j => tq (j + aq)).2.2) j)
 (Kret (PV.tf true) ([[(1, false, Blk.cols mq [Col.int IntKind.i64 tq]),
 (0, false, Blk.cols mp [Col.int IntKind.i64 tp])]]) (28))
 (Kret (PV.tf false) ([[(1, false, Blk.cols mq [Col.int IntKind.i64 tq]),
 (0, false, Blk.cols mp [Col.int IntKind.i64 tp])]]) (28)))
 (False))
 (Kret (PV.tf false) ([[(1, false, Blk.cols mq [Col.int IntKind.i64 tq]),
 (0, false, Blk.cols mp [Col.int IntKind.i64 tp])]]) (27)))
 (Kret (PV.tf false) ([[(1, false, Blk.cols mq [Col.int IntKind.i64 tq]),
 (0, false, Blk.cols mp [Col.int IntKind.i64 tp])]]) (27)))
 (False))
 (Kret (PV.tf false) ([[(1, false, Blk.cols mq [Col.int IntKind.i64 tq]),
 (0, false, Blk.cols mp [Col.int IntKind.i64 tp])]]) (26)))
 (test (decide
 ((0 +
 List.length
 (Prod.snd
 (Prod.snd
 (S.addS n1 (List.length (S.mkl np fun j => tp (j + ap)))
 (fun j => S.at' (S.mkl np fun j => tp (j + ap)) j) n2
 (List.length (S.mkl nq fun j => tq (j + aq))) fun j =>
 S.at' (S.mkl nq fun j => tq (j + aq)) j))) ≤
 List.length
 (Prod.snd
 (Prod.snd
 (S.addS n1 (List.length (S.mkl np fun j => tp (j + ap)))
 (fun j => S.at' (S.mkl np fun j => tp (j + ap)) j) n2
 (List.length (S.mkl nq fun j => tq (j + aq))) fun j =>
 S.at' (S.mkl nq fun j => tq (j + aq)) j))) ∧
 List.length
 (Prod.snd
 (Prod.snd
 (S.addS n1 (List.length (S.mkl np fun j => tp (j + ap)))
 (fun j => S.at' (S.mkl np fun j => tp (j + ap)) j) n2
 (List.length (S.mkl nq fun j => tq (j + aq))) fun j =>
 S.at' (S.mkl nq fun j => tq (j + aq)) j))) ≤
 1000000) ∧
 0 +
 List.length
 (Prod.snd
 ((S.addS n1 np (fun j => tp (j + ap)) n2 nq fun j => tq (j + aq)).2)) ≤
 List.length
 ((S.addS n1 np (fun j => tp (j + ap)) n2 nq fun j => tq (j + aq)).2.2) ∧
 List.length
 ((S.addS n1 np (fun j => tp (j + ap)) n2 nq fun j => tq (j + aq)).2.2) ≤
 1000000))
 (test (S.samI
 (Prod.fst
 (S.addS n1 (List.length (S.mkl np fun j => tp (j + ap)))
 (fun j => S.at' (S.mkl np fun j => tp (j + ap)) j) n2
 (List.length (S.mkl nq fun j => tq (j + aq))) fun j =>
 S.at' (S.mkl nq fun j => tq (j + aq)) j))
 (List.length
 (Prod.snd
 (Prod.snd
 (S.addS n1 (List.length (S.mkl np fun j => tp (j + ap)))
 (fun j => S.at' (S.mkl np fun j => tp (j + ap)) j) n2
 (List.length (S.mkl nq fun j => tq (j + aq))) fun j =>
 S.at' (S.mkl nq fun j => tq (j + aq)) j))))
 (fun j =>
 S.at'
 (Prod.snd
 (Prod.snd
 (S.addS n1 (List.length (S.mkl np fun j => tp (j + ap)))
 (fun j => S.at' (S.mkl np fun j => tp (j + ap)) j) n2
 (List.length (S.mkl nq fun j => tq (j + aq))) fun j =>
 S.at' (S.mkl nq fun j => tq (j + aq)) j)))
 j)
 ((S.addS n1 np (fun j => tp (j + ap)) n2 nq fun j => tq (j + aq)).1)
 (List.length
 ((S.addS n1 np (fun j => tp (j + ap)) n2 nq fun j => tq (j + aq)).2.2))
 fun j =>
 S.at'
 ((S.addS n1 np (fun j => tp (j + ap)) n2 nq fun j => tq (j + aq)).2.2) j)
 (test (Prod.fst
 (Prod.snd
 (S.subI n1 (List.length (S.mkl np fun j => tp (j + ap)))
 (fun j => S.at' (S.mkl np fun j => tp (j + ap)) j) n2
 (List.length (S.mkl nq fun j => tq (j + aq))) fun j =>
 S.at' (S.mkl nq fun j => tq (j + aq)) j)) !=
 (S.subI n1 np (fun j => tp (j + ap)) n2 nq fun j => tq (j + aq)).2.1)
 (test (Prod.fst
 (Prod.snd
 (S.addS n1 (List.length (S.mkl np fun j => tp (j + ap)))
 (fun j => S.at' (S.mkl np fun j => tp (j + ap)) j) n2
 (List.length (S.mkl nq fun j => tq (j + aq))) fun j =>
 S.at' (S.mkl nq fun j => tq (j + aq)) j)) ==
 (S.addS n1 np (fun j => tp (j + ap)) n2 nq fun j => tq (j + aq)).2.1)
 (test (decide
 ((0 +
 List.length
 (Prod.snd
 (Prod.snd
 (S.addS n1 (List.length (S.mkl np fun j => tp (j + ap)))
 (fun j => S.at' (S.mkl np fun j => tp (j + ap)) j) n2
 (List.length (S.mkl nq fun j => tq (j + aq))) fun j =>
 S.at' (S.mkl nq fun j => tq (j + aq)) j))) ≤
 List.length
 (Prod.snd
 (Prod.snd
 (S.addS n1 (List.length (S.mkl np fun j => tp (j + ap)))
 (fun j => S.at' (S.mkl np fun j => tp (j + ap)) j) n2
 (List.length (S.mkl nq fun j => tq (j + aq))) fun j =>
 S.at' (S.mkl nq fun j => tq (j + aq)) j))) ∧
 List.length
 (Prod.snd
 (Prod.snd
 (S.addS n1 (List.length (S.mkl np fun j => tp (j + ap)))
 (fun j => S.at' (S.mkl np fun j => tp (j + ap)) j) n2
 (List.length (S.mkl nq fun j => tq (j + aq))) fun j =>
 S.at' (S.mkl nq fun j => tq (j + aq)) j))) ≤
 1000000) ∧
 0 +
 List.length
 (Prod.snd
 ((S.addS n1 np (fun j => tp (j + ap)) n2 nq fun j => tq (j + aq)).2)) ≤
 List.length
 ((S.addS n1 np (fun j => tp (j + ap)) n2 nq fun j => tq (j + aq)).2.2) ∧
 List.length
 ((S.addS n1 np (fun j => tp (j + ap)) n2 nq fun j => tq (j + aq)).2.2) ≤
 1000000))
 (test (S.samI
 (Prod.fst
 (S.addS n1 (List.length (S.mkl np fun j => tp (j + ap)))
 (fun j => S.at' (S.mkl np fun j => tp (j + ap)) j) n2
 (List.length (S.mkl nq fun j => tq (j + aq))) fun j =>
 S.at' (S.mkl nq fun j => tq (j + aq)) j))
 (List.length
 (Prod.snd
 (Prod.snd
 (S.addS n1 (List.length (S.mkl np fun j => tp (j + ap)))
 (fun j => S.at' (S.mkl np fun j => tp (j + ap)) j) n2
 (List.length (S.mkl nq fun j => tq (j + aq))) fun j =>
 S.at' (S.mkl nq fun j => tq (j + aq)) j))))
 (fun j =>
 S.at'
 (Prod.snd
 (Prod.snd
 (S.addS n1 (List.length (S.mkl np fun j => tp (j + ap)))
 (fun j => S.at' (S.mkl np fun j => tp (j + ap)) j) n2
 (List.length (S.mkl nq fun j => tq (j + aq))) fun j =>
 S.at' (S.mkl nq fun j => tq (j + aq)) j)))
 j)
 ((S.addS n1 np (fun j => tp (j + ap)) n2 nq fun j => tq (j + aq)).1)
 (List.length
 ((S.addS n1 np (fun j => tp (j + ap)) n2 nq fun j => tq (j + aq)).2.2))
 fun j =>
 S.at'
 ((S.addS n1 np (fun j => tp (j + ap)) n2 nq fun j => tq (j + aq)).2.2) j)
 (test (Prod.fst
 (Prod.snd
 (S.subI n1 (List.length (S.mkl np fun j => tp (j + ap)))
 (fun j => S.at' (S.mkl np fun j => tp (j + ap)) j) n2
 (List.length (S.mkl nq fun j => tq (j + aq))) fun j =>
 S.at' (S.mkl nq fun j => tq (j + aq)) j)) ==
 (S.subI n1 np (fun j => tp (j + ap)) n2 nq fun j => tq (j + aq)).2.1)
 (test (decide
 ((0 +
 List.length
 (Prod.snd
 (Prod.snd
 (S.subI n1 (List.length (S.mkl np fun j => tp (j + ap)))
 (fun j => S.at' (S.mkl np fun j => tp (j + ap)) j) n2
 (List.length (S.mkl nq fun j => tq (j + aq))) fun j =>
 S.at' (S.mkl nq fun j => tq (j + aq)) j))) ≤
 List.length
 (Prod.snd
 (Prod.snd
 (S.subI n1 (List.length (S.mkl np fun j => tp (j + ap)))
 (fun j => S.at' (S.mkl np fun j => tp (j + ap)) j) n2
 (List.length (S.mkl nq fun j => tq (j + aq))) fun j =>
 S.at' (S.mkl nq fun j => tq (j + aq)) j))) ∧
 List.length
 (Prod.snd
 (Prod.snd
 (S.subI n1 (List.length (S.mkl np fun j => tp (j + ap)))
 (fun j => S.at' (S.mkl np fun j => tp (j + ap)) j) n2
 (List.length (S.mkl nq fun j => tq (j + aq))) fun j =>
 S.at' (S.mkl nq fun j => tq (j + aq)) j))) ≤
 1000000) ∧
 0 +
 List.length
 (Prod.snd
 ((S.subI n1 np (fun j => tp (j + ap)) n2 nq fun j => tq (j + aq)).2)) ≤
 List.length
 ((S.subI n1 np (fun j => tp (j + ap)) n2 nq fun j => tq (j + aq)).2.2) ∧
 List.length
 ((S.subI n1 np (fun j => tp (j + ap)) n2 nq fun j => tq (j + aq)).2.2) ≤
 1000000))
 (test (S.samI
 (Prod.fst
 (S.subI n1 (List.length (S.mkl np fun j => tp (j + ap)))
 (fun j => S.at' (S.mkl np fun j => tp (j + ap)) j) n2
 (List.length (S.mkl nq fun j => tq (j + aq))) fun j =>
 S.at' (S.mkl nq fun j => tq (j + aq)) j))
 (List.length
 (Prod.snd
 (Prod.snd
 (S.subI n1 (List.length (S.mkl np fun j => tp (j + ap)))
 (fun j => S.at' (S.mkl np fun j => tp (j + ap)) j) n2
 (List.length (S.mkl nq fun j => tq (j + aq))) fun j =>
 S.at' (S.mkl nq fun j => tq (j + aq)) j))))
 (fun j =>
 S.at'
 (Prod.snd
 (Prod.snd
 (S.subI n1 (List.length (S.mkl np fun j => tp (j + ap)))
 (fun j => S.at' (S.mkl np fun j => tp (j + ap)) j) n2
 (List.length (S.mkl nq fun j => tq (j + aq))) fun j =>
 S.at' (S.mkl nq fun j => tq (j + aq)) j)))
 j)
 ((S.subI n1 np (fun j => tp (j + ap)) n2 nq fun j => tq (j + aq)).1)
 (List.length
 ((S.subI n1 np (fun j => tp (j + ap)) n2 nq fun j => tq (j + aq)).2.2))
 fun j =>
 S.at'
 ((S.subI n1 np (fun j => tp (j + ap)) n2 nq fun j => tq (j + aq)).2.2) j)
 (Kret (PV.tf true) ([[(1, false, Blk.cols mq [Col.int IntKind.i64 tq]),
 (0, false, Blk.cols mp [Col.int IntKind.i64 tp])]]) (29))
 (Kret (PV.tf false) ([[(1, false, Blk.cols mq [Col.int IntKind.i64 tq]),
 (0, false, Blk.cols mp [Col.int IntKind.i64 tp])]]) (29)))
 (False))
 (Kret (PV.tf false) ([[(1, false, Blk.cols mq [Col.int IntKind.i64 tq]),
 (0, false, Blk.cols mp [Col.int IntKind.i64 tp])]]) (28)))
 (Kret (PV.tf false) ([[(1, false, Blk.cols mq [Col.int IntKind.i64 tq]),
 (0, false, Blk.cols mp [Col.int IntKind.i64 tp])]]) (28)))
 (False))
 (Kret (PV.tf false) ([[(1, false, Blk.cols mq [Col.int IntKind.i64 tq]),
 (0, false, Blk.cols mp [Col.int IntKind.i64 tp])]]) (27)))
 (test (decide
 ((0 +
 List.length
 (Prod.snd
 (Prod.snd
 (S.subI n1 (List.length (S.mkl np fun j => tp (j + ap)))
 (fun j => S.at' (S.mkl np fun j => tp (j + ap)) j) n2
 (List.length (S.mkl nq fun j => tq (j + aq))) fun j =>
 S.at' (S.mkl nq fun j => tq (j + aq)) j))) ≤
 List.length
 (Prod.snd
 (Prod.snd
 (S.subI n1 (List.length (S.mkl np fun j => tp (j + ap)))
 (fun j => S.at' (S.mkl np fun j => tp (j + ap)) j) n2
 (List.length (S.mkl nq fun j => tq (j + aq))) fun j =>
 S.at' (S.mkl nq fun j => tq (j + aq)) j))) ∧
 List.length
 (Prod.snd
 (Prod.snd
 (S.subI n1 (List.length (S.mkl np fun j => tp (j + ap)))
 (fun j => S.at' (S.mkl np fun j => tp (j + ap)) j) n2
 (List.length (S.mkl nq fun j => tq (j + aq))) fun j =>
 S.at' (S.mkl nq fun j => tq (j + aq)) j))) ≤
 1000000) ∧
 0 +
 List.length
 (Prod.snd
 ((S.subI n1 np (fun j => tp (j + ap)) n2 nq fun j => tq (j + aq)).2)) ≤
 List.length
 ((S.subI n1 np (fun j => tp (j + ap)) n2 nq fun j => tq (j + aq)).2.2) ∧
 List.length
 ((S.subI n1 np (fun j => tp (j + ap)) n2 nq fun j => tq (j + aq)).2.2) ≤
 1000000))
 (test (S.samI
 (Prod.fst
 (S.subI n1 (List.length (S.mkl np fun j => tp (j + ap)))
 (fun j => S.at' (S.mkl np fun j => tp (j + ap)) j) n2
 (List.length (S.mkl nq fun j => tq (j + aq))) fun j =>
 S.at' (S.mkl nq fun j => tq (j + aq)) j))
 (List.length
 (Prod.snd
 (Prod.snd
 (S.subI n1 (List.length (S.mkl np fun j => tp (j + ap)))
 (fun j => S.at' (S.mkl np fun j => tp (j + ap)) j) n2
 (List.length (S.mkl nq fun j => tq (j + aq))) fun j =>
 S.at' (S.mkl nq fun j => tq (j + aq)) j))))
 (fun j =>
 S.at'
 (Prod.snd
 (Prod.snd
 (S.subI n1 (List.length (S.mkl np fun j => tp (j + ap)))
 (fun j => S.at' (S.mkl np fun j => tp (j + ap)) j) n2
 (List.length (S.mkl nq fun j => tq (j + aq))) fun j =>
 S.at' (S.mkl nq fun j => tq (j + aq)) j)))
 j)
 ((S.subI n1 np (fun j => tp (j + ap)) n2 nq fun j => tq (j + aq)).1)
 (List.length
 ((S.subI n1 np (fun j => tp (j + ap)) n2 nq fun j => tq (j + aq)).2.2))
 fun j =>
 S.at'
 ((S.subI n1 np (fun j => tp (j + ap)) n2 nq fun j => tq (j + aq)).2.2) j)
 (test (Prod.fst
 (Prod.snd
 (S.addS n1 (List.length (S.mkl np fun j => tp (j + ap)))
 (fun j => S.at' (S.mkl np fun j => tp (j + ap)) j) n2
 (List.length (S.mkl nq fun j => tq (j + aq))) fun j =>
 S.at' (S.mkl nq fun j => tq (j + aq)) j)) !=
 (0 : Int))
 (test (Prod.fst
 (Prod.snd
 (S.addS n1 (List.length (S.mkl np fun j => tp (j + ap)))
 (fun j => S.at' (S.mkl np fun j => tp (j + ap)) j) n2
 (List.length (S.mkl nq fun j => tq (j + aq))) fun j =>
 S.at' (S.mkl nq fun j => tq (j + aq)) j)) ==
 (S.addS n1 np (fun j => tp (j + ap)) n2 nq fun j => tq (j + aq)).2.1)
 (test (decide
 ((0 +
 List.length
 (Prod.snd
 (Prod.snd
 (S.addS n1 (List.length (S.mkl np fun j => tp (j + ap)))
 (fun j => S.at' (S.mkl np fun j => tp (j + ap)) j) n2
 (List.length (S.mkl nq fun j => tq (j + aq))) fun j =>
 S.at' (S.mkl nq fun j => tq (j + aq)) j))) ≤
 List.length
 (Prod.snd
 (Prod.snd
 (S.addS n1 (List.length (S.mkl np fun j => tp (j + ap)))
 (fun j => S.at' (S.mkl np fun j => tp (j + ap)) j) n2
 (List.length (S.mkl nq fun j => tq (j + aq))) fun j =>
 S.at' (S.mkl nq fun j => tq (j + aq)) j))) ∧
 List.length
 (Prod.snd
 (Prod.snd
 (S.addS n1 (List.length (S.mkl np fun j => tp (j + ap)))
 (fun j => S.at' (S.mkl np fun j => tp (j + ap)) j) n2
 (List.length (S.mkl nq fun j => tq (j + aq))) fun j =>
 S.at' (S.mkl nq fun j => tq (j + aq)) j))) ≤
 1000000) ∧
 0 +
 List.length
 (Prod.snd
 ((S.addS n1 np (fun j => tp (j + ap)) n2 nq fun j => tq (j + aq)).2)) ≤
 List.length
 ((S.addS n1 np (fun j => tp (j + ap)) n2 nq fun j => tq (j + aq)).2.2) ∧
 List.length
 ((S.addS n1 np (fun j => tp (j + ap)) n2 nq fun j => tq (j + aq)).2.2) ≤
 1000000))
 (test (S.samI
 (Prod.fst
 (S.addS n1 (List.length (S.mkl np fun j => tp (j + ap)))
 (fun j => S.at' (S.mkl np fun j => tp (j + ap)) j) n2
 (List.length (S.mkl nq fun j => tq (j + aq))) fun j =>
 S.at' (S.mkl nq fun j => tq (j + aq)) j))
 (List.length
 (Prod.snd
 (Prod.snd
 (S.addS n1 (List.length (S.mkl np fun j => tp (j + ap)))
 (fun j => S.at' (S.mkl np fun j => tp (j + ap)) j) n2
 (List.length (S.mkl nq fun j => tq (j + aq))) fun j =>
 S.at' (S.mkl nq fun j => tq (j + aq)) j))))
 (fun j =>
 S.at'
 (Prod.snd
 (Prod.snd
 (S.addS n1 (List.length (S.mkl np fun j => tp (j + ap)))
 (fun j => S.at' (S.mkl np fun j => tp (j + ap)) j) n2
 (List.length (S.mkl nq fun j => tq (j + aq))) fun j =>
 S.at' (S.mkl nq fun j => tq (j + aq)) j)))
 j)
 ((S.addS n1 np (fun j => tp (j + ap)) n2 nq fun j => tq (j + aq)).1)
 (List.length
 ((S.addS n1 np (fun j => tp (j + ap)) n2 nq fun j => tq (j + aq)).2.2))
 fun j =>
 S.at'
 ((S.addS n1 np (fun j => tp (j + ap)) n2 nq fun j => tq (j + aq)).2.2) j)
 (test (Prod.fst
 (Prod.snd
 (S.subI n1 (List.length (S.mkl np fun j => tp (j + ap)))
 (fun j => S.at' (S.mkl np fun j => tp (j + ap)) j) n2
 (List.length (S.mkl nq fun j => tq (j + aq))) fun j =>
 S.at' (S.mkl nq fun j => tq (j + aq)) j)) ==
 (S.subI n1 np (fun j => tp (j + ap)) n2 nq fun j => tq (j + aq)).2.1)
 (test (decide
 ((0 +
 List.length
 (Prod.snd
 (Prod.snd
 (S.subI n1 (List.length (S.mkl np fun j => tp (j + ap)))
 (fun j => S.at' (S.mkl np fun j => tp (j + ap)) j) n2
 (List.length (S.mkl nq fun j => tq (j + aq))) fun j =>
 S.at' (S.mkl nq fun j => tq (j + aq)) j))) ≤
 List.length
 (Prod.snd
 (Prod.snd
 (S.subI n1 (List.length (S.mkl np fun j => tp (j + ap)))
 (fun j => S.at' (S.mkl np fun j => tp (j + ap)) j) n2
 (List.length (S.mkl nq fun j => tq (j + aq))) fun j =>
 S.at' (S.mkl nq fun j => tq (j + aq)) j))) ∧
 List.length
 (Prod.snd
 (Prod.snd
 (S.subI n1 (List.length (S.mkl np fun j => tp (j + ap)))
 (fun j => S.at' (S.mkl np fun j => tp (j + ap)) j) n2
 (List.length (S.mkl nq fun j => tq (j + aq))) fun j =>
 S.at' (S.mkl nq fun j => tq (j + aq)) j))) ≤
 1000000) ∧
 0 +
 List.length
 (Prod.snd
 ((S.subI n1 np (fun j => tp (j + ap)) n2 nq fun j => tq (j + aq)).2)) ≤
 List.length
 ((S.subI n1 np (fun j => tp (j + ap)) n2 nq fun j => tq (j + aq)).2.2) ∧
 List.length
 ((S.subI n1 np (fun j => tp (j + ap)) n2 nq fun j => tq (j + aq)).2.2) ≤
 1000000))
 (test (S.samI
 (Prod.fst
 (S.subI n1 (List.length (S.mkl np fun j => tp (j + ap)))
 (fun j => S.at' (S.mkl np fun j => tp (j + ap)) j) n2
 (List.length (S.mkl nq fun j => tq (j + aq))) fun j =>
 S.at' (S.mkl nq fun j => tq (j + aq)) j))
 (List.length
 (Prod.snd
 (Prod.snd
 (S.subI n1 (List.length (S.mkl np fun j => tp (j + ap)))
 (fun j => S.at' (S.mkl np fun j => tp (j + ap)) j) n2
 (List.length (S.mkl nq fun j => tq (j + aq))) fun j =>
 S.at' (S.mkl nq fun j => tq (j + aq)) j))))
 (fun j =>
 S.at'
 (Prod.snd
 (Prod.snd
 (S.subI n1 (List.length (S.mkl np fun j => tp (j + ap)))
 (fun j => S.at' (S.mkl np fun j => tp (j + ap)) j) n2
 (List.length (S.mkl nq fun j => tq (j + aq))) fun j =>
 S.at' (S.mkl nq fun j => tq (j + aq)) j)))
 j)
 ((S.subI n1 np (fun j => tp (j + ap)) n2 nq fun j => tq (j + aq)).1)
 (List.length
 ((S.subI n1 np (fun j => tp (j + ap)) n2 nq fun j => tq (j + aq)).2.2))
 fun j =>
 S.at'
 ((S.subI n1 np (fun j => tp (j + ap)) n2 nq fun j => tq (j + aq)).2.2) j)
 (Kret (PV.tf true) ([[(1, false, Blk.cols mq [Col.int IntKind.i64 tq]),
 (0, false, Blk.cols mp [Col.int IntKind.i64 tp])]]) (30))
 (Kret (PV.tf false) ([[(1, false, Blk.cols mq [Col.int IntKind.i64 tq]),
 (0, false, Blk.cols mp [Col.int IntKind.i64 tp])]]) (30)))
 (False))
 (Kret (PV.tf false) ([[(1, false, Blk.cols mq [Col.int IntKind.i64 tq]),
 (0, false, Blk.cols mp [Col.int IntKind.i64 tp])]]) (29)))
 (Kret (PV.tf false) ([[(1, false, Blk.cols mq [Col.int IntKind.i64 tq]),
 (0, false, Blk.cols mp [Col.int IntKind.i64 tp])]]) (29)))
 (False))
 (Kret (PV.tf false) ([[(1, false, Blk.cols mq [Col.int IntKind.i64 tq]),
 (0, false, Blk.cols mp [Col.int IntKind.i64 tp])]]) (28)))
 (test (decide
 ((0 +
 List.length
 (Prod.snd
 (Prod.snd
 (S.addS n1 (List.length (S.mkl np fun j => tp (j + ap)))
 (fun j => S.at' (S.mkl np fun j => tp (j + ap)) j) n2
 (List.length (S.mkl nq fun j => tq (j + aq))) fun j =>
 S.at' (S.mkl nq fun j => tq (j + aq)) j))) ≤
 List.length
 (Prod.snd
 (Prod.snd
 (S.addS n1 (List.length (S.mkl np fun j => tp (j + ap)))
 (fun j => S.at' (S.mkl np fun j => tp (j + ap)) j) n2
 (List.length (S.mkl nq fun j => tq (j + aq))) fun j =>
 S.at' (S.mkl nq fun j => tq (j + aq)) j))) ∧
 List.length
 (Prod.snd
 (Prod.snd
 (S.addS n1 (List.length (S.mkl np fun j => tp (j + ap)))
 (fun j => S.at' (S.mkl np fun j => tp (j + ap)) j) n2
 (List.length (S.mkl nq fun j => tq (j + aq))) fun j =>
 S.at' (S.mkl nq fun j => tq (j + aq)) j))) ≤
 1000000) ∧
 aq + nq ≤ mq ∧ nq ≤ 1000000))
 (test (Prod.fst
 (Prod.snd
 (S.subI
 (Prod.fst
 (S.addS n1 (List.length (S.mkl np fun j => tp (j + ap)))
 (fun j => S.at' (S.mkl np fun j => tp (j + ap)) j) n2
 (List.length (S.mkl nq fun j => tq (j + aq))) fun j =>
 S.at' (S.mkl nq fun j => tq (j + aq)) j))
 (List.length
 (Prod.snd
 (Prod.snd
 (S.addS n1 (List.length (S.mkl np fun j => tp (j + ap)))
 (fun j => S.at' (S.mkl np fun j => tp (j + ap)) j) n2
 (List.length (S.mkl nq fun j => tq (j + aq))) fun j =>
 S.at' (S.mkl nq fun j => tq (j + aq)) j))))
 (fun j =>
 S.at'
 (Prod.snd
 (Prod.snd
 (S.addS n1 (List.length (S.mkl np fun j => tp (j + ap)))
 (fun j => S.at' (S.mkl np fun j => tp (j + ap)) j) n2
 (List.length (S.mkl nq fun j => tq (j + aq))) fun j =>
 S.at' (S.mkl nq fun j => tq (j + aq)) j)))
 j)
 n2 nq fun j => tq (j + aq))) ==
 (0 : Int))
 (test (decide
 ((0 +
 List.length
 (Prod.snd
 (Prod.snd
 (S.subI
 (Prod.fst
 (S.addS n1 (List.length (S.mkl np fun j => tp (j + ap)))
 (fun j => S.at' (S.mkl np fun j => tp (j + ap)) j) n2
 (List.length (S.mkl nq fun j => tq (j + aq))) fun j =>
 S.at' (S.mkl nq fun j => tq (j + aq)) j))
 (List.length
 (Prod.snd
 (Prod.snd
 (S.addS n1 (List.length (S.mkl np fun j => tp (j + ap)))
 (fun j => S.at' (S.mkl np fun j => tp (j + ap)) j) n2
 (List.length (S.mkl nq fun j => tq (j + aq))) fun j =>
 S.at' (S.mkl nq fun j => tq (j + aq)) j))))
 (fun j =>
 S.at'
 (Prod.snd
 (Prod.snd
 (S.addS n1 (List.length (S.mkl np fun j => tp (j + ap)))
 (fun j => S.at' (S.mkl np fun j => tp (j + ap)) j) n2
 (List.length (S.mkl nq fun j => tq (j + aq))) fun j =>
 S.at' (S.mkl nq fun j => tq (j + aq)) j)))
 j)
 n2 nq fun j => tq (j + aq)))) ≤
 List.length
 (Prod.snd
 (Prod.snd
 (S.subI
 (Prod.fst
 (S.addS n1 (List.length (S.mkl np fun j => tp (j + ap)))
 (fun j => S.at' (S.mkl np fun j => tp (j + ap)) j) n2
 (List.length (S.mkl nq fun j => tq (j + aq))) fun j =>
 S.at' (S.mkl nq fun j => tq (j + aq)) j))
 (List.length
 (Prod.snd
 (Prod.snd
 (S.addS n1 (List.length (S.mkl np fun j => tp (j + ap)))
 (fun j => S.at' (S.mkl np fun j => tp (j + ap)) j) n2
 (List.length (S.mkl nq fun j => tq (j + aq))) fun j =>
 S.at' (S.mkl nq fun j => tq (j + aq)) j))))
 (fun j =>
 S.at'
 (Prod.snd
 (Prod.snd
 (S.addS n1 (List.length (S.mkl np fun j => tp (j + ap)))
 (fun j => S.at' (S.mkl np fun j => tp (j + ap)) j) n2
 (List.length (S.mkl nq fun j => tq (j + aq))) fun j =>
 S.at' (S.mkl nq fun j => tq (j + aq)) j)))
 j)
 n2 nq fun j => tq (j + aq)))) ∧
 List.length
 (Prod.snd
 (Prod.snd
 (S.subI
 (Prod.fst
 (S.addS n1 (List.length (S.mkl np fun j => tp (j + ap)))
 (fun j => S.at' (S.mkl np fun j => tp (j + ap)) j) n2
 (List.length (S.mkl nq fun j => tq (j + aq))) fun j =>
 S.at' (S.mkl nq fun j => tq (j + aq)) j))
 (List.length
 (Prod.snd
 (Prod.snd
 (S.addS n1 (List.length (S.mkl np fun j => tp (j + ap)))
 (fun j => S.at' (S.mkl np fun j => tp (j + ap)) j) n2
 (List.length (S.mkl nq fun j => tq (j + aq))) fun j =>
 S.at' (S.mkl nq fun j => tq (j + aq)) j))))
 (fun j =>
 S.at'
 (Prod.snd
 (Prod.snd
 (S.addS n1 (List.length (S.mkl np fun j => tp (j + ap)))
 (fun j => S.at' (S.mkl np fun j => tp (j + ap)) j) n2
 (List.length (S.mkl nq fun j => tq (j + aq))) fun j =>
 S.at' (S.mkl nq fun j => tq (j + aq)) j)))
 j)
 n2 nq fun j => tq (j + aq)))) ≤
 1000000) ∧
 ap + np ≤ mp ∧ np ≤ 1000000))
 (test (S.samI
 (Prod.fst
 (S.subI
 (Prod.fst
 (S.addS n1 (List.length (S.mkl np fun j => tp (j + ap)))
 (fun j => S.at' (S.mkl np fun j => tp (j + ap)) j) n2
 (List.length (S.mkl nq fun j => tq (j + aq))) fun j =>
 S.at' (S.mkl nq fun j => tq (j + aq)) j))
 (List.length
 (Prod.snd
 (Prod.snd
 (S.addS n1 (List.length (S.mkl np fun j => tp (j + ap)))
 (fun j => S.at' (S.mkl np fun j => tp (j + ap)) j) n2
 (List.length (S.mkl nq fun j => tq (j + aq))) fun j =>
 S.at' (S.mkl nq fun j => tq (j + aq)) j))))
 (fun j =>
 S.at'
 (Prod.snd
 (Prod.snd
 (S.addS n1 (List.length (S.mkl np fun j => tp (j + ap)))
 (fun j => S.at' (S.mkl np fun j => tp (j + ap)) j) n2
 (List.length (S.mkl nq fun j => tq (j + aq))) fun j =>
 S.at' (S.mkl nq fun j => tq (j + aq)) j)))
 j)
 n2 nq fun j => tq (j + aq)))
 (List.length
 (Prod.snd
 (Prod.snd
 (S.subI
 (Prod.fst
 (S.addS n1 (List.length (S.mkl np fun j => tp (j + ap)))
 (fun j => S.at' (S.mkl np fun j => tp (j + ap)) j) n2
 (List.length (S.mkl nq fun j => tq (j + aq))) fun j =>
 S.at' (S.mkl nq fun j => tq (j + aq)) j))
 (List.length
 (Prod.snd
 (Prod.snd
 (S.addS n1 (List.length (S.mkl np fun j => tp (j + ap)))
 (fun j => S.at' (S.mkl np fun j => tp (j + ap)) j) n2
 (List.length (S.mkl nq fun j => tq (j + aq))) fun j =>
 S.at' (S.mkl nq fun j => tq (j + aq)) j))))
 (fun j =>
 S.at'
 (Prod.snd
 (Prod.snd
 (S.addS n1 (List.length (S.mkl np fun j => tp (j + ap)))
 (fun j => S.at' (S.mkl np fun j => tp (j + ap)) j) n2
 (List.length (S.mkl nq fun j => tq (j + aq))) fun j =>
 S.at' (S.mkl nq fun j => tq (j + aq)) j)))
 j)
 n2 nq fun j => tq (j + aq)))))
 (fun j =>
 S.at'
 (Prod.snd
 (Prod.snd
 (S.subI
 (Prod.fst
 (S.addS n1 (List.length (S.mkl np fun j => tp (j + ap)))
 (fun j => S.at' (S.mkl np fun j => tp (j + ap)) j) n2
 (List.length (S.mkl nq fun j => tq (j + aq))) fun j =>
 S.at' (S.mkl nq fun j => tq (j + aq)) j))
 (List.length
 (Prod.snd
 (Prod.snd
 (S.addS n1 (List.length (S.mkl np fun j => tp (j + ap)))
 (fun j => S.at' (S.mkl np fun j => tp (j + ap)) j) n2
 (List.length (S.mkl nq fun j => tq (j + aq))) fun j =>
 S.at' (S.mkl nq fun j => tq (j + aq)) j))))
 (fun j =>
 S.at'
 (Prod.snd
 (Prod.snd
 (S.addS n1 (List.length (S.mkl np fun j => tp (j + ap)))
 (fun j => S.at' (S.mkl np fun j => tp (j + ap)) j) n2
 (List.length (S.mkl nq fun j => tq (j + aq))) fun j =>
 S.at' (S.mkl nq fun j => tq (j + aq)) j)))
 j)
 n2 nq fun j => tq (j + aq))))
 j)
 n1 np fun j => tp (j + ap))
 (Kret (PV.tf true) ([[(1, false, Blk.cols mq [Col.int IntKind.i64 tq]),
 (0, false, Blk.cols mp [Col.int IntKind.i64 tp])]]) (32))
 (Kret (PV.tf false) ([[(1, false, Blk.cols mq [Col.int IntKind.i64 tq]),
 (0, false, Blk.cols mp [Col.int IntKind.i64 tp])]]) (32)))
 (False))
 (Kret (PV.tf false) ([[(1, false, Blk.cols mq [Col.int IntKind.i64 tq]),
 (0, false, Blk.cols mp [Col.int IntKind.i64 tp])]]) (31)))
 (False)))
 (test (Prod.fst
 (Prod.snd
 (S.addS n1 (List.length (S.mkl np fun j => tp (j + ap)))
 (fun j => S.at' (S.mkl np fun j => tp (j + ap)) j) n2
 (List.length (S.mkl nq fun j => tq (j + aq))) fun j =>
 S.at' (S.mkl nq fun j => tq (j + aq)) j)) ==
 (S.addS n1 np (fun j => tp (j + ap)) n2 nq fun j => tq (j + aq)).2.1)
 (test (decide
 ((0 +
 List.length
 (Prod.snd
 (Prod.snd
 (S.addS n1 (List.length (S.mkl np fun j => tp (j + ap)))
 (fun j => S.at' (S.mkl np fun j => tp (j + ap)) j) n2
 (List.length (S.mkl nq fun j => tq (j + aq))) fun j =>
 S.at' (S.mkl nq fun j => tq (j + aq)) j))) ≤
 List.length
 (Prod.snd
 (Prod.snd
 (S.addS n1 (List.length (S.mkl np fun j => tp (j + ap)))
 (fun j => S.at' (S.mkl np fun j => tp (j + ap)) j) n2
 (List.length (S.mkl nq fun j => tq (j + aq))) fun j =>
 S.at' (S.mkl nq fun j => tq (j + aq)) j))) ∧
 List.length
 (Prod.snd
 (Prod.snd
 (S.addS n1 (List.length (S.mkl np fun j => tp (j + ap)))
 (fun j => S.at' (S.mkl np fun j => tp (j + ap)) j) n2
 (List.length (S.mkl nq fun j => tq (j + aq))) fun j =>
 S.at' (S.mkl nq fun j => tq (j + aq)) j))) ≤
 1000000) ∧
 0 +
 List.length
 (Prod.snd
 ((S.addS n1 np (fun j => tp (j + ap)) n2 nq fun j => tq (j + aq)).2)) ≤
 List.length
 ((S.addS n1 np (fun j => tp (j + ap)) n2 nq fun j => tq (j + aq)).2.2) ∧
 List.length
 ((S.addS n1 np (fun j => tp (j + ap)) n2 nq fun j => tq (j + aq)).2.2) ≤
 1000000))
 (test (S.samI
 (Prod.fst
 (S.addS n1 (List.length (S.mkl np fun j => tp (j + ap)))
 (fun j => S.at' (S.mkl np fun j => tp (j + ap)) j) n2
 (List.length (S.mkl nq fun j => tq (j + aq))) fun j =>
 S.at' (S.mkl nq fun j => tq (j + aq)) j))
 (List.length
 (Prod.snd
 (Prod.snd
 (S.addS n1 (List.length (S.mkl np fun j => tp (j + ap)))
 (fun j => S.at' (S.mkl np fun j => tp (j + ap)) j) n2
 (List.length (S.mkl nq fun j => tq (j + aq))) fun j =>
 S.at' (S.mkl nq fun j => tq (j + aq)) j))))
 (fun j =>
 S.at'
 (Prod.snd
 (Prod.snd
 (S.addS n1 (List.length (S.mkl np fun j => tp (j + ap)))
 (fun j => S.at' (S.mkl np fun j => tp (j + ap)) j) n2
 (List.length (S.mkl nq fun j => tq (j + aq))) fun j =>
 S.at' (S.mkl nq fun j => tq (j + aq)) j)))
 j)
 ((S.addS n1 np (fun j => tp (j + ap)) n2 nq fun j => tq (j + aq)).1)
 (List.length
 ((S.addS n1 np (fun j => tp (j + ap)) n2 nq fun j => tq (j + aq)).2.2))
 fun j =>
 S.at'
 ((S.addS n1 np (fun j => tp (j + ap)) n2 nq fun j => tq (j + aq)).2.2) j)
 (test (Prod.fst
 (Prod.snd
 (S.subI n1 (List.length (S.mkl np fun j => tp (j + ap)))
 (fun j => S.at' (S.mkl np fun j => tp (j + ap)) j) n2
 (List.length (S.mkl nq fun j => tq (j + aq))) fun j =>
 S.at' (S.mkl nq fun j => tq (j + aq)) j)) ==
 (S.subI n1 np (fun j => tp (j + ap)) n2 nq fun j => tq (j + aq)).2.1)
 (test (decide
 ((0 +
 List.length
 (Prod.snd
 (Prod.snd
 (S.subI n1 (List.length (S.mkl np fun j => tp (j + ap)))
 (fun j => S.at' (S.mkl np fun j => tp (j + ap)) j) n2
 (List.length (S.mkl nq fun j => tq (j + aq))) fun j =>
 S.at' (S.mkl nq fun j => tq (j + aq)) j))) ≤
 List.length
 (Prod.snd
 (Prod.snd
 (S.subI n1 (List.length (S.mkl np fun j => tp (j + ap)))
 (fun j => S.at' (S.mkl np fun j => tp (j + ap)) j) n2
 (List.length (S.mkl nq fun j => tq (j + aq))) fun j =>
 S.at' (S.mkl nq fun j => tq (j + aq)) j))) ∧
 List.length
 (Prod.snd
 (Prod.snd
 (S.subI n1 (List.length (S.mkl np fun j => tp (j + ap)))
 (fun j => S.at' (S.mkl np fun j => tp (j + ap)) j) n2
 (List.length (S.mkl nq fun j => tq (j + aq))) fun j =>
 S.at' (S.mkl nq fun j => tq (j + aq)) j))) ≤
 1000000) ∧
 0 +
 List.length
 (Prod.snd
 ((S.subI n1 np (fun j => tp (j + ap)) n2 nq fun j => tq (j + aq)).2)) ≤
 List.length
 ((S.subI n1 np (fun j => tp (j + ap)) n2 nq fun j => tq (j + aq)).2.2) ∧
 List.length
 ((S.subI n1 np (fun j => tp (j + ap)) n2 nq fun j => tq (j + aq)).2.2) ≤
 1000000))
 (test (S.samI
 (Prod.fst
 (S.subI n1 (List.length (S.mkl np fun j => tp (j + ap)))
 (fun j => S.at' (S.mkl np fun j => tp (j + ap)) j) n2
 (List.length (S.mkl nq fun j => tq (j + aq))) fun j =>
 S.at' (S.mkl nq fun j => tq (j + aq)) j))
 (List.length
 (Prod.snd
 (Prod.snd
 (S.subI n1 (List.length (S.mkl np fun j => tp (j + ap)))
 (fun j => S.at' (S.mkl np fun j => tp (j + ap)) j) n2
 (List.length (S.mkl nq fun j => tq (j + aq))) fun j =>
 S.at' (S.mkl nq fun j => tq (j + aq)) j))))
 (fun j =>
 S.at'
 (Prod.snd
 (Prod.snd
 (S.subI n1 (List.length (S.mkl np fun j => tp (j + ap)))
 (fun j => S.at' (S.mkl np fun j => tp (j + ap)) j) n2
 (List.length (S.mkl nq fun j => tq (j + aq))) fun j =>
 S.at' (S.mkl nq fun j => tq (j + aq)) j)))
 j)
 ((S.subI n1 np (fun j => tp (j + ap)) n2 nq fun j => tq (j + aq)).1)
 (List.length
 ((S.subI n1 np (fun j => tp (j + ap)) n2 nq fun j => tq (j + aq)).2.2))
 fun j =>
 S.at'
 ((S.subI n1 np (fun j => tp (j + ap)) n2 nq fun j => tq (j + aq)).2.2) j)
 (Kret (PV.tf true) ([[(1, false, Blk.cols mq [Col.int IntKind.i64 tq]),
 (0, false, Blk.cols mp [Col.int IntKind.i64 tp])]]) (30))
 (Kret (PV.tf false) ([[(1, false, Blk.cols mq [Col.int IntKind.i64 tq]),
 (0, false, Blk.cols mp [Col.int IntKind.i64 tp])]]) (30)))
 (False))
 (Kret (PV.tf false) ([[(1, false, Blk.cols mq [Col.int IntKind.i64 tq]),
 (0, false, Blk.cols mp [Col.int IntKind.i64 tp])]]) (29)))
 (Kret (PV.tf false) ([[(1, false, Blk.cols mq [Col.int IntKind.i64 tq]),
 (0, false, Blk.cols mp [Col.int IntKind.i64 tp])]]) (29)))
 (False))
 (Kret (PV.tf false) ([[(1, false, Blk.cols mq [Col.int IntKind.i64 tq]),
 (0, false, Blk.cols mp [Col.int IntKind.i64 tp])]]) (28))))
 (False)))
 (test (Prod.fst
 (Prod.snd
 (S.addS n1 (List.length (S.mkl np fun j => tp (j + ap)))
 (fun j => S.at' (S.mkl np fun j => tp (j + ap)) j) n2
 (List.length (S.mkl nq fun j => tq (j + aq))) fun j =>
 S.at' (S.mkl nq fun j => tq (j + aq)) j)) ==
 (S.addS n1 np (fun j => tp (j + ap)) n2 nq fun j => tq (j + aq)).2.1)
 (test (decide
 ((0 +
 List.length
 (Prod.snd
 (Prod.snd
 (S.addS n1 (List.length (S.mkl np fun j => tp (j + ap)))
 (fun j => S.at' (S.mkl np fun j => tp (j + ap)) j) n2
 (List.length (S.mkl nq fun j => tq (j + aq))) fun j =>
 S.at' (S.mkl nq fun j => tq (j + aq)) j))) ≤
 List.length
 (Prod.snd
 (Prod.snd
 (S.addS n1 (List.length (S.mkl np fun j => tp (j + ap)))
 (fun j => S.at' (S.mkl np fun j => tp (j + ap)) j) n2
 (List.length (S.mkl nq fun j => tq (j + aq))) fun j =>
 S.at' (S.mkl nq fun j => tq (j + aq)) j))) ∧
 List.length
 (Prod.snd
 (Prod.snd
 (S.addS n1 (List.length (S.mkl np fun j => tp (j + ap)))
 (fun j => S.at' (S.mkl np fun j => tp (j + ap)) j) n2
 (List.length (S.mkl nq fun j => tq (j + aq))) fun j =>
 S.at' (S.mkl nq fun j => tq (j + aq)) j))) ≤
 1000000) ∧
 0 +
 List.length
 (Prod.snd
 ((S.addS n1 np (fun j => tp (j + ap)) n2 nq fun j => tq (j + aq)).2)) ≤
 List.length
 ((S.addS n1 np (fun j => tp (j + ap)) n2 nq fun j => tq (j + aq)).2.2) ∧
 List.length
 ((S.addS n1 np (fun j => tp (j + ap)) n2 nq fun j => tq (j + aq)).2.2) ≤
 1000000))
 (test (S.samI
 (Prod.fst
 (S.addS n1 (List.length (S.mkl np fun j => tp (j + ap)))
 (fun j => S.at' (S.mkl np fun j => tp (j + ap)) j) n2
 (List.length (S.mkl nq fun j => tq (j + aq))) fun j =>
 S.at' (S.mkl nq fun j => tq (j + aq)) j))
 (List.length
 (Prod.snd
 (Prod.snd
 (S.addS n1 (List.length (S.mkl np fun j => tp (j + ap)))
 (fun j => S.at' (S.mkl np fun j => tp (j + ap)) j) n2
 (List.length (S.mkl nq fun j => tq (j + aq))) fun j =>
 S.at' (S.mkl nq fun j => tq (j + aq)) j))))
 (fun j =>
 S.at'
 (Prod.snd
 (Prod.snd
 (S.addS n1 (List.length (S.mkl np fun j => tp (j + ap)))
 (fun j => S.at' (S.mkl np fun j => tp (j + ap)) j) n2
 (List.length (S.mkl nq fun j => tq (j + aq))) fun j =>
 S.at' (S.mkl nq fun j => tq (j + aq)) j)))
 j)
 ((S.addS n1 np (fun j => tp (j + ap)) n2 nq fun j => tq (j + aq)).1)
 (List.length
 ((S.addS n1 np (fun j => tp (j + ap)) n2 nq fun j => tq (j + aq)).2.2))
 fun j =>
 S.at'
 ((S.addS n1 np (fun j => tp (j + ap)) n2 nq fun j => tq (j + aq)).2.2) j)
 (test (Prod.fst
 (Prod.snd
 (S.subI n1 (List.length (S.mkl np fun j => tp (j + ap)))
 (fun j => S.at' (S.mkl np fun j => tp (j + ap)) j) n2
 (List.length (S.mkl nq fun j => tq (j + aq))) fun j =>
 S.at' (S.mkl nq fun j => tq (j + aq)) j)) ==
 (S.subI n1 np (fun j => tp (j + ap)) n2 nq fun j => tq (j + aq)).2.1)
 (test (decide
 ((0 +
 List.length
 (Prod.snd
 (Prod.snd
 (S.subI n1 (List.length (S.mkl np fun j => tp (j + ap)))
 (fun j => S.at' (S.mkl np fun j => tp (j + ap)) j) n2
 (List.length (S.mkl nq fun j => tq (j + aq))) fun j =>
 S.at' (S.mkl nq fun j => tq (j + aq)) j))) ≤
 List.length
 (Prod.snd
 (Prod.snd
 (S.subI n1 (List.length (S.mkl np fun j => tp (j + ap)))
 (fun j => S.at' (S.mkl np fun j => tp (j + ap)) j) n2
 (List.length (S.mkl nq fun j => tq (j + aq))) fun j =>
 S.at' (S.mkl nq fun j => tq (j + aq)) j))) ∧
 List.length
 (Prod.snd
 (Prod.snd
 (S.subI n1 (List.length (S.mkl np fun j => tp (j + ap)))
 (fun j => S.at' (S.mkl np fun j => tp (j + ap)) j) n2
 (List.length (S.mkl nq fun j => tq (j + aq))) fun j =>
 S.at' (S.mkl nq fun j => tq (j + aq)) j))) ≤
 1000000) ∧
 0 +
 List.length
 (Prod.snd
 ((S.subI n1 np (fun j => tp (j + ap)) n2 nq fun j => tq (j + aq)).2)) ≤
 List.length
 ((S.subI n1 np (fun j => tp (j + ap)) n2 nq fun j => tq (j + aq)).2.2) ∧
 List.length
 ((S.subI n1 np (fun j => tp (j + ap)) n2 nq fun j => tq (j + aq)).2.2) ≤
 1000000))
 (test (S.samI
 (Prod.fst
 (S.subI n1 (List.length (S.mkl np fun j => tp (j + ap)))
 (fun j => S.at' (S.mkl np fun j => tp (j + ap)) j) n2
 (List.length (S.mkl nq fun j => tq (j + aq))) fun j =>
 S.at' (S.mkl nq fun j => tq (j + aq)) j))
 (List.length
 (Prod.snd
 (Prod.snd
 (S.subI n1 (List.length (S.mkl np fun j => tp (j + ap)))
 (fun j => S.at' (S.mkl np fun j => tp (j + ap)) j) n2
 (List.length (S.mkl nq fun j => tq (j + aq))) fun j =>
 S.at' (S.mkl nq fun j => tq (j + aq)) j))))
 (fun j =>
 S.at'
 (Prod.snd
 (Prod.snd
 (S.subI n1 (List.length (S.mkl np fun j => tp (j + ap)))
 (fun j => S.at' (S.mkl np fun j => tp (j + ap)) j) n2
 (List.length (S.mkl nq fun j => tq (j + aq))) fun j =>
 S.at' (S.mkl nq fun j => tq (j + aq)) j)))
 j)
 ((S.subI n1 np (fun j => tp (j + ap)) n2 nq fun j => tq (j + aq)).1)
 (List.length
 ((S.subI n1 np (fun j => tp (j + ap)) n2 nq fun j => tq (j + aq)).2.2))
 fun j =>
 S.at'
 ((S.subI n1 np (fun j => tp (j + ap)) n2 nq fun j => tq (j + aq)).2.2) j)
 (Kret (PV.tf true) ([[(1, false, Blk.cols mq [Col.int IntKind.i64 tq]),
 (0, false, Blk.cols mp [Col.int IntKind.i64 tp])]]) (29))
 (Kret (PV.tf false) ([[(1, false, Blk.cols mq [Col.int IntKind.i64 tq]),
 (0, false, Blk.cols mp [Col.int IntKind.i64 tp])]]) (29)))
 (False))
 (Kret (PV.tf false) ([[(1, false, Blk.cols mq [Col.int IntKind.i64 tq]),
 (0, false, Blk.cols mp [Col.int IntKind.i64 tp])]]) (28)))
 (Kret (PV.tf false) ([[(1, false, Blk.cols mq [Col.int IntKind.i64 tq]),
 (0, false, Blk.cols mp [Col.int IntKind.i64 tp])]]) (28)))
 (False))
 (Kret (PV.tf false) ([[(1, false, Blk.cols mq [Col.int IntKind.i64 tq]),
 (0, false, Blk.cols mp [Col.int IntKind.i64 tp])]]) (27))))
 (False)))
 (False))
 (False))
 (False))
 (False))
 (False))
 (False))
 (False))
 (False))
 (test (true)
 (test (true)
 (Kret (PV.tf true) ([[(1, false, Blk.cols mq [Col.int IntKind.i64 tq]),
 (0, false, Blk.cols mp [Col.int IntKind.i64 tp])]]) (7))
 (Kret (PV.tf false) ([[(1, false, Blk.cols mq [Col.int IntKind.i64 tq]),
 (0, false, Blk.cols mp [Col.int IntKind.i64 tp])]]) (7)))
 (False))))
 (False))
 (False))
 (False))
 (test (decide ((0 : Int) + (↑np : Int) ≤ (170 : Int)))
 (test (decide (ap + np ≤ mp ∧ np ≤ 1000000))
 (test (decide (aq + nq ≤ mq ∧ nq ≤ 1000000))
 (test (decide
 ((0 + List.length (S.mkl np fun j => tp (j + ap)) ≤
 List.length (S.mkl np fun j => tp (j + ap)) ∧
 List.length (S.mkl np fun j => tp (j + ap)) ≤ 1000000) ∧
 0 + List.length (S.mkl nq fun j => tq (j + aq)) ≤
 List.length (S.mkl nq fun j => tq (j + aq)) ∧
 List.length (S.mkl nq fun j => tq (j + aq)) ≤ 1000000))
 (test (decide ((ap + np ≤ mp ∧ np ≤ 1000000) ∧ aq + nq ≤ mq ∧ nq ≤ 1000000))
 (test (decide (ap + np ≤ mp ∧ np ≤ 1000000))
 (test (decide (aq + nq ≤ mq ∧ nq ≤ 1000000))
 (test (decide
 ((0 + List.length (S.mkl np fun j => tp (j + ap)) ≤
 List.length (S.mkl np fun j => tp (j + ap)) ∧
 List.length (S.mkl np fun j => tp (j + ap)) ≤ 1000000) ∧
 0 + List.length (S.mkl nq fun j => tq (j + aq)) ≤
 List.length (S.mkl nq fun j => tq (j + aq)) ∧
 List.length (S.mkl nq fun j => tq (j + aq)) ≤ 1000000))
 (test (decide ((ap + np ≤ mp ∧ np ≤ 1000000) ∧ aq + nq ≤ mq ∧ nq ≤ 1000000))
 (test (Prod.fst
 (Prod.snd
 (S.addS n1 (List.length (S.mkl np fun j => tp (j + ap)))
 (fun j => S.at' (S.mkl np fun j => tp (j + ap)) j) n2
 (List.length (S.mkl nq fun j => tq (j + aq))) fun j =>
 S.at' (S.mkl nq fun j => tq (j + aq)) j)) !=
 (S.addS n1 np (fun j => tp (j + ap)) n2 nq fun j => tq (j + aq)).2.1)
 (test (Prod.fst
 (Prod.snd
 (S.addS n1 (List.length (S.mkl np fun j => tp (j + ap)))
 (fun j => S.at' (S.mkl np fun j => tp (j + ap)) j) n2
 (List.length (S.mkl nq fun j => tq (j + aq))) fun j =>
 S.at' (S.mkl nq fun j => tq (j + aq)) j)) ==
 (S.addS n1 np (fun j => tp (j + ap)) n2 nq fun j => tq (j + aq)).2.1)
 (test (decide
 ((0 +
 List.length
 (Prod.snd
 (Prod.snd
 (S.addS n1 (List.length (S.mkl np fun j => tp (j + ap)))
 (fun j => S.at' (S.mkl np fun j => tp (j + ap)) j) n2
 (List.length (S.mkl nq fun j => tq (j + aq))) fun j =>
 S.at' (S.mkl nq fun j => tq (j + aq)) j))) ≤
 List.length
 (Prod.snd
 (Prod.snd
 (S.addS n1 (List.length (S.mkl np fun j => tp (j + ap)))
 (fun j => S.at' (S.mkl np fun j => tp (j + ap)) j) n2
 (List.length (S.mkl nq fun j => tq (j + aq))) fun j =>
 S.at' (S.mkl nq fun j => tq (j + aq)) j))) ∧
 List.length
 (Prod.snd
 (Prod.snd
 (S.addS n1 (List.length (S.mkl np fun j => tp (j + ap)))
 (fun j => S.at' (S.mkl np fun j => tp (j + ap)) j) n2
 (List.length (S.mkl nq fun j => tq (j + aq))) fun j =>
 S.at' (S.mkl nq fun j => tq (j + aq)) j))) ≤
 1000000) ∧
 0 +
 List.length
 (Prod.snd
 ((S.addS n1 np (fun j => tp (j + ap)) n2 nq fun j => tq (j + aq)).2)) ≤
 List.length
 ((S.addS n1 np (fun j => tp (j + ap)) n2 nq fun j => tq (j + aq)).2.2) ∧
 List.length
 ((S.addS n1 np (fun j => tp (j + ap)) n2 nq fun j => tq (j + aq)).2.2) ≤
 1000000))
 (test (S.samI
 (Prod.fst
 (S.addS n1 (List.length (S.mkl np fun j => tp (j + ap)))
 (fun j => S.at' (S.mkl np fun j => tp (j + ap)) j) n2
 (List.length (S.mkl nq fun j => tq (j + aq))) fun j =>
 S.at' (S.mkl nq fun j => tq (j + aq)) j))
 (List.length
 (Prod.snd
 (Prod.snd
 (S.addS n1 (List.length (S.mkl np fun j => tp (j + ap)))
 (fun j => S.at' (S.mkl np fun j => tp (j + ap)) j) n2
 (List.length (S.mkl nq fun j => tq (j + aq))) fun j =>
 S.at' (S.mkl nq fun j => tq (j + aq)) j))))
 (fun j =>
 S.at'
 (Prod.snd
 (Prod.snd
 (S.addS n1 (List.length (S.mkl np fun j => tp (j + ap)))
 (fun j => S.at' (S.mkl np fun j => tp (j + ap)) j) n2
 (List.length (S.mkl nq fun j => tq (j + aq))) fun j =>
 S.at' (S.mkl nq fun j => tq (j + aq)) j)))
 j)
 ((S.addS n1 np (fun j => tp (j + ap)) n2 nq fun j => tq (j + aq)).1)
 (List.length
 ((S.addS n1 np (fun j => tp (j + ap)) n2 nq fun j => tq (j + aq)).2.2))
 fun j =>
 S.at'
 ((S.addS n1 np (fun j => tp (j + ap)) n2 nq fun j => tq (j + aq)).2.2) j)
 (test (Prod.fst
 (Prod.snd
 (S.subI n1 (List.length (S.mkl np fun j => tp (j + ap)))
 (fun j => S.at' (S.mkl np fun j => tp (j + ap)) j) n2
 (List.length (S.mkl nq fun j => tq (j + aq))) fun j =>
 S.at' (S.mkl nq fun j => tq (j + aq)) j)) ==
 (S.subI n1 np (fun j => tp (j + ap)) n2 nq fun j => tq (j + aq)).2.1)
 (test (decide
 ((0 +
 List.length
 (Prod.snd
 (Prod.snd
 (S.subI n1 (List.length (S.mkl np fun j => tp (j + ap)))
 (fun j => S.at' (S.mkl np fun j => tp (j + ap)) j) n2
 (List.length (S.mkl nq fun j => tq (j + aq))) fun j =>
 S.at' (S.mkl nq fun j => tq (j + aq)) j))) ≤
 List.length
 (Prod.snd
 (Prod.snd
 (S.subI n1 (List.length (S.mkl np fun j => tp (j + ap)))
 (fun j => S.at' (S.mkl np fun j => tp (j + ap)) j) n2
 (List.length (S.mkl nq fun j => tq (j + aq))) fun j =>
 S.at' (S.mkl nq fun j => tq (j + aq)) j))) ∧
 List.length
 (Prod.snd
 (Prod.snd
 (S.subI n1 (List.length (S.mkl np fun j => tp (j + ap)))
 (fun j => S.at' (S.mkl np fun j => tp (j + ap)) j) n2
 (List.length (S.mkl nq fun j => tq (j + aq))) fun j =>
 S.at' (S.mkl nq fun j => tq (j + aq)) j))) ≤
 1000000) ∧
 0 +
 List.length
 (Prod.snd
 ((S.subI n1 np (fun j => tp (j + ap)) n2 nq fun j => tq (j + aq)).2)) ≤
 List.length
 ((S.subI n1 np (fun j => tp (j + ap)) n2 nq fun j => tq (j + aq)).2.2) ∧
 List.length
 ((S.subI n1 np (fun j => tp (j + ap)) n2 nq fun j => tq (j + aq)).2.2) ≤
 1000000))
 (test (S.samI
 (Prod.fst
 (S.subI n1 (List.length (S.mkl np fun j => tp (j + ap)))
 (fun j => S.at' (S.mkl np fun j => tp (j + ap)) j) n2
 (List.length (S.mkl nq fun j => tq (j + aq))) fun j =>
 S.at' (S.mkl nq fun j => tq (j + aq)) j))
 (List.length
 (Prod.snd
 (Prod.snd
 (S.subI n1 (List.length (S.mkl np fun j => tp (j + ap)))
 (fun j => S.at' (S.mkl np fun j => tp (j + ap)) j) n2
 (List.length (S.mkl nq fun j => tq (j + aq))) fun j =>
 S.at' (S.mkl nq fun j => tq (j + aq)) j))))
 (fun j =>
 S.at'
 (Prod.snd
 (Prod.snd
 (S.subI n1 (List.length (S.mkl np fun j => tp (j + ap)))
 (fun j => S.at' (S.mkl np fun j => tp (j + ap)) j) n2
 (List.length (S.mkl nq fun j => tq (j + aq))) fun j =>
 S.at' (S.mkl nq fun j => tq (j + aq)) j)))
 j)
 ((S.subI n1 np (fun j => tp (j + ap)) n2 nq fun j => tq (j + aq)).1)
 (List.length
 ((S.subI n1 np (fun j => tp (j + ap)) n2 nq fun j => tq (j + aq)).2.2))
 fun j =>
 S.at'
 ((S.subI n1 np (fun j => tp (j + ap)) n2 nq fun j => tq (j + aq)).2.2) j)
 (Kret (PV.tf true) ([[(1, false, Blk.cols mq [Col.int IntKind.i64 tq]),
 (0, false, Blk.cols mp [Col.int IntKind.i64 tp])]]) (28))
 (Kret (PV.tf false) ([[(1, false, Blk.cols mq [Col.int IntKind.i64 tq]),
 (0, false, Blk.cols mp [Col.int IntKind.i64 tp])]]) (28)))
 (False))
 (Kret (PV.tf false) ([[(1, false, Blk.cols mq [Col.int IntKind.i64 tq]),
 (0, false, Blk.cols mp [Col.int IntKind.i64 tp])]]) (27)))
 (Kret (PV.tf false) ([[(1, false, Blk.cols mq [Col.int IntKind.i64 tq]),
 (0, false, Blk.cols mp [Col.int IntKind.i64 tp])]]) (27)))
 (False))
 (Kret (PV.tf false) ([[(1, false, Blk.cols mq [Col.int IntKind.i64 tq]),
 (0, false, Blk.cols mp [Col.int IntKind.i64 tp])]]) (26)))
 (test (decide
 ((0 +
 List.length
 (Prod.snd
 (Prod.snd
 (S.addS n1 (List.length (S.mkl np fun j => tp (j + ap)))
 (fun j => S.at' (S.mkl np fun j => tp (j + ap)) j) n2
 (List.length (S.mkl nq fun j => tq (j + aq))) fun j =>
 S.at' (S.mkl nq fun j => tq (j + aq)) j))) ≤
 List.length
 (Prod.snd
 (Prod.snd
 (S.addS n1 (List.length (S.mkl np fun j => tp (j + ap)))
 (fun j => S.at' (S.mkl np fun j => tp (j + ap)) j) n2
 (List.length (S.mkl nq fun j => tq (j + aq))) fun j =>
 S.at' (S.mkl nq fun j => tq (j + aq)) j))) ∧
 List.length
 (Prod.snd
 (Prod.snd
 (S.addS n1 (List.length (S.mkl np fun j => tp (j + ap)))
 (fun j => S.at' (S.mkl np fun j => tp (j + ap)) j) n2
 (List.length (S.mkl nq fun j => tq (j + aq))) fun j =>
 S.at' (S.mkl nq fun j => tq (j + aq)) j))) ≤
 1000000) ∧
 0 +
 List.length
 (Prod.snd
 ((S.addS n1 np (fun j => tp (j + ap)) n2 nq fun j => tq (j + aq)).2)) ≤
 List.length
 ((S.addS n1 np (fun j => tp (j + ap)) n2 nq fun j => tq (j + aq)).2.2) ∧
 List.length
 ((S.addS n1 np (fun j => tp (j + ap)) n2 nq fun j => tq (j + aq)).2.2) ≤
 1000000))
 (test (S.samI
 (Prod.fst
 (S.addS n1 (List.length (S.mkl np fun j => tp (j + ap)))
 (fun j => S.at' (S.mkl np fun j => tp (j + ap)) j) n2
 (List.length (S.mkl nq fun j => tq (j + aq))) fun j =>
 S.at' (S.mkl nq fun j => tq (j + aq)) j))
 (List.length
 (Prod.snd
 (Prod.snd
 (S.addS n1 (List.length (S.mkl np fun j => tp (j + ap)))
 (fun j => S.at' (S.mkl np fun j => tp (j + ap)) j) n2
 (List.length (S.mkl nq fun j => tq (j + aq))) fun j =>
 S.at' (S.mkl nq fun j => tq (j + aq)) j))))
 (fun j =>
 S.at'
 (Prod.snd
 (Prod.snd
 (S.addS n1 (List.length (S.mkl np fun j => tp (j + ap)))
 (fun j => S.at' (S.mkl np fun j => tp (j + ap)) j) n2
 (List.length (S.mkl nq fun j => tq (j + aq))) fun j =>
 S.at' (S.mkl nq fun j => tq (j + aq)) j)))
 j)
 ((S.addS n1 np (fun j => tp (j + ap)) n2 nq fun j => tq (j + aq)).1)
 (List.length
 ((S.addS n1 np (fun j => tp (j + ap)) n2 nq fun j => tq (j + aq)).2.2))
 fun j =>
 S.at'
 ((S.addS n1 np (fun j => tp (j + ap)) n2 nq fun j => tq (j + aq)).2.2) j)
 (test (Prod.fst
 (Prod.snd
 (S.subI n1 (List.length (S.mkl np fun j => tp (j + ap)))
 (fun j => S.at' (S.mkl np fun j => tp (j + ap)) j) n2
 (List.length (S.mkl nq fun j => tq (j + aq))) fun j =>
 S.at' (S.mkl nq fun j => tq (j + aq)) j)) !=
 (S.subI n1 np (fun j => tp (j + ap)) n2 nq fun j => tq (j + aq)).2.1)
 (test (Prod.fst
 (Prod.snd
 (S.addS n1 (List.length (S.mkl np fun j => tp (j + ap)))
 (fun j => S.at' (S.mkl np fun j => tp (j + ap)) j) n2
 (List.length (S.mkl nq fun j => tq (j + aq))) fun j =>
 S.at' (S.mkl nq fun j => tq (j + aq)) j)) ==
 (S.addS n1 np (fun j => tp (j + ap)) n2 nq fun j => tq (j + aq)).2.1)
 (test (decide
 ((0 +
 List.length
 (Prod.snd
 (Prod.snd
 (S.addS n1 (List.length (S.mkl np fun j => tp (j + ap)))
 (fun j => S.at' (S.mkl np fun j => tp (j + ap)) j) n2
 (List.length (S.mkl nq fun j => tq (j + aq))) fun j =>
 S.at' (S.mkl nq fun j => tq (j + aq)) j))) ≤
 List.length
 (Prod.snd
 (Prod.snd
 (S.addS n1 (List.length (S.mkl np fun j => tp (j + ap)))
 (fun j => S.at' (S.mkl np fun j => tp (j + ap)) j) n2
 (List.length (S.mkl nq fun j => tq (j + aq))) fun j =>
 S.at' (S.mkl nq fun j => tq (j + aq)) j))) ∧
 List.length
 (Prod.snd
 (Prod.snd
 (S.addS n1 (List.length (S.mkl np fun j => tp (j + ap)))
 (fun j => S.at' (S.mkl np fun j => tp (j + ap)) j) n2
 (List.length (S.mkl nq fun j => tq (j + aq))) fun j =>
 S.at' (S.mkl nq fun j => tq (j + aq)) j))) ≤
 1000000) ∧
 0 +
 List.length
 (Prod.snd
 ((S.addS n1 np (fun j => tp (j + ap)) n2 nq fun j => tq (j + aq)).2)) ≤
 List.length
 ((S.addS n1 np (fun j => tp (j + ap)) n2 nq fun j => tq (j + aq)).2.2) ∧
 List.length
 ((S.addS n1 np (fun j => tp (j + ap)) n2 nq fun j => tq (j + aq)).2.2) ≤
 1000000))
 (test (S.samI
 (Prod.fst
 (S.addS n1 (List.length (S.mkl np fun j => tp (j + ap)))
 (fun j => S.at' (S.mkl np fun j => tp (j + ap)) j) n2
 (List.length (S.mkl nq fun j => tq (j + aq))) fun j =>
 S.at' (S.mkl nq fun j => tq (j + aq)) j))
 (List.length
 (Prod.snd
 (Prod.snd
 (S.addS n1 (List.length (S.mkl np fun j => tp (j + ap)))
 (fun j => S.at' (S.mkl np fun j => tp (j + ap)) j) n2
 (List.length (S.mkl nq fun j => tq (j + aq))) fun j =>
 S.at' (S.mkl nq fun j => tq (j + aq)) j))))
 (fun j =>
 S.at'
 (Prod.snd
 (Prod.snd
 (S.addS n1 (List.length (S.mkl np fun j => tp (j + ap)))
 (fun j => S.at' (S.mkl np fun j => tp (j + ap)) j) n2
 (List.length (S.mkl nq fun j => tq (j + aq))) fun j =>
 S.at' (S.mkl nq fun j => tq (j + aq)) j)))
 j)
 ((S.addS n1 np (fun j => tp (j + ap)) n2 nq fun j => tq (j + aq)).1)
 (List.length
 ((S.addS n1 np (fun j => tp (j + ap)) n2 nq fun j => tq (j + aq)).2.2))
 fun j =>
 S.at'
 ((S.addS n1 np (fun j => tp (j + ap)) n2 nq fun j => tq (j + aq)).2.2) j)
 (test (Prod.fst
 (Prod.snd
 (S.subI n1 (List.length (S.mkl np fun j => tp (j + ap)))
 (fun j => S.at' (S.mkl np fun j => tp (j + ap)) j) n2
 (List.length (S.mkl nq fun j => tq (j + aq))) fun j =>
 S.at' (S.mkl nq fun j => tq (j + aq)) j)) ==
 (S.subI n1 np (fun j => tp (j + ap)) n2 nq fun j => tq (j + aq)).2.1)
 (test (decide
 ((0 +
 List.length
 (Prod.snd
 (Prod.snd
 (S.subI n1 (List.length (S.mkl np fun j => tp (j + ap)))
 (fun j => S.at' (S.mkl np fun j => tp (j + ap)) j) n2
 (List.length (S.mkl nq fun j => tq (j + aq))) fun j =>
 S.at' (S.mkl nq fun j => tq (j + aq)) j))) ≤
 List.length
 (Prod.snd
 (Prod.snd
 (S.subI n1 (List.length (S.mkl np fun j => tp (j + ap)))
 (fun j => S.at' (S.mkl np fun j => tp (j + ap)) j) n2
 (List.length (S.mkl nq fun j => tq (j + aq))) fun j =>
 S.at' (S.mkl nq fun j => tq (j + aq)) j))) ∧
 List.length
 (Prod.snd
 (Prod.snd
 (S.subI n1 (List.length (S.mkl np fun j => tp (j + ap)))
 (fun j => S.at' (S.mkl np fun j => tp (j + ap)) j) n2
 (List.length (S.mkl nq fun j => tq (j + aq))) fun j =>
 S.at' (S.mkl nq fun j => tq (j + aq)) j))) ≤
 1000000) ∧
 0 +
 List.length
 (Prod.snd
 ((S.subI n1 np (fun j => tp (j + ap)) n2 nq fun j => tq (j + aq)).2)) ≤
 List.length
 ((S.subI n1 np (fun j => tp (j + ap)) n2 nq fun j => tq (j + aq)).2.2) ∧
 List.length
 ((S.subI n1 np (fun j => tp (j + ap)) n2 nq fun j => tq (j + aq)).2.2) ≤
 1000000))
 (test (S.samI
 (Prod.fst
 (S.subI n1 (List.length (S.mkl np fun j => tp (j + ap)))
 (fun j => S.at' (S.mkl np fun j => tp (j + ap)) j) n2
 (List.length (S.mkl nq fun j => tq (j + aq))) fun j =>
 S.at' (S.mkl nq fun j => tq (j + aq)) j))
 (List.length
 (Prod.snd
 (Prod.snd
 (S.subI n1 (List.length (S.mkl np fun j => tp (j + ap)))
 (fun j => S.at' (S.mkl np fun j => tp (j + ap)) j) n2
 (List.length (S.mkl nq fun j => tq (j + aq))) fun j =>
 S.at' (S.mkl nq fun j => tq (j + aq)) j))))
 (fun j =>
 S.at'
 (Prod.snd
 (Prod.snd
 (S.subI n1 (List.length (S.mkl np fun j => tp (j + ap)))
 (fun j => S.at' (S.mkl np fun j => tp (j + ap)) j) n2
 (List.length (S.mkl nq fun j => tq (j + aq))) fun j =>
 S.at' (S.mkl nq fun j => tq (j + aq)) j)))
 j)
 ((S.subI n1 np (fun j => tp (j + ap)) n2 nq fun j => tq (j + aq)).1)
 (List.length
 ((S.subI n1 np (fun j => tp (j + ap)) n2 nq fun j => tq (j + aq)).2.2))
 fun j =>
 S.at'
 ((S.subI n1 np (fun j => tp (j + ap)) n2 nq fun j => tq (j + aq)).2.2) j)
 (Kret (PV.tf true) ([[(1, false, Blk.cols mq [Col.int IntKind.i64 tq]),
 (0, false, Blk.cols mp [Col.int IntKind.i64 tp])]]) (29))
 (Kret (PV.tf false) ([[(1, false, Blk.cols mq [Col.int IntKind.i64 tq]),
 (0, false, Blk.cols mp [Col.int IntKind.i64 tp])]]) (29)))
 (False))
 (Kret (PV.tf false) ([[(1, false, Blk.cols mq [Col.int IntKind.i64 tq]),
 (0, false, Blk.cols mp [Col.int IntKind.i64 tp])]]) (28)))
 (Kret (PV.tf false) ([[(1, false, Blk.cols mq [Col.int IntKind.i64 tq]),
 (0, false, Blk.cols mp [Col.int IntKind.i64 tp])]]) (28)))
 (False))
 (Kret (PV.tf false) ([[(1, false, Blk.cols mq [Col.int IntKind.i64 tq]),
 (0, false, Blk.cols mp [Col.int IntKind.i64 tp])]]) (27)))
 (test (decide
 ((0 +
 List.length
 (Prod.snd
 (Prod.snd
 (S.subI n1 (List.length (S.mkl np fun j => tp (j + ap)))
 (fun j => S.at' (S.mkl np fun j => tp (j + ap)) j) n2
 (List.length (S.mkl nq fun j => tq (j + aq))) fun j =>
 S.at' (S.mkl nq fun j => tq (j + aq)) j))) ≤
 List.length
 (Prod.snd
 (Prod.snd
 (S.subI n1 (List.length (S.mkl np fun j => tp (j + ap)))
 (fun j => S.at' (S.mkl np fun j => tp (j + ap)) j) n2
 (List.length (S.mkl nq fun j => tq (j + aq))) fun j =>
 S.at' (S.mkl nq fun j => tq (j + aq)) j))) ∧
 List.length
 (Prod.snd
 (Prod.snd
 (S.subI n1 (List.length (S.mkl np fun j => tp (j + ap)))
 (fun j => S.at' (S.mkl np fun j => tp (j + ap)) j) n2
 (List.length (S.mkl nq fun j => tq (j + aq))) fun j =>
 S.at' (S.mkl nq fun j => tq (j + aq)) j))) ≤
 1000000) ∧
 0 +
 List.length
 (Prod.snd
 ((S.subI n1 np (fun j => tp (j + ap)) n2 nq fun j => tq (j + aq)).2)) ≤
 List.length
 ((S.subI n1 np (fun j => tp (j + ap)) n2 nq fun j => tq (j + aq)).2.2) ∧
 List.length
 ((S.subI n1 np (fun j => tp (j + ap)) n2 nq fun j => tq (j + aq)).2.2) ≤
 1000000))
 (test (S.samI
 (Prod.fst
 (S.subI n1 (List.length (S.mkl np fun j => tp (j + ap)))
 (fun j => S.at' (S.mkl np fun j => tp (j + ap)) j) n2
 (List.length (S.mkl nq fun j => tq (j + aq))) fun j =>
 S.at' (S.mkl nq fun j => tq (j + aq)) j))
 (List.length
 (Prod.snd
 (Prod.snd
 (S.subI n1 (List.length (S.mkl np fun j => tp (j + ap)))
 (fun j => S.at' (S.mkl np fun j => tp (j + ap)) j) n2
 (List.length (S.mkl nq fun j => tq (j + aq))) fun j =>
 S.at' (S.mkl nq fun j => tq (j + aq)) j))))
 (fun j =>
 S.at'
 (Prod.snd
 (Prod.snd
 (S.subI n1 (List.length (S.mkl np fun j => tp (j + ap)))
 (fun j => S.at' (S.mkl np fun j => tp (j + ap)) j) n2
 (List.length (S.mkl nq fun j => tq (j + aq))) fun j =>
 S.at' (S.mkl nq fun j => tq (j + aq)) j)))
 j)
 ((S.subI n1 np (fun j => tp (j + ap)) n2 nq fun j => tq (j + aq)).1)
 (List.length
 ((S.subI n1 np (fun j => tp (j + ap)) n2 nq fun j => tq (j + aq)).2.2))
 fun j =>
 S.at'
 ((S.subI n1 np (fun j => tp (j + ap)) n2 nq fun j => tq (j + aq)).2.2) j)
 (test (Prod.fst
 (Prod.snd
 (S.addS n1 (List.length (S.mkl np fun j => tp (j + ap)))
 (fun j => S.at' (S.mkl np fun j => tp (j + ap)) j) n2
 (List.length (S.mkl nq fun j => tq (j + aq))) fun j =>
 S.at' (S.mkl nq fun j => tq (j + aq)) j)) !=
 (0 : Int))
 (test (Prod.fst
 (Prod.snd
 (S.addS n1 (List.length (S.mkl np fun j => tp (j + ap)))
 (fun j => S.at' (S.mkl np fun j => tp (j + ap)) j) n2
 (List.length (S.mkl nq fun j => tq (j + aq))) fun j =>
 S.at' (S.mkl nq fun j => tq (j + aq)) j)) ==
 (S.addS n1 np (fun j => tp (j + ap)) n2 nq fun j => tq (j + aq)).2.1)
 (test (decide
 ((0 +
 List.length
 (Prod.snd
 (Prod.snd
 (S.addS n1 (List.length (S.mkl np fun j => tp (j + ap)))
 (fun j => S.at' (S.mkl np fun j => tp (j + ap)) j) n2
 (List.length (S.mkl nq fun j => tq (j + aq))) fun j =>
 S.at' (S.mkl nq fun j => tq (j + aq)) j))) ≤
 List.length
 (Prod.snd
 (Prod.snd
 (S.addS n1 (List.length (S.mkl np fun j => tp (j + ap)))
 (fun j => S.at' (S.mkl np fun j => tp (j + ap)) j) n2
 (List.length (S.mkl nq fun j => tq (j + aq))) fun j =>
 S.at' (S.mkl nq fun j => tq (j + aq)) j))) ∧
 List.length
 (Prod.snd
 (Prod.snd
 (S.addS n1 (List.length (S.mkl np fun j => tp (j + ap)))
 (fun j => S.at' (S.mkl np fun j => tp (j + ap)) j) n2
 (List.length (S.mkl nq fun j => tq (j + aq))) fun j =>
 S.at' (S.mkl nq fun j => tq (j + aq)) j))) ≤
 1000000) ∧
 0 +
 List.length
 (Prod.snd
 ((S.addS n1 np (fun j => tp (j + ap)) n2 nq fun j => tq (j + aq)).2)) ≤
 List.length
 ((S.addS n1 np (fun j => tp (j + ap)) n2 nq fun j => tq (j + aq)).2.2) ∧
 List.length
 ((S.addS n1 np (fun j => tp (j + ap)) n2 nq fun j => tq (j + aq)).2.2) ≤
 1000000))
 (test (S.samI
 (Prod.fst
 (S.addS n1 (List.length (S.mkl np fun j => tp (j + ap)))
 (fun j => S.at' (S.mkl np fun j => tp (j + ap)) j) n2
 (List.length (S.mkl nq fun j => tq (j + aq))) fun j =>
 S.at' (S.mkl nq fun j => tq (j + aq)) j))
 (List.length
 (Prod.snd
 (Prod.snd
 (S.addS n1 (List.length (S.mkl np fun j => tp (j + ap)))
 (fun j => S.at' (S.mkl np fun j => tp (j + ap)) j) n2
 (List.length (S.mkl nq fun j => tq (j + aq))) fun j =>
 S.at' (S.mkl nq fun j => tq (j + aq)) j))))
 (fun j =>
 S.at'
 (Prod.snd
 (Prod.snd
 (S.addS n1 (List.length (S.mkl np fun j => tp (j + ap)))
 (fun j => S.at' (S.mkl np fun j => tp (j + ap)) j) n2
 (List.length (S.mkl nq fun j => tq (j + aq))) fun j =>
 S.at' (S.mkl nq fun j => tq (j + aq)) j)))
 j)
 ((S.addS n1 np (fun j => tp (j + ap)) n2 nq fun j => tq (j + aq)).1)
 (List.length
 ((S.addS n1 np (fun j => tp (j + ap)) n2 nq fun j => tq (j + aq)).2.2))
 fun j =>
 S.at'
 ((S.addS n1 np (fun j => tp (j + ap)) n2 nq fun j => tq (j + aq)).2.2) j)
 (test (Prod.fst
 (Prod.snd
 (S.subI n1 (List.length (S.mkl np fun j => tp (j + ap)))
 (fun j => S.at' (S.mkl np fun j => tp (j + ap)) j) n2
 (List.length (S.mkl nq fun j => tq (j + aq))) fun j =>
 S.at' (S.mkl nq fun j => tq (j + aq)) j)) ==
 (S.subI n1 np (fun j => tp (j + ap)) n2 nq fun j => tq (j + aq)).2.1)
 (test (decide
 ((0 +
 List.length
 (Prod.snd
 (Prod.snd
 (S.subI n1 (List.length (S.mkl np fun j => tp (j + ap)))
 (fun j => S.at' (S.mkl np fun j => tp (j + ap)) j) n2
 (List.length (S.mkl nq fun j => tq (j + aq))) fun j =>
 S.at' (S.mkl nq fun j => tq (j + aq)) j))) ≤
 List.length
 (Prod.snd
 (Prod.snd
 (S.subI n1 (List.length (S.mkl np fun j => tp (j + ap)))
 (fun j => S.at' (S.mkl np fun j => tp (j + ap)) j) n2
 (List.length (S.mkl nq fun j => tq (j + aq))) fun j =>
 S.at' (S.mkl nq fun j => tq (j + aq)) j))) ∧
 List.length
 (Prod.snd
 (Prod.snd
 (S.subI n1 (List.length (S.mkl np fun j => tp (j + ap)))
 (fun j => S.at' (S.mkl np fun j => tp (j + ap)) j) n2
 (List.length (S.mkl nq fun j => tq (j + aq))) fun j =>
 S.at' (S.mkl nq fun j => tq (j + aq)) j))) ≤
 1000000) ∧
 0 +
 List.length
 (Prod.snd
 ((S.subI n1 np (fun j => tp (j + ap)) n2 nq fun j => tq (j + aq)).2)) ≤
 List.length
 ((S.subI n1 np (fun j => tp (j + ap)) n2 nq fun j => tq (j + aq)).2.2) ∧
 List.length
 ((S.subI n1 np (fun j => tp (j + ap)) n2 nq fun j => tq (j + aq)).2.2) ≤
 1000000))
 (test (S.samI
 (Prod.fst
 (S.subI n1 (List.length (S.mkl np fun j => tp (j + ap)))
 (fun j => S.at' (S.mkl np fun j => tp (j + ap)) j) n2
 (List.length (S.mkl nq fun j => tq (j + aq))) fun j =>
 S.at' (S.mkl nq fun j => tq (j + aq)) j))
 (List.length
 (Prod.snd
 (Prod.snd
 (S.subI n1 (List.length (S.mkl np fun j => tp (j + ap)))
 (fun j => S.at' (S.mkl np fun j => tp (j + ap)) j) n2
 (List.length (S.mkl nq fun j => tq (j + aq))) fun j =>
 S.at' (S.mkl nq fun j => tq (j + aq)) j))))
 (fun j =>
 S.at'
 (Prod.snd
 (Prod.snd
 (S.subI n1 (List.length (S.mkl np fun j => tp (j + ap)))
 (fun j => S.at' (S.mkl np fun j => tp (j + ap)) j) n2
 (List.length (S.mkl nq fun j => tq (j + aq))) fun j =>
 S.at' (S.mkl nq fun j => tq (j + aq)) j)))
 j)
 ((S.subI n1 np (fun j => tp (j + ap)) n2 nq fun j => tq (j + aq)).1)
 (List.length
 ((S.subI n1 np (fun j => tp (j + ap)) n2 nq fun j => tq (j + aq)).2.2))
 fun j =>
 S.at'
 ((S.subI n1 np (fun j => tp (j + ap)) n2 nq fun j => tq (j + aq)).2.2) j)
 (Kret (PV.tf true) ([[(1, false, Blk.cols mq [Col.int IntKind.i64 tq]),
 (0, false, Blk.cols mp [Col.int IntKind.i64 tp])]]) (30))
 (Kret (PV.tf false) ([[(1, false, Blk.cols mq [Col.int IntKind.i64 tq]),
 (0, false, Blk.cols mp [Col.int IntKind.i64 tp])]]) (30)))
 (False))
 (Kret (PV.tf false) ([[(1, false, Blk.cols mq [Col.int IntKind.i64 tq]),
 (0, false, Blk.cols mp [Col.int IntKind.i64 tp])]]) (29)))
 (Kret (PV.tf false) ([[(1, false, Blk.cols mq [Col.int IntKind.i64 tq]),
 (0, false, Blk.cols mp [Col.int IntKind.i64 tp])]]) (29)))
 (False))
 (Kret (PV.tf false) ([[(1, false, Blk.cols mq [Col.int IntKind.i64 tq]),
 (0, false, Blk.cols mp [Col.int IntKind.i64 tp])]]) (28)))
 (test (decide
 ((0 +
 List.length
 (Prod.snd
 (Prod.snd
 (S.addS n1 (List.length (S.mkl np fun j => tp (j + ap)))
 (fun j => S.at' (S.mkl np fun j => tp (j + ap)) j) n2
 (List.length (S.mkl nq fun j => tq (j + aq))) fun j =>
 S.at' (S.mkl nq fun j => tq (j + aq)) j))) ≤
 List.length
 (Prod.snd
 (Prod.snd
 (S.addS n1 (List.length (S.mkl np fun j => tp (j + ap)))
 (fun j => S.at' (S.mkl np fun j => tp (j + ap)) j) n2
 (List.length (S.mkl nq fun j => tq (j + aq))) fun j =>
 S.at' (S.mkl nq fun j => tq (j + aq)) j))) ∧
 List.length
 (Prod.snd
 (Prod.snd
 (S.addS n1 (List.length (S.mkl np fun j => tp (j + ap)))
 (fun j => S.at' (S.mkl np fun j => tp (j + ap)) j) n2
 (List.length (S.mkl nq fun j => tq (j + aq))) fun j =>
 S.at' (S.mkl nq fun j => tq (j + aq)) j))) ≤
 1000000) ∧
 aq + nq ≤ mq ∧ nq ≤ 1000000))
 (test (Prod.fst
 (Prod.snd
 (S.subI
 (Prod.fst
 (S.addS n1 (List.length (S.mkl np fun j => tp (j + ap)))
 (fun j => S.at' (S.mkl np fun j => tp (j + ap)) j) n2
 (List.length (S.mkl nq fun j => tq (j + aq))) fun j =>
 S.at' (S.mkl nq fun j => tq (j + aq)) j))
 (List.length
 (Prod.snd
 (Prod.snd
 (S.addS n1 (List.length (S.mkl np fun j => tp (j + ap)))
 (fun j => S.at' (S.mkl np fun j => tp (j + ap)) j) n2
 (List.length (S.mkl nq fun j => tq (j + aq))) fun j =>
 S.at' (S.mkl nq fun j => tq (j + aq)) j))))
 (fun j =>
 S.at'
 (Prod.snd
 (Prod.snd
 (S.addS n1 (List.length (S.mkl np fun j => tp (j + ap)))
 (fun j => S.at' (S.mkl np fun j => tp (j + ap)) j) n2
 (List.length (S.mkl nq fun j => tq (j + aq))) fun j =>
 S.at' (S.mkl nq fun j => tq (j + aq)) j)))
 j)
 n2 nq fun j => tq (j + aq))) ==
 (0 : Int))
 (test (decide
 ((0 +
 List.length
 (Prod.snd
 (Prod.snd
 (S.subI
 (Prod.fst
 (S.addS n1 (List.length (S.mkl np fun j => tp (j + ap)))
 (fun j => S.at' (S.mkl np fun j => tp (j + ap)) j) n2
 (List.length (S.mkl nq fun j => tq (j + aq))) fun j =>
 S.at' (S.mkl nq fun j => tq (j + aq)) j))
 (List.length
 (Prod.snd
 (Prod.snd
 (S.addS n1 (List.length (S.mkl np fun j => tp (j + ap)))
 (fun j => S.at' (S.mkl np fun j => tp (j + ap)) j) n2
 (List.length (S.mkl nq fun j => tq (j + aq))) fun j =>
 S.at' (S.mkl nq fun j => tq (j + aq)) j))))
 (fun j =>
 S.at'
 (Prod.snd
 (Prod.snd
 (S.addS n1 (List.length (S.mkl np fun j => tp (j + ap)))
 (fun j => S.at' (S.mkl np fun j => tp (j + ap)) j) n2
 (List.length (S.mkl nq fun j => tq (j + aq))) fun j =>
 S.at' (S.mkl nq fun j => tq (j + aq)) j)))
 j)
 n2 nq fun j => tq (j + aq)))) ≤
 List.length
 (Prod.snd
 (Prod.snd
 (S.subI
 (Prod.fst
 (S.addS n1 (List.length (S.mkl np fun j => tp (j + ap)))
 (fun j => S.at' (S.mkl np fun j => tp (j + ap)) j) n2
 (List.length (S.mkl nq fun j => tq (j + aq))) fun j =>
 S.at' (S.mkl nq fun j => tq (j + aq)) j))
 (List.length
 (Prod.snd
 (Prod.snd
 (S.addS n1 (List.length (S.mkl np fun j => tp (j + ap)))
 (fun j => S.at' (S.mkl np fun j => tp (j + ap)) j) n2
 (List.length (S.mkl nq fun j => tq (j + aq))) fun j =>
 S.at' (S.mkl nq fun j => tq (j + aq)) j))))
 (fun j =>
 S.at'
 (Prod.snd
 (Prod.snd
 (S.addS n1 (List.length (S.mkl np fun j => tp (j + ap)))
 (fun j => S.at' (S.mkl np fun j => tp (j + ap)) j) n2
 (List.length (S.mkl nq fun j => tq (j + aq))) fun j =>
 S.at' (S.mkl nq fun j => tq (j + aq)) j)))
 j)
 n2 nq fun j => tq (j + aq)))) ∧
 List.length
 (Prod.snd
 (Prod.snd
 (S.subI
 (Prod.fst
 (S.addS n1 (List.length (S.mkl np fun j => tp (j + ap)))
 (fun j => S.at' (S.mkl np fun j => tp (j + ap)) j) n2
 (List.length (S.mkl nq fun j => tq (j + aq))) fun j =>
 S.at' (S.mkl nq fun j => tq (j + aq)) j))
 (List.length
 (Prod.snd
 (Prod.snd
 (S.addS n1 (List.length (S.mkl np fun j => tp (j + ap)))
 (fun j => S.at' (S.mkl np fun j => tp (j + ap)) j) n2
 (List.length (S.mkl nq fun j => tq (j + aq))) fun j =>
 S.at' (S.mkl nq fun j => tq (j + aq)) j))))
 (fun j =>
 S.at'
 (Prod.snd
 (Prod.snd
 (S.addS n1 (List.length (S.mkl np fun j => tp (j + ap)))
 (fun j => S.at' (S.mkl np fun j => tp (j + ap)) j) n2
 (List.length (S.mkl nq fun j => tq (j + aq))) fun j =>
 S.at' (S.mkl nq fun j => tq (j + aq)) j)))
 j)
 n2 nq fun j => tq (j + aq)))) ≤
 1000000) ∧
 ap + np ≤ mp ∧ np ≤ 1000000))
 (test (S.samI
 (Prod.fst
 (S.subI
 (Prod.fst
 (S.addS n1 (List.length (S.mkl np fun j => tp (j + ap)))
 (fun j => S.at' (S.mkl np fun j => tp (j + ap)) j) n2
 (List.length (S.mkl nq fun j => tq (j + aq))) fun j =>
 S.at' (S.mkl nq fun j => tq (j + aq)) j))
 (List.length
 (Prod.snd
 (Prod.snd
 (S.addS n1 (List.length (S.mkl np fun j => tp (j + ap)))
 (fun j => S.at' (S.mkl np fun j => tp (j + ap)) j) n2
 (List.length (S.mkl nq fun j => tq (j + aq))) fun j =>
 S.at' (S.mkl nq fun j => tq (j + aq)) j))))
 (fun j =>
 S.at'
 (Prod.snd
 (Prod.snd
 (S.addS n1 (List.length (S.mkl np fun j => tp (j + ap)))
 (fun j => S.at' (S.mkl np fun j => tp (j + ap)) j) n2
 (List.length (S.mkl nq fun j => tq (j + aq))) fun j =>
 S.at' (S.mkl nq fun j => tq (j + aq)) j)))
 j)
 n2 nq fun j => tq (j + aq)))
 (List.length
 (Prod.snd
 (Prod.snd
 (S.subI
 (Prod.fst
 (S.addS n1 (List.length (S.mkl np fun j => tp (j + ap)))
 (fun j => S.at' (S.mkl np fun j => tp (j + ap)) j) n2
 (List.length (S.mkl nq fun j => tq (j + aq))) fun j =>
 S.at' (S.mkl nq fun j => tq (j + aq)) j))
 (List.length
 (Prod.snd
 (Prod.snd
 (S.addS n1 (List.length (S.mkl np fun j => tp (j + ap)))
 (fun j => S.at' (S.mkl np fun j => tp (j + ap)) j) n2
 (List.length (S.mkl nq fun j => tq (j + aq))) fun j =>
 S.at' (S.mkl nq fun j => tq (j + aq)) j))))
 (fun j =>
 S.at'
 (Prod.snd
 (Prod.snd
 (S.addS n1 (List.length (S.mkl np fun j => tp (j + ap)))
 (fun j => S.at' (S.mkl np fun j => tp (j + ap)) j) n2
 (List.length (S.mkl nq fun j => tq (j + aq))) fun j =>
 S.at' (S.mkl nq fun j => tq (j + aq)) j)))
 j)
 n2 nq fun j => tq (j + aq)))))
 (fun j =>
 S.at'
 (Prod.snd
 (Prod.snd
 (S.subI
 (Prod.fst
 (S.addS n1 (List.length (S.mkl np fun j => tp (j + ap)))
 (fun j => S.at' (S.mkl np fun j => tp (j + ap)) j) n2
 (List.length (S.mkl nq fun j => tq (j + aq))) fun j =>
 S.at' (S.mkl nq fun j => tq (j + aq)) j))
 (List.length
 (Prod.snd
 (Prod.snd
 (S.addS n1 (List.length (S.mkl np fun j => tp (j + ap)))
 (fun j => S.at' (S.mkl np fun j => tp (j + ap)) j) n2
 (List.length (S.mkl nq fun j => tq (j + aq))) fun j =>
 S.at' (S.mkl nq fun j => tq (j + aq)) j))))
 (fun j =>
 S.at'
 (Prod.snd
 (Prod.snd
 (S.addS n1 (List.length (S.mkl np fun j => tp (j + ap)))
 (fun j => S.at' (S.mkl np fun j => tp (j + ap)) j) n2
 (List.length (S.mkl nq fun j => tq (j + aq))) fun j =>
 S.at' (S.mkl nq fun j => tq (j + aq)) j)))
 j)
 n2 nq fun j => tq (j + aq))))
 j)
 n1 np fun j => tp (j + ap))
 (Kret (PV.tf true) ([[(1, false, Blk.cols mq [Col.int IntKind.i64 tq]),
 (0, false, Blk.cols mp [Col.int IntKind.i64 tp])]]) (32))
 (Kret (PV.tf false) ([[(1, false, Blk.cols mq [Col.int IntKind.i64 tq]),
 (0, false, Blk.cols mp [Col.int IntKind.i64 tp])]]) (32)))
 (False))
 (Kret (PV.tf false) ([[(1, false, Blk.cols mq [Col.int IntKind.i64 tq]),
 (0, false, Blk.cols mp [Col.int IntKind.i64 tp])]]) (31)))
 (False)))
 (test (Prod.fst
 (Prod.snd
 (S.addS n1 (List.length (S.mkl np fun j => tp (j + ap)))
 (fun j => S.at' (S.mkl np fun j => tp (j + ap)) j) n2
 (List.length (S.mkl nq fun j => tq (j + aq))) fun j =>
 S.at' (S.mkl nq fun j => tq (j + aq)) j)) ==
 (S.addS n1 np (fun j => tp (j + ap)) n2 nq fun j => tq (j + aq)).2.1)
 (test (decide
 ((0 +
 List.length
 (Prod.snd
 (Prod.snd
 (S.addS n1 (List.length (S.mkl np fun j => tp (j + ap)))
 (fun j => S.at' (S.mkl np fun j => tp (j + ap)) j) n2
 (List.length (S.mkl nq fun j => tq (j + aq))) fun j =>
 S.at' (S.mkl nq fun j => tq (j + aq)) j))) ≤
 List.length
 (Prod.snd
 (Prod.snd
 (S.addS n1 (List.length (S.mkl np fun j => tp (j + ap)))
 (fun j => S.at' (S.mkl np fun j => tp (j + ap)) j) n2
 (List.length (S.mkl nq fun j => tq (j + aq))) fun j =>
 S.at' (S.mkl nq fun j => tq (j + aq)) j))) ∧
 List.length
 (Prod.snd
 (Prod.snd
 (S.addS n1 (List.length (S.mkl np fun j => tp (j + ap)))
 (fun j => S.at' (S.mkl np fun j => tp (j + ap)) j) n2
 (List.length (S.mkl nq fun j => tq (j + aq))) fun j =>
 S.at' (S.mkl nq fun j => tq (j + aq)) j))) ≤
 1000000) ∧
 0 +
 List.length
 (Prod.snd
 ((S.addS n1 np (fun j => tp (j + ap)) n2 nq fun j => tq (j + aq)).2)) ≤
 List.length
 ((S.addS n1 np (fun j => tp (j + ap)) n2 nq fun j => tq (j + aq)).2.2) ∧
 List.length
 ((S.addS n1 np (fun j => tp (j + ap)) n2 nq fun j => tq (j + aq)).2.2) ≤
 1000000))
 (test (S.samI
 (Prod.fst
 (S.addS n1 (List.length (S.mkl np fun j => tp (j + ap)))
 (fun j => S.at' (S.mkl np fun j => tp (j + ap)) j) n2
 (List.length (S.mkl nq fun j => tq (j + aq))) fun j =>
 S.at' (S.mkl nq fun j => tq (j + aq)) j))
 (List.length
 (Prod.snd
 (Prod.snd
 (S.addS n1 (List.length (S.mkl np fun j => tp (j + ap)))
 (fun j => S.at' (S.mkl np fun j => tp (j + ap)) j) n2
 (List.length (S.mkl nq fun j => tq (j + aq))) fun j =>
 S.at' (S.mkl nq fun j => tq (j + aq)) j))))
 (fun j =>
 S.at'
 (Prod.snd
 (Prod.snd
 (S.addS n1 (List.length (S.mkl np fun j => tp (j + ap)))
 (fun j => S.at' (S.mkl np fun j => tp (j + ap)) j) n2
 (List.length (S.mkl nq fun j => tq (j + aq))) fun j =>
 S.at' (S.mkl nq fun j => tq (j + aq)) j)))
 j)
 ((S.addS n1 np (fun j => tp (j + ap)) n2 nq fun j => tq (j + aq)).1)
 (List.length
 ((S.addS n1 np (fun j => tp (j + ap)) n2 nq fun j => tq (j + aq)).2.2))
 fun j =>
 S.at'
 ((S.addS n1 np (fun j => tp (j + ap)) n2 nq fun j => tq (j + aq)).2.2) j)
 (test (Prod.fst
 (Prod.snd
 (S.subI n1 (List.length (S.mkl np fun j => tp (j + ap)))
 (fun j => S.at' (S.mkl np fun j => tp (j + ap)) j) n2
 (List.length (S.mkl nq fun j => tq (j + aq))) fun j =>
 S.at' (S.mkl nq fun j => tq (j + aq)) j)) ==
 (S.subI n1 np (fun j => tp (j + ap)) n2 nq fun j => tq (j + aq)).2.1)
 (test (decide
 ((0 +
 List.length
 (Prod.snd
 (Prod.snd
 (S.subI n1 (List.length (S.mkl np fun j => tp (j + ap)))
 (fun j => S.at' (S.mkl np fun j => tp (j + ap)) j) n2
 (List.length (S.mkl nq fun j => tq (j + aq))) fun j =>
 S.at' (S.mkl nq fun j => tq (j + aq)) j))) ≤
 List.length
 (Prod.snd
 (Prod.snd
 (S.subI n1 (List.length (S.mkl np fun j => tp (j + ap)))
 (fun j => S.at' (S.mkl np fun j => tp (j + ap)) j) n2
 (List.length (S.mkl nq fun j => tq (j + aq))) fun j =>
 S.at' (S.mkl nq fun j => tq (j + aq)) j))) ∧
 List.length
 (Prod.snd
 (Prod.snd
 (S.subI n1 (List.length (S.mkl np fun j => tp (j + ap)))
 (fun j => S.at' (S.mkl np fun j => tp (j + ap)) j) n2
 (List.length (S.mkl nq fun j => tq (j + aq))) fun j =>
 S.at' (S.mkl nq fun j => tq (j + aq)) j))) ≤
 1000000) ∧
 0 +
 List.length
 (Prod.snd
 ((S.subI n1 np (fun j => tp (j + ap)) n2 nq fun j => tq (j + aq)).2)) ≤
 List.length
 ((S.subI n1 np (fun j => tp (j + ap)) n2 nq fun j => tq (j + aq)).2.2) ∧
 List.length
 ((S.subI n1 np (fun j => tp (j + ap)) n2 nq fun j => tq (j + aq)).2.2) ≤
 1000000))
 (test (S.samI
 (Prod.fst
 (S.subI n1 (List.length (S.mkl np fun j => tp (j + ap)))
 (fun j => S.at' (S.mkl np fun j => tp (j + ap)) j) n2
 (List.length (S.mkl nq fun j => tq (j + aq))) fun j =>
 S.at' (S.mkl nq fun j => tq (j + aq)) j))
 (List.length
 (Prod.snd
 (Prod.snd
 (S.subI n1 (List.length (S.mkl np fun j => tp (j + ap)))
 (fun j => S.at' (S.mkl np fun j => tp (j + ap)) j) n2
 (List.length (S.mkl nq fun j => tq (j + aq))) fun j =>
 S.at' (S.mkl nq fun j => tq (j + aq)) j))))
 (fun j =>
 S.at'
 (Prod.snd
 (Prod.snd
 (S.subI n1 (List.length (S.mkl np fun j => tp (j + ap)))
 (fun j => S.at' (S.mkl np fun j => tp (j + ap)) j) n2
 (List.length (S.mkl nq fun j => tq (j + aq))) fun j =>
 S.at' (S.mkl nq fun j => tq (j + aq)) j)))
 j)
 ((S.subI n1 np (fun j => tp (j + ap)) n2 nq fun j => tq (j + aq)).1)
 (List.length
 ((S.subI n1 np (fun j => tp (j + ap)) n2 nq fun j => tq (j + aq)).2.2))
 fun j =>
 S.at'
 ((S.subI n1 np (fun j => tp (j + ap)) n2 nq fun j => tq (j + aq)).2.2) j)
 (Kret (PV.tf true) ([[(1, false, Blk.cols mq [Col.int IntKind.i64 tq]),
 (0, false, Blk.cols mp [Col.int IntKind.i64 tp])]]) (30))
 (Kret (PV.tf false) ([[(1, false, Blk.cols mq [Col.int IntKind.i64 tq]),
 (0, false, Blk.cols mp [Col.int IntKind.i64 tp])]]) (30)))
 (False))
 (Kret (PV.tf false) ([[(1, false, Blk.cols mq [Col.int IntKind.i64 tq]),
 (0, false, Blk.cols mp [Col.int IntKind.i64 tp])]]) (29)))
 (Kret (PV.tf false) ([[(1, false, Blk.cols mq [Col.int IntKind.i64 tq]),
 (0, false, Blk.cols mp [Col.int IntKind.i64 tp])]]) (29)))
 (False))
 (Kret (PV.tf false) ([[(1, false, Blk.cols mq [Col.int IntKind.i64 tq]),
 (0, false, Blk.cols mp [Col.int IntKind.i64 tp])]]) (28))))
 (False)))
 (test (Prod.fst
 (Prod.snd
 (S.addS n1 (List.length (S.mkl np fun j => tp (j + ap)))
 (fun j => S.at' (S.mkl np fun j => tp (j + ap)) j) n2
 (List.length (S.mkl nq fun j => tq (j + aq))) fun j =>
 S.at' (S.mkl nq fun j => tq (j + aq)) j)) ==
 (S.addS n1 np (fun j => tp (j + ap)) n2 nq fun j => tq (j + aq)).2.1)
 (test (decide
 ((0 +
 List.length
 (Prod.snd
 (Prod.snd
 (S.addS n1 (List.length (S.mkl np fun j => tp (j + ap)))
 (fun j => S.at' (S.mkl np fun j => tp (j + ap)) j) n2
 (List.length (S.mkl nq fun j => tq (j + aq))) fun j =>
 S.at' (S.mkl nq fun j => tq (j + aq)) j))) ≤
 List.length
 (Prod.snd
 (Prod.snd
 (S.addS n1 (List.length (S.mkl np fun j => tp (j + ap)))
 (fun j => S.at' (S.mkl np fun j => tp (j + ap)) j) n2
 (List.length (S.mkl nq fun j => tq (j + aq))) fun j =>
 S.at' (S.mkl nq fun j => tq (j + aq)) j))) ∧
 List.length
 (Prod.snd
 (Prod.snd
 (S.addS n1 (List.length (S.mkl np fun j => tp (j + ap)))
 (fun j => S.at' (S.mkl np fun j => tp (j + ap)) j) n2
 (List.length (S.mkl nq fun j => tq (j + aq))) fun j =>
 S.at' (S.mkl nq fun j => tq (j + aq)) j))) ≤
 1000000) ∧
 0 +
 List.length
 (Prod.snd
 ((S.addS n1 np (fun j => tp (j + ap)) n2 nq fun j => tq (j + aq)).2)) ≤
 List.length
 ((S.addS n1 np (fun j => tp (j + ap)) n2 nq fun j => tq (j + aq)).2.2) ∧
 List.length
 ((S.addS n1 np (fun j => tp (j + ap)) n2 nq fun j => tq (j + aq)).2.2) ≤
 1000000))
 (test (S.samI
 (Prod.fst
 (S.addS n1 (List.length (S.mkl np fun j => tp (j + ap)))
 (fun j => S.at' (S.mkl np fun j => tp (j + ap)) j) n2
 (List.length (S.mkl nq fun j => tq (j + aq))) fun j =>
 S.at' (S.mkl nq fun j => tq (j + aq)) j))
 (List.length
 (Prod.snd
 (Prod.snd
 (S.addS n1 (List.length (S.mkl np fun j => tp (j + ap)))
 (fun j => S.at' (S.mkl np fun j => tp (j + ap)) j) n2
 (List.length (S.mkl nq fun j => tq (j + aq))) fun j =>
 S.at' (S.mkl nq fun j => tq (j + aq)) j))))
 (fun j =>
 S.at'
 (Prod.snd
 (Prod.snd
 (S.addS n1 (List.length (S.mkl np fun j => tp (j + ap)))
 (fun j => S.at' (S.mkl np fun j => tp (j + ap)) j) n2
 (List.length (S.mkl nq fun j => tq (j + aq))) fun j =>
 S.at' (S.mkl nq fun j => tq (j + aq)) j)))
 j)
 ((S.addS n1 np (fun j => tp (j + ap)) n2 nq fun j => tq (j + aq)).1)
 (List.length
 ((S.addS n1 np (fun j => tp (j + ap)) n2 nq fun j => tq (j + aq)).2.2))
 fun j =>
 S.at'
 ((S.addS n1 np (fun j => tp (j + ap)) n2 nq fun j => tq (j + aq)).2.2) j)
 (test (Prod.fst
 (Prod.snd
 (S.subI n1 (List.length (S.mkl np fun j => tp (j + ap)))
 (fun j => S.at' (S.mkl np fun j => tp (j + ap)) j) n2
 (List.length (S.mkl nq fun j => tq (j + aq))) fun j =>
 S.at' (S.mkl nq fun j => tq (j + aq)) j)) ==
 (S.subI n1 np (fun j => tp (j + ap)) n2 nq fun j => tq (j + aq)).2.1)
 (test (decide
 ((0 +
 List.length
 (Prod.snd
 (Prod.snd
 (S.subI n1 (List.length (S.mkl np fun j => tp (j + ap)))
 (fun j => S.at' (S.mkl np fun j => tp (j + ap)) j) n2
 (List.length (S.mkl nq fun j => tq (j + aq))) fun j =>
 S.at' (S.mkl nq fun j => tq (j + aq)) j))) ≤
 List.length
 (Prod.snd
 (Prod.snd
 (S.subI n1 (List.length (S.mkl np fun j => tp (j + ap)))
 (fun j => S.at' (S.mkl np fun j => tp (j + ap)) j) n2
 (List.length (S.mkl nq fun j => tq (j + aq))) fun j =>
 S.at' (S.mkl nq fun j => tq (j + aq)) j))) ∧
 List.length
 (Prod.snd
 (Prod.snd
 (S.subI n1 (List.length (S.mkl np fun j => tp (j + ap)))
 (fun j => S.at' (S.mkl np fun j => tp (j + ap)) j) n2
 (List.length (S.mkl nq fun j => tq (j + aq))) fun j =>
 S.at' (S.mkl nq fun j => tq (j + aq)) j))) ≤
 1000000) ∧
 0 +
 List.length
 (Prod.snd
 ((S.subI n1 np (fun j => tp (j + ap)) n2 nq fun j => tq (j + aq)).2)) ≤
 List.length
 ((S.subI n1 np (fun j => tp (j + ap)) n2 nq fun j => tq (j + aq)).2.2) ∧
 List.length
 ((S.subI n1 np (fun j => tp (j + ap)) n2 nq fun j => tq (j + aq)).2.2) ≤
 1000000))
 (test (S.samI
 (Prod.fst
 (S.subI n1 (List.length (S.mkl np fun j => tp (j + ap)))
 (fun j => S.at' (S.mkl np fun j => tp (j + ap)) j) n2
 (List.length (S.mkl nq fun j => tq (j + aq))) fun j =>
 S.at' (S.mkl nq fun j => tq (j + aq)) j))
 (List.length
 (Prod.snd
 (Prod.snd
 (S.subI n1 (List.length (S.mkl np fun j => tp (j + ap)))
 (fun j => S.at' (S.mkl np fun j => tp (j + ap)) j) n2
 (List.length (S.mkl nq fun j => tq (j + aq))) fun j =>
 S.at' (S.mkl nq fun j => tq (j + aq)) j))))
 (fun j =>
 S.at'
 (Prod.snd
 (Prod.snd
 (S.subI n1 (List.length (S.mkl np fun j => tp (j + ap)))
 (fun j => S.at' (S.mkl np fun j => tp (j + ap)) j) n2
 (List.length (S.mkl nq fun j => tq (j + aq))) fun j =>
 S.at' (S.mkl nq fun j => tq (j + aq)) j)))
 j)
 ((S.subI n1 np (fun j => tp (j + ap)) n2 nq fun j => tq (j + aq)).1)
 (List.length
 ((S.subI n1 np (fun j => tp (j + ap)) n2 nq fun j => tq (j + aq)).2.2))
 fun j =>
 S.at'
 ((S.subI n1 np (fun j => tp (j + ap)) n2 nq fun j => tq (j + aq)).2.2) j)
 (Kret (PV.tf true) ([[(1, false, Blk.cols mq [Col.int IntKind.i64 tq]),
 (0, false, Blk.cols mp [Col.int IntKind.i64 tp])]]) (29))
 (Kret (PV.tf false) ([[(1, false, Blk.cols mq [Col.int IntKind.i64 tq]),
 (0, false, Blk.cols mp [Col.int IntKind.i64 tp])]]) (29)))
 (False))
 (Kret (PV.tf false) ([[(1, false, Blk.cols mq [Col.int IntKind.i64 tq]),
 (0, false, Blk.cols mp [Col.int IntKind.i64 tp])]]) (28)))
 (Kret (PV.tf false) ([[(1, false, Blk.cols mq [Col.int IntKind.i64 tq]),
 (0, false, Blk.cols mp [Col.int IntKind.i64 tp])]]) (28)))
 (False))
 (Kret (PV.tf false) ([[(1, false, Blk.cols mq [Col.int IntKind.i64 tq]),
 (0, false, Blk.cols mp [Col.int IntKind.i64 tp])]]) (27))))
 (False)))
 (False))
 (False))
 (False))
 (False))
 (False))
 (False))
 (False))
 (False))
 (test (true)
 (test (true)
 (Kret (PV.tf true) ([[(1, false, Blk.cols mq [Col.int IntKind.i64 tq]),
 (0, false, Blk.cols mp [Col.int IntKind.i64 tp])]]) (7))
 (Kret (PV.tf false) ([[(1, false, Blk.cols mq [Col.int IntKind.i64 tq]),
 (0, false, Blk.cols mp [Col.int IntKind.i64 tp])]]) (7)))
 (False))))
 (False))
 (False))
 (False))
 (test (true)
 (test (decide (ap + np ≤ mp ∧ np ≤ 1000000))
 (test (decide (aq + nq ≤ mq ∧ nq ≤ 1000000))
 (test (decide
 ((0 + List.length (S.mkl np fun j => tp (j + ap)) ≤
 List.length (S.mkl np fun j => tp (j + ap)) ∧
 List.length (S.mkl np fun j => tp (j + ap)) ≤ 1000000) ∧
 0 + List.length (S.mkl nq fun j => tq (j + aq)) ≤
 List.length (S.mkl nq fun j => tq (j + aq)) ∧
 List.length (S.mkl nq fun j => tq (j + aq)) ≤ 1000000))
 (test (decide ((ap + np ≤ mp ∧ np ≤ 1000000) ∧ aq + nq ≤ mq ∧ nq ≤ 1000000))
 (test (decide (ap + np ≤ mp ∧ np ≤ 1000000))
 (test (decide (aq + nq ≤ mq ∧ nq ≤ 1000000))
 (test (decide
 ((0 + List.length (S.mkl np fun j => tp (j + ap)) ≤
 List.length (S.mkl np fun j => tp (j + ap)) ∧
 List.length (S.mkl np fun j => tp (j + ap)) ≤ 1000000) ∧
 0 + List.length (S.mkl nq fun j => tq (j + aq)) ≤
 List.length (S.mkl nq fun j => tq (j + aq)) ∧
 List.length (S.mkl nq fun j => tq (j + aq)) ≤ 1000000))
 (test (decide ((ap + np ≤ mp ∧ np ≤ 1000000) ∧ aq + nq ≤ mq ∧ nq ≤ 1000000))
 (test (Prod.fst
 (Prod.snd
 (S.addS n1 (List.length (S.mkl np fun j => tp (j + ap)))
 (fun j => S.at' (S.mkl np fun j => tp (j + ap)) j) n2
 (List.length (S.mkl nq fun j => tq (j + aq))) fun j =>
 S.at' (S.mkl nq fun j => tq (j + aq)) j)) !=
 (S.addS n1 np (fun j => tp (j + ap)) n2 nq fun j => tq (j + aq)).2.1)
 (test (Prod.fst
 (Prod.snd
 (S.addS n1 (List.length (S.mkl np fun j => tp (j + ap)))
 (fun j => S.at' (S.mkl np fun j => tp (j + ap)) j) n2
 (List.length (S.mkl nq fun j => tq (j + aq))) fun j =>
 S.at' (S.mkl nq fun j => tq (j + aq)) j)) ==
 (S.addS n1 np (fun j => tp (j + ap)) n2 nq fun j => tq (j + aq)).2.1)
 (test (decide
 ((0 +
 List.length
 (Prod.snd
 (Prod.snd
 (S.addS n1 (List.length (S.mkl np fun j => tp (j + ap)))
 (fun j => S.at' (S.mkl np fun j => tp (j + ap)) j) n2
 (List.length (S.mkl nq fun j => tq (j + aq))) fun j =>
 S.at' (S.mkl nq fun j => tq (j + aq)) j))) ≤
 List.length
 (Prod.snd
 (Prod.snd
 (S.addS n1 (List.length (S.mkl np fun j => tp (j + ap)))
 (fun j => S.at' (S.mkl np fun j => tp (j + ap)) j) n2
 (List.length (S.mkl nq fun j => tq (j + aq))) fun j =>
 S.at' (S.mkl nq fun j => tq (j + aq)) j))) ∧
 List.length
 (Prod.snd
 (Prod.snd
 (S.addS n1 (List.length (S.mkl np fun j => tp (j + ap)))
 (fun j => S.at' (S.mkl np fun j => tp (j + ap)) j) n2
 (List.length (S.mkl nq fun j => tq (j + aq))) fun j =>
 S.at' (S.mkl nq fun j => tq (j + aq)) j))) ≤
 1000000) ∧
 0 +
 List.length
 (Prod.snd
 ((S.addS n1 np (fun j => tp (j + ap)) n2 nq fun j => tq (j + aq)).2)) ≤
 List.length
 ((S.addS n1 np (fun j => tp (j + ap)) n2 nq fun j => tq (j + aq)).2.2) ∧
 List.length
 ((S.addS n1 np (fun j => tp (j + ap)) n2 nq fun j => tq (j + aq)).2.2) ≤
 1000000))
 (test (S.samI
 (Prod.fst
 (S.addS n1 (List.length (S.mkl np fun j => tp (j + ap)))
 (fun j => S.at' (S.mkl np fun j => tp (j + ap)) j) n2
 (List.length (S.mkl nq fun j => tq (j + aq))) fun j =>
 S.at' (S.mkl nq fun j => tq (j + aq)) j))
 (List.length
 (Prod.snd
 (Prod.snd
 (S.addS n1 (List.length (S.mkl np fun j => tp (j + ap)))
 (fun j => S.at' (S.mkl np fun j => tp (j + ap)) j) n2
 (List.length (S.mkl nq fun j => tq (j + aq))) fun j =>
 S.at' (S.mkl nq fun j => tq (j + aq)) j))))
 (fun j =>
 S.at'
 (Prod.snd
 (Prod.snd
 (S.addS n1 (List.length (S.mkl np fun j => tp (j + ap)))
 (fun j => S.at' (S.mkl np fun j => tp (j + ap)) j) n2
 (List.length (S.mkl nq fun j => tq (j + aq))) fun j =>
 S.at' (S.mkl nq fun j => tq (j + aq)) j)))
 j)
 ((S.addS n1 np (fun j => tp (j + ap)) n2 nq fun j => tq (j + aq)).1)
 (List.length
 ((S.addS n1 np (fun j => tp (j + ap)) n2 nq fun j => tq (j + aq)).2.2))
 fun j =>
 S.at'
 ((S.addS n1 np (fun j => tp (j + ap)) n2 nq fun j => tq (j + aq)).2.2) j)
 (test (Prod.fst
 (Prod.snd
 (S.subI n1 (List.length (S.mkl np fun j => tp (j + ap)))
 (fun j => S.at' (S.mkl np fun j => tp (j + ap)) j) n2
 (List.length (S.mkl nq fun j => tq (j + aq))) fun j =>
 S.at' (S.mkl nq fun j => tq (j + aq)) j)) ==
 (S.subI n1 np (fun j => tp (j + ap)) n2 nq fun j => tq (j + aq)).2.1)
 (test (decide
 ((0 +
 List.length
 (Prod.snd
 (Prod.snd
 (S.subI n1 (List.length (S.mkl np fun j => tp (j + ap)))
 (fun j => S.at' (S.mkl np fun j => tp (j + ap)) j) n2
 (List.length (S.mkl nq fun j => tq (j + aq))) fun j =>
 S.at' (S.mkl nq fun j => tq (j + aq)) j))) ≤
 List.length
 (Prod.snd
 (Prod.snd
 (S.subI n1 (List.length (S.mkl np fun j => tp (j + ap)))
 (fun j => S.at' (S.mkl np fun j => tp (j + ap)) j) n2
 (List.length (S.mkl nq fun j => tq (j + aq))) fun j =>
 S.at' (S.mkl nq fun j => tq (j + aq)) j))) ∧
 List.length
 (Prod.snd
 (Prod.snd
 (S.subI n1 (List.length (S.mkl np fun j => tp (j + ap)))
 (fun j => S.at' (S.mkl np fun j => tp (j + ap)) j) n2
 (List.length (S.mkl nq fun j => tq (j + aq))) fun j =>
 S.at' (S.mkl nq fun j => tq (j + aq)) j))) ≤
 1000000) ∧
 0 +
 List.length
 (Prod.snd
 ((S.subI n1 np (fun j => tp (j + ap)) n2 nq fun j => tq (j + aq)).2)) ≤
 List.length
 ((S.subI n1 np (fun j => tp (j + ap)) n2 nq fun j => tq (j + aq)).2.2) ∧
 List.length
 ((S.subI n1 np (fun j => tp (j + ap)) n2 nq fun j => tq (j + aq)).2.2) ≤
 1000000))
 (test (S.samI
 (Prod.fst
 (S.subI n1 (List.length (S.mkl np fun j => tp (j + ap)))
 (fun j => S.at' (S.mkl np fun j => tp (j + ap)) j) n2
 (List.length (S.mkl nq fun j => tq (j + aq))) fun j =>
 S.at' (S.mkl nq fun j => tq (j + aq)) j))
 (List.length
 (Prod.snd
 (Prod.snd
 (S.subI n1 (List.length (S.mkl np fun j => tp (j + ap)))
 (fun j => S.at' (S.mkl np fun j => tp (j + ap)) j) n2
 (List.length (S.mkl nq fun j => tq (j + aq))) fun j =>
 S.at' (S.mkl nq fun j => tq (j + aq)) j))))
 (fun j =>
 S.at'
 (Prod.snd
 (Prod.snd
 (S.subI n1 (List.length (S.mkl np fun j => tp (j + ap)))
 (fun j => S.at' (S.mkl np fun j => tp (j + ap)) j) n2
 (List.length (S.mkl nq fun j => tq (j + aq))) fun j =>
 S.at' (S.mkl nq fun j => tq (j + aq)) j)))
 j)
 ((S.subI n1 np (fun j => tp (j + ap)) n2 nq fun j => tq (j + aq)).1)
 (List.length
 ((S.subI n1 np (fun j => tp (j + ap)) n2 nq fun j => tq (j + aq)).2.2))
 fun j =>
 S.at'
 ((S.subI n1 np (fun j => tp (j + ap)) n2 nq fun j => tq (j + aq)).2.2) j)
 (Kret (PV.tf true) ([[(1, false, Blk.cols mq [Col.int IntKind.i64 tq]),
 (0, false, Blk.cols mp [Col.int IntKind.i64 tp])]]) (28))
 (Kret (PV.tf false) ([[(1, false, Blk.cols mq [Col.int IntKind.i64 tq]),
 (0, false, Blk.cols mp [Col.int IntKind.i64 tp])]]) (28)))
 (False))
 (Kret (PV.tf false) ([[(1, false, Blk.cols mq [Col.int IntKind.i64 tq]),
 (0, false, Blk.cols mp [Col.int IntKind.i64 tp])]]) (27)))
 (Kret (PV.tf false) ([[(1, false, Blk.cols mq [Col.int IntKind.i64 tq]),
 (0, false, Blk.cols mp [Col.int IntKind.i64 tp])]]) (27)))
 (False))
 (Kret (PV.tf false) ([[(1, false, Blk.cols mq [Col.int IntKind.i64 tq]),
 (0, false, Blk.cols mp [Col.int IntKind.i64 tp])]]) (26)))
 (test (decide
 ((0 +
 List.length
 (Prod.snd
 (Prod.snd
 (S.addS n1 (List.length (S.mkl np fun j => tp (j + ap)))
 (fun j => S.at' (S.mkl np fun j => tp (j + ap)) j) n2
 (List.length (S.mkl nq fun j => tq (j + aq))) fun j =>
 S.at' (S.mkl nq fun j => tq (j + aq)) j))) ≤
 List.length
 (Prod.snd
 (Prod.snd
 (S.addS n1 (List.length (S.mkl np fun j => tp (j + ap)))
 (fun j => S.at' (S.mkl np fun j => tp (j + ap)) j) n2
 (List.length (S.mkl nq fun j => tq (j + aq))) fun j =>
 S.at' (S.mkl nq fun j => tq (j + aq)) j))) ∧
 List.length
 (Prod.snd
 (Prod.snd
 (S.addS n1 (List.length (S.mkl np fun j => tp (j + ap)))
 (fun j => S.at' (S.mkl np fun j => tp (j + ap)) j) n2
 (List.length (S.mkl nq fun j => tq (j + aq))) fun j =>
 S.at' (S.mkl nq fun j => tq (j + aq)) j))) ≤
 1000000) ∧
 0 +
 List.length
 (Prod.snd
 ((S.addS n1 np (fun j => tp (j + ap)) n2 nq fun j => tq (j + aq)).2)) ≤
 List.length
 ((S.addS n1 np (fun j => tp (j + ap)) n2 nq fun j => tq (j + aq)).2.2) ∧
 List.length
 ((S.addS n1 np (fun j => tp (j + ap)) n2 nq fun j => tq (j + aq)).2.2) ≤
 1000000))
 (test (S.samI
 (Prod.fst
 (S.addS n1 (List.length (S.mkl np fun j => tp (j + ap)))
 (fun j => S.at' (S.mkl np fun j => tp (j + ap)) j) n2
 (List.length (S.mkl nq fun j => tq (j + aq))) fun j =>
 S.at' (S.mkl nq fun j => tq (j + aq)) j))
 (List.length
 (Prod.snd
 (Prod.snd
 (S.addS n1 (List.length (S.mkl np fun j => tp (j + ap)))
 (fun j => S.at' (S.mkl np fun j => tp (j + ap)) j) n2
 (List.length (S.mkl nq fun j => tq (j + aq))) fun j =>
 S.at' (S.mkl nq fun j => tq (j + aq)) j))))
 (fun j =>
 S.at'
 (Prod.snd
 (Prod.snd
 (S.addS n1 (List.length (S.mkl np fun j => tp (j + ap)))
 (fun j => S.at' (S.mkl np fun j => tp (j + ap)) j) n2
 (List.length (S.mkl nq fun j => tq (j + aq))) fun j =>
 S.at' (S.mkl nq fun j => tq (j + aq)) j)))
 j)
 ((S.addS n1 np (fun j => tp (j + ap)) n2 nq fun j => tq (j + aq)).1)
 (List.length
 ((S.addS n1 np (fun j => tp (j + ap)) n2 nq fun j => tq (j + aq)).2.2))
 fun j =>
 S.at'
 ((S.addS n1 np (fun j => tp (j + ap)) n2 nq fun j => tq (j + aq)).2.2) j)
 (test (Prod.fst
 (Prod.snd
 (S.subI n1 (List.length (S.mkl np fun j => tp (j + ap)))
 (fun j => S.at' (S.mkl np fun j => tp (j + ap)) j) n2
 (List.length (S.mkl nq fun j => tq (j + aq))) fun j =>
 S.at' (S.mkl nq fun j => tq (j + aq)) j)) !=
 (S.subI n1 np (fun j => tp (j + ap)) n2 nq fun j => tq (j + aq)).2.1)
 (test (Prod.fst
 (Prod.snd
 (S.addS n1 (List.length (S.mkl np fun j => tp (j + ap)))
 (fun j => S.at' (S.mkl np fun j => tp (j + ap)) j) n2
 (List.length (S.mkl nq fun j => tq (j + aq))) fun j =>
 S.at' (S.mkl nq fun j => tq (j + aq)) j)) ==
 (S.addS n1 np (fun j => tp (j + ap)) n2 nq fun j => tq (j + aq)).2.1)
 (test (decide
 ((0 +
 List.length
 (Prod.snd
 (Prod.snd
 (S.addS n1 (List.length (S.mkl np fun j => tp (j + ap)))
 (fun j => S.at' (S.mkl np fun j => tp (j + ap)) j) n2
 (List.length (S.mkl nq fun j => tq (j + aq))) fun j =>
 S.at' (S.mkl nq fun j => tq (j + aq)) j))) ≤
 List.length
 (Prod.snd
 (Prod.snd
 (S.addS n1 (List.length (S.mkl np fun j => tp (j + ap)))
 (fun j => S.at' (S.mkl np fun j => tp (j + ap)) j) n2
 (List.length (S.mkl nq fun j => tq (j + aq))) fun j =>
 S.at' (S.mkl nq fun j => tq (j + aq)) j))) ∧
 List.length
 (Prod.snd
 (Prod.snd
 (S.addS n1 (List.length (S.mkl np fun j => tp (j + ap)))
 (fun j => S.at' (S.mkl np fun j => tp (j + ap)) j) n2
 (List.length (S.mkl nq fun j => tq (j + aq))) fun j =>
 S.at' (S.mkl nq fun j => tq (j + aq)) j))) ≤
 1000000) ∧
 0 +
 List.length
 (Prod.snd
 ((S.addS n1 np (fun j => tp (j + ap)) n2 nq fun j => tq (j + aq)).2)) ≤
 List.length
 ((S.addS n1 np (fun j => tp (j + ap)) n2 nq fun j => tq (j + aq)).2.2) ∧
 List.length
 ((S.addS n1 np (fun j => tp (j + ap)) n2 nq fun j => tq (j + aq)).2.2) ≤
 1000000))
 (test (S.samI
 (Prod.fst
 (S.addS n1 (List.length (S.mkl np fun j => tp (j + ap)))
 (fun j => S.at' (S.mkl np fun j => tp (j + ap)) j) n2
 (List.length (S.mkl nq fun j => tq (j + aq))) fun j =>
 S.at' (S.mkl nq fun j => tq (j + aq)) j))
 (List.length
 (Prod.snd
 (Prod.snd
 (S.addS n1 (List.length (S.mkl np fun j => tp (j + ap)))
 (fun j => S.at' (S.mkl np fun j => tp (j + ap)) j) n2
 (List.length (S.mkl nq fun j => tq (j + aq))) fun j =>
 S.at' (S.mkl nq fun j => tq (j + aq)) j))))
 (fun j =>
 S.at'
 (Prod.snd
 (Prod.snd
 (S.addS n1 (List.length (S.mkl np fun j => tp (j + ap)))
 (fun j => S.at' (S.mkl np fun j => tp (j + ap)) j) n2
 (List.length (S.mkl nq fun j => tq (j + aq))) fun j =>
 S.at' (S.mkl nq fun j => tq (j + aq)) j)))
 j)
 ((S.addS n1 np (fun j => tp (j + ap)) n2 nq fun j => tq (j + aq)).1)
 (List.length
 ((S.addS n1 np (fun j => tp (j + ap)) n2 nq fun j => tq (j + aq)).2.2))
 fun j =>
 S.at'
 ((S.addS n1 np (fun j => tp (j + ap)) n2 nq fun j => tq (j + aq)).2.2) j)
 (test (Prod.fst
 (Prod.snd
 (S.subI n1 (List.length (S.mkl np fun j => tp (j + ap)))
 (fun j => S.at' (S.mkl np fun j => tp (j + ap)) j) n2
 (List.length (S.mkl nq fun j => tq (j + aq))) fun j =>
 S.at' (S.mkl nq fun j => tq (j + aq)) j)) ==
 (S.subI n1 np (fun j => tp (j + ap)) n2 nq fun j => tq (j + aq)).2.1)
 (test (decide
 ((0 +
 List.length
 (Prod.snd
 (Prod.snd
 (S.subI n1 (List.length (S.mkl np fun j => tp (j + ap)))
 (fun j => S.at' (S.mkl np fun j => tp (j + ap)) j) n2
 (List.length (S.mkl nq fun j => tq (j + aq))) fun j =>
 S.at' (S.mkl nq fun j => tq (j + aq)) j))) ≤
 List.length
 (Prod.snd
 (Prod.snd
 (S.subI n1 (List.length (S.mkl np fun j => tp (j + ap)))
 (fun j => S.at' (S.mkl np fun j => tp (j + ap)) j) n2
 (List.length (S.mkl nq fun j => tq (j + aq))) fun j =>
 S.at' (S.mkl nq fun j => tq (j + aq)) j))) ∧
 List.length
 (Prod.snd
 (Prod.snd
 (S.subI n1 (List.length (S.mkl np fun j => tp (j + ap)))
 (fun j => S.at' (S.mkl np fun j => tp (j + ap)) j) n2
 (List.length (S.mkl nq fun j => tq (j + aq))) fun j =>
 S.at' (S.mkl nq fun j => tq (j + aq)) j))) ≤
 1000000) ∧
 0 +
 List.length
 (Prod.snd
 ((S.subI n1 np (fun j => tp (j + ap)) n2 nq fun j => tq (j + aq)).2)) ≤
 List.length
 ((S.subI n1 np (fun j => tp (j + ap)) n2 nq fun j => tq (j + aq)).2.2) ∧
 List.length
 ((S.subI n1 np (fun j => tp (j + ap)) n2 nq fun j => tq (j + aq)).2.2) ≤
 1000000))
 (test (S.samI
 (Prod.fst
 (S.subI n1 (List.length (S.mkl np fun j => tp (j + ap)))
 (fun j => S.at' (S.mkl np fun j => tp (j + ap)) j) n2
 (List.length (S.mkl nq fun j => tq (j + aq))) fun j =>
 S.at' (S.mkl nq fun j => tq (j + aq)) j))
 (List.length
 (Prod.snd
 (Prod.snd
 (S.subI n1 (List.length (S.mkl np fun j => tp (j + ap)))
 (fun j => S.at' (S.mkl np fun j => tp (j + ap)) j) n2
 (List.length (S.mkl nq fun j => tq (j + aq))) fun j =>
 S.at' (S.mkl nq fun j => tq (j + aq)) j))))
 (fun j =>
 S.at'
 (Prod.snd
 (Prod.snd
 (S.subI n1 (List.length (S.mkl np fun j => tp (j + ap)))
 (fun j => S.at' (S.mkl np fun j => tp (j + ap)) j) n2
 (List.length (S.mkl nq fun j => tq (j + aq))) fun j =>
 S.at' (S.mkl nq fun j => tq (j + aq)) j)))
 j)
 ((S.subI n1 np (fun j => tp (j + ap)) n2 nq fun j => tq (j + aq)).1)
 (List.length
 ((S.subI n1 np (fun j => tp (j + ap)) n2 nq fun j => tq (j + aq)).2.2))
 fun j =>
 S.at'
 ((S.subI n1 np (fun j => tp (j + ap)) n2 nq fun j => tq (j + aq)).2.2) j)
 (Kret (PV.tf true) ([[(1, false, Blk.cols mq [Col.int IntKind.i64 tq]),
 (0, false, Blk.cols mp [Col.int IntKind.i64 tp])]]) (29))
 (Kret (PV.tf false) ([[(1, false, Blk.cols mq [Col.int IntKind.i64 tq]),
 (0, false, Blk.cols mp [Col.int IntKind.i64 tp])]]) (29)))
 (False))
 (Kret (PV.tf false) ([[(1, false, Blk.cols mq [Col.int IntKind.i64 tq]),
 (0, false, Blk.cols mp [Col.int IntKind.i64 tp])]]) (28)))
 (Kret (PV.tf false) ([[(1, false, Blk.cols mq [Col.int IntKind.i64 tq]),
 (0, false, Blk.cols mp [Col.int IntKind.i64 tp])]]) (28)))
 (False))
 (Kret (PV.tf false) ([[(1, false, Blk.cols mq [Col.int IntKind.i64 tq]),
 (0, false, Blk.cols mp [Col.int IntKind.i64 tp])]]) (27)))
 (test (decide
 ((0 +
 List.length
 (Prod.snd
 (Prod.snd
 (S.subI n1 (List.length (S.mkl np fun j => tp (j + ap)))
 (fun j => S.at' (S.mkl np fun j => tp (j + ap)) j) n2
 (List.length (S.mkl nq fun j => tq (j + aq))) fun j =>
 S.at' (S.mkl nq fun j => tq (j + aq)) j))) ≤
 List.length
 (Prod.snd
 (Prod.snd
 (S.subI n1 (List.length (S.mkl np fun j => tp (j + ap)))
 (fun j => S.at' (S.mkl np fun j => tp (j + ap)) j) n2
 (List.length (S.mkl nq fun j => tq (j + aq))) fun j =>
 S.at' (S.mkl nq fun j => tq (j + aq)) j))) ∧
 List.length
 (Prod.snd
 (Prod.snd
 (S.subI n1 (List.length (S.mkl np fun j => tp (j + ap)))
 (fun j => S.at' (S.mkl np fun j => tp (j + ap)) j) n2
 (List.length (S.mkl nq fun j => tq (j + aq))) fun j =>
 S.at' (S.mkl nq fun j => tq (j + aq)) j))) ≤
 1000000) ∧
 0 +
 List.length
 (Prod.snd
 ((S.subI n1 np (fun j => tp (j + ap)) n2 nq fun j => tq (j + aq)).2)) ≤
 List.length
 ((S.subI n1 np (fun j => tp (j + ap)) n2 nq fun j => tq (j + aq)).2.2) ∧
 List.length
 ((S.subI n1 np (fun j => tp (j + ap)) n2 nq fun j => tq (j + aq)).2.2) ≤
 1000000))
 (test (S.samI
 (Prod.fst
 (S.subI n1 (List.length (S.mkl np fun j => tp (j + ap)))
 (fun j => S.at' (S.mkl np fun j => tp (j + ap)) j) n2
 (List.length (S.mkl nq fun j => tq (j + aq))) fun j =>
 S.at' (S.mkl nq fun j => tq (j + aq)) j))
 (List.length
 (Prod.snd
 (Prod.snd
 (S.subI n1 (List.length (S.mkl np fun j => tp (j + ap)))
 (fun j => S.at' (S.mkl np fun j => tp (j + ap)) j) n2
 (List.length (S.mkl nq fun j => tq (j + aq))) fun j =>
 S.at' (S.mkl nq fun j => tq (j + aq)) j))))
 (fun j =>
 S.at'
 (Prod.snd
 (Prod.snd
 (S.subI n1 (List.length (S.mkl np fun j => tp (j + ap)))
 (fun j => S.at' (S.mkl np fun j => tp (j + ap)) j) n2
 (List.length (S.mkl nq fun j => tq (j + aq))) fun j =>
 S.at' (S.mkl nq fun j => tq (j + aq)) j)))
 j)
 ((S.subI n1 np (fun j => tp (j + ap)) n2 nq fun j => tq (j + aq)).1)
 (List.length
 ((S.subI n1 np (fun j => tp (j + ap)) n2 nq fun j => tq (j + aq)).2.2))
 fun j =>
 S.at'
 ((S.subI n1 np (fun j => tp (j + ap)) n2 nq fun j => tq (j + aq)).2.2) j)
 (test (Prod.fst
 (Prod.snd
 (S.addS n1 (List.length (S.mkl np fun j => tp (j + ap)))
 (fun j => S.at' (S.mkl np fun j => tp (j + ap)) j) n2
 (List.length (S.mkl nq fun j => tq (j + aq))) fun j =>
 S.at' (S.mkl nq fun j => tq (j + aq)) j)) !=
 (0 : Int))
 (test (Prod.fst
 (Prod.snd
 (S.addS n1 (List.length (S.mkl np fun j => tp (j + ap)))
 (fun j => S.at' (S.mkl np fun j => tp (j + ap)) j) n2
 (List.length (S.mkl nq fun j => tq (j + aq))) fun j =>
 S.at' (S.mkl nq fun j => tq (j + aq)) j)) ==
 (S.addS n1 np (fun j => tp (j + ap)) n2 nq fun j => tq (j + aq)).2.1)
 (test (decide
 ((0 +
 List.length
 (Prod.snd
 (Prod.snd
 (S.addS n1 (List.length (S.mkl np fun j => tp (j + ap)))
 (fun j => S.at' (S.mkl np fun j => tp (j + ap)) j) n2
 (List.length (S.mkl nq fun j => tq (j + aq))) fun j =>
 S.at' (S.mkl nq fun j => tq (j + aq)) j))) ≤
 List.length
 (Prod.snd
 (Prod.snd
 (S.addS n1 (List.length (S.mkl np fun j => tp (j + ap)))
 (fun j => S.at' (S.mkl np fun j => tp (j + ap)) j) n2
 (List.length (S.mkl nq fun j => tq (j + aq))) fun j =>
 S.at' (S.mkl nq fun j => tq (j + aq)) j))) ∧
 List.length
 (Prod.snd
 (Prod.snd
 (S.addS n1 (List.length (S.mkl np fun j => tp (j + ap)))
 (fun j => S.at' (S.mkl np fun j => tp (j + ap)) j) n2
 (List.length (S.mkl nq fun j => tq (j + aq))) fun j =>
 S.at' (S.mkl nq fun j => tq (j + aq)) j))) ≤
 1000000) ∧
 0 +
 List.length
 (Prod.snd
 ((S.addS n1 np (fun j => tp (j + ap)) n2 nq fun j => tq (j + aq)).2)) ≤
 List.length
 ((S.addS n1 np (fun j => tp (j + ap)) n2 nq fun j => tq (j + aq)).2.2) ∧
 List.length
 ((S.addS n1 np (fun j => tp (j + ap)) n2 nq fun j => tq (j + aq)).2.2) ≤
 1000000))
 (test (S.samI
 (Prod.fst
 (S.addS n1 (List.length (S.mkl np fun j => tp (j + ap)))
 (fun j => S.at' (S.mkl np fun j => tp (j + ap)) j) n2
 (List.length (S.mkl nq fun j => tq (j + aq))) fun j =>
 S.at' (S.mkl nq fun j => tq (j + aq)) j))
 (List.length
 (Prod.snd
 (Prod.snd
 (S.addS n1 (List.length (S.mkl np fun j => tp (j + ap)))
 (fun j => S.at' (S.mkl np fun j => tp (j + ap)) j) n2
 (List.length (S.mkl nq fun j => tq (j + aq))) fun j =>
 S.at' (S.mkl nq fun j => tq (j + aq)) j))))
 (fun j =>
 S.at'
 (Prod.snd
 (Prod.snd
 (S.addS n1 (List.length (S.mkl np fun j => tp (j + ap)))
 (fun j => S.at' (S.mkl np fun j => tp (j + ap)) j) n2
 (List.length (S.mkl nq fun j => tq (j + aq))) fun j =>
 S.at' (S.mkl nq fun j => tq (j + aq)) j)))
 j)
 ((S.addS n1 np (fun j => tp (j + ap)) n2 nq fun j => tq (j + aq)).1)
 (List.length
 ((S.addS n1 np (fun j => tp (j + ap)) n2 nq fun j => tq (j + aq)).2.2))
 fun j =>
 S.at'
 ((S.addS n1 np (fun j => tp (j + ap)) n2 nq fun j => tq (j + aq)).2.2) j)
 (test (Prod.fst
 (Prod.snd
 (S.subI n1 (List.length (S.mkl np fun j => tp (j + ap)))
 (fun j => S.at' (S.mkl np fun j => tp (j + ap)) j) n2
 (List.length (S.mkl nq fun j => tq (j + aq))) fun j =>
 S.at' (S.mkl nq fun j => tq (j + aq)) j)) ==
 (S.subI n1 np (fun j => tp (j + ap)) n2 nq fun j => tq (j + aq)).2.1)
 (test (decide
 ((0 +
 List.length
 (Prod.snd
 (Prod.snd
 (S.subI n1 (List.length (S.mkl np fun j => tp (j + ap)))
 (fun j => S.at' (S.mkl np fun j => tp (j + ap)) j) n2
 (List.length (S.mkl nq fun j => tq (j + aq))) fun j =>
 S.at' (S.mkl nq fun j => tq (j + aq)) j))) ≤
 List.length
 (Prod.snd
 (Prod.snd
 (S.subI n1 (List.length (S.mkl np fun j => tp (j + ap)))
 (fun j => S.at' (S.mkl np fun j => tp (j + ap)) j) n2
 (List.length (S.mkl nq fun j => tq (j + aq))) fun j =>
 S.at' (S.mkl nq fun j => tq (j + aq)) j))) ∧
 List.length
 (Prod.snd
 (Prod.snd
 (S.subI n1 (List.length (S.mkl np fun j => tp (j + ap)))
 (fun j => S.at' (S.mkl np fun j => tp (j + ap)) j) n2
 (List.length (S.mkl nq fun j => tq (j + aq))) fun j =>
 S.at' (S.mkl nq fun j => tq (j + aq)) j))) ≤
 1000000) ∧
 0 +
 List.length
 (Prod.snd
 ((S.subI n1 np (fun j => tp (j + ap)) n2 nq fun j => tq (j + aq)).2)) ≤
 List.length
 ((S.subI n1 np (fun j => tp (j + ap)) n2 nq fun j => tq (j + aq)).2.2) ∧
 List.length
 ((S.subI n1 np (fun j => tp (j + ap)) n2 nq fun j => tq (j + aq)).2.2) ≤
 1000000))
 (test (S.samI
 (Prod.fst
 (S.subI n1 (List.length (S.mkl np fun j => tp (j + ap)))
 (fun j => S.at' (S.mkl np fun j => tp (j + ap)) j) n2
 (List.length (S.mkl nq fun j => tq (j + aq))) fun j =>
 S.at' (S.mkl nq fun j => tq (j + aq)) j))
 (List.length
 (Prod.snd
 (Prod.snd
 (S.subI n1 (List.length (S.mkl np fun j => tp (j + ap)))
 (fun j => S.at' (S.mkl np fun j => tp (j + ap)) j) n2
 (List.length (S.mkl nq fun j => tq (j + aq))) fun j =>
 S.at' (S.mkl nq fun j => tq (j + aq)) j))))
 (fun j =>
 S.at'
 (Prod.snd
 (Prod.snd
 (S.subI n1 (List.length (S.mkl np fun j => tp (j + ap)))
 (fun j => S.at' (S.mkl np fun j => tp (j + ap)) j) n2
 (List.length (S.mkl nq fun j => tq (j + aq))) fun j =>
 S.at' (S.mkl nq fun j => tq (j + aq)) j)))
 j)
 ((S.subI n1 np (fun j => tp (j + ap)) n2 nq fun j => tq (j + aq)).1)
 (List.length
 ((S.subI n1 np (fun j => tp (j + ap)) n2 nq fun j => tq (j + aq)).2.2))
 fun j =>
 S.at'
 ((S.subI n1 np (fun j => tp (j + ap)) n2 nq fun j => tq (j + aq)).2.2) j)
 (Kret (PV.tf true) ([[(1, false, Blk.cols mq [Col.int IntKind.i64 tq]),
 (0, false, Blk.cols mp [Col.int IntKind.i64 tp])]]) (30))
 (Kret (PV.tf false) ([[(1, false, Blk.cols mq [Col.int IntKind.i64 tq]),
 (0, false, Blk.cols mp [Col.int IntKind.i64 tp])]]) (30)))
 (False))
 (Kret (PV.tf false) ([[(1, false, Blk.cols mq [Col.int IntKind.i64 tq]),
 (0, false, Blk.cols mp [Col.int IntKind.i64 tp])]]) (29)))
 (Kret (PV.tf false) ([[(1, false, Blk.cols mq [Col.int IntKind.i64 tq]),
 (0, false, Blk.cols mp [Col.int IntKind.i64 tp])]]) (29)))
 (False))
 (Kret (PV.tf false) ([[(1, false, Blk.cols mq [Col.int IntKind.i64 tq]),
 (0, false, Blk.cols mp [Col.int IntKind.i64 tp])]]) (28)))
 (test (decide
 ((0 +
 List.length
 (Prod.snd
 (Prod.snd
 (S.addS n1 (List.length (S.mkl np fun j => tp (j + ap)))
 (fun j => S.at' (S.mkl np fun j => tp (j + ap)) j) n2
 (List.length (S.mkl nq fun j => tq (j + aq))) fun j =>
 S.at' (S.mkl nq fun j => tq (j + aq)) j))) ≤
 List.length
 (Prod.snd
 (Prod.snd
 (S.addS n1 (List.length (S.mkl np fun j => tp (j + ap)))
 (fun j => S.at' (S.mkl np fun j => tp (j + ap)) j) n2
 (List.length (S.mkl nq fun j => tq (j + aq))) fun j =>
 S.at' (S.mkl nq fun j => tq (j + aq)) j))) ∧
 List.length
 (Prod.snd
 (Prod.snd
 (S.addS n1 (List.length (S.mkl np fun j => tp (j + ap)))
 (fun j => S.at' (S.mkl np fun j => tp (j + ap)) j) n2
 (List.length (S.mkl nq fun j => tq (j + aq))) fun j =>
 S.at' (S.mkl nq fun j => tq (j + aq)) j))) ≤
 1000000) ∧
 aq + nq ≤ mq ∧ nq ≤ 1000000))
 (test (Prod.fst
 (Prod.snd
 (S.subI
 (Prod.fst
 (S.addS n1 (List.length (S.mkl np fun j => tp (j + ap)))
 (fun j => S.at' (S.mkl np fun j => tp (j + ap)) j) n2
 (List.length (S.mkl nq fun j => tq (j + aq))) fun j =>
 S.at' (S.mkl nq fun j => tq (j + aq)) j))
 (List.length
 (Prod.snd
 (Prod.snd
 (S.addS n1 (List.length (S.mkl np fun j => tp (j + ap)))
 (fun j => S.at' (S.mkl np fun j => tp (j + ap)) j) n2
 (List.length (S.mkl nq fun j => tq (j + aq))) fun j =>
 S.at' (S.mkl nq fun j => tq (j + aq)) j))))
 (fun j =>
 S.at'
 (Prod.snd
 (Prod.snd
 (S.addS n1 (List.length (S.mkl np fun j => tp (j + ap)))
 (fun j => S.at' (S.mkl np fun j => tp (j + ap)) j) n2
 (List.length (S.mkl nq fun j => tq (j + aq))) fun j =>
 S.at' (S.mkl nq fun j => tq (j + aq)) j)))
 j)
 n2 nq fun j => tq (j + aq))) ==
 (0 : Int))
 (test (decide
 ((0 +
 List.length
 (Prod.snd
 (Prod.snd
 (S.subI
 (Prod.fst
 (S.addS n1 (List.length (S.mkl np fun j => tp (j + ap)))
 (fun j => S.at' (S.mkl np fun j => tp (j + ap)) j) n2
 (List.length (S.mkl nq fun j => tq (j + aq))) fun j =>
 S.at' (S.mkl nq fun j => tq (j + aq)) j))
 (List.length
 (Prod.snd
 (Prod.snd
 (S.addS n1 (List.length (S.mkl np fun j => tp (j + ap)))
 (fun j => S.at' (S.mkl np fun j => tp (j + ap)) j) n2
 (List.length (S.mkl nq fun j => tq (j + aq))) fun j =>
 S.at' (S.mkl nq fun j => tq (j + aq)) j))))
 (fun j =>
 S.at'
 (Prod.snd
 (Prod.snd
 (S.addS n1 (List.length (S.mkl np fun j => tp (j + ap)))
 (fun j => S.at' (S.mkl np fun j => tp (j + ap)) j) n2
 (List.length (S.mkl nq fun j => tq (j + aq))) fun j =>
 S.at' (S.mkl nq fun j => tq (j + aq)) j)))
 j)
 n2 nq fun j => tq (j + aq)))) ≤
 List.length
 (Prod.snd
 (Prod.snd
 (S.subI
 (Prod.fst
 (S.addS n1 (List.length (S.mkl np fun j => tp (j + ap)))
 (fun j => S.at' (S.mkl np fun j => tp (j + ap)) j) n2
 (List.length (S.mkl nq fun j => tq (j + aq))) fun j =>
 S.at' (S.mkl nq fun j => tq (j + aq)) j))
 (List.length
 (Prod.snd
 (Prod.snd
 (S.addS n1 (List.length (S.mkl np fun j => tp (j + ap)))
 (fun j => S.at' (S.mkl np fun j => tp (j + ap)) j) n2
 (List.length (S.mkl nq fun j => tq (j + aq))) fun j =>
 S.at' (S.mkl nq fun j => tq (j + aq)) j))))
 (fun j =>
 S.at'
 (Prod.snd
 (Prod.snd
 (S.addS n1 (List.length (S.mkl np fun j => tp (j + ap)))
 (fun j => S.at' (S.mkl np fun j => tp (j + ap)) j) n2
 (List.length (S.mkl nq fun j => tq (j + aq))) fun j =>
 S.at' (S.mkl nq fun j => tq (j + aq)) j)))
 j)
 n2 nq fun j => tq (j + aq)))) ∧
 List.length
 (Prod.snd
 (Prod.snd
 (S.subI
 (Prod.fst
 (S.addS n1 (List.length (S.mkl np fun j => tp (j + ap)))
 (fun j => S.at' (S.mkl np fun j => tp (j + ap)) j) n2
 (List.length (S.mkl nq fun j => tq (j + aq))) fun j =>
 S.at' (S.mkl nq fun j => tq (j + aq)) j))
 (List.length
 (Prod.snd
 (Prod.snd
 (S.addS n1 (List.length (S.mkl np fun j => tp (j + ap)))
 (fun j => S.at' (S.mkl np fun j => tp (j + ap)) j) n2
 (List.length (S.mkl nq fun j => tq (j + aq))) fun j =>
 S.at' (S.mkl nq fun j => tq (j + aq)) j))))
 (fun j =>
 S.at'
 (Prod.snd
 (Prod.snd
 (S.addS n1 (List.length (S.mkl np fun j => tp (j + ap)))
 (fun j => S.at' (S.mkl np fun j => tp (j + ap)) j) n2
 (List.length (S.mkl nq fun j => tq (j + aq))) fun j =>
 S.at' (S.mkl nq fun j => tq (j + aq)) j)))
 j)
 n2 nq fun j => tq (j + aq)))) ≤
 1000000) ∧
 ap + np ≤ mp ∧ np ≤ 1000000))
 (test (S.samI
 (Prod.fst
 (S.subI
 (Prod.fst
 (S.addS n1 (List.length (S.mkl np fun j => tp (j + ap)))
 (fun j => S.at' (S.mkl np fun j => tp (j + ap)) j) n2
 (List.length (S.mkl nq fun j => tq (j + aq))) fun j =>
 S.at' (S.mkl nq fun j => tq (j + aq)) j))
 (List.length
 (Prod.snd
 (Prod.snd
 (S.addS n1 (List.length (S.mkl np fun j => tp (j + ap)))
 (fun j => S.at' (S.mkl np fun j => tp (j + ap)) j) n2
 (List.length (S.mkl nq fun j => tq (j + aq))) fun j =>
 S.at' (S.mkl nq fun j => tq (j + aq)) j))))
 (fun j =>
 S.at'
 (Prod.snd
 (Prod.snd
 (S.addS n1 (List.length (S.mkl np fun j => tp (j + ap)))
 (fun j => S.at' (S.mkl np fun j => tp (j + ap)) j) n2
 (List.length (S.mkl nq fun j => tq (j + aq))) fun j =>
 S.at' (S.mkl nq fun j => tq (j + aq)) j)))
 j)
 n2 nq fun j => tq (j + aq)))
 (List.length
 (Prod.snd
 (Prod.snd
 (S.subI
 (Prod.fst
 (S.addS n1 (List.length (S.mkl np fun j => tp (j + ap)))
 (fun j => S.at' (S.mkl np fun j => tp (j + ap)) j) n2
 (List.length (S.mkl nq fun j => tq (j + aq))) fun j =>
 S.at' (S.mkl nq fun j => tq (j + aq)) j))
 (List.length
 (Prod.snd
 (Prod.snd
 (S.addS n1 (List.length (S.mkl np fun j => tp (j + ap)))
 (fun j => S.at' (S.mkl np fun j => tp (j + ap)) j) n2
 (List.length (S.mkl nq fun j => tq (j + aq))) fun j =>
 S.at' (S.mkl nq fun j => tq (j + aq)) j))))
 (fun j =>
 S.at'
 (Prod.snd
 (Prod.snd
 (S.addS n1 (List.length (S.mkl np fun j => tp (j + ap)))
 (fun j => S.at' (S.mkl np fun j => tp (j + ap)) j) n2
 (List.length (S.mkl nq fun j => tq (j + aq))) fun j =>
 S.at' (S.mkl nq fun j => tq (j + aq)) j)))
 j)
 n2 nq fun j => tq (j + aq)))))
 (fun j =>
 S.at'
 (Prod.snd
 (Prod.snd
 (S.subI
 (Prod.fst
 (S.addS n1 (List.length (S.mkl np fun j => tp (j + ap)))
 (fun j => S.at' (S.mkl np fun j => tp (j + ap)) j) n2
 (List.length (S.mkl nq fun j => tq (j + aq))) fun j =>
 S.at' (S.mkl nq fun j => tq (j + aq)) j))
 (List.length
 (Prod.snd
 (Prod.snd
 (S.addS n1 (List.length (S.mkl np fun j => tp (j + ap)))
 (fun j => S.at' (S.mkl np fun j => tp (j + ap)) j) n2
 (List.length (S.mkl nq fun j => tq (j + aq))) fun j =>
 S.at' (S.mkl nq fun j => tq (j + aq)) j))))
 (fun j =>
 S.at'
 (Prod.snd
 (Prod.snd
 (S.addS n1 (List.length (S.mkl np fun j => tp (j + ap)))
 (fun j => S.at' (S.mkl np fun j => tp (j + ap)) j) n2
 (List.length (S.mkl nq fun j => tq (j + aq))) fun j =>
 S.at' (S.mkl nq fun j => tq (j + aq)) j)))
 j)
 n2 nq fun j => tq (j + aq))))
 j)
 n1 np fun j => tp (j + ap))
 (Kret (PV.tf true) ([[(1, false, Blk.cols mq [Col.int IntKind.i64 tq]),
 (0, false, Blk.cols mp [Col.int IntKind.i64 tp])]]) (32))
 (Kret (PV.tf false) ([[(1, false, Blk.cols mq [Col.int IntKind.i64 tq]),
 (0, false, Blk.cols mp [Col.int IntKind.i64 tp])]]) (32)))
 (False))
 (Kret (PV.tf false) ([[(1, false, Blk.cols mq [Col.int IntKind.i64 tq]),
 (0, false, Blk.cols mp [Col.int IntKind.i64 tp])]]) (31)))
 (False)))
 (test (Prod.fst
 (Prod.snd
 (S.addS n1 (List.length (S.mkl np fun j => tp (j + ap)))
 (fun j => S.at' (S.mkl np fun j => tp (j + ap)) j) n2
 (List.length (S.mkl nq fun j => tq (j + aq))) fun j =>
 S.at' (S.mkl nq fun j => tq (j + aq)) j)) ==
 (S.addS n1 np (fun j => tp (j + ap)) n2 nq fun j => tq (j + aq)).2.1)
 (test (decide
 ((0 +
 List.length
 (Prod.snd
 (Prod.snd
 (S.addS n1 (List.length (S.mkl np fun j => tp (j + ap)))
 (fun j => S.at' (S.mkl np fun j => tp (j + ap)) j) n2
 (List.length (S.mkl nq fun j => tq (j + aq))) fun j =>
 S.at' (S.mkl nq fun j => tq (j + aq)) j))) ≤
 List.length
 (Prod.snd
 (Prod.snd
 (S.addS n1 (List.length (S.mkl np fun j => tp (j + ap)))
 (fun j => S.at' (S.mkl np fun j => tp (j + ap)) j) n2
 (List.length (S.mkl nq fun j => tq (j + aq))) fun j =>
 S.at' (S.mkl nq fun j => tq (j + aq)) j))) ∧
 List.length
 (Prod.snd
 (Prod.snd
 (S.addS n1 (List.length (S.mkl np fun j => tp (j + ap)))
 (fun j => S.at' (S.mkl np fun j => tp (j + ap)) j) n2
 (List.length (S.mkl nq fun j => tq (j + aq))) fun j =>
 S.at' (S.mkl nq fun j => tq (j + aq)) j))) ≤
 1000000) ∧
 0 +
 List.length
 (Prod.snd
 ((S.addS n1 np (fun j => tp (j + ap)) n2 nq fun j => tq (j + aq)).2)) ≤
 List.length
 ((S.addS n1 np (fun j => tp (j + ap)) n2 nq fun j => tq (j + aq)).2.2) ∧
 List.length
 ((S.addS n1 np (fun j => tp (j + ap)) n2 nq fun j => tq (j + aq)).2.2) ≤
 1000000))
 (test (S.samI
 (Prod.fst
 (S.addS n1 (List.length (S.mkl np fun j => tp (j + ap)))
 (fun j => S.at' (S.mkl np fun j => tp (j + ap)) j) n2
 (List.length (S.mkl nq fun j => tq (j + aq))) fun j =>
 S.at' (S.mkl nq fun j => tq (j + aq)) j))
 (List.length
 (Prod.snd
 (Prod.snd
 (S.addS n1 (List.length (S.mkl np fun j => tp (j + ap)))
 (fun j => S.at' (S.mkl np fun j => tp (j + ap)) j) n2
 (List.length (S.mkl nq fun j => tq (j + aq))) fun j =>
 S.at' (S.mkl nq fun j => tq (j + aq)) j))))
 (fun j =>
 S.at'
 (Prod.snd
 (Prod.snd
 (S.addS n1 (List.length (S.mkl np fun j => tp (j + ap)))
 (fun j => S.at' (S.mkl np fun j => tp (j + ap)) j) n2
 (List.length (S.mkl nq fun j => tq (j + aq))) fun j =>
 S.at' (S.mkl nq fun j => tq (j + aq)) j)))
 j)
 ((S.addS n1 np (fun j => tp (j + ap)) n2 nq fun j => tq (j + aq)).1)
 (List.length
 ((S.addS n1 np (fun j => tp (j + ap)) n2 nq fun j => tq (j + aq)).2.2))
 fun j =>
 S.at'
 ((S.addS n1 np (fun j => tp (j + ap)) n2 nq fun j => tq (j + aq)).2.2) j)
 (test (Prod.fst
 (Prod.snd
 (S.subI n1 (List.length (S.mkl np fun j => tp (j + ap)))
 (fun j => S.at' (S.mkl np fun j => tp (j + ap)) j) n2
 (List.length (S.mkl nq fun j => tq (j + aq))) fun j =>
 S.at' (S.mkl nq fun j => tq (j + aq)) j)) ==
 (S.subI n1 np (fun j => tp (j + ap)) n2 nq fun j => tq (j + aq)).2.1)
 (test (decide
 ((0 +
 List.length
 (Prod.snd
 (Prod.snd
 (S.subI n1 (List.length (S.mkl np fun j => tp (j + ap)))
 (fun j => S.at' (S.mkl np fun j => tp (j + ap)) j) n2
 (List.length (S.mkl nq fun j => tq (j + aq))) fun j =>
 S.at' (S.mkl nq fun j => tq (j + aq)) j))) ≤
 List.length
 (Prod.snd
 (Prod.snd
 (S.subI n1 (List.length (S.mkl np fun j => tp (j + ap)))
 (fun j => S.at' (S.mkl np fun j => tp (j + ap)) j) n2
 (List.length (S.mkl nq fun j => tq (j + aq))) fun j =>
 S.at' (S.mkl nq fun j => tq (j + aq)) j))) ∧
 List.length
 (Prod.snd
 (Prod.snd
 (S.subI n1 (List.length (S.mkl np fun j => tp (j + ap)))
 (fun j => S.at' (S.mkl np fun j => tp (j + ap)) j) n2
 (List.length (S.mkl nq fun j => tq (j + aq))) fun j =>
 S.at' (S.mkl nq fun j => tq (j + aq)) j))) ≤
 1000000) ∧
 0 +
 List.length
 (Prod.snd
 ((S.subI n1 np (fun j => tp (j + ap)) n2 nq fun j => tq (j + aq)).2)) ≤
 List.length
 ((S.subI n1 np (fun j => tp (j + ap)) n2 nq fun j => tq (j + aq)).2.2) ∧
 List.length
 ((S.subI n1 np (fun j => tp (j + ap)) n2 nq fun j => tq (j + aq)).2.2) ≤
 1000000))
 (test (S.samI
 (Prod.fst
 (S.subI n1 (List.length (S.mkl np fun j => tp (j + ap)))
 (fun j => S.at' (S.mkl np fun j => tp (j + ap)) j) n2
 (List.length (S.mkl nq fun j => tq (j + aq))) fun j =>
 S.at' (S.mkl nq fun j => tq (j + aq)) j))
 (List.length
 (Prod.snd
 (Prod.snd
 (S.subI n1 (List.length (S.mkl np fun j => tp (j + ap)))
 (fun j => S.at' (S.mkl np fun j => tp (j + ap)) j) n2
 (List.length (S.mkl nq fun j => tq (j + aq))) fun j =>
 S.at' (S.mkl nq fun j => tq (j + aq)) j))))
 (fun j =>
 S.at'
 (Prod.snd
 (Prod.snd
 (S.subI n1 (List.length (S.mkl np fun j => tp (j + ap)))
 (fun j => S.at' (S.mkl np fun j => tp (j + ap)) j) n2
 (List.length (S.mkl nq fun j => tq (j + aq))) fun j =>
 S.at' (S.mkl nq fun j => tq (j + aq)) j)))
 j)
 ((S.subI n1 np (fun j => tp (j + ap)) n2 nq fun j => tq (j + aq)).1)
 (List.length
 ((S.subI n1 np (fun j => tp (j + ap)) n2 nq fun j => tq (j + aq)).2.2))
 fun j =>
 S.at'
 ((S.subI n1 np (fun j => tp (j + ap)) n2 nq fun j => tq (j + aq)).2.2) j)
 (Kret (PV.tf true) ([[(1, false, Blk.cols mq [Col.int IntKind.i64 tq]),
 (0, false, Blk.cols mp [Col.int IntKind.i64 tp])]]) (30))
 (Kret (PV.tf false) ([[(1, false, Blk.cols mq [Col.int IntKind.i64 tq]),
 (0, false, Blk.cols mp [Col.int IntKind.i64 tp])]]) (30)))
 (False))
 (Kret (PV.tf false) ([[(1, false, Blk.cols mq [Col.int IntKind.i64 tq]),
 (0, false, Blk.cols mp [Col.int IntKind.i64 tp])]]) (29)))
 (Kret (PV.tf false) ([[(1, false, Blk.cols mq [Col.int IntKind.i64 tq]),
 (0, false, Blk.cols mp [Col.int IntKind.i64 tp])]]) (29)))
 (False))
 (Kret (PV.tf false) ([[(1, false, Blk.cols mq [Col.int IntKind.i64 tq]),
 (0, false, Blk.cols mp [Col.int IntKind.i64 tp])]]) (28))))
 (False)))
 (test (Prod.fst
 (Prod.snd
 (S.addS n1 (List.length (S.mkl np fun j => tp (j + ap)))
 (fun j => S.at' (S.mkl np fun j => tp (j + ap)) j) n2
 (List.length (S.mkl nq fun j => tq (j + aq))) fun j =>
 S.at' (S.mkl nq fun j => tq (j + aq)) j)) ==
 (S.addS n1 np (fun j => tp (j + ap)) n2 nq fun j => tq (j + aq)).2.1)
 (test (decide
 ((0 +
 List.length
 (Prod.snd
 (Prod.snd
 (S.addS n1 (List.length (S.mkl np fun j => tp (j + ap)))
 (fun j => S.at' (S.mkl np fun j => tp (j + ap)) j) n2
 (List.length (S.mkl nq fun j => tq (j + aq))) fun j =>
 S.at' (S.mkl nq fun j => tq (j + aq)) j))) ≤
 List.length
 (Prod.snd
 (Prod.snd
 (S.addS n1 (List.length (S.mkl np fun j => tp (j + ap)))
 (fun j => S.at' (S.mkl np fun j => tp (j + ap)) j) n2
 (List.length (S.mkl nq fun j => tq (j + aq))) fun j =>
 S.at' (S.mkl nq fun j => tq (j + aq)) j))) ∧
 List.length
 (Prod.snd
 (Prod.snd
 (S.addS n1 (List.length (S.mkl np fun j => tp (j + ap)))
 (fun j => S.at' (S.mkl np fun j => tp (j + ap)) j) n2
 (List.length (S.mkl nq fun j => tq (j + aq))) fun j =>
 S.at' (S.mkl nq fun j => tq (j + aq)) j))) ≤
 1000000) ∧
 0 +
 List.length
 (Prod.snd
 ((S.addS n1 np (fun j => tp (j + ap)) n2 nq fun j => tq (j + aq)).2)) ≤
 List.length
 ((S.addS n1 np (fun j => tp (j + ap)) n2 nq fun j => tq (j + aq)).2.2) ∧
 List.length
 ((S.addS n1 np (fun j => tp (j + ap)) n2 nq fun j => tq (j + aq)).2.2) ≤
 1000000))
 (test (S.samI
 (Prod.fst
 (S.addS n1 (List.length (S.mkl np fun j => tp (j + ap)))
 (fun j => S.at' (S.mkl np fun j => tp (j + ap)) j) n2
 (List.length (S.mkl nq fun j => tq (j + aq))) fun j =>
 S.at' (S.mkl nq fun j => tq (j + aq)) j))
 (List.length
 (Prod.snd
 (Prod.snd
 (S.addS n1 (List.length (S.mkl np fun j => tp (j + ap)))
 (fun j => S.at' (S.mkl np fun j => tp (j + ap)) j) n2
 (List.length (S.mkl nq fun j => tq (j + aq))) fun j =>
 S.at' (S.mkl nq fun j => tq (j + aq)) j))))
 (fun j =>
 S.at'
 (Prod.snd
 (Prod.snd
 (S.addS n1 (List.length (S.mkl np fun j => tp (j + ap)))
 (fun j => S.at' (S.mkl np fun j => tp (j + ap)) j) n2
 (List.length (S.mkl nq fun j => tq (j + aq))) fun j =>
 S.at' (S.mkl nq fun j => tq (j + aq)) j)))
 j)
 ((S.addS n1 np (fun j => tp (j + ap)) n2 nq fun j => tq (j + aq)).1)
 (List.length
 ((S.addS n1 np (fun j => tp (j + ap)) n2 nq fun j => tq (j + aq)).2.2))
 fun j =>
 S.at'
 ((S.addS n1 np (fun j => tp (j + ap)) n2 nq fun j => tq (j + aq)).2.2) j)
 (test (Prod.fst
 (Prod.snd
 (S.subI n1 (List.length (S.mkl np fun j => tp (j + ap)))
 (fun j => S.at' (S.mkl np fun j => tp (j + ap)) j) n2
 (List.length (S.mkl nq fun j => tq (j + aq))) fun j =>
 S.at' (S.mkl nq fun j => tq (j + aq)) j)) ==
 (S.subI n1 np (fun j => tp (j + ap)) n2 nq fun j => tq (j + aq)).2.1)
 (test (decide
 ((0 +
 List.length
 (Prod.snd
 (Prod.snd
 (S.subI n1 (List.length (S.mkl np fun j => tp (j + ap)))
 (fun j => S.at' (S.mkl np fun j => tp (j + ap)) j) n2
 (List.length (S.mkl nq fun j => tq (j + aq))) fun j =>
 S.at' (S.mkl nq fun j => tq (j + aq)) j))) ≤
 List.length
 (Prod.snd
 (Prod.snd
 (S.subI n1 (List.length (S.mkl np fun j => tp (j + ap)))
 (fun j => S.at' (S.mkl np fun j => tp (j + ap)) j) n2
 (List.length (S.mkl nq fun j => tq (j + aq))) fun j =>
 S.at' (S.mkl nq fun j => tq (j + aq)) j))) ∧
 List.length
 (Prod.snd
 (Prod.snd
 (S.subI n1 (List.length (S.mkl np fun j => tp (j + ap)))
 (fun j => S.at' (S.mkl np fun j => tp (j + ap)) j) n2
 (List.length (S.mkl nq fun j => tq (j + aq))) fun j =>
 S.at' (S.mkl nq fun j => tq (j + aq)) j))) ≤
 1000000) ∧
 0 +
 List.length
 (Prod.snd
 ((S.subI n1 np (fun j => tp (j + ap)) n2 nq fun j => tq (j + aq)).2)) ≤
 List.length
 ((S.subI n1 np (fun j => tp (j + ap)) n2 nq fun j => tq (j + aq)).2.2) ∧
 List.length
 ((S.subI n1 np (fun j => tp (j + ap)) n2 nq fun j => tq (j + aq)).2.2) ≤
 1000000))
 (test (S.samI
 (Prod.fst
 (S.subI n1 (List.length (S.mkl np fun j => tp (j + ap)))
 (fun j => S.at' (S.mkl np fun j => tp (j + ap)) j) n2
 (List.length (S.mkl nq fun j => tq (j + aq))) fun j =>
 S.at' (S.mkl nq fun j => tq (j + aq)) j))
 (List.length
 (Prod.snd
 (Prod.snd
 (S.subI n1 (List.length (S.mkl np fun j => tp (j + ap)))
 (fun j => S.at' (S.mkl np fun j => tp (j + ap)) j) n2
 (List.length (S.mkl nq fun j => tq (j + aq))) fun j =>
 S.at' (S.mkl nq fun j => tq (j + aq)) j))))
 (fun j =>
 S.at'
 (Prod.snd
 (Prod.snd
 (S.subI n1 (List.length (S.mkl np fun j => tp (j + ap)))
 (fun j => S.at' (S.mkl np fun j => tp (j + ap)) j) n2
 (List.length (S.mkl nq fun j => tq (j + aq))) fun j =>
 S.at' (S.mkl nq fun j => tq (j + aq)) j)))
 j)
 ((S.subI n1 np (fun j => tp (j + ap)) n2 nq fun j => tq (j + aq)).1)
 (List.length
 ((S.subI n1 np (fun j => tp (j + ap)) n2 nq fun j => tq (j + aq)).2.2))
 fun j =>
 S.at'
 ((S.subI n1 np (fun j => tp (j + ap)) n2 nq fun j => tq (j + aq)).2.2) j)
 (Kret (PV.tf true) ([[(1, false, Blk.cols mq [Col.int IntKind.i64 tq]),
 (0, false, Blk.cols mp [Col.int IntKind.i64 tp])]]) (29))
 (Kret (PV.tf false) ([[(1, false, Blk.cols mq [Col.int IntKind.i64 tq]),
 (0, false, Blk.cols mp [Col.int IntKind.i64 tp])]]) (29)))
 (False))
 (Kret (PV.tf false) ([[(1, false, Blk.cols mq [Col.int IntKind.i64 tq]),
 (0, false, Blk.cols mp [Col.int IntKind.i64 tp])]]) (28)))
 (Kret (PV.tf false) ([[(1, false, Blk.cols mq [Col.int IntKind.i64 tq]),
 (0, false, Blk.cols mp [Col.int IntKind.i64 tp])]]) (28)))
 (False))
 (Kret (PV.tf false) ([[(1, false, Blk.cols mq [Col.int IntKind.i64 tq]),
 (0, false, Blk.cols mp [Col.int IntKind.i64 tp])]]) (27))))
 (False)))
 (False))
 (False))
 (False))
 (False))
 (False))
 (False))
 (False))
 (False))
 (test (true)
 (test (true)
 (Kret (PV.tf true) ([[(1, false, Blk.cols mq [Col.int IntKind.i64 tq]),
 (0, false, Blk.cols mp [Col.int IntKind.i64 tp])]]) (7))
 (Kret (PV.tf false) ([[(1, false, Blk.cols mq [Col.int IntKind.i64 tq]),
 (0, false, Blk.cols mp [Col.int IntKind.i64 tp])]]) (7)))
 (False))))
 (test (true)
 (test (true)
 (Kret (PV.tf true) ([[(1, false, Blk.cols mq [Col.int IntKind.i64 tq]),
 (0, false, Blk.cols mp [Col.int IntKind.i64 tp])]]) (6))
 (Kret (PV.tf false) ([[(1, false, Blk.cols mq [Col.int IntKind.i64 tq]),
 (0, false, Blk.cols mp [Col.int IntKind.i64 tp])]]) (6)))
 (False)))
 (False)
theorem te4 (test : Bool → Prop → Prop → Prop) (Kst : KS) (Kret : KR) (n1 : Bool) (ap np mp : Nat) (tp : Nat → Int) (n2 : Bool) (aq nq mq : Nat) (tq : Nat → Int) : run test Tryd.env true (xE test) true 400 ⟨4, [.cd (mkFn Tryd.f4).body], argT 0 [.agg [.bool n1, .loose ⟨0, 1, ap, 0⟩ np], .agg [.bool n2, .loose ⟨1, 1, aq, 0⟩ nq]], [[], [(0, (false, .cols mp [.int .i64 tp])), (1, (false, .cols mq [.int .i64 tq]))]], 2⟩ (proj 2 [] Kst Kret) =
  Te4 test Kst Kret n1 ap np mp tp n2 aq nq mq tq := by kernel_rfl
attribute [local irreducible] Int.subNatNat in
theorem be4 (n1 : Bool) (ap np mp : Nat) (tp : Nat → Int) (n2 : Bool) (aq nq mq : Nat) (tq : Nat → Int) (Kst : KS) (Kret : KR) (x : St4 ⊕ Rt4) (hS : HS 2 400 ((I4 n1 ap np mp tp n2 aq nq mq tq)) Kst x) (hR : HR 2 400 ((V4 n1 ap np mp tp n2 aq nq mq tq)) (fun r => [newL (2 + 1) ((N4 n1 ap np mp tp n2 aq nq mq tq) r) ++ [(0, (false, .cols mp [.int .i64 tp])), (1, (false, .cols mq [.int .i64 tq]))]]) Kret x) (h : (bif (lim IntKind.i64 ((0 : Int) + (↑np : Int)))
 then (bif (lim IntKind.i64 ((0 : Int) + (↑np : Int) + (↑nq : Int)))
 then (bif (decide ((0 : Int) + (↑np : Int) + (↑nq : Int) ≤ (170 : Int)))
 then (bif (decide (ap + np ≤ mp ∧ np ≤ 1000000))
 then (bif (decide (aq + nq ≤ mq ∧ nq ≤ 1000000))
 then (bif (decide
 ((0 + List.length (S.mkl np fun j => tp (j + ap)) ≤
 List.length (S.mkl np fun j => tp (j + ap)) ∧
 List.length (S.mkl np fun j => tp (j + ap)) ≤ 1000000) ∧
 0 + List.length (S.mkl nq fun j => tq (j + aq)) ≤
 List.length (S.mkl nq fun j => tq (j + aq)) ∧
 List.length (S.mkl nq fun j => tq (j + aq)) ≤ 1000000))
 then (bif (decide ((ap + np ≤ mp ∧ np ≤ 1000000) ∧ aq + nq ≤ mq ∧ nq ≤ 1000000))
 then (bif (Prod.fst
 (Prod.snd
 (S.addS n1 (List.length (S.mkl np fun j => tp (j + ap)))
 (fun j => S.at' (S.mkl np fun j => tp (j + ap)) j) n2
 (List.length (S.mkl nq fun j => tq (j + aq))) fun j =>
 S.at' (S.mkl nq fun j => tq (j + aq)) j)) !=
 (S.addS n1 np (fun j => tp (j + ap)) n2 nq fun j => tq (j + aq)).2.1)
 then (bif (Prod.fst
 (Prod.snd
 (S.addS n1 (List.length (S.mkl np fun j => tp (j + ap)))
 (fun j => S.at' (S.mkl np fun j => tp (j + ap)) j) n2
 (List.length (S.mkl nq fun j => tq (j + aq))) fun j =>
 S.at' (S.mkl nq fun j => tq (j + aq)) j)) ==
 (S.addS n1 np (fun j => tp (j + ap)) n2 nq fun j => tq (j + aq)).2.1)
 then (bif (decide
 ((0 +
 List.length
 (Prod.snd
 (Prod.snd
 (S.addS n1 (List.length (S.mkl np fun j => tp (j + ap)))
 (fun j => S.at' (S.mkl np fun j => tp (j + ap)) j) n2
 (List.length (S.mkl nq fun j => tq (j + aq))) fun j =>
 S.at' (S.mkl nq fun j => tq (j + aq)) j))) ≤
 List.length
 (Prod.snd
 (Prod.snd
 (S.addS n1 (List.length (S.mkl np fun j => tp (j + ap)))
 (fun j => S.at' (S.mkl np fun j => tp (j + ap)) j) n2
 (List.length (S.mkl nq fun j => tq (j + aq))) fun j =>
 S.at' (S.mkl nq fun j => tq (j + aq)) j))) ∧
 List.length
 (Prod.snd
 (Prod.snd
 (S.addS n1 (List.length (S.mkl np fun j => tp (j + ap)))
 (fun j => S.at' (S.mkl np fun j => tp (j + ap)) j) n2
 (List.length (S.mkl nq fun j => tq (j + aq))) fun j =>
 S.at' (S.mkl nq fun j => tq (j + aq)) j))) ≤
 1000000) ∧
 0 +
 List.length
 (Prod.snd
 ((S.addS n1 np (fun j => tp (j + ap)) n2 nq fun j => tq (j + aq)).2)) ≤
 List.length
 ((S.addS n1 np (fun j => tp (j + ap)) n2 nq fun j => tq (j + aq)).2.2) ∧
 List.length
 ((S.addS n1 np (fun j => tp (j + ap)) n2 nq fun j => tq (j + aq)).2.2) ≤
 1000000))
 then (bif (S.samI
 (Prod.fst
 (S.addS n1 (List.length (S.mkl np fun j => tp (j + ap)))
 (fun j => S.at' (S.mkl np fun j => tp (j + ap)) j) n2
 (List.length (S.mkl nq fun j => tq (j + aq))) fun j =>
 S.at' (S.mkl nq fun j => tq (j + aq)) j))
 (List.length
 (Prod.snd
 (Prod.snd
 (S.addS n1 (List.length (S.mkl np fun j => tp (j + ap)))
 (fun j => S.at' (S.mkl np fun j => tp (j + ap)) j) n2
 (List.length (S.mkl nq fun j => tq (j + aq))) fun j =>
 S.at' (S.mkl nq fun j => tq (j + aq)) j))))
 (fun j =>
 S.at'
 (Prod.snd
 (Prod.snd
 (S.addS n1 (List.length (S.mkl np fun j => tp (j + ap)))
 (fun j => S.at' (S.mkl np fun j => tp (j + ap)) j) n2
 (List.length (S.mkl nq fun j => tq (j + aq))) fun j =>
 S.at' (S.mkl nq fun j => tq (j + aq)) j)))
 j)
 ((S.addS n1 np (fun j => tp (j + ap)) n2 nq fun j => tq (j + aq)).1)
 (List.length
 ((S.addS n1 np (fun j => tp (j + ap)) n2 nq fun j => tq (j + aq)).2.2))
 fun j =>
 S.at'
 ((S.addS n1 np (fun j => tp (j + ap)) n2 nq fun j => tq (j + aq)).2.2) j)
 then (bif (Prod.fst
 (Prod.snd
 (S.subI n1 (List.length (S.mkl np fun j => tp (j + ap)))
 (fun j => S.at' (S.mkl np fun j => tp (j + ap)) j) n2
 (List.length (S.mkl nq fun j => tq (j + aq))) fun j =>
 S.at' (S.mkl nq fun j => tq (j + aq)) j)) ==
 (S.subI n1 np (fun j => tp (j + ap)) n2 nq fun j => tq (j + aq)).2.1)
 then (bif (decide
 ((0 +
 List.length
 (Prod.snd
 (Prod.snd
 (S.subI n1 (List.length (S.mkl np fun j => tp (j + ap)))
 (fun j => S.at' (S.mkl np fun j => tp (j + ap)) j) n2
 (List.length (S.mkl nq fun j => tq (j + aq))) fun j =>
 S.at' (S.mkl nq fun j => tq (j + aq)) j))) ≤
 List.length
 (Prod.snd
 (Prod.snd
 (S.subI n1 (List.length (S.mkl np fun j => tp (j + ap)))
 (fun j => S.at' (S.mkl np fun j => tp (j + ap)) j) n2
 (List.length (S.mkl nq fun j => tq (j + aq))) fun j =>
 S.at' (S.mkl nq fun j => tq (j + aq)) j))) ∧
 List.length
 (Prod.snd
 (Prod.snd
 (S.subI n1 (List.length (S.mkl np fun j => tp (j + ap)))
 (fun j => S.at' (S.mkl np fun j => tp (j + ap)) j) n2
 (List.length (S.mkl nq fun j => tq (j + aq))) fun j =>
 S.at' (S.mkl nq fun j => tq (j + aq)) j))) ≤
 1000000) ∧
 0 +
 List.length
 (Prod.snd
 ((S.subI n1 np (fun j => tp (j + ap)) n2 nq fun j => tq (j + aq)).2)) ≤
 List.length
 ((S.subI n1 np (fun j => tp (j + ap)) n2 nq fun j => tq (j + aq)).2.2) ∧
 List.length
 ((S.subI n1 np (fun j => tp (j + ap)) n2 nq fun j => tq (j + aq)).2.2) ≤
 1000000))
 then (bif (S.samI
 (Prod.fst
 (S.subI n1 (List.length (S.mkl np fun j => tp (j + ap)))
 (fun j => S.at' (S.mkl np fun j => tp (j + ap)) j) n2
 (List.length (S.mkl nq fun j => tq (j + aq))) fun j =>
 S.at' (S.mkl nq fun j => tq (j + aq)) j))
 (List.length
 (Prod.snd
 (Prod.snd
 (S.subI n1 (List.length (S.mkl np fun j => tp (j + ap)))
 (fun j => S.at' (S.mkl np fun j => tp (j + ap)) j) n2
 (List.length (S.mkl nq fun j => tq (j + aq))) fun j =>
 S.at' (S.mkl nq fun j => tq (j + aq)) j))))
 (fun j =>
 S.at'
 (Prod.snd
 (Prod.snd
 (S.subI n1 (List.length (S.mkl np fun j => tp (j + ap)))
 (fun j => S.at' (S.mkl np fun j => tp (j + ap)) j) n2
 (List.length (S.mkl nq fun j => tq (j + aq))) fun j =>
 S.at' (S.mkl nq fun j => tq (j + aq)) j)))
 j)
 ((S.subI n1 np (fun j => tp (j + ap)) n2 nq fun j => tq (j + aq)).1)
 (List.length
 ((S.subI n1 np (fun j => tp (j + ap)) n2 nq fun j => tq (j + aq)).2.2))
 fun j =>
 S.at'
 ((S.subI n1 np (fun j => tp (j + ap)) n2 nq fun j => tq (j + aq)).2.2) j)
 then (some (.inr (true)))
 else (some (.inr (false))))
 else (none))
 else (some (.inr (false))))
 else (some (.inr (false))))
 else (none))
 else (some (.inr (false))))
 else (bif (decide
 ((0 +
 List.length
 (Prod.snd
 (Prod.snd
 (S.addS n1 (List.length (S.mkl np fun j => tp (j + ap)))
 (fun j => S.at' (S.mkl np fun j => tp (j + ap)) j) n2
 (List.length (S.mkl nq fun j => tq (j + aq))) fun j =>
 S.at' (S.mkl nq fun j => tq (j + aq)) j))) ≤
 List.length
 (Prod.snd
 (Prod.snd
 (S.addS n1 (List.length (S.mkl np fun j => tp (j + ap)))
 (fun j => S.at' (S.mkl np fun j => tp (j + ap)) j) n2
 (List.length (S.mkl nq fun j => tq (j + aq))) fun j =>
 S.at' (S.mkl nq fun j => tq (j + aq)) j))) ∧
 List.length
 (Prod.snd
 (Prod.snd
 (S.addS n1 (List.length (S.mkl np fun j => tp (j + ap)))
 (fun j => S.at' (S.mkl np fun j => tp (j + ap)) j) n2
 (List.length (S.mkl nq fun j => tq (j + aq))) fun j =>
 S.at' (S.mkl nq fun j => tq (j + aq)) j))) ≤
 1000000) ∧
 0 +
 List.length
 (Prod.snd
 ((S.addS n1 np (fun j => tp (j + ap)) n2 nq fun j => tq (j + aq)).2)) ≤
 List.length
 ((S.addS n1 np (fun j => tp (j + ap)) n2 nq fun j => tq (j + aq)).2.2) ∧
 List.length
 ((S.addS n1 np (fun j => tp (j + ap)) n2 nq fun j => tq (j + aq)).2.2) ≤
 1000000))
 then (bif (S.samI
 (Prod.fst
 (S.addS n1 (List.length (S.mkl np fun j => tp (j + ap)))
 (fun j => S.at' (S.mkl np fun j => tp (j + ap)) j) n2
 (List.length (S.mkl nq fun j => tq (j + aq))) fun j =>
 S.at' (S.mkl nq fun j => tq (j + aq)) j))
 (List.length
 (Prod.snd
 (Prod.snd
 (S.addS n1 (List.length (S.mkl np fun j => tp (j + ap)))
 (fun j => S.at' (S.mkl np fun j => tp (j + ap)) j) n2
 (List.length (S.mkl nq fun j => tq (j + aq))) fun j =>
 S.at' (S.mkl nq fun j => tq (j + aq)) j))))
 (fun j =>
 S.at'
 (Prod.snd
 (Prod.snd
 (S.addS n1 (List.length (S.mkl np fun j => tp (j + ap)))
 (fun j => S.at' (S.mkl np fun j => tp (j + ap)) j) n2
 (List.length (S.mkl nq fun j => tq (j + aq))) fun j =>
 S.at' (S.mkl nq fun j => tq (j + aq)) j)))
 j)
 ((S.addS n1 np (fun j => tp (j + ap)) n2 nq fun j => tq (j + aq)).1)
 (List.length
 ((S.addS n1 np (fun j => tp (j + ap)) n2 nq fun j => tq (j + aq)).2.2))
 fun j =>
 S.at'
 ((S.addS n1 np (fun j => tp (j + ap)) n2 nq fun j => tq (j + aq)).2.2) j)
 then (bif (Prod.fst
 (Prod.snd
 (S.subI n1 (List.length (S.mkl np fun j => tp (j + ap)))
 (fun j => S.at' (S.mkl np fun j => tp (j + ap)) j) n2
 (List.length (S.mkl nq fun j => tq (j + aq))) fun j =>
 S.at' (S.mkl nq fun j => tq (j + aq)) j)) !=
 (S.subI n1 np (fun j => tp (j + ap)) n2 nq fun j => tq (j + aq)).2.1)
 then (bif (Prod.fst
 (Prod.snd
 (S.addS n1 (List.length (S.mkl np fun j => tp (j + ap)))
 (fun j => S.at' (S.mkl np fun j => tp (j + ap)) j) n2
 (List.length (S.mkl nq fun j => tq (j + aq))) fun j =>
 S.at' (S.mkl nq fun j => tq (j + aq)) j)) ==
 (S.addS n1 np (fun j => tp (j + ap)) n2 nq fun j => tq (j + aq)).2.1)
 then (bif (Prod.fst
 (Prod.snd
 (S.subI n1 (List.length (S.mkl np fun j => tp (j + ap)))
 (fun j => S.at' (S.mkl np fun j => tp (j + ap)) j) n2
 (List.length (S.mkl nq fun j => tq (j + aq))) fun j =>
 S.at' (S.mkl nq fun j => tq (j + aq)) j)) ==
 (S.subI n1 np (fun j => tp (j + ap)) n2 nq fun j => tq (j + aq)).2.1)
 then (bif (decide
 ((0 +
 List.length
 (Prod.snd
 (Prod.snd
 (S.subI n1 (List.length (S.mkl np fun j => tp (j + ap)))
 (fun j => S.at' (S.mkl np fun j => tp (j + ap)) j) n2
 (List.length (S.mkl nq fun j => tq (j + aq))) fun j =>
 S.at' (S.mkl nq fun j => tq (j + aq)) j))) ≤
 List.length
 (Prod.snd
 (Prod.snd
 (S.subI n1 (List.length (S.mkl np fun j => tp (j + ap)))
 (fun j => S.at' (S.mkl np fun j => tp (j + ap)) j) n2
 (List.length (S.mkl nq fun j => tq (j + aq))) fun j =>
 S.at' (S.mkl nq fun j => tq (j + aq)) j))) ∧
 List.length
 (Prod.snd
 (Prod.snd
 (S.subI n1 (List.length (S.mkl np fun j => tp (j + ap)))
 (fun j => S.at' (S.mkl np fun j => tp (j + ap)) j) n2
 (List.length (S.mkl nq fun j => tq (j + aq))) fun j =>
 S.at' (S.mkl nq fun j => tq (j + aq)) j))) ≤
 1000000) ∧
 0 +
 List.length
 (Prod.snd
 ((S.subI n1 np (fun j => tp (j + ap)) n2 nq fun j => tq (j + aq)).2)) ≤
 List.length
 ((S.subI n1 np (fun j => tp (j + ap)) n2 nq fun j => tq (j + aq)).2.2) ∧
 List.length
 ((S.subI n1 np (fun j => tp (j + ap)) n2 nq fun j => tq (j + aq)).2.2) ≤
 1000000))
 then (bif (S.samI
 (Prod.fst
 (S.subI n1 (List.length (S.mkl np fun j => tp (j + ap)))
 (fun j => S.at' (S.mkl np fun j => tp (j + ap)) j) n2
 (List.length (S.mkl nq fun j => tq (j + aq))) fun j =>
 S.at' (S.mkl nq fun j => tq (j + aq)) j))
 (List.length
 (Prod.snd
 (Prod.snd
 (S.subI n1 (List.length (S.mkl np fun j => tp (j + ap)))
 (fun j => S.at' (S.mkl np fun j => tp (j + ap)) j) n2
 (List.length (S.mkl nq fun j => tq (j + aq))) fun j =>
 S.at' (S.mkl nq fun j => tq (j + aq)) j))))
 (fun j =>
 S.at'
 (Prod.snd
 (Prod.snd
 (S.subI n1 (List.length (S.mkl np fun j => tp (j + ap)))
 (fun j => S.at' (S.mkl np fun j => tp (j + ap)) j) n2
 (List.length (S.mkl nq fun j => tq (j + aq))) fun j =>
 S.at' (S.mkl nq fun j => tq (j + aq)) j)))
 j)
 ((S.subI n1 np (fun j => tp (j + ap)) n2 nq fun j => tq (j + aq)).1)
 (List.length
 ((S.subI n1 np (fun j => tp (j + ap)) n2 nq fun j => tq (j + aq)).2.2))
 fun j =>
 S.at'
 ((S.subI n1 np (fun j => tp (j + ap)) n2 nq fun j => tq (j + aq)).2.2) j)
 then (some (.inr (true)))
 else (some (.inr (false))))
 else (none))
 else (some (.inr (false))))
 else (some (.inr (false))))
 else (bif (decide
 ((0 +
 List.length
 (Prod.snd
 (Prod.snd
 (S.subI n1 (List.length (S.mkl np fun j => tp (j + ap)))
 (fun j => S.at' (S.mkl np fun j => tp (j + ap)) j) n2
 (List.length (S.mkl nq fun j => tq (j + aq))) fun j =>
 S.at' (S.mkl nq fun j => tq (j + aq)) j))) ≤
 List.length
 (Prod.snd
 (Prod.snd
 (S.subI n1 (List.length (S.mkl np fun j => tp (j + ap)))
 (fun j => S.at' (S.mkl np fun j => tp (j + ap)) j) n2
 (List.length (S.mkl nq fun j => tq (j + aq))) fun j =>
 S.at' (S.mkl nq fun j => tq (j + aq)) j))) ∧
 List.length
 (Prod.snd
 (Prod.snd
 (S.subI n1 (List.length (S.mkl np fun j => tp (j + ap)))
 (fun j => S.at' (S.mkl np fun j => tp (j + ap)) j) n2
 (List.length (S.mkl nq fun j => tq (j + aq))) fun j =>
 S.at' (S.mkl nq fun j => tq (j + aq)) j))) ≤
 1000000) ∧
 0 +
 List.length
 (Prod.snd
 ((S.subI n1 np (fun j => tp (j + ap)) n2 nq fun j => tq (j + aq)).2)) ≤
 List.length
 ((S.subI n1 np (fun j => tp (j + ap)) n2 nq fun j => tq (j + aq)).2.2) ∧
 List.length
 ((S.subI n1 np (fun j => tp (j + ap)) n2 nq fun j => tq (j + aq)).2.2) ≤
 1000000))
 then (bif (S.samI
 (Prod.fst
 (S.subI n1 (List.length (S.mkl np fun j => tp (j + ap)))
 (fun j => S.at' (S.mkl np fun j => tp (j + ap)) j) n2
 (List.length (S.mkl nq fun j => tq (j + aq))) fun j =>
 S.at' (S.mkl nq fun j => tq (j + aq)) j))
 (List.length
 (Prod.snd
 (Prod.snd
 (S.subI n1 (List.length (S.mkl np fun j => tp (j + ap)))
 (fun j => S.at' (S.mkl np fun j => tp (j + ap)) j) n2
 (List.length (S.mkl nq fun j => tq (j + aq))) fun j =>
 S.at' (S.mkl nq fun j => tq (j + aq)) j))))
 (fun j =>
 S.at'
 (Prod.snd
 (Prod.snd
 (S.subI n1 (List.length (S.mkl np fun j => tp (j + ap)))
 (fun j => S.at' (S.mkl np fun j => tp (j + ap)) j) n2
 (List.length (S.mkl nq fun j => tq (j + aq))) fun j =>
 S.at' (S.mkl nq fun j => tq (j + aq)) j)))
 j)
 ((S.subI n1 np (fun j => tp (j + ap)) n2 nq fun j => tq (j + aq)).1)
 (List.length
 ((S.subI n1 np (fun j => tp (j + ap)) n2 nq fun j => tq (j + aq)).2.2))
 fun j =>
 S.at'
 ((S.subI n1 np (fun j => tp (j + ap)) n2 nq fun j => tq (j + aq)).2.2) j)
 then (bif (Prod.fst
 (Prod.snd
 (S.addS n1 (List.length (S.mkl np fun j => tp (j + ap)))
 (fun j => S.at' (S.mkl np fun j => tp (j + ap)) j) n2
 (List.length (S.mkl nq fun j => tq (j + aq))) fun j =>
 S.at' (S.mkl nq fun j => tq (j + aq)) j)) !=
 (0 : Int))
 then (bif (Prod.fst
 (Prod.snd
 (S.addS n1 (List.length (S.mkl np fun j => tp (j + ap)))
 (fun j => S.at' (S.mkl np fun j => tp (j + ap)) j) n2
 (List.length (S.mkl nq fun j => tq (j + aq))) fun j =>
 S.at' (S.mkl nq fun j => tq (j + aq)) j)) ==
 (S.addS n1 np (fun j => tp (j + ap)) n2 nq fun j => tq (j + aq)).2.1)
 then (bif (Prod.fst
 (Prod.snd
 (S.subI n1 (List.length (S.mkl np fun j => tp (j + ap)))
 (fun j => S.at' (S.mkl np fun j => tp (j + ap)) j) n2
 (List.length (S.mkl nq fun j => tq (j + aq))) fun j =>
 S.at' (S.mkl nq fun j => tq (j + aq)) j)) ==
 (S.subI n1 np (fun j => tp (j + ap)) n2 nq fun j => tq (j + aq)).2.1)
 then (some (.inr (true)))
 else (some (.inr (false))))
 else (some (.inr (false))))
 else (bif (decide
 ((0 +
 List.length
 (Prod.snd
 (Prod.snd
 (S.addS n1 (List.length (S.mkl np fun j => tp (j + ap)))
 (fun j => S.at' (S.mkl np fun j => tp (j + ap)) j) n2
 (List.length (S.mkl nq fun j => tq (j + aq))) fun j =>
 S.at' (S.mkl nq fun j => tq (j + aq)) j))) ≤
 List.length
 (Prod.snd
 (Prod.snd
 (S.addS n1 (List.length (S.mkl np fun j => tp (j + ap)))
 (fun j => S.at' (S.mkl np fun j => tp (j + ap)) j) n2
 (List.length (S.mkl nq fun j => tq (j + aq))) fun j =>
 S.at' (S.mkl nq fun j => tq (j + aq)) j))) ∧
 List.length
 (Prod.snd
 (Prod.snd
 (S.addS n1 (List.length (S.mkl np fun j => tp (j + ap)))
 (fun j => S.at' (S.mkl np fun j => tp (j + ap)) j) n2
 (List.length (S.mkl nq fun j => tq (j + aq))) fun j =>
 S.at' (S.mkl nq fun j => tq (j + aq)) j))) ≤
 1000000) ∧
 aq + nq ≤ mq ∧ nq ≤ 1000000))
 then (bif (Prod.fst
 (Prod.snd
 (S.subI
 (Prod.fst
 (S.addS n1 (List.length (S.mkl np fun j => tp (j + ap)))
 (fun j => S.at' (S.mkl np fun j => tp (j + ap)) j) n2
 (List.length (S.mkl nq fun j => tq (j + aq))) fun j =>
 S.at' (S.mkl nq fun j => tq (j + aq)) j))
 (List.length
 (Prod.snd
 (Prod.snd
 (S.addS n1 (List.length (S.mkl np fun j => tp (j + ap)))
 (fun j => S.at' (S.mkl np fun j => tp (j + ap)) j) n2
 (List.length (S.mkl nq fun j => tq (j + aq))) fun j =>
 S.at' (S.mkl nq fun j => tq (j + aq)) j))))
 (fun j =>
 S.at'
 (Prod.snd
 (Prod.snd
 (S.addS n1 (List.length (S.mkl np fun j => tp (j + ap)))
 (fun j => S.at' (S.mkl np fun j => tp (j + ap)) j) n2
 (List.length (S.mkl nq fun j => tq (j + aq))) fun j =>
 S.at' (S.mkl nq fun j => tq (j + aq)) j)))
 j)
 n2 nq fun j => tq (j + aq))) ==
 (0 : Int))
 then (bif (decide
 ((0 +
 List.length
 (Prod.snd
 (Prod.snd
 (S.subI
 (Prod.fst
 (S.addS n1 (List.length (S.mkl np fun j => tp (j + ap)))
 (fun j => S.at' (S.mkl np fun j => tp (j + ap)) j) n2
 (List.length (S.mkl nq fun j => tq (j + aq))) fun j =>
 S.at' (S.mkl nq fun j => tq (j + aq)) j))
 (List.length
 (Prod.snd
 (Prod.snd
 (S.addS n1 (List.length (S.mkl np fun j => tp (j + ap)))
 (fun j => S.at' (S.mkl np fun j => tp (j + ap)) j) n2
 (List.length (S.mkl nq fun j => tq (j + aq))) fun j =>
 S.at' (S.mkl nq fun j => tq (j + aq)) j))))
 (fun j =>
 S.at'
 (Prod.snd
 (Prod.snd
 (S.addS n1 (List.length (S.mkl np fun j => tp (j + ap)))
 (fun j => S.at' (S.mkl np fun j => tp (j + ap)) j) n2
 (List.length (S.mkl nq fun j => tq (j + aq))) fun j =>
 S.at' (S.mkl nq fun j => tq (j + aq)) j)))
 j)
 n2 nq fun j => tq (j + aq)))) ≤
 List.length
 (Prod.snd
 (Prod.snd
 (S.subI
 (Prod.fst
 (S.addS n1 (List.length (S.mkl np fun j => tp (j + ap)))
 (fun j => S.at' (S.mkl np fun j => tp (j + ap)) j) n2
 (List.length (S.mkl nq fun j => tq (j + aq))) fun j =>
 S.at' (S.mkl nq fun j => tq (j + aq)) j))
 (List.length
 (Prod.snd
 (Prod.snd
 (S.addS n1 (List.length (S.mkl np fun j => tp (j + ap)))
 (fun j => S.at' (S.mkl np fun j => tp (j + ap)) j) n2
 (List.length (S.mkl nq fun j => tq (j + aq))) fun j =>
 S.at' (S.mkl nq fun j => tq (j + aq)) j))))
 (fun j =>
 S.at'
 (Prod.snd
 (Prod.snd
 (S.addS n1 (List.length (S.mkl np fun j => tp (j + ap)))
 (fun j => S.at' (S.mkl np fun j => tp (j + ap)) j) n2
 (List.length (S.mkl nq fun j => tq (j + aq))) fun j =>
 S.at' (S.mkl nq fun j => tq (j + aq)) j)))
 j)
 n2 nq fun j => tq (j + aq)))) ∧
 List.length
 (Prod.snd
 (Prod.snd
 (S.subI
 (Prod.fst
 (S.addS n1 (List.length (S.mkl np fun j => tp (j + ap)))
 (fun j => S.at' (S.mkl np fun j => tp (j + ap)) j) n2
 (List.length (S.mkl nq fun j => tq (j + aq))) fun j =>
 S.at' (S.mkl nq fun j => tq (j + aq)) j))
 (List.length
 (Prod.snd
 (Prod.snd
 (S.addS n1 (List.length (S.mkl np fun j => tp (j + ap)))
 (fun j => S.at' (S.mkl np fun j => tp (j + ap)) j) n2
 (List.length (S.mkl nq fun j => tq (j + aq))) fun j =>
 S.at' (S.mkl nq fun j => tq (j + aq)) j))))
 (fun j =>
 S.at'
 (Prod.snd
 (Prod.snd
 (S.addS n1 (List.length (S.mkl np fun j => tp (j + ap)))
 (fun j => S.at' (S.mkl np fun j => tp (j + ap)) j) n2
 (List.length (S.mkl nq fun j => tq (j + aq))) fun j =>
 S.at' (S.mkl nq fun j => tq (j + aq)) j)))
 j)
 n2 nq fun j => tq (j + aq)))) ≤
 1000000) ∧
 ap + np ≤ mp ∧ np ≤ 1000000))
 then (bif (S.samI
 (Prod.fst
 (S.subI
 (Prod.fst
 (S.addS n1 (List.length (S.mkl np fun j => tp (j + ap)))
 (fun j => S.at' (S.mkl np fun j => tp (j + ap)) j) n2
 (List.length (S.mkl nq fun j => tq (j + aq))) fun j =>
 S.at' (S.mkl nq fun j => tq (j + aq)) j))
 (List.length
 (Prod.snd
 (Prod.snd
 (S.addS n1 (List.length (S.mkl np fun j => tp (j + ap)))
 (fun j => S.at' (S.mkl np fun j => tp (j + ap)) j) n2
 (List.length (S.mkl nq fun j => tq (j + aq))) fun j =>
 S.at' (S.mkl nq fun j => tq (j + aq)) j))))
 (fun j =>
 S.at'
 (Prod.snd
 (Prod.snd
 (S.addS n1 (List.length (S.mkl np fun j => tp (j + ap)))
 (fun j => S.at' (S.mkl np fun j => tp (j + ap)) j) n2
 (List.length (S.mkl nq fun j => tq (j + aq))) fun j =>
 S.at' (S.mkl nq fun j => tq (j + aq)) j)))
 j)
 n2 nq fun j => tq (j + aq)))
 (List.length
 (Prod.snd
 (Prod.snd
 (S.subI
 (Prod.fst
 (S.addS n1 (List.length (S.mkl np fun j => tp (j + ap)))
 (fun j => S.at' (S.mkl np fun j => tp (j + ap)) j) n2
 (List.length (S.mkl nq fun j => tq (j + aq))) fun j =>
 S.at' (S.mkl nq fun j => tq (j + aq)) j))
 (List.length
 (Prod.snd
 (Prod.snd
 (S.addS n1 (List.length (S.mkl np fun j => tp (j + ap)))
 (fun j => S.at' (S.mkl np fun j => tp (j + ap)) j) n2
 (List.length (S.mkl nq fun j => tq (j + aq))) fun j =>
 S.at' (S.mkl nq fun j => tq (j + aq)) j))))
 (fun j =>
 S.at'
 (Prod.snd
 (Prod.snd
 (S.addS n1 (List.length (S.mkl np fun j => tp (j + ap)))
 (fun j => S.at' (S.mkl np fun j => tp (j + ap)) j) n2
 (List.length (S.mkl nq fun j => tq (j + aq))) fun j =>
 S.at' (S.mkl nq fun j => tq (j + aq)) j)))
 j)
 n2 nq fun j => tq (j + aq)))))
 (fun j =>
 S.at'
 (Prod.snd
 (Prod.snd
 (S.subI
 (Prod.fst
 (S.addS n1 (List.length (S.mkl np fun j => tp (j + ap)))
 (fun j => S.at' (S.mkl np fun j => tp (j + ap)) j) n2
 (List.length (S.mkl nq fun j => tq (j + aq))) fun j =>
 S.at' (S.mkl nq fun j => tq (j + aq)) j))
 (List.length
 (Prod.snd
 (Prod.snd
 (S.addS n1 (List.length (S.mkl np fun j => tp (j + ap)))
 (fun j => S.at' (S.mkl np fun j => tp (j + ap)) j) n2
 (List.length (S.mkl nq fun j => tq (j + aq))) fun j =>
 S.at' (S.mkl nq fun j => tq (j + aq)) j))))
 (fun j =>
 S.at'
 (Prod.snd
 (Prod.snd
 (S.addS n1 (List.length (S.mkl np fun j => tp (j + ap)))
 (fun j => S.at' (S.mkl np fun j => tp (j + ap)) j) n2
 (List.length (S.mkl nq fun j => tq (j + aq))) fun j =>
 S.at' (S.mkl nq fun j => tq (j + aq)) j)))
 j)
 n2 nq fun j => tq (j + aq))))
 j)
 n1 np fun j => tp (j + ap))
 then (some (.inr (true)))
 else (some (.inr (false))))
 else (none))
 else (some (.inr (false))))
 else (none)))
 else (bif (Prod.fst
 (Prod.snd
 (S.addS n1 (List.length (S.mkl np fun j => tp (j + ap)))
 (fun j => S.at' (S.mkl np fun j => tp (j + ap)) j) n2
 (List.length (S.mkl nq fun j => tq (j + aq))) fun j =>
 S.at' (S.mkl nq fun j => tq (j + aq)) j)) ==
 (S.addS n1 np (fun j => tp (j + ap)) n2 nq fun j => tq (j + aq)).2.1)
 then (bif (Prod.fst
 (Prod.snd
 (S.subI n1 (List.length (S.mkl np fun j => tp (j + ap)))
 (fun j => S.at' (S.mkl np fun j => tp (j + ap)) j) n2
 (List.length (S.mkl nq fun j => tq (j + aq))) fun j =>
 S.at' (S.mkl nq fun j => tq (j + aq)) j)) ==
 (S.subI n1 np (fun j => tp (j + ap)) n2 nq fun j => tq (j + aq)).2.1)
 then (some (.inr (false)))
 else (some (.inr (false))))
 else (some (.inr (false)))))
 else (none)))
 else (bif (Prod.fst
 (Prod.snd
 (S.addS n1 (List.length (S.mkl np fun j => tp (j + ap)))
 (fun j => S.at' (S.mkl np fun j => tp (j + ap)) j) n2
 (List.length (S.mkl nq fun j => tq (j + aq))) fun j =>
 S.at' (S.mkl nq fun j => tq (j + aq)) j)) ==
 (S.addS n1 np (fun j => tp (j + ap)) n2 nq fun j => tq (j + aq)).2.1)
 then (some (.inr (false)))
 else (some (.inr (false)))))
 else (none)))
 else (none))
 else (none))
 else (none))
 else (none))
 else (some (.inr (true))))
 else (none))
 else (none) : Option (St4 ⊕ Rt4)) = some x) : Te4 cond Kst Kret n1 ap np mp tp n2 aq nq mq tq := by
  unfold Te4
  exact cond_yes rfl (cond_yes rfl (cond_yes rfl (cond_yes rfl (bif_split h
   (fun c0 h => cond_yes rfl (cond_yes rfl (cond_yes rfl (bif_split h
   (fun c1 h => cond_yes rfl (cond_no rfl (bif_split h
   (fun c2 h => bif_split h
   (fun c3 h => bif_split h
   (fun c4 h => bif_split h
   (fun c5 h => bif_split h
   (fun c6 h => cond_yes c3 (cond_yes c4 (cond_yes c5 (cond_yes c6 (bif_split h
   (fun c7 h => bif_split h
   (fun c8 h => bif_split h
   (fun c9 h => bif_split h
   (fun c10 h => bif_split h
   (fun c11 h => bif_split h
   (fun c12 h => bif_split h
   (fun c13 h => ret_at hR _ h (fun n => n) rfl rfl rfl (rn_bool_tf rfl) rfl (entl_bor (use_lo rfl) rfl rfl (entl_bor (use_lo rfl) rfl rfl entl_nil)))
   (fun c13 h => ret_at hR _ h (fun n => n) rfl rfl rfl (rn_bool_tf rfl) rfl (entl_bor (use_lo rfl) rfl rfl (entl_bor (use_lo rfl) rfl rfl entl_nil))))
   (fun c12 h => no_some h))
   (fun c11 h => ret_at hR _ h (fun n => n) rfl rfl rfl (rn_bool_tf rfl) rfl (entl_bor (use_lo rfl) rfl rfl (entl_bor (use_lo rfl) rfl rfl entl_nil))))
   (fun c10 h => ret_at hR _ h (fun n => n) rfl rfl rfl (rn_bool_tf rfl) rfl (entl_bor (use_lo rfl) rfl rfl (entl_bor (use_lo rfl) rfl rfl entl_nil))))
   (fun c9 h => no_some h))
   (fun c8 h => ret_at hR _ h (fun n => n) rfl rfl rfl (rn_bool_tf rfl) rfl (entl_bor (use_lo rfl) rfl rfl (entl_bor (use_lo rfl) rfl rfl entl_nil))))
   (fun c7 h => bif_split h
   (fun c8 h => bif_split h
   (fun c9 h => bif_split h
   (fun c10 h => bif_split h
   (fun c11 h => cond_yes c8 (cond_yes c9 (bif_split h
   (fun c12 h => bif_split h
   (fun c13 h => bif_split h
   (fun c14 h => ret_at hR _ h (fun n => n) rfl rfl rfl (rn_bool_tf rfl) rfl (entl_bor (use_lo rfl) rfl rfl (entl_bor (use_lo rfl) rfl rfl entl_nil)))
   (fun c14 h => ret_at hR _ h (fun n => n) rfl rfl rfl (rn_bool_tf rfl) rfl (entl_bor (use_lo rfl) rfl rfl (entl_bor (use_lo rfl) rfl rfl entl_nil))))
   (fun c13 h => no_some h))
   (fun c12 h => ret_at hR _ h (fun n => n) rfl rfl rfl (rn_bool_tf rfl) rfl (entl_bor (use_lo rfl) rfl rfl (entl_bor (use_lo rfl) rfl rfl entl_nil))))))
   (fun c11 h => ret_at hR _ h (fun n => n) rfl rfl rfl (rn_bool_tf rfl) rfl (entl_bor (use_lo rfl) rfl rfl (entl_bor (use_lo rfl) rfl rfl entl_nil))))
   (fun c10 h => bif_split h
   (fun c11 h => bif_split h
   (fun c12 h => bif_split h
   (fun c13 h => bif_split h
   (fun c14 h => cond_yes c8 (cond_yes c9 (bif_split h
   (fun c15 h => cond_yes c11 (cond_yes c12 (ret_at hR _ h (fun n => n) rfl rfl rfl (rn_bool_tf rfl) rfl (entl_bor (use_lo rfl) rfl rfl (entl_bor (use_lo rfl) rfl rfl entl_nil)))))
   (fun c15 h => ret_at hR _ h (fun n => n) rfl rfl rfl (rn_bool_tf rfl) rfl (entl_bor (use_lo rfl) rfl rfl (entl_bor (use_lo rfl) rfl rfl entl_nil))))))
   (fun c14 h => ret_at hR _ h (fun n => n) rfl rfl rfl (rn_bool_tf rfl) rfl (entl_bor (use_lo rfl) rfl rfl (entl_bor (use_lo rfl) rfl rfl entl_nil))))
   (fun c13 h => bif_split h
   (fun c14 h => bif_split h
   (fun c15 h => bif_split h
   (fun c16 h => bif_split h
   (fun c17 h => ret_at hR _ h (fun n => n) rfl rfl rfl (rn_bool_tf rfl) rfl (entl_bor (use_lo rfl) rfl rfl (entl_bor (use_lo rfl) rfl rfl entl_nil)))
   (fun c17 h => ret_at hR _ h (fun n => n) rfl rfl rfl (rn_bool_tf rfl) rfl (entl_bor (use_lo rfl) rfl rfl (entl_bor (use_lo rfl) rfl rfl entl_nil))))
   (fun c16 h => no_some h))
   (fun c15 h => ret_at hR _ h (fun n => n) rfl rfl rfl (rn_bool_tf rfl) rfl (entl_bor (use_lo rfl) rfl rfl (entl_bor (use_lo rfl) rfl rfl entl_nil))))
   (fun c14 h => no_some h)))
   (fun c12 h => bif_split h
   (fun c13 h => cond_yes c8 (cond_yes c9 (bif_split h
   (fun c14 h => cond_yes c11 (cond_no c12 (ret_at hR _ h (fun n => n) rfl rfl rfl (rn_bool_tf rfl) rfl (entl_bor (use_lo rfl) rfl rfl (entl_bor (use_lo rfl) rfl rfl entl_nil)))))
   (fun c14 h => ret_at hR _ h (fun n => n) rfl rfl rfl (rn_bool_tf rfl) rfl (entl_bor (use_lo rfl) rfl rfl (entl_bor (use_lo rfl) rfl rfl entl_nil))))))
   (fun c13 h => ret_at hR _ h (fun n => n) rfl rfl rfl (rn_bool_tf rfl) rfl (entl_bor (use_lo rfl) rfl rfl (entl_bor (use_lo rfl) rfl rfl entl_nil)))))
   (fun c11 h => no_some h)))
   (fun c9 h => bif_split h
   (fun c10 h => cond_yes c8 (cond_no c9 (ret_at hR _ h (fun n => n) rfl rfl rfl (rn_bool_tf rfl) rfl (entl_bor (use_lo rfl) rfl rfl (entl_bor (use_lo rfl) rfl rfl entl_nil)))))
   (fun c10 h => ret_at hR _ h (fun n => n) rfl rfl rfl (rn_bool_tf rfl) rfl (entl_bor (use_lo rfl) rfl rfl (entl_bor (use_lo rfl) rfl rfl entl_nil)))))
   (fun c8 h => no_some h)))))))
   (fun c6 h => no_some h))
   (fun c5 h => no_some h))
   (fun c4 h => no_some h))
   (fun c3 h => no_some h))
   (fun c2 h => cond_yes rfl (cond_yes rfl (ret_at hR _ h (fun n => n) rfl rfl rfl (rn_bool_tf rfl) rfl (entl_bor (use_lo rfl) rfl rfl (entl_bor (use_lo rfl) rfl rfl entl_nil))))))))
   (fun c1 h => no_some h)))))
   (fun c0 h => no_some h)))))
theorem a4 (n1 : Bool) (ap np mp : Nat) (tp : Nat → Int) (n2 : Bool) (aq nq mq : Nat) (tq : Nat → Int) {r : Rt4} (h : Goes ((q4 n1 ap np mp tp n2 aq nq mq tq)) ((p4 n1 ap np mp tp n2 aq nq mq tq)) r) : CallR Tryd.prog 4 [.agg [.bool n1, .loose ⟨0, 1, ap, 0⟩ np], .agg [.bool n2, .loose ⟨1, 1, aq, 0⟩ nq]] [[(0, (false, .cols mp [.int .i64 tp])), (1, (false, .cols mq [.int .i64 tq]))]] 2 ((V4 n1 ap np mp tp n2 aq nq mq tq) r) ((fun r => [newL (2 + 1) ((N4 n1 ap np mp tp n2 aq nq mq tq) r) ++ [(0, (false, .cols mp [.int .i64 tp])), (1, (false, .cols mq [.int .i64 tq]))]]) r) 400 ∧ ∃ F, Tryd.prog.funcs[4]? = some F ∧ F.body.isSome = true ∧ (F.name == "runtime.NumGoroutine") = false := by
  refine dec_calls (f := 4) (lo := 2) (hi := 400) (H := [[(0, (false, .cols mp [.int .i64 tp])), (1, (false, .cols mq [.int .i64 tq]))]]) (args := [.agg [.bool n1, .loose ⟨0, 1, ap, 0⟩ np], .agg [.bool n2, .loose ⟨1, 1, aq, 0⟩ nq]]) Tryd.envOk Tryd.mixed xE_ok ((I4 n1 ap np mp tp n2 aq nq mq tq)) ((V4 n1 ap np mp tp n2 aq nq mq tq)) (fun r => [newL (2 + 1) ((N4 n1 ap np mp tp n2 aq nq mq tq) r) ++ [(0, (false, .cols mp [.int .i64 tp])), (1, (false, .cols mq [.int .i64 tq]))]]) (fn := mkFn Tryd.f4) (ts := []) (n := 400) rfl (by decide) (by simp) (names_of rfl) ?_ ?_ ?_ h
  · intro s; exact s.elim
  · intro Kst Kret x hS hR h
    exact Holds.eq (te4 cond Kst Kret n1 ap np mp tp n2 aq nq mq tq) (be4 n1 ap np mp tp n2 aq nq mq tq Kst Kret x hS hR h)
  · intro Kst Kret x hS hR s h; exact s.elim
noncomputable def k4  : Con := ⟨4, [.agg [.plain (.bool), .list [.int .i64]], .agg [.plain (.bool), .list [.int .i64]]], fun (x : (Bool × (Nat × Nat × Nat × (Nat → Int) × Unit) × Unit) × (Bool × (Nat × Nat × Nat × (Nat → Int) × Unit) × Unit) × Unit) => (fun (n1 : Bool) (ap np mp : Nat) (tp : Nat → Int) (n2 : Bool) (aq nq mq : Nat) (tq : Nat → Int) => decide (ap + np ≤ mp ∧ aq + nq ≤ mq ∧ np ≤ reachBytes ∧ nq ≤ reachBytes)) x.1.1 x.1.2.1.1 x.1.2.1.2.1 x.1.2.1.2.2.1 x.1.2.1.2.2.2.1 x.2.1.1 x.2.1.2.1.1 x.2.1.2.1.2.1 x.2.1.2.1.2.2.1 x.2.1.2.1.2.2.2.1, fun (x : (Bool × (Nat × Nat × Nat × (Nat → Int) × Unit) × Unit) × (Bool × (Nat × Nat × Nat × (Nat → Int) × Unit) × Unit) × Unit) => (fun (n1 : Bool) (ap np mp : Nat) (tp : Nat → Int) (n2 : Bool) (aq nq mq : Nat) (tq : Nat → Int) => (V4 n1 ap np mp tp n2 aq nq mq tq) (true)) x.1.1 x.1.2.1.1 x.1.2.1.2.1 x.1.2.1.2.2.1 x.1.2.1.2.2.2.1 x.2.1.1 x.2.1.2.1.1 x.2.1.2.1.2.1 x.2.1.2.1.2.2.1 x.2.1.2.1.2.2.2.1, fun (x : (Bool × (Nat × Nat × Nat × (Nat → Int) × Unit) × Unit) × (Bool × (Nat × Nat × Nat × (Nat → Int) × Unit) × Unit) × Unit) => (fun (n1 : Bool) (ap np mp : Nat) (tp : Nat → Int) (n2 : Bool) (aq nq mq : Nat) (tq : Nat → Int) => (N4 n1 ap np mp tp n2 aq nq mq tq) (true)) x.1.1 x.1.2.1.1 x.1.2.1.2.1 x.1.2.1.2.2.1 x.1.2.1.2.2.2.1 x.2.1.1 x.2.1.2.1.1 x.2.1.2.1.2.1 x.2.1.2.1.2.2.1 x.2.1.2.1.2.2.2.1, fun _ _ => .dead⟩
theorem s4 (n1 : Bool) (ap np mp : Nat) (tp : Nat → Int) (n2 : Bool) (aq nq mq : Nat) (tq : Nat → Int) (hp : ap + np ≤ mp ∧ aq + nq ≤ mq ∧ np ≤ reachBytes ∧ nq ≤ reachBytes) : Goes ((q4 n1 ap np mp tp n2 aq nq mq tq)) ((p4 n1 ap np mp tp n2 aq nq mq tq)) (true) := by
  obtain ⟨hp1, hp2, hp3, hp4⟩ := hp
  unfold reachBytes at hp3 hp4
  by_cases h0 : (0 : Int) + np + nq ≤ 170
  · have lA := @addS_len n1 n2 np nq (fun j => tp (j + ap)) (fun j => tq (j + aq))
    have lB := @subI_len n1 n2 np nq (fun j => tp (j + ap)) (fun j => tq (j + aq))
    have hC := @sub_add n1 n2 np nq (fun j => tp (j + ap)) (fun j => tq (j + aq))
    have hS : S.samI n1 (S.mkl np (fun j => tp (j + ap))).length (fun j => S.at' (S.mkl np (fun j => tp (j + ap))) j) n1 np (fun j => tp (j + ap)) = true := by
      refine decide_eq_true ⟨rfl, ?_⟩
      rw [mkl_len]
      exact mkl_congr fun j hj => at_mkl hj
    unfold p4
    simp only [mkl_len, addS_mk, subI_mk]
    generalize S.addS n1 np (fun j => tp (j + ap)) n2 nq (fun j => tq (j + aq)) = A at *
    generalize S.subI n1 np (fun j => tp (j + ap)) n2 nq (fun j => tq (j + aq)) = B at *
    by_cases hA : A.2.1 = 0
    · have hC := hC hA
      have hA' : (A.2.1 != 0) = false := by rw [hA]; rfl
      rw [hC]
      simp only [mkl_len] at hS
      simp only [mkl_len]
      repeat' first
        | with_reducible exact goes_inr.mpr rfl
        | (refine goes_ok ?_ ?_; focus (first | with_reducible exact beq_self_eq_true _ | (simp only [Bool.and_eq_true, decide_eq_true_eq, and_self, eq_self]; done) | with_reducible exact decide_eq_true trivial | with_reducible exact decide_eq_true rfl | (simp only [eq_self, decide_true, Bool.and_self, Bool.and_true, Bool.true_and]; done) | (apply decide_eq_true; omega) | (rw [lim64]; apply decide_eq_true; omega) | (apply decide_eq_true; simp only [mkl_len, mkl_zero, List.length_nil, true_and, and_true, and_self, Nat.zero_add, Nat.add_zero, Nat.le_refl]; done) | (apply decide_eq_true; simp only [mkl_len, mkl_zero, List.length_nil, true_and, and_true, and_self, Nat.zero_add, Nat.add_zero, Nat.le_refl]; omega) | decide | exact samI_self | exact hS | (rw [hA]; rfl) | rfl))
        | (refine goes_no ?_ ?_; focus (first | with_reducible exact bne_self_eq_false _ | (apply decide_eq_false; omega) | decide | exact hA'))

    · have hA' : (A.2.1 != 0) = true := by simpa using hA
      repeat' first
        | with_reducible exact goes_inr.mpr rfl
        | (refine goes_ok ?_ ?_; focus (first | with_reducible exact beq_self_eq_true _ | (simp only [Bool.and_eq_true, decide_eq_true_eq, and_self, eq_self]; done) | with_reducible exact decide_eq_true trivial | with_reducible exact decide_eq_true rfl | (simp only [eq_self, decide_true, Bool.and_self, Bool.and_true, Bool.true_and]; done) | (apply decide_eq_true; omega) | (rw [lim64]; apply decide_eq_true; omega) | (apply decide_eq_true; simp only [mkl_len, mkl_zero, List.length_nil, true_and, and_true, and_self, Nat.zero_add, Nat.add_zero, Nat.le_refl]; done) | (apply decide_eq_true; simp only [mkl_len, mkl_zero, List.length_nil, true_and, and_true, and_self, Nat.zero_add, Nat.add_zero, Nat.le_refl]; omega) | decide | exact samI_self | exact hA' | exact beq_self_eq_true _))
        | (refine goes_no ?_ ?_; focus (first | with_reducible exact bne_self_eq_false _ | (apply decide_eq_false; omega) | decide))

  · unfold p4
    repeat' first
      | with_reducible refine goes_if (fun h => ?_) (fun h => ?_) <;> (try simp only [SH] at h)
      | exact goes_none.mpr (by omega)
    all_goals first | (exfalso; omega) | exact goes_inr.mpr rfl
theorem k4_ok  : k4.ok Tryd.prog := by
  intro x hx
  obtain ⟨⟨n1, ⟨ap, np, mp, tp, _⟩, _⟩, ⟨n2, ⟨aq, nq, mq, tq, _⟩, _⟩, _⟩ := x
  obtain ⟨h1, h2⟩ := a4 n1 ap np mp tp n2 aq nq mq tq (s4 n1 ap np mp tp n2 aq nq mq tq (of_dec hx rfl))
  exact ⟨⟨400, (by decide : 2 + 1 + 0 ≤ 400), h1⟩, h2⟩
theorem pre4  {x : SsI k4.ss} (hx : ssFits k4.ss x) (hz : ssSmall reachBytes k4.ss x) : k4.pre (ssj k4.ss x) = true := by
  obtain ⟨⟨b0, ⟨n, t, u'⟩, u1⟩, ⟨b1, ⟨m, t2, u2⟩, u3⟩, u''⟩ := x
  obtain ⟨⟨-, hn, -⟩, ⟨-, hm, -⟩, -⟩ := hz
  exact decide_eq_true ⟨Nat.le_of_eq (Nat.zero_add _), Nat.le_of_eq (Nat.zero_add _), hn, hm⟩
end Go.Ev
