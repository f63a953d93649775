/-
  The parts that the statement needs, 3 of 3.
-/
import Derived.Test.YtlmomkdmbacbpaaDoorV72
namespace Go.Ev
open Go.Proofs
set_option linter.unusedVariables false
set_option linter.unusedSimpArgs false
set_option maxRecDepth 100000
theorem te7 (test : Bool → Prop → Prop → Prop) (Kst : KS) (Kret : KR) (n1 : Bool) (ap np mp : Nat) (tp : Nat → Int) (n2 : Bool) (aq nq mq : Nat) (tq : Nat → Int) (n3 : Bool) (ar nr mr : Nat) (tr : Nat → Int) : run test Tryd.env true (xR test) true 400 ⟨7, [.cd (mkFn Tryd.f7).body], argT 0 [.agg [.bool n1, .loose ⟨0, 1, ap, 0⟩ np], .agg [.bool n2, .loose ⟨1, 1, aq, 0⟩ nq], .agg [.bool n3, .loose ⟨2, 1, ar, 0⟩ nr]], [[], [(0, (false, .cols mp [.int .u32 tp])), (1, (false, .cols mq [.int .u32 tq])), (2, (false, .cols mr [.int .u32 tr]))]], 3⟩ (proj 3 [20, 22, 26, 28, 30, 34, 162, 163, 164] Kst Kret) =
  Te7 test Kst Kret n1 ap np mp tp n2 aq nq mq tq n3 ar nr mr tr := by kernel_rfl
noncomputable def T7_0 (test : Bool → Prop → Prop → Prop) (Kst : KS) (Kret : KR) (n1 : Bool) (ap np mp : Nat) (tp : Nat → Int) (n2 : Bool) (aq nq mq : Nat) (tq : Nat → Int) (n3 : Bool) (ar nr mr : Nat) (tr : Nat → Int) (x0 : Int) (x1 x2 x3 x4 x5 x6 x7 : List Int) : Prop :=
  test (decide (x0 < (8 : Int)))
 (test (decide ((0 : Int) ≤ x0 ∧ x0 < (↑(List.length x7) : Int)))
 (test (decide (Int.toNat x0 < List.length x7))
 (test (S.at' x7 (Int.toNat x0) != (0 : Int))
 (Kret (PV.tf false) ([[(2, false, Blk.cols mr [Col.int IntKind.u32 tr]),
 (1, false, Blk.cols mq [Col.int IntKind.u32 tq]),
 (0, false, Blk.cols mp [Col.int IntKind.u32 tp])]]) (16))
 (test (lim IntKind.i64 (x0 + (1 : Int)))
 (Kst (hd Tryd.f7 0) ([PV.ptr (PA.mk (3) (0) (0) (0)),
 PV.ptr (PA.mk (5) (0) (0) (0)),
 PV.ptr (PA.mk (7) (0) (0) (0)),
 PV.ptr (PA.mk (9) (0) (0) (0)),
 PV.ptr (PA.mk (11) (0) (0) (0)),
 PV.ptr (PA.mk (13) (0) (0) (0)),
 PV.own (15) (1) (List.length x7), PV.int IntKind.i64 (8 : Int),
 PV.int IntKind.i64 (x0 + (1 : Int))]) ([[(2, false, Blk.cols mr [Col.int IntKind.u32 tr]),
 (1, false, Blk.cols mq [Col.int IntKind.u32 tq]),
 (0, false, Blk.cols mp [Col.int IntKind.u32 tp]),
 (15, true,
 Blk.cols (List.length x7) [Col.int IntKind.i64 fun j => S.at' x7 j]),
 (13, true,
 Blk.cells
 [PV.bool
 (Prod.fst
 (S.mulI (S.sgB n1 (S.desV (Min.min np (20)) fun j => tp (j + ap)))
 (List.length (S.grp (S.desV (Min.min np (20)) fun j => tp (j + ap))))
 (fun j =>
 S.at' (S.grp (S.desV (Min.min np (20)) fun j => tp (j + ap))) j)
 (Prod.fst
 (S.mulI (S.sgB n2 (S.desV (Min.min nq (20)) fun j => tq (j + aq)))
 (List.length (S.grp (S.desV (Min.min nq (20)) fun j => tq (j + aq))))
 (fun j =>
 S.at' (S.grp (S.desV (Min.min nq (20)) fun j => tq (j + aq))) j)
 (S.sgB n3 (S.desV (Min.min nr (20)) fun j => tr (j + ar)))
 (List.length (S.grp (S.desV (Min.min nr (20)) fun j => tr (j + ar))))
 fun j =>
 S.at' (S.grp (S.desV (Min.min nr (20)) fun j => tr (j + ar))) j))
 (List.length
 (Prod.snd
 (Prod.snd
 (S.mulI
 (S.sgB n2 (S.desV (Min.min nq (20)) fun j => tq (j + aq)))
 (List.length
 (S.grp (S.desV (Min.min nq (20)) fun j => tq (j + aq))))
 (fun j =>
 S.at'
 (S.grp (S.desV (Min.min nq (20)) fun j => tq (j + aq))) j)
 (S.sgB n3 (S.desV (Min.min nr (20)) fun j => tr (j + ar)))
 (List.length
 (S.grp (S.desV (Min.min nr (20)) fun j => tr (j + ar))))
 fun j =>
 S.at' (S.grp (S.desV (Min.min nr (20)) fun j => tr (j + ar)))
 j))))
 fun j =>
 S.at'
 (Prod.snd
 (Prod.snd
 (S.mulI
 (S.sgB n2 (S.desV (Min.min nq (20)) fun j => tq (j + aq)))
 (List.length
 (S.grp (S.desV (Min.min nq (20)) fun j => tq (j + aq))))
 (fun j =>
 S.at'
 (S.grp (S.desV (Min.min nq (20)) fun j => tq (j + aq))) j)
 (S.sgB n3 (S.desV (Min.min nr (20)) fun j => tr (j + ar)))
 (List.length
 (S.grp (S.desV (Min.min nr (20)) fun j => tr (j + ar))))
 fun j =>
 S.at' (S.grp (S.desV (Min.min nr (20)) fun j => tr (j + ar)))
 j)))
 j)),
 PV.own (14) (1) (List.length x6)]),
 (11, true,
 Blk.cells
 [PV.bool
 (Prod.fst
 (S.mulI
 (Prod.fst
 (S.mulI (S.sgB n1 (S.desV (Min.min np (20)) fun j => tp (j + ap)))
 (List.length (S.grp (S.desV (Min.min np (20)) fun j => tp (j + ap))))
 (fun j =>
 S.at' (S.grp (S.desV (Min.min np (20)) fun j => tp (j + ap))) j)
 (S.sgB n2 (S.desV (Min.min nq (20)) fun j => tq (j + aq)))
 (List.length (S.grp (S.desV (Min.min nq (20)) fun j => tq (j + aq))))
 fun j =>
 S.at' (S.grp (S.desV (Min.min nq (20)) fun j => tq (j + aq))) j))
 (List.length
 (Prod.snd
 (Prod.snd
 (S.mulI
 (S.sgB n1 (S.desV (Min.min np (20)) fun j => tp (j + ap)))
 (List.length
 (S.grp (S.desV (Min.min np (20)) fun j => tp (j + ap))))
 (fun j =>
 S.at'
 (S.grp (S.desV (Min.min np (20)) fun j => tp (j + ap))) j)
 (S.sgB n2 (S.desV (Min.min nq (20)) fun j => tq (j + aq)))
 (List.length
 (S.grp (S.desV (Min.min nq (20)) fun j => tq (j + aq))))
 fun j =>
 S.at' (S.grp (S.desV (Min.min nq (20)) fun j => tq (j + aq)))
 j))))
 (fun j =>
 S.at'
 (Prod.snd
 (Prod.snd
 (S.mulI
 (S.sgB n1 (S.desV (Min.min np (20)) fun j => tp (j + ap)))
 (List.length
 (S.grp (S.desV (Min.min np (20)) fun j => tp (j + ap))))
 (fun j =>
 S.at'
 (S.grp (S.desV (Min.min np (20)) fun j => tp (j + ap))) j)
 (S.sgB n2 (S.desV (Min.min nq (20)) fun j => tq (j + aq)))
 (List.length
 (S.grp (S.desV (Min.min nq (20)) fun j => tq (j + aq))))
 fun j =>
 S.at'
 (S.grp (S.desV (Min.min nq (20)) fun j => tq (j + aq))) j)))
 j)
 (S.sgB n3 (S.desV (Min.min nr (20)) fun j => tr (j + ar)))
 (List.length (S.grp (S.desV (Min.min nr (20)) fun j => tr (j + ar))))
 fun j =>
 S.at' (S.grp (S.desV (Min.min nr (20)) fun j => tr (j + ar))) j)),
 PV.own (12) (1) (List.length x5)]),
 (9, true,
 Blk.cells
 [PV.bool
 (Prod.fst
 (S.addS
 (Prod.fst
 (S.mulI (S.sgB n1 (S.desV (Min.min np (20)) fun j => tp (j + ap)))
 (List.length (S.grp (S.desV (Min.min np (20)) fun j => tp (j + ap))))
 (fun j =>
 S.at' (S.grp (S.desV (Min.min np (20)) fun j => tp (j + ap))) j)
 (S.sgB n2 (S.desV (Min.min nq (20)) fun j => tq (j + aq)))
 (List.length (S.grp (S.desV (Min.min nq (20)) fun j => tq (j + aq))))
 fun j =>
 S.at' (S.grp (S.desV (Min.min nq (20)) fun j => tq (j + aq))) j))
 (List.length
 (Prod.snd
 (Prod.snd
 (S.mulI
 (S.sgB n1 (S.desV (Min.min np (20)) fun j => tp (j + ap)))
 (List.length
 (S.grp (S.desV (Min.min np (20)) fun j => tp (j + ap))))
 (fun j =>
 S.at'
 (S.grp (S.desV (Min.min np (20)) fun j => tp (j + ap))) j)
 (S.sgB n2 (S.desV (Min.min nq (20)) fun j => tq (j + aq)))
 (List.length
 (S.grp (S.desV (Min.min nq (20)) fun j => tq (j + aq))))
 fun j =>
 S.at' (S.grp (S.desV (Min.min nq (20)) fun j => tq (j + aq)))
 j))))
 (fun j =>
 S.at'
 (Prod.snd
 (Prod.snd
 (S.mulI
 (S.sgB n1 (S.desV (Min.min np (20)) fun j => tp (j + ap)))
 (List.length
 (S.grp (S.desV (Min.min np (20)) fun j => tp (j + ap))))
 (fun j =>
 S.at'
 (S.grp (S.desV (Min.min np (20)) fun j => tp (j + ap))) j)
 (S.sgB n2 (S.desV (Min.min nq (20)) fun j => tq (j + aq)))
 (List.length
 (S.grp (S.desV (Min.min nq (20)) fun j => tq (j + aq))))
 fun j =>
 S.at'
 (S.grp (S.desV (Min.min nq (20)) fun j => tq (j + aq))) j)))
 j)
 (Prod.fst
 (S.mulI (S.sgB n1 (S.desV (Min.min np (20)) fun j => tp (j + ap)))
 (List.length (S.grp (S.desV (Min.min np (20)) fun j => tp (j + ap))))
 (fun j =>
 S.at' (S.grp (S.desV (Min.min np (20)) fun j => tp (j + ap))) j)
 (S.sgB n3 (S.desV (Min.min nr (20)) fun j => tr (j + ar)))
 (List.length (S.grp (S.desV (Min.min nr (20)) fun j => tr (j + ar))))
 fun j =>
 S.at' (S.grp (S.desV (Min.min nr (20)) fun j => tr (j + ar))) j))
 (List.length
 (Prod.snd
 (Prod.snd
 (S.mulI
 (S.sgB n1 (S.desV (Min.min np (20)) fun j => tp (j + ap)))
 (List.length
 (S.grp (S.desV (Min.min np (20)) fun j => tp (j + ap))))
 (fun j =>
 S.at'
 (S.grp (S.desV (Min.min np (20)) fun j => tp (j + ap))) j)
 (S.sgB n3 (S.desV (Min.min nr (20)) fun j => tr (j + ar)))
 (List.length
 (S.grp (S.desV (Min.min nr (20)) fun j => tr (j + ar))))
 fun j =>
 S.at' (S.grp (S.desV (Min.min nr (20)) fun j => tr (j + ar)))
 j))))
 fun j =>
 S.at'
 (Prod.snd
 (Prod.snd
 (S.mulI
 (S.sgB n1 (S.desV (Min.min np (20)) fun j => tp (j + ap)))
 (List.length
 (S.grp (S.desV (Min.min np (20)) fun j => tp (j + ap))))
 (fun j =>
 S.at'
 (S.grp (S.desV (Min.min np (20)) fun j => tp (j + ap))) j)
 (S.sgB n3 (S.desV (Min.min nr (20)) fun j => tr (j + ar)))
 (List.length
 (S.grp (S.desV (Min.min nr (20)) fun j => tr (j + ar))))
 fun j =>
 S.at' (S.grp (S.desV (Min.min nr (20)) fun j => tr (j + ar)))
 j)))
 j)),
 PV.own (10) (1) (List.length x4)]),
 (7, true,
 Blk.cells
 [PV.bool
 (Prod.fst
 (S.mulI (S.sgB n1 (S.desV (Min.min np (20)) fun j => tp (j + ap)))
 (List.length (S.grp (S.desV (Min.min np (20)) fun j => tp (j + ap))))
 (fun j =>
 S.at' (S.grp (S.desV (Min.min np (20)) fun j => tp (j + ap))) j)
 (Prod.fst
 (S.addS (S.sgB n2 (S.desV (Min.min nq (20)) fun j => tq (j + aq)))
 (List.length (S.grp (S.desV (Min.min nq (20)) fun j => tq (j + aq))))
 (fun j =>
 S.at' (S.grp (S.desV (Min.min nq (20)) fun j => tq (j + aq))) j)
 (S.sgB n3 (S.desV (Min.min nr (20)) fun j => tr (j + ar)))
 (List.length (S.grp (S.desV (Min.min nr (20)) fun j => tr (j + ar))))
 fun j =>
 S.at' (S.grp (S.desV (Min.min nr (20)) fun j => tr (j + ar))) j))
 (List.length
 (Prod.snd
 (Prod.snd
 (S.addS
 (S.sgB n2 (S.desV (Min.min nq (20)) fun j => tq (j + aq)))
 (List.length
 (S.grp (S.desV (Min.min nq (20)) fun j => tq (j + aq))))
 (fun j =>
 S.at'
 (S.grp (S.desV (Min.min nq (20)) fun j => tq (j + aq))) j)
 (S.sgB n3 (S.desV (Min.min nr (20)) fun j => tr (j + ar)))
 (List.length
 (S.grp (S.desV (Min.min nr (20)) fun j => tr (j + ar))))
 fun j =>
 S.at' (S.grp (S.desV (Min.min nr (20)) fun j => tr (j + ar)))
 j))))
 fun j =>
 S.at'
 (Prod.snd
 (Prod.snd
 (S.addS
 (S.sgB n2 (S.desV (Min.min nq (20)) fun j => tq (j + aq)))
 (List.length
 (S.grp (S.desV (Min.min nq (20)) fun j => tq (j + aq))))
 (fun j =>
 S.at'
 (S.grp (S.desV (Min.min nq (20)) fun j => tq (j + aq))) j)
 (S.sgB n3 (S.desV (Min.min nr (20)) fun j => tr (j + ar)))
 (List.length
 (S.grp (S.desV (Min.min nr (20)) fun j => tr (j + ar))))
 fun j =>
 S.at' (S.grp (S.desV (Min.min nr (20)) fun j => tr (j + ar)))
 j)))
 j)),
 PV.own (8) (1) (List.length x3)]),
 (5, true,
 Blk.cells
 [PV.bool
 (Prod.fst
 (S.mulI (S.sgB n2 (S.desV (Min.min nq (20)) fun j => tq (j + aq)))
 (List.length (S.grp (S.desV (Min.min nq (20)) fun j => tq (j + aq))))
 (fun j =>
 S.at' (S.grp (S.desV (Min.min nq (20)) fun j => tq (j + aq))) j)
 (S.sgB n1 (S.desV (Min.min np (20)) fun j => tp (j + ap)))
 (List.length (S.grp (S.desV (Min.min np (20)) fun j => tp (j + ap))))
 fun j =>
 S.at' (S.grp (S.desV (Min.min np (20)) fun j => tp (j + ap))) j)),
 PV.own (6) (1) (List.length x2)]),
 (3, true,
 Blk.cells
 [PV.bool
 (Prod.fst
 (S.mulI (S.sgB n1 (S.desV (Min.min np (20)) fun j => tp (j + ap)))
 (List.length (S.grp (S.desV (Min.min np (20)) fun j => tp (j + ap))))
 (fun j =>
 S.at' (S.grp (S.desV (Min.min np (20)) fun j => tp (j + ap))) j)
 (S.sgB n2 (S.desV (Min.min nq (20)) fun j => tq (j + aq)))
 (List.length (S.grp (S.desV (Min.min nq (20)) fun j => tq (j + aq))))
 fun j =>
 S.at' (S.grp (S.desV (Min.min nq (20)) fun j => tq (j + aq))) j)),
 PV.own (4) (1) (List.length x1)]),
 (4, true,
 Blk.cols (List.length x1) [Col.int IntKind.i64 fun j => S.at' x1 j]),
 (6, true,
 Blk.cols (List.length x2) [Col.int IntKind.i64 fun j => S.at' x2 j]),
 (8, true,
 Blk.cols (List.length x3) [Col.int IntKind.i64 fun j => S.at' x3 j]),
 (10, true,
 Blk.cols (List.length x4) [Col.int IntKind.i64 fun j => S.at' x4 j]),
 (12, true,
 Blk.cols (List.length x5) [Col.int IntKind.i64 fun j => S.at' x5 j]),
 (14, true,
 Blk.cols (List.length x6) [Col.int IntKind.i64 fun j => S.at' x6 j])]]) (16))
 (False)))
 (False))
 (False))
 (test (decide
 ((0 + List.length x1 ≤ List.length x1 ∧ List.length x1 ≤ 1000000) ∧
 0 + List.length x2 ≤ List.length x2 ∧ List.length x2 ≤ 1000000))
 (test (S.samI
 (Prod.fst
 (S.mulI (S.sgB n1 (S.desV (Min.min np (20)) fun j => tp (j + ap)))
 (List.length (S.grp (S.desV (Min.min np (20)) fun j => tp (j + ap))))
 (fun j =>
 S.at' (S.grp (S.desV (Min.min np (20)) fun j => tp (j + ap))) j)
 (S.sgB n2 (S.desV (Min.min nq (20)) fun j => tq (j + aq)))
 (List.length (S.grp (S.desV (Min.min nq (20)) fun j => tq (j + aq)))) fun j =>
 S.at' (S.grp (S.desV (Min.min nq (20)) fun j => tq (j + aq))) j))
 (List.length x1) (fun j => S.at' x1 j)
 (Prod.fst
 (S.mulI (S.sgB n2 (S.desV (Min.min nq (20)) fun j => tq (j + aq)))
 (List.length (S.grp (S.desV (Min.min nq (20)) fun j => tq (j + aq))))
 (fun j =>
 S.at' (S.grp (S.desV (Min.min nq (20)) fun j => tq (j + aq))) j)
 (S.sgB n1 (S.desV (Min.min np (20)) fun j => tp (j + ap)))
 (List.length (S.grp (S.desV (Min.min np (20)) fun j => tp (j + ap)))) fun j =>
 S.at' (S.grp (S.desV (Min.min np (20)) fun j => tp (j + ap))) j))
 (List.length x2) fun j => S.at' x2 j)
 (test (decide
 ((0 + List.length x3 ≤ List.length x3 ∧ List.length x3 ≤ 1000000) ∧
 0 + List.length x4 ≤ List.length x4 ∧ List.length x4 ≤ 1000000))
 (test (S.samI
 (Prod.fst
 (S.mulI (S.sgB n1 (S.desV (Min.min np (20)) fun j => tp (j + ap)))
 (List.length (S.grp (S.desV (Min.min np (20)) fun j => tp (j + ap))))
 (fun j =>
 S.at' (S.grp (S.desV (Min.min np (20)) fun j => tp (j + ap))) j)
 (Prod.fst
 (S.addS (S.sgB n2 (S.desV (Min.min nq (20)) fun j => tq (j + aq)))
 (List.length (S.grp (S.desV (Min.min nq (20)) fun j => tq (j + aq))))
 (fun j =>
 S.at' (S.grp (S.desV (Min.min nq (20)) fun j => tq (j + aq))) j)
 (S.sgB n3 (S.desV (Min.min nr (20)) fun j => tr (j + ar)))
 (List.length (S.grp (S.desV (Min.min nr (20)) fun j => tr (j + ar))))
 fun j =>
 S.at' (S.grp (S.desV (Min.min nr (20)) fun j => tr (j + ar))) j))
 (List.length
 (Prod.snd
 (Prod.snd
 (S.addS (S.sgB n2 (S.desV (Min.min nq (20)) fun j => tq (j + aq)))
 (List.length (S.grp (S.desV (Min.min nq (20)) fun j => tq (j + aq))))
 (fun j =>
 S.at' (S.grp (S.desV (Min.min nq (20)) fun j => tq (j + aq))) j)
 (S.sgB n3 (S.desV (Min.min nr (20)) fun j => tr (j + ar)))
 (List.length (S.grp (S.desV (Min.min nr (20)) fun j => tr (j + ar))))
 fun j =>
 S.at' (S.grp (S.desV (Min.min nr (20)) fun j => tr (j + ar))) j))))
 fun j =>
 S.at'
 (Prod.snd
 (Prod.snd
 (S.addS (S.sgB n2 (S.desV (Min.min nq (20)) fun j => tq (j + aq)))
 (List.length (S.grp (S.desV (Min.min nq (20)) fun j => tq (j + aq))))
 (fun j =>
 S.at' (S.grp (S.desV (Min.min nq (20)) fun j => tq (j + aq))) j)
 (S.sgB n3 (S.desV (Min.min nr (20)) fun j => tr (j + ar)))
 (List.length (S.grp (S.desV (Min.min nr (20)) fun j => tr (j + ar))))
 fun j =>
 S.at' (S.grp (S.desV (Min.min nr (20)) fun j => tr (j + ar))) j)))
 j))
 (List.length x3) (fun j => S.at' x3 j)
 (Prod.fst
 (S.addS
 (Prod.fst
 (S.mulI (S.sgB n1 (S.desV (Min.min np (20)) fun j => tp (j + ap)))
 (List.length (S.grp (S.desV (Min.min np (20)) fun j => tp (j + ap))))
 (fun j =>
 S.at' (S.grp (S.desV (Min.min np (20)) fun j => tp (j + ap))) j)
 (S.sgB n2 (S.desV (Min.min nq (20)) fun j => tq (j + aq)))
 (List.length (S.grp (S.desV (Min.min nq (20)) fun j => tq (j + aq))))
 fun j =>
 S.at' (S.grp (S.desV (Min.min nq (20)) fun j => tq (j + aq))) j))
 (List.length
 (Prod.snd
 (Prod.snd
 (S.mulI (S.sgB n1 (S.desV (Min.min np (20)) fun j => tp (j + ap)))
 (List.length (S.grp (S.desV (Min.min np (20)) fun j => tp (j + ap))))
 (fun j =>
 S.at' (S.grp (S.desV (Min.min np (20)) fun j => tp (j + ap))) j)
 (S.sgB n2 (S.desV (Min.min nq (20)) fun j => tq (j + aq)))
 (List.length (S.grp (S.desV (Min.min nq (20)) fun j => tq (j + aq))))
 fun j =>
 S.at' (S.grp (S.desV (Min.min nq (20)) fun j => tq (j + aq))) j))))
 (fun j =>
 S.at'
 (Prod.snd
 (Prod.snd
 (S.mulI (S.sgB n1 (S.desV (Min.min np (20)) fun j => tp (j + ap)))
 (List.length (S.grp (S.desV (Min.min np (20)) fun j => tp (j + ap))))
 (fun j =>
 S.at' (S.grp (S.desV (Min.min np (20)) fun j => tp (j + ap))) j)
 (S.sgB n2 (S.desV (Min.min nq (20)) fun j => tq (j + aq)))
 (List.length (S.grp (S.desV (Min.min nq (20)) fun j => tq (j + aq))))
 fun j =>
 S.at' (S.grp (S.desV (Min.min nq (20)) fun j => tq (j + aq))) j)))
 j)
 (Prod.fst
 (S.mulI (S.sgB n1 (S.desV (Min.min np (20)) fun j => tp (j + ap)))
 (List.length (S.grp (S.desV (Min.min np (20)) fun j => tp (j + ap))))
 (fun j =>
 S.at' (S.grp (S.desV (Min.min np (20)) fun j => tp (j + ap))) j)
 (S.sgB n3 (S.desV (Min.min nr (20)) fun j => tr (j + ar)))
 (List.length (S.grp (S.desV (Min.min nr (20)) fun j => tr (j + ar))))
 fun j =>
 S.at' (S.grp (S.desV (Min.min nr (20)) fun j => tr (j + ar))) j))
 (List.length
 (Prod.snd
 (Prod.snd
 (S.mulI (S.sgB n1 (S.desV (Min.min np (20)) fun j => tp (j + ap)))
 (List.length (S.grp (S.desV (Min.min np (20)) fun j => tp (j + ap))))
 (fun j =>
 S.at' (S.grp (S.desV (Min.min np (20)) fun j => tp (j + ap))) j)
 (S.sgB n3 (S.desV (Min.min nr (20)) fun j => tr (j + ar)))
 (List.length (S.grp (S.desV (Min.min nr (20)) fun j => tr (j + ar))))
 fun j =>
 S.at' (S.grp (S.desV (Min.min nr (20)) fun j => tr (j + ar))) j))))
 fun j =>
 S.at'
 (Prod.snd
 (Prod.snd
 (S.mulI (S.sgB n1 (S.desV (Min.min np (20)) fun j => tp (j + ap)))
 (List.length (S.grp (S.desV (Min.min np (20)) fun j => tp (j + ap))))
 (fun j =>
 S.at' (S.grp (S.desV (Min.min np (20)) fun j => tp (j + ap))) j)
 (S.sgB n3 (S.desV (Min.min nr (20)) fun j => tr (j + ar)))
 (List.length (S.grp (S.desV (Min.min nr (20)) fun j => tr (j + ar))))
 fun j =>
 S.at' (S.grp (S.desV (Min.min nr (20)) fun j => tr (j + ar))) j)))
 j))
 (List.length x4) fun j => S.at' x4 j)
 (test (decide
 ((0 + List.length x5 ≤ List.length x5 ∧ List.length x5 ≤ 1000000) ∧
 0 + List.length x6 ≤ List.length x6 ∧ List.length x6 ≤ 1000000))
 (test (S.samI
 (Prod.fst
 (S.mulI
 (Prod.fst
 (S.mulI (S.sgB n1 (S.desV (Min.min np (20)) fun j => tp (j + ap)))
 (List.length (S.grp (S.desV (Min.min np (20)) fun j => tp (j + ap))))
 (fun j =>
 S.at' (S.grp (S.desV (Min.min np (20)) fun j => tp (j + ap))) j)
 (S.sgB n2 (S.desV (Min.min nq (20)) fun j => tq (j + aq)))
 (List.length (S.grp (S.desV (Min.min nq (20)) fun j => tq (j + aq))))
 fun j =>
 S.at' (S.grp (S.desV (Min.min nq (20)) fun j => tq (j + aq))) j))
 (List.length
 (Prod.snd
 (Prod.snd
 (S.mulI (S.sgB n1 (S.desV (Min.min np (20)) fun j => tp (j + ap)))
 (List.length (S.grp (S.desV (Min.min np (20)) fun j => tp (j + ap))))
 (fun j =>
 S.at' (S.grp (S.desV (Min.min np (20)) fun j => tp (j + ap))) j)
 (S.sgB n2 (S.desV (Min.min nq (20)) fun j => tq (j + aq)))
 (List.length (S.grp (S.desV (Min.min nq (20)) fun j => tq (j + aq))))
 fun j =>
 S.at' (S.grp (S.desV (Min.min nq (20)) fun j => tq (j + aq))) j))))
 (fun j =>
 S.at'
 (Prod.snd
 (Prod.snd
 (S.mulI (S.sgB n1 (S.desV (Min.min np (20)) fun j => tp (j + ap)))
 (List.length (S.grp (S.desV (Min.min np (20)) fun j => tp (j + ap))))
 (fun j =>
 S.at' (S.grp (S.desV (Min.min np (20)) fun j => tp (j + ap))) j)
 (S.sgB n2 (S.desV (Min.min nq (20)) fun j => tq (j + aq)))
 (List.length (S.grp (S.desV (Min.min nq (20)) fun j => tq (j + aq))))
 fun j =>
 S.at' (S.grp (S.desV (Min.min nq (20)) fun j => tq (j + aq))) j)))
 j)
 (S.sgB n3 (S.desV (Min.min nr (20)) fun j => tr (j + ar)))
 (List.length (S.grp (S.desV (Min.min nr (20)) fun j => tr (j + ar)))) fun j =>
 S.at' (S.grp (S.desV (Min.min nr (20)) fun j => tr (j + ar))) j))
 (List.length x5) (fun j => S.at' x5 j)
 (Prod.fst
 (S.mulI (S.sgB n1 (S.desV (Min.min np (20)) fun j => tp (j + ap)))
 (List.length (S.grp (S.desV (Min.min np (20)) fun j => tp (j + ap))))
 (fun j =>
 S.at' (S.grp (S.desV (Min.min np (20)) fun j => tp (j + ap))) j)
 (Prod.fst
 (S.mulI (S.sgB n2 (S.desV (Min.min nq (20)) fun j => tq (j + aq)))
 (List.length (S.grp (S.desV (Min.min nq (20)) fun j => tq (j + aq))))
 (fun j =>
 S.at' (S.grp (S.desV (Min.min nq (20)) fun j => tq (j + aq))) j)
 (S.sgB n3 (S.desV (Min.min nr (20)) fun j => tr (j + ar)))
 (List.length (S.grp (S.desV (Min.min nr (20)) fun j => tr (j + ar))))
 fun j =>
 S.at' (S.grp (S.desV (Min.min nr (20)) fun j => tr (j + ar))) j))
 (List.length
 (Prod.snd
 (Prod.snd
 (S.mulI (S.sgB n2 (S.desV (Min.min nq (20)) fun j => tq (j + aq)))
 (List.length (S.grp (S.desV (Min.min nq (20)) fun j => tq (j + aq))))
 (fun j =>
 S.at' (S.grp (S.desV (Min.min nq (20)) fun j => tq (j + aq))) j)
 (S.sgB n3 (S.desV (Min.min nr (20)) fun j => tr (j + ar)))
 (List.length (S.grp (S.desV (Min.min nr (20)) fun j => tr (j + ar))))
 fun j =>
 S.at' (S.grp (S.desV (Min.min nr (20)) fun j => tr (j + ar))) j))))
 fun j =>
 S.at'
 (Prod.snd
 (Prod.snd
 (S.mulI (S.sgB n2 (S.desV (Min.min nq (20)) fun j => tq (j + aq)))
 (List.length (S.grp (S.desV (Min.min nq (20)) fun j => tq (j + aq))))
 (fun j =>
 S.at' (S.grp (S.desV (Min.min nq (20)) fun j => tq (j + aq))) j)
 (S.sgB n3 (S.desV (Min.min nr (20)) fun j => tr (j + ar)))
 (List.length (S.grp (S.desV (Min.min nr (20)) fun j => tr (j + ar))))
 fun j =>
 S.at' (S.grp (S.desV (Min.min nr (20)) fun j => tr (j + ar))) j)))
 j))
 (List.length x6) fun j => S.at' x6 j)
 (Kret (PV.tf true) ([[(2, false, Blk.cols mr [Col.int IntKind.u32 tr]),
 (1, false, Blk.cols mq [Col.int IntKind.u32 tq]),
 (0, false, Blk.cols mp [Col.int IntKind.u32 tp])]]) (19))
 (Kret (PV.tf false) ([[(2, false, Blk.cols mr [Col.int IntKind.u32 tr]),
 (1, false, Blk.cols mq [Col.int IntKind.u32 tq]),
 (0, false, Blk.cols mp [Col.int IntKind.u32 tp])]]) (19)))
 (False))
 (Kret (PV.tf false) ([[(2, false, Blk.cols mr [Col.int IntKind.u32 tr]),
 (1, false, Blk.cols mq [Col.int IntKind.u32 tq]),
 (0, false, Blk.cols mp [Col.int IntKind.u32 tp])]]) (18)))
 (False))
 (Kret (PV.tf false) ([[(2, false, Blk.cols mr [Col.int IntKind.u32 tr]),
 (1, false, Blk.cols mq [Col.int IntKind.u32 tq]),
 (0, false, Blk.cols mp [Col.int IntKind.u32 tp])]]) (17)))
 (False))
theorem t7_0 (test : Bool → Prop → Prop → Prop) (Kst : KS) (Kret : KR) (n1 : Bool) (ap np mp : Nat) (tp : Nat → Int) (n2 : Bool) (aq nq mq : Nat) (tq : Nat → Int) (n3 : Bool) (ar nr mr : Nat) (tr : Nat → Int) (x0 : Int) (x1 x2 x3 x4 x5 x6 x7 : List Int) : run test Tryd.env true (xR test) true 400 ⟨7, hd Tryd.f7 0, zipT [20, 22, 26, 28, 30, 34, 162, 163, 164] [PV.ptr (PA.mk (3) (0) (0) (0)),
 PV.ptr (PA.mk (5) (0) (0) (0)),
 PV.ptr (PA.mk (7) (0) (0) (0)),
 PV.ptr (PA.mk (9) (0) (0) (0)),
 PV.ptr (PA.mk (11) (0) (0) (0)),
 PV.ptr (PA.mk (13) (0) (0) (0)),
 PV.own (15) (1) (List.length x7), PV.int IntKind.i64 (8 : Int),
 PV.int IntKind.i64 x0], [[(3, (true, Blk.cells
 [PV.bool
 (Prod.fst
 (S.mulI (S.sgB n1 (S.desV (Min.min np (20)) fun j => tp (j + ap)))
 (List.length (S.grp (S.desV (Min.min np (20)) fun j => tp (j + ap))))
 (fun j =>
 S.at' (S.grp (S.desV (Min.min np (20)) fun j => tp (j + ap))) j)
 (S.sgB n2 (S.desV (Min.min nq (20)) fun j => tq (j + aq)))
 (List.length (S.grp (S.desV (Min.min nq (20)) fun j => tq (j + aq))))
 fun j =>
 S.at' (S.grp (S.desV (Min.min nq (20)) fun j => tq (j + aq))) j)),
 PV.own (4) (1) (List.length x1)])), (4, (true, Blk.cols (List.length x1) [Col.int IntKind.i64 fun j => S.at' x1 j])), (5, (true, Blk.cells
 [PV.bool
 (Prod.fst
 (S.mulI (S.sgB n2 (S.desV (Min.min nq (20)) fun j => tq (j + aq)))
 (List.length (S.grp (S.desV (Min.min nq (20)) fun j => tq (j + aq))))
 (fun j =>
 S.at' (S.grp (S.desV (Min.min nq (20)) fun j => tq (j + aq))) j)
 (S.sgB n1 (S.desV (Min.min np (20)) fun j => tp (j + ap)))
 (List.length (S.grp (S.desV (Min.min np (20)) fun j => tp (j + ap))))
 fun j =>
 S.at' (S.grp (S.desV (Min.min np (20)) fun j => tp (j + ap))) j)),
 PV.own (6) (1) (List.length x2)])), (6, (true, Blk.cols (List.length x2) [Col.int IntKind.i64 fun j => S.at' x2 j])), (7, (true, Blk.cells
 [PV.bool
 (Prod.fst
 (S.mulI (S.sgB n1 (S.desV (Min.min np (20)) fun j => tp (j + ap)))
 (List.length (S.grp (S.desV (Min.min np (20)) fun j => tp (j + ap))))
 (fun j =>
 S.at' (S.grp (S.desV (Min.min np (20)) fun j => tp (j + ap))) j)
 (Prod.fst
 (S.addS (S.sgB n2 (S.desV (Min.min nq (20)) fun j => tq (j + aq)))
 (List.length (S.grp (S.desV (Min.min nq (20)) fun j => tq (j + aq))))
 (fun j =>
 S.at' (S.grp (S.desV (Min.min nq (20)) fun j => tq (j + aq))) j)
 (S.sgB n3 (S.desV (Min.min nr (20)) fun j => tr (j + ar)))
 (List.length (S.grp (S.desV (Min.min nr (20)) fun j => tr (j + ar))))
 fun j =>
 S.at' (S.grp (S.desV (Min.min nr (20)) fun j => tr (j + ar))) j))
 (List.length
 (Prod.snd
 (Prod.snd
 (S.addS (S.sgB n2 (S.desV (Min.min nq (20)) fun j => tq (j + aq)))
 (List.length (S.grp (S.desV (Min.min nq (20)) fun j => tq (j + aq))))
 (fun j =>
 S.at' (S.grp (S.desV (Min.min nq (20)) fun j => tq (j + aq))) j)
 (S.sgB n3 (S.desV (Min.min nr (20)) fun j => tr (j + ar)))
 (List.length (S.grp (S.desV (Min.min nr (20)) fun j => tr (j + ar))))
 fun j =>
 S.at' (S.grp (S.desV (Min.min nr (20)) fun j => tr (j + ar))) j))))
 fun j =>
 S.at'
 (Prod.snd
 (Prod.snd
 (S.addS (S.sgB n2 (S.desV (Min.min nq (20)) fun j => tq (j + aq)))
 (List.length (S.grp (S.desV (Min.min nq (20)) fun j => tq (j + aq))))
 (fun j =>
 S.at' (S.grp (S.desV (Min.min nq (20)) fun j => tq (j + aq))) j)
 (S.sgB n3 (S.desV (Min.min nr (20)) fun j => tr (j + ar)))
 (List.length (S.grp (S.desV (Min.min nr (20)) fun j => tr (j + ar))))
 fun j =>
 S.at' (S.grp (S.desV (Min.min nr (20)) fun j => tr (j + ar))) j)))
 j)),
 PV.own (8) (1) (List.length x3)])), (8, (true, Blk.cols (List.length x3) [Col.int IntKind.i64 fun j => S.at' x3 j])), (9, (true, Blk.cells
 [PV.bool
 (Prod.fst
 (S.addS
 (Prod.fst
 (S.mulI (S.sgB n1 (S.desV (Min.min np (20)) fun j => tp (j + ap)))
 (List.length (S.grp (S.desV (Min.min np (20)) fun j => tp (j + ap))))
 (fun j =>
 S.at' (S.grp (S.desV (Min.min np (20)) fun j => tp (j + ap))) j)
 (S.sgB n2 (S.desV (Min.min nq (20)) fun j => tq (j + aq)))
 (List.length (S.grp (S.desV (Min.min nq (20)) fun j => tq (j + aq))))
 fun j =>
 S.at' (S.grp (S.desV (Min.min nq (20)) fun j => tq (j + aq))) j))
 (List.length
 (Prod.snd
 (Prod.snd
 (S.mulI (S.sgB n1 (S.desV (Min.min np (20)) fun j => tp (j + ap)))
 (List.length (S.grp (S.desV (Min.min np (20)) fun j => tp (j + ap))))
 (fun j =>
 S.at' (S.grp (S.desV (Min.min np (20)) fun j => tp (j + ap))) j)
 (S.sgB n2 (S.desV (Min.min nq (20)) fun j => tq (j + aq)))
 (List.length (S.grp (S.desV (Min.min nq (20)) fun j => tq (j + aq))))
 fun j =>
 S.at' (S.grp (S.desV (Min.min nq (20)) fun j => tq (j + aq))) j))))
 (fun j =>
 S.at'
 (Prod.snd
 (Prod.snd
 (S.mulI (S.sgB n1 (S.desV (Min.min np (20)) fun j => tp (j + ap)))
 (List.length (S.grp (S.desV (Min.min np (20)) fun j => tp (j + ap))))
 (fun j =>
 S.at' (S.grp (S.desV (Min.min np (20)) fun j => tp (j + ap))) j)
 (S.sgB n2 (S.desV (Min.min nq (20)) fun j => tq (j + aq)))
 (List.length (S.grp (S.desV (Min.min nq (20)) fun j => tq (j + aq))))
 fun j =>
 S.at' (S.grp (S.desV (Min.min nq (20)) fun j => tq (j + aq))) j)))
 j)
 (Prod.fst
 (S.mulI (S.sgB n1 (S.desV (Min.min np (20)) fun j => tp (j + ap)))
 (List.length (S.grp (S.desV (Min.min np (20)) fun j => tp (j + ap))))
 (fun j =>
 S.at' (S.grp (S.desV (Min.min np (20)) fun j => tp (j + ap))) j)
 (S.sgB n3 (S.desV (Min.min nr (20)) fun j => tr (j + ar)))
 (List.length (S.grp (S.desV (Min.min nr (20)) fun j => tr (j + ar))))
 fun j =>
 S.at' (S.grp (S.desV (Min.min nr (20)) fun j => tr (j + ar))) j))
 (List.length
 (Prod.snd
 (Prod.snd
 (S.mulI (S.sgB n1 (S.desV (Min.min np (20)) fun j => tp (j + ap)))
 (List.length (S.grp (S.desV (Min.min np (20)) fun j => tp (j + ap))))
 (fun j =>
 S.at' (S.grp (S.desV (Min.min np (20)) fun j => tp (j + ap))) j)
 (S.sgB n3 (S.desV (Min.min nr (20)) fun j => tr (j + ar)))
 (List.length (S.grp (S.desV (Min.min nr (20)) fun j => tr (j + ar))))
 fun j =>
 S.at' (S.grp (S.desV (Min.min nr (20)) fun j => tr (j + ar))) j))))
 fun j =>
 S.at'
 (Prod.snd
 (Prod.snd
 (S.mulI (S.sgB n1 (S.desV (Min.min np (20)) fun j => tp (j + ap)))
 (List.length (S.grp (S.desV (Min.min np (20)) fun j => tp (j + ap))))
 (fun j =>
 S.at' (S.grp (S.desV (Min.min np (20)) fun j => tp (j + ap))) j)
 (S.sgB n3 (S.desV (Min.min nr (20)) fun j => tr (j + ar)))
 (List.length (S.grp (S.desV (Min.min nr (20)) fun j => tr (j + ar))))
 fun j =>
 S.at' (S.grp (S.desV (Min.min nr (20)) fun j => tr (j + ar))) j)))
 j)),
 PV.own (10) (1) (List.length x4)])), (10, (true, Blk.cols (List.length x4) [Col.int IntKind.i64 fun j => S.at' x4 j])), (11, (true, Blk.cells
 [PV.bool
 (Prod.fst
 (S.mulI
 (Prod.fst
 (S.mulI (S.sgB n1 (S.desV (Min.min np (20)) fun j => tp (j + ap)))
 (List.length (S.grp (S.desV (Min.min np (20)) fun j => tp (j + ap))))
 (fun j =>
 S.at' (S.grp (S.desV (Min.min np (20)) fun j => tp (j + ap))) j)
 (S.sgB n2 (S.desV (Min.min nq (20)) fun j => tq (j + aq)))
 (List.length (S.grp (S.desV (Min.min nq (20)) fun j => tq (j + aq))))
 fun j =>
 S.at' (S.grp (S.desV (Min.min nq (20)) fun j => tq (j + aq))) j))
 (List.length
 (Prod.snd
 (Prod.snd
 (S.mulI (S.sgB n1 (S.desV (Min.min np (20)) fun j => tp (j + ap)))
 (List.length (S.grp (S.desV (Min.min np (20)) fun j => tp (j + ap))))
 (fun j =>
 S.at' (S.grp (S.desV (Min.min np (20)) fun j => tp (j + ap))) j)
 (S.sgB n2 (S.desV (Min.min nq (20)) fun j => tq (j + aq)))
 (List.length (S.grp (S.desV (Min.min nq (20)) fun j => tq (j + aq))))
 fun j =>
 S.at' (S.grp (S.desV (Min.min nq (20)) fun j => tq (j + aq))) j))))
 (fun j =>
 S.at'
 (Prod.snd
 (Prod.snd
 (S.mulI (S.sgB n1 (S.desV (Min.min np (20)) fun j => tp (j + ap)))
 (List.length (S.grp (S.desV (Min.min np (20)) fun j => tp (j + ap))))
 (fun j =>
 S.at' (S.grp (S.desV (Min.min np (20)) fun j => tp (j + ap))) j)
 (S.sgB n2 (S.desV (Min.min nq (20)) fun j => tq (j + aq)))
 (List.length (S.grp (S.desV (Min.min nq (20)) fun j => tq (j + aq))))
 fun j =>
 S.at' (S.grp (S.desV (Min.min nq (20)) fun j => tq (j + aq))) j)))
 j)
 (S.sgB n3 (S.desV (Min.min nr (20)) fun j => tr (j + ar)))
 (List.length (S.grp (S.desV (Min.min nr (20)) fun j => tr (j + ar))))
 fun j =>
 S.at' (S.grp (S.desV (Min.min nr (20)) fun j => tr (j + ar))) j)),
 PV.own (12) (1) (List.length x5)])), (12, (true, Blk.cols (List.length x5) [Col.int IntKind.i64 fun j => S.at' x5 j])), (13, (true, Blk.cells
 [PV.bool
 (Prod.fst
 (S.mulI (S.sgB n1 (S.desV (Min.min np (20)) fun j => tp (j + ap)))
 (List.length (S.grp (S.desV (Min.min np (20)) fun j => tp (j + ap))))
 (fun j =>
 S.at' (S.grp (S.desV (Min.min np (20)) fun j => tp (j + ap))) j)
 (Prod.fst
 (S.mulI (S.sgB n2 (S.desV (Min.min nq (20)) fun j => tq (j + aq)))
 (List.length (S.grp (S.desV (Min.min nq (20)) fun j => tq (j + aq))))
 (fun j =>
 S.at' (S.grp (S.desV (Min.min nq (20)) fun j => tq (j + aq))) j)
 (S.sgB n3 (S.desV (Min.min nr (20)) fun j => tr (j + ar)))
 (List.length (S.grp (S.desV (Min.min nr (20)) fun j => tr (j + ar))))
 fun j =>
 S.at' (S.grp (S.desV (Min.min nr (20)) fun j => tr (j + ar))) j))
 (List.length
 (Prod.snd
 (Prod.snd
 (S.mulI (S.sgB n2 (S.desV (Min.min nq (20)) fun j => tq (j + aq)))
 (List.length (S.grp (S.desV (Min.min nq (20)) fun j => tq (j + aq))))
 (fun j =>
 S.at' (S.grp (S.desV (Min.min nq (20)) fun j => tq (j + aq))) j)
 (S.sgB n3 (S.desV (Min.min nr (20)) fun j => tr (j + ar)))
 (List.length (S.grp (S.desV (Min.min nr (20)) fun j => tr (j + ar))))
 fun j =>
 S.at' (S.grp (S.desV (Min.min nr (20)) fun j => tr (j + ar))) j))))
 fun j =>
 S.at'
 (Prod.snd
 (Prod.snd
 (S.mulI (S.sgB n2 (S.desV (Min.min nq (20)) fun j => tq (j + aq)))
 (List.length (S.grp (S.desV (Min.min nq (20)) fun j => tq (j + aq))))
 (fun j =>
 S.at' (S.grp (S.desV (Min.min nq (20)) fun j => tq (j + aq))) j)
 (S.sgB n3 (S.desV (Min.min nr (20)) fun j => tr (j + ar)))
 (List.length (S.grp (S.desV (Min.min nr (20)) fun j => tr (j + ar))))
 fun j =>
 S.at' (S.grp (S.desV (Min.min nr (20)) fun j => tr (j + ar))) j)))
 j)),
 PV.own (14) (1) (List.length x6)])), (14, (true, Blk.cols (List.length x6) [Col.int IntKind.i64 fun j => S.at' x6 j])), (15, (true, Blk.cols (List.length x7) [Col.int IntKind.i64 fun j => S.at' x7 j]))], [(0, (false, .cols mp [.int .u32 tp])), (1, (false, .cols mq [.int .u32 tq])), (2, (false, .cols mr [.int .u32 tr]))]], 16⟩ (proj 3 [20, 22, 26, 28, 30, 34, 162, 163, 164] Kst Kret) =
  T7_0 test Kst Kret n1 ap np mp tp n2 aq nq mq tq n3 ar nr mr tr x0 x1 x2 x3 x4 x5 x6 x7 := by kernel_rfl
attribute [local irreducible] Int.subNatNat in
theorem be7 (n1 : Bool) (ap np mp : Nat) (tp : Nat → Int) (n2 : Bool) (aq nq mq : Nat) (tq : Nat → Int) (n3 : Bool) (ar nr mr : Nat) (tr : Nat → Int) (Kst : KS) (Kret : KR) (x : St7 ⊕ Rt7) (hS : HS 3 400 ((I7 n1 ap np mp tp n2 aq nq mq tq n3 ar nr mr tr)) Kst x) (hR : HR 3 400 ((V7 n1 ap np mp tp n2 aq nq mq tq n3 ar nr mr tr)) (fun r => [newL (3 + 1) ((N7 n1 ap np mp tp n2 aq nq mq tq n3 ar nr mr tr) r) ++ [(0, (false, .cols mp [.int .u32 tp])), (1, (false, .cols mq [.int .u32 tq])), (2, (false, .cols mr [.int .u32 tr]))]]) Kret x) (h : (bif (decide (ap + np ≤ mp ∧ S.u32B (fun j => tp (j + ap)) np = true))
 then (bif (decide (aq + nq ≤ mq ∧ S.u32B (fun j => tq (j + aq)) nq = true))
 then (bif (decide (ar + nr ≤ mr ∧ S.u32B (fun j => tr (j + ar)) nr = true))
 then (bif (decide
 ((0 + List.length (S.grp (S.desV (Min.min np (20)) fun j => tp (j + ap))) ≤
 List.length (S.grp (S.desV (Min.min np (20)) fun j => tp (j + ap))) ∧
 List.length (S.grp (S.desV (Min.min np (20)) fun j => tp (j + ap))) ≤
 1000000) ∧
 0 + List.length (S.grp (S.desV (Min.min nq (20)) fun j => tq (j + aq))) ≤
 List.length (S.grp (S.desV (Min.min nq (20)) fun j => tq (j + aq))) ∧
 List.length (S.grp (S.desV (Min.min nq (20)) fun j => tq (j + aq))) ≤ 1000000))
 then (bif (decide
 ((0 + List.length (S.grp (S.desV (Min.min nq (20)) fun j => tq (j + aq))) ≤
 List.length (S.grp (S.desV (Min.min nq (20)) fun j => tq (j + aq))) ∧
 List.length (S.grp (S.desV (Min.min nq (20)) fun j => tq (j + aq))) ≤
 1000000) ∧
 0 + List.length (S.grp (S.desV (Min.min np (20)) fun j => tp (j + ap))) ≤
 List.length (S.grp (S.desV (Min.min np (20)) fun j => tp (j + ap))) ∧
 List.length (S.grp (S.desV (Min.min np (20)) fun j => tp (j + ap))) ≤ 1000000))
 then (bif (decide
 ((0 + List.length (S.grp (S.desV (Min.min nq (20)) fun j => tq (j + aq))) ≤
 List.length (S.grp (S.desV (Min.min nq (20)) fun j => tq (j + aq))) ∧
 List.length (S.grp (S.desV (Min.min nq (20)) fun j => tq (j + aq))) ≤
 1000000) ∧
 0 + List.length (S.grp (S.desV (Min.min nr (20)) fun j => tr (j + ar))) ≤
 List.length (S.grp (S.desV (Min.min nr (20)) fun j => tr (j + ar))) ∧
 List.length (S.grp (S.desV (Min.min nr (20)) fun j => tr (j + ar))) ≤ 1000000))
 then (bif (decide
 ((0 +
 List.length
 (Prod.snd
 (Prod.snd
 (S.addS (S.sgB n1 (S.desV (Min.min np (20)) fun j => tp (j + ap)))
 (List.length (S.grp (S.desV (Min.min np (20)) fun j => tp (j + ap))))
 (fun j =>
 S.at' (S.grp (S.desV (Min.min np (20)) fun j => tp (j + ap))) j)
 (S.sgB n2 (S.desV (Min.min nq (20)) fun j => tq (j + aq)))
 (List.length (S.grp (S.desV (Min.min nq (20)) fun j => tq (j + aq))))
 fun j =>
 S.at' (S.grp (S.desV (Min.min nq (20)) fun j => tq (j + aq))) j))) ≤
 List.length
 (Prod.snd
 (Prod.snd
 (S.addS (S.sgB n1 (S.desV (Min.min np (20)) fun j => tp (j + ap)))
 (List.length (S.grp (S.desV (Min.min np (20)) fun j => tp (j + ap))))
 (fun j =>
 S.at' (S.grp (S.desV (Min.min np (20)) fun j => tp (j + ap))) j)
 (S.sgB n2 (S.desV (Min.min nq (20)) fun j => tq (j + aq)))
 (List.length (S.grp (S.desV (Min.min nq (20)) fun j => tq (j + aq))))
 fun j =>
 S.at' (S.grp (S.desV (Min.min nq (20)) fun j => tq (j + aq))) j))) ∧
 List.length
 (Prod.snd
 (Prod.snd
 (S.addS (S.sgB n1 (S.desV (Min.min np (20)) fun j => tp (j + ap)))
 (List.length (S.grp (S.desV (Min.min np (20)) fun j => tp (j + ap))))
 (fun j =>
 S.at' (S.grp (S.desV (Min.min np (20)) fun j => tp (j + ap))) j)
 (S.sgB n2 (S.desV (Min.min nq (20)) fun j => tq (j + aq)))
 (List.length (S.grp (S.desV (Min.min nq (20)) fun j => tq (j + aq))))
 fun j =>
 S.at' (S.grp (S.desV (Min.min nq (20)) fun j => tq (j + aq))) j))) ≤
 1000000) ∧
 0 + List.length (S.grp (S.desV (Min.min nr (20)) fun j => tr (j + ar))) ≤
 List.length (S.grp (S.desV (Min.min nr (20)) fun j => tr (j + ar))) ∧
 List.length (S.grp (S.desV (Min.min nr (20)) fun j => tr (j + ar))) ≤ 1000000))
 then (bif (decide
 ((0 + List.length (S.grp (S.desV (Min.min np (20)) fun j => tp (j + ap))) ≤
 List.length (S.grp (S.desV (Min.min np (20)) fun j => tp (j + ap))) ∧
 List.length (S.grp (S.desV (Min.min np (20)) fun j => tp (j + ap))) ≤
 1000000) ∧
 0 +
 List.length
 (Prod.snd
 (Prod.snd
 (S.addS (S.sgB n2 (S.desV (Min.min nq (20)) fun j => tq (j + aq)))
 (List.length (S.grp (S.desV (Min.min nq (20)) fun j => tq (j + aq))))
 (fun j =>
 S.at' (S.grp (S.desV (Min.min nq (20)) fun j => tq (j + aq))) j)
 (S.sgB n3 (S.desV (Min.min nr (20)) fun j => tr (j + ar)))
 (List.length (S.grp (S.desV (Min.min nr (20)) fun j => tr (j + ar))))
 fun j =>
 S.at' (S.grp (S.desV (Min.min nr (20)) fun j => tr (j + ar))) j))) ≤
 List.length
 (Prod.snd
 (Prod.snd
 (S.addS (S.sgB n2 (S.desV (Min.min nq (20)) fun j => tq (j + aq)))
 (List.length (S.grp (S.desV (Min.min nq (20)) fun j => tq (j + aq))))
 (fun j =>
 S.at' (S.grp (S.desV (Min.min nq (20)) fun j => tq (j + aq))) j)
 (S.sgB n3 (S.desV (Min.min nr (20)) fun j => tr (j + ar)))
 (List.length (S.grp (S.desV (Min.min nr (20)) fun j => tr (j + ar))))
 fun j =>
 S.at' (S.grp (S.desV (Min.min nr (20)) fun j => tr (j + ar))) j))) ∧
 List.length
 (Prod.snd
 (Prod.snd
 (S.addS (S.sgB n2 (S.desV (Min.min nq (20)) fun j => tq (j + aq)))
 (List.length (S.grp (S.desV (Min.min nq (20)) fun j => tq (j + aq))))
 (fun j =>
 S.at' (S.grp (S.desV (Min.min nq (20)) fun j => tq (j + aq))) j)
 (S.sgB n3 (S.desV (Min.min nr (20)) fun j => tr (j + ar)))
 (List.length (S.grp (S.desV (Min.min nr (20)) fun j => tr (j + ar))))
 fun j =>
 S.at' (S.grp (S.desV (Min.min nr (20)) fun j => tr (j + ar))) j))) ≤
 1000000))
 then (bif (Prod.fst
 (Prod.snd
 (S.addS (S.sgB n1 (S.desV (Min.min np (20)) fun j => tp (j + ap)))
 (List.length (S.grp (S.desV (Min.min np (20)) fun j => tp (j + ap))))
 (fun j =>
 S.at' (S.grp (S.desV (Min.min np (20)) fun j => tp (j + ap))) j)
 (S.sgB n2 (S.desV (Min.min nq (20)) fun j => tq (j + aq)))
 (List.length (S.grp (S.desV (Min.min nq (20)) fun j => tq (j + aq))))
 fun j =>
 S.at' (S.grp (S.desV (Min.min nq (20)) fun j => tq (j + aq))) j)) !=
 (0 : Int))
 then (some (.inr (false)))
 else (bif (Prod.fst
 (Prod.snd
 (S.addS (S.sgB n2 (S.desV (Min.min nq (20)) fun j => tq (j + aq)))
 (List.length (S.grp (S.desV (Min.min nq (20)) fun j => tq (j + aq))))
 (fun j =>
 S.at' (S.grp (S.desV (Min.min nq (20)) fun j => tq (j + aq))) j)
 (S.sgB n1 (S.desV (Min.min np (20)) fun j => tp (j + ap)))
 (List.length (S.grp (S.desV (Min.min np (20)) fun j => tp (j + ap))))
 fun j =>
 S.at' (S.grp (S.desV (Min.min np (20)) fun j => tp (j + ap))) j)) !=
 (0 : Int))
 then (some (.inr (false)))
 else (bif (Prod.fst
 (Prod.snd
 (S.addS (S.sgB n2 (S.desV (Min.min nq (20)) fun j => tq (j + aq)))
 (List.length (S.grp (S.desV (Min.min nq (20)) fun j => tq (j + aq))))
 (fun j =>
 S.at' (S.grp (S.desV (Min.min nq (20)) fun j => tq (j + aq))) j)
 (S.sgB n3 (S.desV (Min.min nr (20)) fun j => tr (j + ar)))
 (List.length (S.grp (S.desV (Min.min nr (20)) fun j => tr (j + ar))))
 fun j =>
 S.at' (S.grp (S.desV (Min.min nr (20)) fun j => tr (j + ar))) j)) !=
 (0 : Int))
 then (some (.inr (false)))
 else (bif (Prod.fst
 (Prod.snd
 (S.addS
 (Prod.fst
 (S.addS (S.sgB n1 (S.desV (Min.min np (20)) fun j => tp (j + ap)))
 (List.length (S.grp (S.desV (Min.min np (20)) fun j => tp (j + ap))))
 (fun j =>
 S.at' (S.grp (S.desV (Min.min np (20)) fun j => tp (j + ap))) j)
 (S.sgB n2 (S.desV (Min.min nq (20)) fun j => tq (j + aq)))
 (List.length (S.grp (S.desV (Min.min nq (20)) fun j => tq (j + aq))))
 fun j =>
 S.at' (S.grp (S.desV (Min.min nq (20)) fun j => tq (j + aq))) j))
 (List.length
 (Prod.snd
 (Prod.snd
 (S.addS (S.sgB n1 (S.desV (Min.min np (20)) fun j => tp (j + ap)))
 (List.length (S.grp (S.desV (Min.min np (20)) fun j => tp (j + ap))))
 (fun j =>
 S.at' (S.grp (S.desV (Min.min np (20)) fun j => tp (j + ap))) j)
 (S.sgB n2 (S.desV (Min.min nq (20)) fun j => tq (j + aq)))
 (List.length (S.grp (S.desV (Min.min nq (20)) fun j => tq (j + aq))))
 fun j =>
 S.at' (S.grp (S.desV (Min.min nq (20)) fun j => tq (j + aq))) j))))
 (fun j =>
 S.at'
 (Prod.snd
 (Prod.snd
 (S.addS (S.sgB n1 (S.desV (Min.min np (20)) fun j => tp (j + ap)))
 (List.length (S.grp (S.desV (Min.min np (20)) fun j => tp (j + ap))))
 (fun j =>
 S.at' (S.grp (S.desV (Min.min np (20)) fun j => tp (j + ap))) j)
 (S.sgB n2 (S.desV (Min.min nq (20)) fun j => tq (j + aq)))
 (List.length (S.grp (S.desV (Min.min nq (20)) fun j => tq (j + aq))))
 fun j =>
 S.at' (S.grp (S.desV (Min.min nq (20)) fun j => tq (j + aq))) j)))
 j)
 (S.sgB n3 (S.desV (Min.min nr (20)) fun j => tr (j + ar)))
 (List.length (S.grp (S.desV (Min.min nr (20)) fun j => tr (j + ar))))
 fun j =>
 S.at' (S.grp (S.desV (Min.min nr (20)) fun j => tr (j + ar))) j)) !=
 (0 : Int))
 then (some (.inr (false)))
 else (bif (Prod.fst
 (Prod.snd
 (S.addS (S.sgB n1 (S.desV (Min.min np (20)) fun j => tp (j + ap)))
 (List.length (S.grp (S.desV (Min.min np (20)) fun j => tp (j + ap))))
 (fun j =>
 S.at' (S.grp (S.desV (Min.min np (20)) fun j => tp (j + ap))) j)
 (Prod.fst
 (S.addS (S.sgB n2 (S.desV (Min.min nq (20)) fun j => tq (j + aq)))
 (List.length (S.grp (S.desV (Min.min nq (20)) fun j => tq (j + aq))))
 (fun j =>
 S.at' (S.grp (S.desV (Min.min nq (20)) fun j => tq (j + aq))) j)
 (S.sgB n3 (S.desV (Min.min nr (20)) fun j => tr (j + ar)))
 (List.length (S.grp (S.desV (Min.min nr (20)) fun j => tr (j + ar))))
 fun j =>
 S.at' (S.grp (S.desV (Min.min nr (20)) fun j => tr (j + ar))) j))
 (List.length
 (Prod.snd
 (Prod.snd
 (S.addS (S.sgB n2 (S.desV (Min.min nq (20)) fun j => tq (j + aq)))
 (List.length (S.grp (S.desV (Min.min nq (20)) fun j => tq (j + aq))))
 (fun j =>
 S.at' (S.grp (S.desV (Min.min nq (20)) fun j => tq (j + aq))) j)
 (S.sgB n3 (S.desV (Min.min nr (20)) fun j => tr (j + ar)))
 (List.length (S.grp (S.desV (Min.min nr (20)) fun j => tr (j + ar))))
 fun j =>
 S.at' (S.grp (S.desV (Min.min nr (20)) fun j => tr (j + ar))) j))))
 fun j =>
 S.at'
 (Prod.snd
 (Prod.snd
 (S.addS (S.sgB n2 (S.desV (Min.min nq (20)) fun j => tq (j + aq)))
 (List.length (S.grp (S.desV (Min.min nq (20)) fun j => tq (j + aq))))
 (fun j =>
 S.at' (S.grp (S.desV (Min.min nq (20)) fun j => tq (j + aq))) j)
 (S.sgB n3 (S.desV (Min.min nr (20)) fun j => tr (j + ar)))
 (List.length (S.grp (S.desV (Min.min nr (20)) fun j => tr (j + ar))))
 fun j =>
 S.at' (S.grp (S.desV (Min.min nr (20)) fun j => tr (j + ar))) j)))
 j)) !=
 (0 : Int))
 then (some (.inr (false)))
 else (bif (decide
 ((0 +
 List.length
 (Prod.snd
 (Prod.snd
 (S.addS (S.sgB n1 (S.desV (Min.min np (20)) fun j => tp (j + ap)))
 (List.length (S.grp (S.desV (Min.min np (20)) fun j => tp (j + ap))))
 (fun j =>
 S.at' (S.grp (S.desV (Min.min np (20)) fun j => tp (j + ap))) j)
 (S.sgB n2 (S.desV (Min.min nq (20)) fun j => tq (j + aq)))
 (List.length (S.grp (S.desV (Min.min nq (20)) fun j => tq (j + aq))))
 fun j =>
 S.at' (S.grp (S.desV (Min.min nq (20)) fun j => tq (j + aq))) j))) ≤
 List.length
 (Prod.snd
 (Prod.snd
 (S.addS (S.sgB n1 (S.desV (Min.min np (20)) fun j => tp (j + ap)))
 (List.length (S.grp (S.desV (Min.min np (20)) fun j => tp (j + ap))))
 (fun j =>
 S.at' (S.grp (S.desV (Min.min np (20)) fun j => tp (j + ap))) j)
 (S.sgB n2 (S.desV (Min.min nq (20)) fun j => tq (j + aq)))
 (List.length (S.grp (S.desV (Min.min nq (20)) fun j => tq (j + aq))))
 fun j =>
 S.at' (S.grp (S.desV (Min.min nq (20)) fun j => tq (j + aq))) j))) ∧
 List.length
 (Prod.snd
 (Prod.snd
 (S.addS (S.sgB n1 (S.desV (Min.min np (20)) fun j => tp (j + ap)))
 (List.length (S.grp (S.desV (Min.min np (20)) fun j => tp (j + ap))))
 (fun j =>
 S.at' (S.grp (S.desV (Min.min np (20)) fun j => tp (j + ap))) j)
 (S.sgB n2 (S.desV (Min.min nq (20)) fun j => tq (j + aq)))
 (List.length (S.grp (S.desV (Min.min nq (20)) fun j => tq (j + aq))))
 fun j =>
 S.at' (S.grp (S.desV (Min.min nq (20)) fun j => tq (j + aq))) j))) ≤
 1000000) ∧
 0 +
 List.length
 (Prod.snd
 (Prod.snd
 (S.addS (S.sgB n2 (S.desV (Min.min nq (20)) fun j => tq (j + aq)))
 (List.length (S.grp (S.desV (Min.min nq (20)) fun j => tq (j + aq))))
 (fun j =>
 S.at' (S.grp (S.desV (Min.min nq (20)) fun j => tq (j + aq))) j)
 (S.sgB n1 (S.desV (Min.min np (20)) fun j => tp (j + ap)))
 (List.length (S.grp (S.desV (Min.min np (20)) fun j => tp (j + ap))))
 fun j =>
 S.at' (S.grp (S.desV (Min.min np (20)) fun j => tp (j + ap))) j))) ≤
 List.length
 (Prod.snd
 (Prod.snd
 (S.addS (S.sgB n2 (S.desV (Min.min nq (20)) fun j => tq (j + aq)))
 (List.length (S.grp (S.desV (Min.min nq (20)) fun j => tq (j + aq))))
 (fun j =>
 S.at' (S.grp (S.desV (Min.min nq (20)) fun j => tq (j + aq))) j)
 (S.sgB n1 (S.desV (Min.min np (20)) fun j => tp (j + ap)))
 (List.length (S.grp (S.desV (Min.min np (20)) fun j => tp (j + ap))))
 fun j =>
 S.at' (S.grp (S.desV (Min.min np (20)) fun j => tp (j + ap))) j))) ∧
 List.length
 (Prod.snd
 (Prod.snd
 (S.addS (S.sgB n2 (S.desV (Min.min nq (20)) fun j => tq (j + aq)))
 (List.length (S.grp (S.desV (Min.min nq (20)) fun j => tq (j + aq))))
 (fun j =>
 S.at' (S.grp (S.desV (Min.min nq (20)) fun j => tq (j + aq))) j)
 (S.sgB n1 (S.desV (Min.min np (20)) fun j => tp (j + ap)))
 (List.length (S.grp (S.desV (Min.min np (20)) fun j => tp (j + ap))))
 fun j =>
 S.at' (S.grp (S.desV (Min.min np (20)) fun j => tp (j + ap))) j))) ≤
 1000000))
 then (bif (S.samI
 (Prod.fst
 (S.addS (S.sgB n1 (S.desV (Min.min np (20)) fun j => tp (j + ap)))
 (List.length (S.grp (S.desV (Min.min np (20)) fun j => tp (j + ap))))
 (fun j =>
 S.at' (S.grp (S.desV (Min.min np (20)) fun j => tp (j + ap))) j)
 (S.sgB n2 (S.desV (Min.min nq (20)) fun j => tq (j + aq)))
 (List.length (S.grp (S.desV (Min.min nq (20)) fun j => tq (j + aq)))) fun j =>
 S.at' (S.grp (S.desV (Min.min nq (20)) fun j => tq (j + aq))) j))
 (List.length
 (Prod.snd
 (Prod.snd
 (S.addS (S.sgB n1 (S.desV (Min.min np (20)) fun j => tp (j + ap)))
 (List.length (S.grp (S.desV (Min.min np (20)) fun j => tp (j + ap))))
 (fun j =>
 S.at' (S.grp (S.desV (Min.min np (20)) fun j => tp (j + ap))) j)
 (S.sgB n2 (S.desV (Min.min nq (20)) fun j => tq (j + aq)))
 (List.length (S.grp (S.desV (Min.min nq (20)) fun j => tq (j + aq))))
 fun j =>
 S.at' (S.grp (S.desV (Min.min nq (20)) fun j => tq (j + aq))) j))))
 (fun j =>
 S.at'
 (Prod.snd
 (Prod.snd
 (S.addS (S.sgB n1 (S.desV (Min.min np (20)) fun j => tp (j + ap)))
 (List.length (S.grp (S.desV (Min.min np (20)) fun j => tp (j + ap))))
 (fun j =>
 S.at' (S.grp (S.desV (Min.min np (20)) fun j => tp (j + ap))) j)
 (S.sgB n2 (S.desV (Min.min nq (20)) fun j => tq (j + aq)))
 (List.length (S.grp (S.desV (Min.min nq (20)) fun j => tq (j + aq))))
 fun j =>
 S.at' (S.grp (S.desV (Min.min nq (20)) fun j => tq (j + aq))) j)))
 j)
 (Prod.fst
 (S.addS (S.sgB n2 (S.desV (Min.min nq (20)) fun j => tq (j + aq)))
 (List.length (S.grp (S.desV (Min.min nq (20)) fun j => tq (j + aq))))
 (fun j =>
 S.at' (S.grp (S.desV (Min.min nq (20)) fun j => tq (j + aq))) j)
 (S.sgB n1 (S.desV (Min.min np (20)) fun j => tp (j + ap)))
 (List.length (S.grp (S.desV (Min.min np (20)) fun j => tp (j + ap)))) fun j =>
 S.at' (S.grp (S.desV (Min.min np (20)) fun j => tp (j + ap))) j))
 (List.length
 (Prod.snd
 (Prod.snd
 (S.addS (S.sgB n2 (S.desV (Min.min nq (20)) fun j => tq (j + aq)))
 (List.length (S.grp (S.desV (Min.min nq (20)) fun j => tq (j + aq))))
 (fun j =>
 S.at' (S.grp (S.desV (Min.min nq (20)) fun j => tq (j + aq))) j)
 (S.sgB n1 (S.desV (Min.min np (20)) fun j => tp (j + ap)))
 (List.length (S.grp (S.desV (Min.min np (20)) fun j => tp (j + ap))))
 fun j =>
 S.at' (S.grp (S.desV (Min.min np (20)) fun j => tp (j + ap))) j))))
 fun j =>
 S.at'
 (Prod.snd
 (Prod.snd
 (S.addS (S.sgB n2 (S.desV (Min.min nq (20)) fun j => tq (j + aq)))
 (List.length (S.grp (S.desV (Min.min nq (20)) fun j => tq (j + aq))))
 (fun j =>
 S.at' (S.grp (S.desV (Min.min nq (20)) fun j => tq (j + aq))) j)
 (S.sgB n1 (S.desV (Min.min np (20)) fun j => tp (j + ap)))
 (List.length (S.grp (S.desV (Min.min np (20)) fun j => tp (j + ap))))
 fun j =>
 S.at' (S.grp (S.desV (Min.min np (20)) fun j => tp (j + ap))) j)))
 j)
 then (bif (decide
 ((0 +
 List.length
 (Prod.snd
 (Prod.snd
 (S.addS
 (Prod.fst
 (S.addS (S.sgB n1 (S.desV (Min.min np (20)) fun j => tp (j + ap)))
 (List.length (S.grp (S.desV (Min.min np (20)) fun j => tp (j + ap))))
 (fun j =>
 S.at' (S.grp (S.desV (Min.min np (20)) fun j => tp (j + ap)))
 j)
 (S.sgB n2 (S.desV (Min.min nq (20)) fun j => tq (j + aq)))
 (List.length (S.grp (S.desV (Min.min nq (20)) fun j => tq (j + aq))))
 fun j =>
 S.at' (S.grp (S.desV (Min.min nq (20)) fun j => tq (j + aq)))
 j))
 (List.length
 (Prod.snd
 (Prod.snd
 (S.addS
 (S.sgB n1 (S.desV (Min.min np (20)) fun j => tp (j + ap)))
 (List.length
 (S.grp (S.desV (Min.min np (20)) fun j => tp (j + ap))))
 (fun j =>
 S.at'
 (S.grp (S.desV (Min.min np (20)) fun j => tp (j + ap))) j)
 (S.sgB n2 (S.desV (Min.min nq (20)) fun j => tq (j + aq)))
 (List.length
 (S.grp (S.desV (Min.min nq (20)) fun j => tq (j + aq))))
 fun j =>
 S.at'
 (S.grp (S.desV (Min.min nq (20)) fun j => tq (j + aq))) j))))
 (fun j =>
 S.at'
 (Prod.snd
 (Prod.snd
 (S.addS
 (S.sgB n1 (S.desV (Min.min np (20)) fun j => tp (j + ap)))
 (List.length
 (S.grp (S.desV (Min.min np (20)) fun j => tp (j + ap))))
 (fun j =>
 S.at'
 (S.grp (S.desV (Min.min np (20)) fun j => tp (j + ap))) j)
 (S.sgB n2 (S.desV (Min.min nq (20)) fun j => tq (j + aq)))
 (List.length
 (S.grp (S.desV (Min.min nq (20)) fun j => tq (j + aq))))
 fun j =>
 S.at'
 (S.grp (S.desV (Min.min nq (20)) fun j => tq (j + aq))) j)))
 j)
 (S.sgB n3 (S.desV (Min.min nr (20)) fun j => tr (j + ar)))
 (List.length (S.grp (S.desV (Min.min nr (20)) fun j => tr (j + ar))))
 fun j =>
 S.at' (S.grp (S.desV (Min.min nr (20)) fun j => tr (j + ar))) j))) ≤
 List.length
 (Prod.snd
 (Prod.snd
 (S.addS
 (Prod.fst
 (S.addS (S.sgB n1 (S.desV (Min.min np (20)) fun j => tp (j + ap)))
 (List.length (S.grp (S.desV (Min.min np (20)) fun j => tp (j + ap))))
 (fun j =>
 S.at' (S.grp (S.desV (Min.min np (20)) fun j => tp (j + ap))) j)
 (S.sgB n2 (S.desV (Min.min nq (20)) fun j => tq (j + aq)))
 (List.length (S.grp (S.desV (Min.min nq (20)) fun j => tq (j + aq))))
 fun j =>
 S.at' (S.grp (S.desV (Min.min nq (20)) fun j => tq (j + aq))) j))
 (List.length
 (Prod.snd
 (Prod.snd
 (S.addS
 (S.sgB n1 (S.desV (Min.min np (20)) fun j => tp (j + ap)))
 (List.length
 (S.grp (S.desV (Min.min np (20)) fun j => tp (j + ap))))
 (fun j =>
 S.at'
 (S.grp (S.desV (Min.min np (20)) fun j => tp (j + ap))) j)
 (S.sgB n2 (S.desV (Min.min nq (20)) fun j => tq (j + aq)))
 (List.length
 (S.grp (S.desV (Min.min nq (20)) fun j => tq (j + aq))))
 fun j =>
 S.at' (S.grp (S.desV (Min.min nq (20)) fun j => tq (j + aq)))
 j))))
 (fun j =>
 S.at'
 (Prod.snd
 (Prod.snd
 (S.addS
 (S.sgB n1 (S.desV (Min.min np (20)) fun j => tp (j + ap)))
 (List.length
 (S.grp (S.desV (Min.min np (20)) fun j => tp (j + ap))))
 (fun j =>
 S.at'
 (S.grp (S.desV (Min.min np (20)) fun j => tp (j + ap))) j)
 (S.sgB n2 (S.desV (Min.min nq (20)) fun j => tq (j + aq)))
 (List.length
 (S.grp (S.desV (Min.min nq (20)) fun j => tq (j + aq))))
 fun j =>
 S.at'
 (S.grp (S.desV (Min.min nq (20)) fun j => tq (j + aq))) j)))
 j)
 (S.sgB n3 (S.desV (Min.min nr (20)) fun j => tr (j + ar)))
 (List.length (S.grp (S.desV (Min.min nr (20)) fun j => tr (j + ar))))
 fun j =>
 S.at' (S.grp (S.desV (Min.min nr (20)) fun j => tr (j + ar))) j))) ∧
 List.length
 (Prod.snd
 (Prod.snd
 (S.addS
 (Prod.fst
 (S.addS (S.sgB n1 (S.desV (Min.min np (20)) fun j => tp (j + ap)))
 (List.length (S.grp (S.desV (Min.min np (20)) fun j => tp (j + ap))))
 (fun j =>
 S.at' (S.grp (S.desV (Min.min np (20)) fun j => tp (j + ap))) j)
 (S.sgB n2 (S.desV (Min.min nq (20)) fun j => tq (j + aq)))
 (List.length (S.grp (S.desV (Min.min nq (20)) fun j => tq (j + aq))))
 fun j =>
 S.at' (S.grp (S.desV (Min.min nq (20)) fun j => tq (j + aq))) j))
 (List.length
 (Prod.snd
 (Prod.snd
 (S.addS
 (S.sgB n1 (S.desV (Min.min np (20)) fun j => tp (j + ap)))
 (List.length
 (S.grp (S.desV (Min.min np (20)) fun j => tp (j + ap))))
 (fun j =>
 S.at'
 (S.grp (S.desV (Min.min np (20)) fun j => tp (j + ap))) j)
 (S.sgB n2 (S.desV (Min.min nq (20)) fun j => tq (j + aq)))
 (List.length
 (S.grp (S.desV (Min.min nq (20)) fun j => tq (j + aq))))
 fun j =>
 S.at' (S.grp (S.desV (Min.min nq (20)) fun j => tq (j + aq)))
 j))))
 (fun j =>
 S.at'
 (Prod.snd
 (Prod.snd
 (S.addS
 (S.sgB n1 (S.desV (Min.min np (20)) fun j => tp (j + ap)))
 (List.length
 (S.grp (S.desV (Min.min np (20)) fun j => tp (j + ap))))
 (fun j =>
 S.at'
 (S.grp (S.desV (Min.min np (20)) fun j => tp (j + ap))) j)
 (S.sgB n2 (S.desV (Min.min nq (20)) fun j => tq (j + aq)))
 (List.length
 (S.grp (S.desV (Min.min nq (20)) fun j => tq (j + aq))))
 fun j =>
 S.at'
 (S.grp (S.desV (Min.min nq (20)) fun j => tq (j + aq))) j)))
 j)
 (S.sgB n3 (S.desV (Min.min nr (20)) fun j => tr (j + ar)))
 (List.length (S.grp (S.desV (Min.min nr (20)) fun j => tr (j + ar))))
 fun j =>
 S.at' (S.grp (S.desV (Min.min nr (20)) fun j => tr (j + ar))) j))) ≤
 1000000) ∧
 0 +
 List.length
 (Prod.snd
 (Prod.snd
 (S.addS (S.sgB n1 (S.desV (Min.min np (20)) fun j => tp (j + ap)))
 (List.length (S.grp (S.desV (Min.min np (20)) fun j => tp (j + ap))))
 (fun j =>
 S.at' (S.grp (S.desV (Min.min np (20)) fun j => tp (j + ap))) j)
 (Prod.fst
 (S.addS (S.sgB n2 (S.desV (Min.min nq (20)) fun j => tq (j + aq)))
 (List.length (S.grp (S.desV (Min.min nq (20)) fun j => tq (j + aq))))
 (fun j =>
 S.at' (S.grp (S.desV (Min.min nq (20)) fun j => tq (j + aq)))
 j)
 (S.sgB n3 (S.desV (Min.min nr (20)) fun j => tr (j + ar)))
 (List.length (S.grp (S.desV (Min.min nr (20)) fun j => tr (j + ar))))
 fun j =>
 S.at' (S.grp (S.desV (Min.min nr (20)) fun j => tr (j + ar)))
 j))
 (List.length
 (Prod.snd
 (Prod.snd
 (S.addS
 (S.sgB n2 (S.desV (Min.min nq (20)) fun j => tq (j + aq)))
 (List.length
 (S.grp (S.desV (Min.min nq (20)) fun j => tq (j + aq))))
 (fun j =>
 S.at'
 (S.grp (S.desV (Min.min nq (20)) fun j => tq (j + aq))) j)
 (S.sgB n3 (S.desV (Min.min nr (20)) fun j => tr (j + ar)))
 (List.length
 (S.grp (S.desV (Min.min nr (20)) fun j => tr (j + ar))))
 fun j =>
 S.at'
 (S.grp (S.desV (Min.min nr (20)) fun j => tr (j + ar))) j))))
 fun j =>
 S.at'
 (Prod.snd
 (Prod.snd
 (S.addS
 (S.sgB n2 (S.desV (Min.min nq (20)) fun j => tq (j + aq)))
 (List.length
 (S.grp (S.desV (Min.min nq (20)) fun j => tq (j + aq))))
 (fun j =>
 S.at'
 (S.grp (S.desV (Min.min nq (20)) fun j => tq (j + aq))) j)
 (S.sgB n3 (S.desV (Min.min nr (20)) fun j => tr (j + ar)))
 (List.length
 (S.grp (S.desV (Min.min nr (20)) fun j => tr (j + ar))))
 fun j =>
 S.at'
 (S.grp (S.desV (Min.min nr (20)) fun j => tr (j + ar))) j)))
 j))) ≤
 List.length
 (Prod.snd
 (Prod.snd
 (S.addS (S.sgB n1 (S.desV (Min.min np (20)) fun j => tp (j + ap)))
 (List.length (S.grp (S.desV (Min.min np (20)) fun j => tp (j + ap))))
 (fun j =>
 S.at' (S.grp (S.desV (Min.min np (20)) fun j => tp (j + ap))) j)
 (Prod.fst
 (S.addS (S.sgB n2 (S.desV (Min.min nq (20)) fun j => tq (j + aq)))
 (List.length (S.grp (S.desV (Min.min nq (20)) fun j => tq (j + aq))))
 (fun j =>
 S.at' (S.grp (S.desV (Min.min nq (20)) fun j => tq (j + aq))) j)
 (S.sgB n3 (S.desV (Min.min nr (20)) fun j => tr (j + ar)))
 (List.length (S.grp (S.desV (Min.min nr (20)) fun j => tr (j + ar))))
 fun j =>
 S.at' (S.grp (S.desV (Min.min nr (20)) fun j => tr (j + ar))) j))
 (List.length
 (Prod.snd
 (Prod.snd
 (S.addS
 (S.sgB n2 (S.desV (Min.min nq (20)) fun j => tq (j + aq)))
 (List.length
 (S.grp (S.desV (Min.min nq (20)) fun j => tq (j + aq))))
 (fun j =>
 S.at'
 (S.grp (S.desV (Min.min nq (20)) fun j => tq (j + aq))) j)
 (S.sgB n3 (S.desV (Min.min nr (20)) fun j => tr (j + ar)))
 (List.length
 (S.grp (S.desV (Min.min nr (20)) fun j => tr (j + ar))))
 fun j =>
 S.at' (S.grp (S.desV (Min.min nr (20)) fun j => tr (j + ar)))
 j))))
 fun j =>
 S.at'
 (Prod.snd
 (Prod.snd
 (S.addS
 (S.sgB n2 (S.desV (Min.min nq (20)) fun j => tq (j + aq)))
 (List.length
 (S.grp (S.desV (Min.min nq (20)) fun j => tq (j + aq))))
 (fun j =>
 S.at'
 (S.grp (S.desV (Min.min nq (20)) fun j => tq (j + aq))) j)
 (S.sgB n3 (S.desV (Min.min nr (20)) fun j => tr (j + ar)))
 (List.length
 (S.grp (S.desV (Min.min nr (20)) fun j => tr (j + ar))))
 fun j =>
 S.at' (S.grp (S.desV (Min.min nr (20)) fun j => tr (j + ar)))
 j)))
 j))) ∧
 List.length
 (Prod.snd
 (Prod.snd
 (S.addS (S.sgB n1 (S.desV (Min.min np (20)) fun j => tp (j + ap)))
 (List.length (S.grp (S.desV (Min.min np (20)) fun j => tp (j + ap))))
 (fun j =>
 S.at' (S.grp (S.desV (Min.min np (20)) fun j => tp (j + ap))) j)
 (Prod.fst
 (S.addS (S.sgB n2 (S.desV (Min.min nq (20)) fun j => tq (j + aq)))
 (List.length (S.grp (S.desV (Min.min nq (20)) fun j => tq (j + aq))))
 (fun j =>
 S.at' (S.grp (S.desV (Min.min nq (20)) fun j => tq (j + aq))) j)
 (S.sgB n3 (S.desV (Min.min nr (20)) fun j => tr (j + ar)))
 (List.length (S.grp (S.desV (Min.min nr (20)) fun j => tr (j + ar))))
 fun j =>
 S.at' (S.grp (S.desV (Min.min nr (20)) fun j => tr (j + ar))) j))
 (List.length
 (Prod.snd
 (Prod.snd
 (S.addS
 (S.sgB n2 (S.desV (Min.min nq (20)) fun j => tq (j + aq)))
 (List.length
 (S.grp (S.desV (Min.min nq (20)) fun j => tq (j + aq))))
 (fun j =>
 S.at'
 (S.grp (S.desV (Min.min nq (20)) fun j => tq (j + aq))) j)
 (S.sgB n3 (S.desV (Min.min nr (20)) fun j => tr (j + ar)))
 (List.length
 (S.grp (S.desV (Min.min nr (20)) fun j => tr (j + ar))))
 fun j =>
 S.at' (S.grp (S.desV (Min.min nr (20)) fun j => tr (j + ar)))
 j))))
 fun j =>
 S.at'
 (Prod.snd
 (Prod.snd
 (S.addS
 (S.sgB n2 (S.desV (Min.min nq (20)) fun j => tq (j + aq)))
 (List.length
 (S.grp (S.desV (Min.min nq (20)) fun j => tq (j + aq))))
 (fun j =>
 S.at'
 (S.grp (S.desV (Min.min nq (20)) fun j => tq (j + aq))) j)
 (S.sgB n3 (S.desV (Min.min nr (20)) fun j => tr (j + ar)))
 (List.length
 (S.grp (S.desV (Min.min nr (20)) fun j => tr (j + ar))))
 fun j =>
 S.at' (S.grp (S.desV (Min.min nr (20)) fun j => tr (j + ar)))
 j)))
 j))) ≤
 1000000))
 then (bif (S.samI
 (Prod.fst
 (S.addS
 (Prod.fst
 (S.addS (S.sgB n1 (S.desV (Min.min np (20)) fun j => tp (j + ap)))
 (List.length (S.grp (S.desV (Min.min np (20)) fun j => tp (j + ap))))
 (fun j =>
 S.at' (S.grp (S.desV (Min.min np (20)) fun j => tp (j + ap))) j)
 (S.sgB n2 (S.desV (Min.min nq (20)) fun j => tq (j + aq)))
 (List.length (S.grp (S.desV (Min.min nq (20)) fun j => tq (j + aq))))
 fun j =>
 S.at' (S.grp (S.desV (Min.min nq (20)) fun j => tq (j + aq))) j))
 (List.length
 (Prod.snd
 (Prod.snd
 (S.addS (S.sgB n1 (S.desV (Min.min np (20)) fun j => tp (j + ap)))
 (List.length (S.grp (S.desV (Min.min np (20)) fun j => tp (j + ap))))
 (fun j =>
 S.at' (S.grp (S.desV (Min.min np (20)) fun j => tp (j + ap))) j)
 (S.sgB n2 (S.desV (Min.min nq (20)) fun j => tq (j + aq)))
 (List.length (S.grp (S.desV (Min.min nq (20)) fun j => tq (j + aq))))
 fun j =>
 S.at' (S.grp (S.desV (Min.min nq (20)) fun j => tq (j + aq))) j))))
 (fun j =>
 S.at'
 (Prod.snd
 (Prod.snd
 (S.addS (S.sgB n1 (S.desV (Min.min np (20)) fun j => tp (j + ap)))
 (List.length (S.grp (S.desV (Min.min np (20)) fun j => tp (j + ap))))
 (fun j =>
 S.at' (S.grp (S.desV (Min.min np (20)) fun j => tp (j + ap))) j)
 (S.sgB n2 (S.desV (Min.min nq (20)) fun j => tq (j + aq)))
 (List.length (S.grp (S.desV (Min.min nq (20)) fun j => tq (j + aq))))
 fun j =>
 S.at' (S.grp (S.desV (Min.min nq (20)) fun j => tq (j + aq))) j)))
 j)
 (S.sgB n3 (S.desV (Min.min nr (20)) fun j => tr (j + ar)))
 (List.length (S.grp (S.desV (Min.min nr (20)) fun j => tr (j + ar)))) fun j =>
 S.at' (S.grp (S.desV (Min.min nr (20)) fun j => tr (j + ar))) j))
 (List.length
 (Prod.snd
 (Prod.snd
 (S.addS
 (Prod.fst
 (S.addS (S.sgB n1 (S.desV (Min.min np (20)) fun j => tp (j + ap)))
 (List.length (S.grp (S.desV (Min.min np (20)) fun j => tp (j + ap))))
 (fun j =>
 S.at' (S.grp (S.desV (Min.min np (20)) fun j => tp (j + ap))) j)
 (S.sgB n2 (S.desV (Min.min nq (20)) fun j => tq (j + aq)))
 (List.length (S.grp (S.desV (Min.min nq (20)) fun j => tq (j + aq))))
 fun j =>
 S.at' (S.grp (S.desV (Min.min nq (20)) fun j => tq (j + aq))) j))
 (List.length
 (Prod.snd
 (Prod.snd
 (S.addS (S.sgB n1 (S.desV (Min.min np (20)) fun j => tp (j + ap)))
 (List.length (S.grp (S.desV (Min.min np (20)) fun j => tp (j + ap))))
 (fun j =>
 S.at' (S.grp (S.desV (Min.min np (20)) fun j => tp (j + ap))) j)
 (S.sgB n2 (S.desV (Min.min nq (20)) fun j => tq (j + aq)))
 (List.length (S.grp (S.desV (Min.min nq (20)) fun j => tq (j + aq))))
 fun j =>
 S.at' (S.grp (S.desV (Min.min nq (20)) fun j => tq (j + aq))) j))))
 (fun j =>
 S.at'
 (Prod.snd
 (Prod.snd
 (S.addS (S.sgB n1 (S.desV (Min.min np (20)) fun j => tp (j + ap)))
 (List.length (S.grp (S.desV (Min.min np (20)) fun j => tp (j + ap))))
 (fun j =>
 S.at' (S.grp (S.desV (Min.min np (20)) fun j => tp (j + ap))) j)
 (S.sgB n2 (S.desV (Min.min nq (20)) fun j => tq (j + aq)))
 (List.length (S.grp (S.desV (Min.min nq (20)) fun j => tq (j + aq))))
 fun j =>
 S.at' (S.grp (S.desV (Min.min nq (20)) fun j => tq (j + aq))) j)))
 j)
 (S.sgB n3 (S.desV (Min.min nr (20)) fun j => tr (j + ar)))
 (List.length (S.grp (S.desV (Min.min nr (20)) fun j => tr (j + ar))))
 fun j =>
 S.at' (S.grp (S.desV (Min.min nr (20)) fun j => tr (j + ar))) j))))
 (fun j =>
 S.at'
 (Prod.snd
 (Prod.snd
 (S.addS
 (Prod.fst
 (S.addS (S.sgB n1 (S.desV (Min.min np (20)) fun j => tp (j + ap)))
 (List.length (S.grp (S.desV (Min.min np (20)) fun j => tp (j + ap))))
 (fun j =>
 S.at' (S.grp (S.desV (Min.min np (20)) fun j => tp (j + ap))) j)
 (S.sgB n2 (S.desV (Min.min nq (20)) fun j => tq (j + aq)))
 (List.length (S.grp (S.desV (Min.min nq (20)) fun j => tq (j + aq))))
 fun j =>
 S.at' (S.grp (S.desV (Min.min nq (20)) fun j => tq (j + aq))) j))
 (List.length
 (Prod.snd
 (Prod.snd
 (S.addS (S.sgB n1 (S.desV (Min.min np (20)) fun j => tp (j + ap)))
 (List.length (S.grp (S.desV (Min.min np (20)) fun j => tp (j + ap))))
 (fun j =>
 S.at' (S.grp (S.desV (Min.min np (20)) fun j => tp (j + ap))) j)
 (S.sgB n2 (S.desV (Min.min nq (20)) fun j => tq (j + aq)))
 (List.length (S.grp (S.desV (Min.min nq (20)) fun j => tq (j + aq))))
 fun j =>
 S.at' (S.grp (S.desV (Min.min nq (20)) fun j => tq (j + aq)))
 j))))
 (fun j =>
 S.at'
 (Prod.snd
 (Prod.snd
 (S.addS (S.sgB n1 (S.desV (Min.min np (20)) fun j => tp (j + ap)))
 (List.length (S.grp (S.desV (Min.min np (20)) fun j => tp (j + ap))))
 (fun j =>
 S.at' (S.grp (S.desV (Min.min np (20)) fun j => tp (j + ap)))
 j)
 (S.sgB n2 (S.desV (Min.min nq (20)) fun j => tq (j + aq)))
 (List.length (S.grp (S.desV (Min.min nq (20)) fun j => tq (j + aq))))
 fun j =>
 S.at' (S.grp (S.desV (Min.min nq (20)) fun j => tq (j + aq)))
 j)))
 j)
 (S.sgB n3 (S.desV (Min.min nr (20)) fun j => tr (j + ar)))
 (List.length (S.grp (S.desV (Min.min nr (20)) fun j => tr (j + ar))))
 fun j =>
 S.at' (S.grp (S.desV (Min.min nr (20)) fun j => tr (j + ar))) j)))
 j)
 (Prod.fst
 (S.addS (S.sgB n1 (S.desV (Min.min np (20)) fun j => tp (j + ap)))
 (List.length (S.grp (S.desV (Min.min np (20)) fun j => tp (j + ap))))
 (fun j =>
 S.at' (S.grp (S.desV (Min.min np (20)) fun j => tp (j + ap))) j)
 (Prod.fst
 (S.addS (S.sgB n2 (S.desV (Min.min nq (20)) fun j => tq (j + aq)))
 (List.length (S.grp (S.desV (Min.min nq (20)) fun j => tq (j + aq))))
 (fun j =>
 S.at' (S.grp (S.desV (Min.min nq (20)) fun j => tq (j + aq))) j)
 (S.sgB n3 (S.desV (Min.min nr (20)) fun j => tr (j + ar)))
 (List.length (S.grp (S.desV (Min.min nr (20)) fun j => tr (j + ar))))
 fun j =>
 S.at' (S.grp (S.desV (Min.min nr (20)) fun j => tr (j + ar))) j))
 (List.length
 (Prod.snd
 (Prod.snd
 (S.addS (S.sgB n2 (S.desV (Min.min nq (20)) fun j => tq (j + aq)))
 (List.length (S.grp (S.desV (Min.min nq (20)) fun j => tq (j + aq))))
 (fun j =>
 S.at' (S.grp (S.desV (Min.min nq (20)) fun j => tq (j + aq))) j)
 (S.sgB n3 (S.desV (Min.min nr (20)) fun j => tr (j + ar)))
 (List.length (S.grp (S.desV (Min.min nr (20)) fun j => tr (j + ar))))
 fun j =>
 S.at' (S.grp (S.desV (Min.min nr (20)) fun j => tr (j + ar))) j))))
 fun j =>
 S.at'
 (Prod.snd
 (Prod.snd
 (S.addS (S.sgB n2 (S.desV (Min.min nq (20)) fun j => tq (j + aq)))
 (List.length (S.grp (S.desV (Min.min nq (20)) fun j => tq (j + aq))))
 (fun j =>
 S.at' (S.grp (S.desV (Min.min nq (20)) fun j => tq (j + aq))) j)
 (S.sgB n3 (S.desV (Min.min nr (20)) fun j => tr (j + ar)))
 (List.length (S.grp (S.desV (Min.min nr (20)) fun j => tr (j + ar))))
 fun j =>
 S.at' (S.grp (S.desV (Min.min nr (20)) fun j => tr (j + ar))) j)))
 j))
 (List.length
 (Prod.snd
 (Prod.snd
 (S.addS (S.sgB n1 (S.desV (Min.min np (20)) fun j => tp (j + ap)))
 (List.length (S.grp (S.desV (Min.min np (20)) fun j => tp (j + ap))))
 (fun j =>
 S.at' (S.grp (S.desV (Min.min np (20)) fun j => tp (j + ap))) j)
 (Prod.fst
 (S.addS (S.sgB n2 (S.desV (Min.min nq (20)) fun j => tq (j + aq)))
 (List.length (S.grp (S.desV (Min.min nq (20)) fun j => tq (j + aq))))
 (fun j =>
 S.at' (S.grp (S.desV (Min.min nq (20)) fun j => tq (j + aq))) j)
 (S.sgB n3 (S.desV (Min.min nr (20)) fun j => tr (j + ar)))
 (List.length (S.grp (S.desV (Min.min nr (20)) fun j => tr (j + ar))))
 fun j =>
 S.at' (S.grp (S.desV (Min.min nr (20)) fun j => tr (j + ar))) j))
 (List.length
 (Prod.snd
 (Prod.snd
 (S.addS (S.sgB n2 (S.desV (Min.min nq (20)) fun j => tq (j + aq)))
 (List.length (S.grp (S.desV (Min.min nq (20)) fun j => tq (j + aq))))
 (fun j =>
 S.at' (S.grp (S.desV (Min.min nq (20)) fun j => tq (j + aq))) j)
 (S.sgB n3 (S.desV (Min.min nr (20)) fun j => tr (j + ar)))
 (List.length (S.grp (S.desV (Min.min nr (20)) fun j => tr (j + ar))))
 fun j =>
 S.at' (S.grp (S.desV (Min.min nr (20)) fun j => tr (j + ar))) j))))
 fun j =>
 S.at'
 (Prod.snd
 (Prod.snd
 (S.addS (S.sgB n2 (S.desV (Min.min nq (20)) fun j => tq (j + aq)))
 (List.length (S.grp (S.desV (Min.min nq (20)) fun j => tq (j + aq))))
 (fun j =>
 S.at' (S.grp (S.desV (Min.min nq (20)) fun j => tq (j + aq))) j)
 (S.sgB n3 (S.desV (Min.min nr (20)) fun j => tr (j + ar)))
 (List.length (S.grp (S.desV (Min.min nr (20)) fun j => tr (j + ar))))
 fun j =>
 S.at' (S.grp (S.desV (Min.min nr (20)) fun j => tr (j + ar))) j)))
 j))))
 fun j =>
 S.at'
 (Prod.snd
 (Prod.snd
 (S.addS (S.sgB n1 (S.desV (Min.min np (20)) fun j => tp (j + ap)))
 (List.length (S.grp (S.desV (Min.min np (20)) fun j => tp (j + ap))))
 (fun j =>
 S.at' (S.grp (S.desV (Min.min np (20)) fun j => tp (j + ap))) j)
 (Prod.fst
 (S.addS (S.sgB n2 (S.desV (Min.min nq (20)) fun j => tq (j + aq)))
 (List.length (S.grp (S.desV (Min.min nq (20)) fun j => tq (j + aq))))
 (fun j =>
 S.at' (S.grp (S.desV (Min.min nq (20)) fun j => tq (j + aq))) j)
 (S.sgB n3 (S.desV (Min.min nr (20)) fun j => tr (j + ar)))
 (List.length (S.grp (S.desV (Min.min nr (20)) fun j => tr (j + ar))))
 fun j =>
 S.at' (S.grp (S.desV (Min.min nr (20)) fun j => tr (j + ar))) j))
 (List.length
 (Prod.snd
 (Prod.snd
 (S.addS (S.sgB n2 (S.desV (Min.min nq (20)) fun j => tq (j + aq)))
 (List.length (S.grp (S.desV (Min.min nq (20)) fun j => tq (j + aq))))
 (fun j =>
 S.at' (S.grp (S.desV (Min.min nq (20)) fun j => tq (j + aq))) j)
 (S.sgB n3 (S.desV (Min.min nr (20)) fun j => tr (j + ar)))
 (List.length (S.grp (S.desV (Min.min nr (20)) fun j => tr (j + ar))))
 fun j =>
 S.at' (S.grp (S.desV (Min.min nr (20)) fun j => tr (j + ar))) j))))
 fun j =>
 S.at'
 (Prod.snd
 (Prod.snd
 (S.addS (S.sgB n2 (S.desV (Min.min nq (20)) fun j => tq (j + aq)))
 (List.length (S.grp (S.desV (Min.min nq (20)) fun j => tq (j + aq))))
 (fun j =>
 S.at' (S.grp (S.desV (Min.min nq (20)) fun j => tq (j + aq))) j)
 (S.sgB n3 (S.desV (Min.min nr (20)) fun j => tr (j + ar)))
 (List.length (S.grp (S.desV (Min.min nr (20)) fun j => tr (j + ar))))
 fun j =>
 S.at' (S.grp (S.desV (Min.min nr (20)) fun j => tr (j + ar))) j)))
 j)))
 j)
 then (bif (decide
 ((0 + List.length (S.grp (S.desV (Min.min np (20)) fun j => tp (j + ap))) ≤
 List.length (S.grp (S.desV (Min.min np (20)) fun j => tp (j + ap))) ∧
 List.length (S.grp (S.desV (Min.min np (20)) fun j => tp (j + ap))) ≤
 1000000) ∧
 0 + List.length (S.grp (S.desV (Min.min nr (20)) fun j => tr (j + ar))) ≤
 List.length (S.grp (S.desV (Min.min nr (20)) fun j => tr (j + ar))) ∧
 List.length (S.grp (S.desV (Min.min nr (20)) fun j => tr (j + ar))) ≤ 1000000))
 then (bif (decide
 ((0 +
 List.length
 (Prod.snd
 (Prod.snd
 (S.mulI (S.sgB n1 (S.desV (Min.min np (20)) fun j => tp (j + ap)))
 (List.length (S.grp (S.desV (Min.min np (20)) fun j => tp (j + ap))))
 (fun j =>
 S.at' (S.grp (S.desV (Min.min np (20)) fun j => tp (j + ap))) j)
 (S.sgB n2 (S.desV (Min.min nq (20)) fun j => tq (j + aq)))
 (List.length (S.grp (S.desV (Min.min nq (20)) fun j => tq (j + aq))))
 fun j =>
 S.at' (S.grp (S.desV (Min.min nq (20)) fun j => tq (j + aq))) j))) ≤
 List.length
 (Prod.snd
 (Prod.snd
 (S.mulI (S.sgB n1 (S.desV (Min.min np (20)) fun j => tp (j + ap)))
 (List.length (S.grp (S.desV (Min.min np (20)) fun j => tp (j + ap))))
 (fun j =>
 S.at' (S.grp (S.desV (Min.min np (20)) fun j => tp (j + ap))) j)
 (S.sgB n2 (S.desV (Min.min nq (20)) fun j => tq (j + aq)))
 (List.length (S.grp (S.desV (Min.min nq (20)) fun j => tq (j + aq))))
 fun j =>
 S.at' (S.grp (S.desV (Min.min nq (20)) fun j => tq (j + aq))) j))) ∧
 List.length
 (Prod.snd
 (Prod.snd
 (S.mulI (S.sgB n1 (S.desV (Min.min np (20)) fun j => tp (j + ap)))
 (List.length (S.grp (S.desV (Min.min np (20)) fun j => tp (j + ap))))
 (fun j =>
 S.at' (S.grp (S.desV (Min.min np (20)) fun j => tp (j + ap))) j)
 (S.sgB n2 (S.desV (Min.min nq (20)) fun j => tq (j + aq)))
 (List.length (S.grp (S.desV (Min.min nq (20)) fun j => tq (j + aq))))
 fun j =>
 S.at' (S.grp (S.desV (Min.min nq (20)) fun j => tq (j + aq))) j))) ≤
 1000000) ∧
 0 +
 List.length
 (Prod.snd
 (Prod.snd
 (S.mulI (S.sgB n1 (S.desV (Min.min np (20)) fun j => tp (j + ap)))
 (List.length (S.grp (S.desV (Min.min np (20)) fun j => tp (j + ap))))
 (fun j =>
 S.at' (S.grp (S.desV (Min.min np (20)) fun j => tp (j + ap))) j)
 (S.sgB n3 (S.desV (Min.min nr (20)) fun j => tr (j + ar)))
 (List.length (S.grp (S.desV (Min.min nr (20)) fun j => tr (j + ar))))
 fun j =>
 S.at' (S.grp (S.desV (Min.min nr (20)) fun j => tr (j + ar))) j))) ≤
 List.length
 (Prod.snd
 (Prod.snd
 (S.mulI (S.sgB n1 (S.desV (Min.min np (20)) fun j => tp (j + ap)))
 (List.length (S.grp (S.desV (Min.min np (20)) fun j => tp (j + ap))))
 (fun j =>
 S.at' (S.grp (S.desV (Min.min np (20)) fun j => tp (j + ap))) j)
 (S.sgB n3 (S.desV (Min.min nr (20)) fun j => tr (j + ar)))
 (List.length (S.grp (S.desV (Min.min nr (20)) fun j => tr (j + ar))))
 fun j =>
 S.at' (S.grp (S.desV (Min.min nr (20)) fun j => tr (j + ar))) j))) ∧
 List.length
 (Prod.snd
 (Prod.snd
 (S.mulI (S.sgB n1 (S.desV (Min.min np (20)) fun j => tp (j + ap)))
 (List.length (S.grp (S.desV (Min.min np (20)) fun j => tp (j + ap))))
 (fun j =>
 S.at' (S.grp (S.desV (Min.min np (20)) fun j => tp (j + ap))) j)
 (S.sgB n3 (S.desV (Min.min nr (20)) fun j => tr (j + ar)))
 (List.length (S.grp (S.desV (Min.min nr (20)) fun j => tr (j + ar))))
 fun j =>
 S.at' (S.grp (S.desV (Min.min nr (20)) fun j => tr (j + ar))) j))) ≤
 1000000))
 then (bif (decide
 ((0 +
 List.length
 (Prod.snd
 (Prod.snd
 (S.mulI (S.sgB n1 (S.desV (Min.min np (20)) fun j => tp (j + ap)))
 (List.length (S.grp (S.desV (Min.min np (20)) fun j => tp (j + ap))))
 (fun j =>
 S.at' (S.grp (S.desV (Min.min np (20)) fun j => tp (j + ap))) j)
 (S.sgB n2 (S.desV (Min.min nq (20)) fun j => tq (j + aq)))
 (List.length (S.grp (S.desV (Min.min nq (20)) fun j => tq (j + aq))))
 fun j =>
 S.at' (S.grp (S.desV (Min.min nq (20)) fun j => tq (j + aq))) j))) ≤
 List.length
 (Prod.snd
 (Prod.snd
 (S.mulI (S.sgB n1 (S.desV (Min.min np (20)) fun j => tp (j + ap)))
 (List.length (S.grp (S.desV (Min.min np (20)) fun j => tp (j + ap))))
 (fun j =>
 S.at' (S.grp (S.desV (Min.min np (20)) fun j => tp (j + ap))) j)
 (S.sgB n2 (S.desV (Min.min nq (20)) fun j => tq (j + aq)))
 (List.length (S.grp (S.desV (Min.min nq (20)) fun j => tq (j + aq))))
 fun j =>
 S.at' (S.grp (S.desV (Min.min nq (20)) fun j => tq (j + aq))) j))) ∧
 List.length
 (Prod.snd
 (Prod.snd
 (S.mulI (S.sgB n1 (S.desV (Min.min np (20)) fun j => tp (j + ap)))
 (List.length (S.grp (S.desV (Min.min np (20)) fun j => tp (j + ap))))
 (fun j =>
 S.at' (S.grp (S.desV (Min.min np (20)) fun j => tp (j + ap))) j)
 (S.sgB n2 (S.desV (Min.min nq (20)) fun j => tq (j + aq)))
 (List.length (S.grp (S.desV (Min.min nq (20)) fun j => tq (j + aq))))
 fun j =>
 S.at' (S.grp (S.desV (Min.min nq (20)) fun j => tq (j + aq))) j))) ≤
 1000000) ∧
 0 + List.length (S.grp (S.desV (Min.min nr (20)) fun j => tr (j + ar))) ≤
 List.length (S.grp (S.desV (Min.min nr (20)) fun j => tr (j + ar))) ∧
 List.length (S.grp (S.desV (Min.min nr (20)) fun j => tr (j + ar))) ≤ 1000000))
 then (bif (decide
 ((0 + List.length (S.grp (S.desV (Min.min np (20)) fun j => tp (j + ap))) ≤
 List.length (S.grp (S.desV (Min.min np (20)) fun j => tp (j + ap))) ∧
 List.length (S.grp (S.desV (Min.min np (20)) fun j => tp (j + ap))) ≤
 1000000) ∧
 0 +
 List.length
 (Prod.snd
 (Prod.snd
 (S.mulI (S.sgB n2 (S.desV (Min.min nq (20)) fun j => tq (j + aq)))
 (List.length (S.grp (S.desV (Min.min nq (20)) fun j => tq (j + aq))))
 (fun j =>
 S.at' (S.grp (S.desV (Min.min nq (20)) fun j => tq (j + aq))) j)
 (S.sgB n3 (S.desV (Min.min nr (20)) fun j => tr (j + ar)))
 (List.length (S.grp (S.desV (Min.min nr (20)) fun j => tr (j + ar))))
 fun j =>
 S.at' (S.grp (S.desV (Min.min nr (20)) fun j => tr (j + ar))) j))) ≤
 List.length
 (Prod.snd
 (Prod.snd
 (S.mulI (S.sgB n2 (S.desV (Min.min nq (20)) fun j => tq (j + aq)))
 (List.length (S.grp (S.desV (Min.min nq (20)) fun j => tq (j + aq))))
 (fun j =>
 S.at' (S.grp (S.desV (Min.min nq (20)) fun j => tq (j + aq))) j)
 (S.sgB n3 (S.desV (Min.min nr (20)) fun j => tr (j + ar)))
 (List.length (S.grp (S.desV (Min.min nr (20)) fun j => tr (j + ar))))
 fun j =>
 S.at' (S.grp (S.desV (Min.min nr (20)) fun j => tr (j + ar))) j))) ∧
 List.length
 (Prod.snd
 (Prod.snd
 (S.mulI (S.sgB n2 (S.desV (Min.min nq (20)) fun j => tq (j + aq)))
 (List.length (S.grp (S.desV (Min.min nq (20)) fun j => tq (j + aq))))
 (fun j =>
 S.at' (S.grp (S.desV (Min.min nq (20)) fun j => tq (j + aq))) j)
 (S.sgB n3 (S.desV (Min.min nr (20)) fun j => tr (j + ar)))
 (List.length (S.grp (S.desV (Min.min nr (20)) fun j => tr (j + ar))))
 fun j =>
 S.at' (S.grp (S.desV (Min.min nr (20)) fun j => tr (j + ar))) j))) ≤
 1000000))
 then (some (.inl (.h0 ((0 : Int)) (Prod.snd
 (Prod.snd
 (S.mulI (S.sgB n1 (S.desV (Min.min np (20)) fun j => tp (j + ap)))
 (List.length (S.grp (S.desV (Min.min np (20)) fun j => tp (j + ap))))
 (fun j =>
 S.at' (S.grp (S.desV (Min.min np (20)) fun j => tp (j + ap))) j)
 (S.sgB n2 (S.desV (Min.min nq (20)) fun j => tq (j + aq)))
 (List.length (S.grp (S.desV (Min.min nq (20)) fun j => tq (j + aq)))) fun j =>
 S.at' (S.grp (S.desV (Min.min nq (20)) fun j => tq (j + aq))) j))) (Prod.snd
 (Prod.snd
 (S.mulI (S.sgB n2 (S.desV (Min.min nq (20)) fun j => tq (j + aq)))
 (List.length (S.grp (S.desV (Min.min nq (20)) fun j => tq (j + aq))))
 (fun j =>
 S.at' (S.grp (S.desV (Min.min nq (20)) fun j => tq (j + aq))) j)
 (S.sgB n1 (S.desV (Min.min np (20)) fun j => tp (j + ap)))
 (List.length (S.grp (S.desV (Min.min np (20)) fun j => tp (j + ap)))) fun j =>
 S.at' (S.grp (S.desV (Min.min np (20)) fun j => tp (j + ap))) j))) (Prod.snd
 (Prod.snd
 (S.mulI (S.sgB n1 (S.desV (Min.min np (20)) fun j => tp (j + ap)))
 (List.length (S.grp (S.desV (Min.min np (20)) fun j => tp (j + ap))))
 (fun j =>
 S.at' (S.grp (S.desV (Min.min np (20)) fun j => tp (j + ap))) j)
 (Prod.fst
 (S.addS (S.sgB n2 (S.desV (Min.min nq (20)) fun j => tq (j + aq)))
 (List.length (S.grp (S.desV (Min.min nq (20)) fun j => tq (j + aq))))
 (fun j =>
 S.at' (S.grp (S.desV (Min.min nq (20)) fun j => tq (j + aq))) j)
 (S.sgB n3 (S.desV (Min.min nr (20)) fun j => tr (j + ar)))
 (List.length (S.grp (S.desV (Min.min nr (20)) fun j => tr (j + ar))))
 fun j =>
 S.at' (S.grp (S.desV (Min.min nr (20)) fun j => tr (j + ar))) j))
 (List.length
 (Prod.snd
 (Prod.snd
 (S.addS (S.sgB n2 (S.desV (Min.min nq (20)) fun j => tq (j + aq)))
 (List.length (S.grp (S.desV (Min.min nq (20)) fun j => tq (j + aq))))
 (fun j =>
 S.at' (S.grp (S.desV (Min.min nq (20)) fun j => tq (j + aq))) j)
 (S.sgB n3 (S.desV (Min.min nr (20)) fun j => tr (j + ar)))
 (List.length (S.grp (S.desV (Min.min nr (20)) fun j => tr (j + ar))))
 fun j =>
 S.at' (S.grp (S.desV (Min.min nr (20)) fun j => tr (j + ar))) j))))
 fun j =>
 S.at'
 (Prod.snd
 (Prod.snd
 (S.addS (S.sgB n2 (S.desV (Min.min nq (20)) fun j => tq (j + aq)))
 (List.length (S.grp (S.desV (Min.min nq (20)) fun j => tq (j + aq))))
 (fun j =>
 S.at' (S.grp (S.desV (Min.min nq (20)) fun j => tq (j + aq))) j)
 (S.sgB n3 (S.desV (Min.min nr (20)) fun j => tr (j + ar)))
 (List.length (S.grp (S.desV (Min.min nr (20)) fun j => tr (j + ar))))
 fun j =>
 S.at' (S.grp (S.desV (Min.min nr (20)) fun j => tr (j + ar))) j)))
 j))) (Prod.snd
 (Prod.snd
 (S.addS
 (Prod.fst
 (S.mulI (S.sgB n1 (S.desV (Min.min np (20)) fun j => tp (j + ap)))
 (List.length (S.grp (S.desV (Min.min np (20)) fun j => tp (j + ap))))
 (fun j =>
 S.at' (S.grp (S.desV (Min.min np (20)) fun j => tp (j + ap))) j)
 (S.sgB n2 (S.desV (Min.min nq (20)) fun j => tq (j + aq)))
 (List.length (S.grp (S.desV (Min.min nq (20)) fun j => tq (j + aq))))
 fun j =>
 S.at' (S.grp (S.desV (Min.min nq (20)) fun j => tq (j + aq))) j))
 (List.length
 (Prod.snd
 (Prod.snd
 (S.mulI (S.sgB n1 (S.desV (Min.min np (20)) fun j => tp (j + ap)))
 (List.length (S.grp (S.desV (Min.min np (20)) fun j => tp (j + ap))))
 (fun j =>
 S.at' (S.grp (S.desV (Min.min np (20)) fun j => tp (j + ap))) j)
 (S.sgB n2 (S.desV (Min.min nq (20)) fun j => tq (j + aq)))
 (List.length (S.grp (S.desV (Min.min nq (20)) fun j => tq (j + aq))))
 fun j =>
 S.at' (S.grp (S.desV (Min.min nq (20)) fun j => tq (j + aq))) j))))
 (fun j =>
 S.at'
 (Prod.snd
 (Prod.snd
 (S.mulI (S.sgB n1 (S.desV (Min.min np (20)) fun j => tp (j + ap)))
 (List.length (S.grp (S.desV (Min.min np (20)) fun j => tp (j + ap))))
 (fun j =>
 S.at' (S.grp (S.desV (Min.min np (20)) fun j => tp (j + ap))) j)
 (S.sgB n2 (S.desV (Min.min nq (20)) fun j => tq (j + aq)))
 (List.length (S.grp (S.desV (Min.min nq (20)) fun j => tq (j + aq))))
 fun j =>
 S.at' (S.grp (S.desV (Min.min nq (20)) fun j => tq (j + aq))) j)))
 j)
 (Prod.fst
 (S.mulI (S.sgB n1 (S.desV (Min.min np (20)) fun j => tp (j + ap)))
 (List.length (S.grp (S.desV (Min.min np (20)) fun j => tp (j + ap))))
 (fun j =>
 S.at' (S.grp (S.desV (Min.min np (20)) fun j => tp (j + ap))) j)
 (S.sgB n3 (S.desV (Min.min nr (20)) fun j => tr (j + ar)))
 (List.length (S.grp (S.desV (Min.min nr (20)) fun j => tr (j + ar))))
 fun j =>
 S.at' (S.grp (S.desV (Min.min nr (20)) fun j => tr (j + ar))) j))
 (List.length
 (Prod.snd
 (Prod.snd
 (S.mulI (S.sgB n1 (S.desV (Min.min np (20)) fun j => tp (j + ap)))
 (List.length (S.grp (S.desV (Min.min np (20)) fun j => tp (j + ap))))
 (fun j =>
 S.at' (S.grp (S.desV (Min.min np (20)) fun j => tp (j + ap))) j)
 (S.sgB n3 (S.desV (Min.min nr (20)) fun j => tr (j + ar)))
 (List.length (S.grp (S.desV (Min.min nr (20)) fun j => tr (j + ar))))
 fun j =>
 S.at' (S.grp (S.desV (Min.min nr (20)) fun j => tr (j + ar))) j))))
 fun j =>
 S.at'
 (Prod.snd
 (Prod.snd
 (S.mulI (S.sgB n1 (S.desV (Min.min np (20)) fun j => tp (j + ap)))
 (List.length (S.grp (S.desV (Min.min np (20)) fun j => tp (j + ap))))
 (fun j =>
 S.at' (S.grp (S.desV (Min.min np (20)) fun j => tp (j + ap))) j)
 (S.sgB n3 (S.desV (Min.min nr (20)) fun j => tr (j + ar)))
 (List.length (S.grp (S.desV (Min.min nr (20)) fun j => tr (j + ar))))
 fun j =>
 S.at' (S.grp (S.desV (Min.min nr (20)) fun j => tr (j + ar))) j)))
 j))) (Prod.snd
 (Prod.snd
 (S.mulI
 (Prod.fst
 (S.mulI (S.sgB n1 (S.desV (Min.min np (20)) fun j => tp (j + ap)))
 (List.length (S.grp (S.desV (Min.min np (20)) fun j => tp (j + ap))))
 (fun j =>
 S.at' (S.grp (S.desV (Min.min np (20)) fun j => tp (j + ap))) j)
 (S.sgB n2 (S.desV (Min.min nq (20)) fun j => tq (j + aq)))
 (List.length (S.grp (S.desV (Min.min nq (20)) fun j => tq (j + aq))))
 fun j =>
 S.at' (S.grp (S.desV (Min.min nq (20)) fun j => tq (j + aq))) j))
 (List.length
 (Prod.snd
 (Prod.snd
 (S.mulI (S.sgB n1 (S.desV (Min.min np (20)) fun j => tp (j + ap)))
 (List.length (S.grp (S.desV (Min.min np (20)) fun j => tp (j + ap))))
 (fun j =>
 S.at' (S.grp (S.desV (Min.min np (20)) fun j => tp (j + ap))) j)
 (S.sgB n2 (S.desV (Min.min nq (20)) fun j => tq (j + aq)))
 (List.length (S.grp (S.desV (Min.min nq (20)) fun j => tq (j + aq))))
 fun j =>
 S.at' (S.grp (S.desV (Min.min nq (20)) fun j => tq (j + aq))) j))))
 (fun j =>
 S.at'
 (Prod.snd
 (Prod.snd
 (S.mulI (S.sgB n1 (S.desV (Min.min np (20)) fun j => tp (j + ap)))
 (List.length (S.grp (S.desV (Min.min np (20)) fun j => tp (j + ap))))
 (fun j =>
 S.at' (S.grp (S.desV (Min.min np (20)) fun j => tp (j + ap))) j)
 (S.sgB n2 (S.desV (Min.min nq (20)) fun j => tq (j + aq)))
 (List.length (S.grp (S.desV (Min.min nq (20)) fun j => tq (j + aq))))
 fun j =>
 S.at' (S.grp (S.desV (Min.min nq (20)) fun j => tq (j + aq))) j)))
 j)
 (S.sgB n3 (S.desV (Min.min nr (20)) fun j => tr (j + ar)))
 (List.length (S.grp (S.desV (Min.min nr (20)) fun j => tr (j + ar)))) fun j =>
 S.at' (S.grp (S.desV (Min.min nr (20)) fun j => tr (j + ar))) j))) (Prod.snd
 (Prod.snd
 (S.mulI (S.sgB n1 (S.desV (Min.min np (20)) fun j => tp (j + ap)))
 (List.length (S.grp (S.desV (Min.min np (20)) fun j => tp (j + ap))))
 (fun j =>
 S.at' (S.grp (S.desV (Min.min np (20)) fun j => tp (j + ap))) j)
 (Prod.fst
 (S.mulI (S.sgB n2 (S.desV (Min.min nq (20)) fun j => tq (j + aq)))
 (List.length (S.grp (S.desV (Min.min nq (20)) fun j => tq (j + aq))))
 (fun j =>
 S.at' (S.grp (S.desV (Min.min nq (20)) fun j => tq (j + aq))) j)
 (S.sgB n3 (S.desV (Min.min nr (20)) fun j => tr (j + ar)))
 (List.length (S.grp (S.desV (Min.min nr (20)) fun j => tr (j + ar))))
 fun j =>
 S.at' (S.grp (S.desV (Min.min nr (20)) fun j => tr (j + ar))) j))
 (List.length
 (Prod.snd
 (Prod.snd
 (S.mulI (S.sgB n2 (S.desV (Min.min nq (20)) fun j => tq (j + aq)))
 (List.length (S.grp (S.desV (Min.min nq (20)) fun j => tq (j + aq))))
 (fun j =>
 S.at' (S.grp (S.desV (Min.min nq (20)) fun j => tq (j + aq))) j)
 (S.sgB n3 (S.desV (Min.min nr (20)) fun j => tr (j + ar)))
 (List.length (S.grp (S.desV (Min.min nr (20)) fun j => tr (j + ar))))
 fun j =>
 S.at' (S.grp (S.desV (Min.min nr (20)) fun j => tr (j + ar))) j))))
 fun j =>
 S.at'
 (Prod.snd
 (Prod.snd
 (S.mulI (S.sgB n2 (S.desV (Min.min nq (20)) fun j => tq (j + aq)))
 (List.length (S.grp (S.desV (Min.min nq (20)) fun j => tq (j + aq))))
 (fun j =>
 S.at' (S.grp (S.desV (Min.min nq (20)) fun j => tq (j + aq))) j)
 (S.sgB n3 (S.desV (Min.min nr (20)) fun j => tr (j + ar)))
 (List.length (S.grp (S.desV (Min.min nr (20)) fun j => tr (j + ar))))
 fun j =>
 S.at' (S.grp (S.desV (Min.min nr (20)) fun j => tr (j + ar))) j)))
 j))) ([Prod.fst
 (Prod.snd
 (S.mulI (S.sgB n1 (S.desV (Min.min np (20)) fun j => tp (j + ap)))
 (List.length (S.grp (S.desV (Min.min np (20)) fun j => tp (j + ap))))
 (fun j =>
 S.at' (S.grp (S.desV (Min.min np (20)) fun j => tp (j + ap))) j)
 (S.sgB n2 (S.desV (Min.min nq (20)) fun j => tq (j + aq)))
 (List.length (S.grp (S.desV (Min.min nq (20)) fun j => tq (j + aq))))
 fun j =>
 S.at' (S.grp (S.desV (Min.min nq (20)) fun j => tq (j + aq))) j)),
 Prod.fst
 (Prod.snd
 (S.mulI (S.sgB n2 (S.desV (Min.min nq (20)) fun j => tq (j + aq)))
 (List.length (S.grp (S.desV (Min.min nq (20)) fun j => tq (j + aq))))
 (fun j =>
 S.at' (S.grp (S.desV (Min.min nq (20)) fun j => tq (j + aq))) j)
 (S.sgB n1 (S.desV (Min.min np (20)) fun j => tp (j + ap)))
 (List.length (S.grp (S.desV (Min.min np (20)) fun j => tp (j + ap))))
 fun j =>
 S.at' (S.grp (S.desV (Min.min np (20)) fun j => tp (j + ap))) j)),
 Prod.fst
 (Prod.snd
 (S.mulI (S.sgB n1 (S.desV (Min.min np (20)) fun j => tp (j + ap)))
 (List.length (S.grp (S.desV (Min.min np (20)) fun j => tp (j + ap))))
 (fun j =>
 S.at' (S.grp (S.desV (Min.min np (20)) fun j => tp (j + ap))) j)
 (S.sgB n3 (S.desV (Min.min nr (20)) fun j => tr (j + ar)))
 (List.length (S.grp (S.desV (Min.min nr (20)) fun j => tr (j + ar))))
 fun j =>
 S.at' (S.grp (S.desV (Min.min nr (20)) fun j => tr (j + ar))) j)),
 Prod.fst
 (Prod.snd
 (S.mulI (S.sgB n1 (S.desV (Min.min np (20)) fun j => tp (j + ap)))
 (List.length (S.grp (S.desV (Min.min np (20)) fun j => tp (j + ap))))
 (fun j =>
 S.at' (S.grp (S.desV (Min.min np (20)) fun j => tp (j + ap))) j)
 (Prod.fst
 (S.addS (S.sgB n2 (S.desV (Min.min nq (20)) fun j => tq (j + aq)))
 (List.length (S.grp (S.desV (Min.min nq (20)) fun j => tq (j + aq))))
 (fun j =>
 S.at' (S.grp (S.desV (Min.min nq (20)) fun j => tq (j + aq))) j)
 (S.sgB n3 (S.desV (Min.min nr (20)) fun j => tr (j + ar)))
 (List.length (S.grp (S.desV (Min.min nr (20)) fun j => tr (j + ar))))
 fun j =>
 S.at' (S.grp (S.desV (Min.min nr (20)) fun j => tr (j + ar))) j))
 (List.length
 (Prod.snd
 (Prod.snd
 (S.addS (S.sgB n2 (S.desV (Min.min nq (20)) fun j => tq (j + aq)))
 (List.length (S.grp (S.desV (Min.min nq (20)) fun j => tq (j + aq))))
 (fun j =>
 S.at' (S.grp (S.desV (Min.min nq (20)) fun j => tq (j + aq))) j)
 (S.sgB n3 (S.desV (Min.min nr (20)) fun j => tr (j + ar)))
 (List.length (S.grp (S.desV (Min.min nr (20)) fun j => tr (j + ar))))
 fun j =>
 S.at' (S.grp (S.desV (Min.min nr (20)) fun j => tr (j + ar))) j))))
 fun j =>
 S.at'
 (Prod.snd
 (Prod.snd
 (S.addS (S.sgB n2 (S.desV (Min.min nq (20)) fun j => tq (j + aq)))
 (List.length (S.grp (S.desV (Min.min nq (20)) fun j => tq (j + aq))))
 (fun j =>
 S.at' (S.grp (S.desV (Min.min nq (20)) fun j => tq (j + aq))) j)
 (S.sgB n3 (S.desV (Min.min nr (20)) fun j => tr (j + ar)))
 (List.length (S.grp (S.desV (Min.min nr (20)) fun j => tr (j + ar))))
 fun j =>
 S.at' (S.grp (S.desV (Min.min nr (20)) fun j => tr (j + ar))) j)))
 j)),
 Prod.fst
 (Prod.snd
 (S.addS
 (Prod.fst
 (S.mulI (S.sgB n1 (S.desV (Min.min np (20)) fun j => tp (j + ap)))
 (List.length (S.grp (S.desV (Min.min np (20)) fun j => tp (j + ap))))
 (fun j =>
 S.at' (S.grp (S.desV (Min.min np (20)) fun j => tp (j + ap))) j)
 (S.sgB n2 (S.desV (Min.min nq (20)) fun j => tq (j + aq)))
 (List.length (S.grp (S.desV (Min.min nq (20)) fun j => tq (j + aq))))
 fun j =>
 S.at' (S.grp (S.desV (Min.min nq (20)) fun j => tq (j + aq))) j))
 (List.length
 (Prod.snd
 (Prod.snd
 (S.mulI (S.sgB n1 (S.desV (Min.min np (20)) fun j => tp (j + ap)))
 (List.length (S.grp (S.desV (Min.min np (20)) fun j => tp (j + ap))))
 (fun j =>
 S.at' (S.grp (S.desV (Min.min np (20)) fun j => tp (j + ap))) j)
 (S.sgB n2 (S.desV (Min.min nq (20)) fun j => tq (j + aq)))
 (List.length (S.grp (S.desV (Min.min nq (20)) fun j => tq (j + aq))))
 fun j =>
 S.at' (S.grp (S.desV (Min.min nq (20)) fun j => tq (j + aq))) j))))
 (fun j =>
 S.at'
 (Prod.snd
 (Prod.snd
 (S.mulI (S.sgB n1 (S.desV (Min.min np (20)) fun j => tp (j + ap)))
 (List.length (S.grp (S.desV (Min.min np (20)) fun j => tp (j + ap))))
 (fun j =>
 S.at' (S.grp (S.desV (Min.min np (20)) fun j => tp (j + ap))) j)
 (S.sgB n2 (S.desV (Min.min nq (20)) fun j => tq (j + aq)))
 (List.length (S.grp (S.desV (Min.min nq (20)) fun j => tq (j + aq))))
 fun j =>
 S.at' (S.grp (S.desV (Min.min nq (20)) fun j => tq (j + aq))) j)))
 j)
 (Prod.fst
 (S.mulI (S.sgB n1 (S.desV (Min.min np (20)) fun j => tp (j + ap)))
 (List.length (S.grp (S.desV (Min.min np (20)) fun j => tp (j + ap))))
 (fun j =>
 S.at' (S.grp (S.desV (Min.min np (20)) fun j => tp (j + ap))) j)
 (S.sgB n3 (S.desV (Min.min nr (20)) fun j => tr (j + ar)))
 (List.length (S.grp (S.desV (Min.min nr (20)) fun j => tr (j + ar))))
 fun j =>
 S.at' (S.grp (S.desV (Min.min nr (20)) fun j => tr (j + ar))) j))
 (List.length
 (Prod.snd
 (Prod.snd
 (S.mulI (S.sgB n1 (S.desV (Min.min np (20)) fun j => tp (j + ap)))
 (List.length (S.grp (S.desV (Min.min np (20)) fun j => tp (j + ap))))
 (fun j =>
 S.at' (S.grp (S.desV (Min.min np (20)) fun j => tp (j + ap))) j)
 (S.sgB n3 (S.desV (Min.min nr (20)) fun j => tr (j + ar)))
 (List.length (S.grp (S.desV (Min.min nr (20)) fun j => tr (j + ar))))
 fun j =>
 S.at' (S.grp (S.desV (Min.min nr (20)) fun j => tr (j + ar))) j))))
 fun j =>
 S.at'
 (Prod.snd
 (Prod.snd
 (S.mulI (S.sgB n1 (S.desV (Min.min np (20)) fun j => tp (j + ap)))
 (List.length (S.grp (S.desV (Min.min np (20)) fun j => tp (j + ap))))
 (fun j =>
 S.at' (S.grp (S.desV (Min.min np (20)) fun j => tp (j + ap))) j)
 (S.sgB n3 (S.desV (Min.min nr (20)) fun j => tr (j + ar)))
 (List.length (S.grp (S.desV (Min.min nr (20)) fun j => tr (j + ar))))
 fun j =>
 S.at' (S.grp (S.desV (Min.min nr (20)) fun j => tr (j + ar))) j)))
 j)),
 Prod.fst
 (Prod.snd
 (S.mulI
 (Prod.fst
 (S.mulI (S.sgB n1 (S.desV (Min.min np (20)) fun j => tp (j + ap)))
 (List.length (S.grp (S.desV (Min.min np (20)) fun j => tp (j + ap))))
 (fun j =>
 S.at' (S.grp (S.desV (Min.min np (20)) fun j => tp (j + ap))) j)
 (S.sgB n2 (S.desV (Min.min nq (20)) fun j => tq (j + aq)))
 (List.length (S.grp (S.desV (Min.min nq (20)) fun j => tq (j + aq))))
 fun j =>
 S.at' (S.grp (S.desV (Min.min nq (20)) fun j => tq (j + aq))) j))
 (List.length
 (Prod.snd
 (Prod.snd
 (S.mulI (S.sgB n1 (S.desV (Min.min np (20)) fun j => tp (j + ap)))
 (List.length (S.grp (S.desV (Min.min np (20)) fun j => tp (j + ap))))
 (fun j =>
 S.at' (S.grp (S.desV (Min.min np (20)) fun j => tp (j + ap))) j)
 (S.sgB n2 (S.desV (Min.min nq (20)) fun j => tq (j + aq)))
 (List.length (S.grp (S.desV (Min.min nq (20)) fun j => tq (j + aq))))
 fun j =>
 S.at' (S.grp (S.desV (Min.min nq (20)) fun j => tq (j + aq))) j))))
 (fun j =>
 S.at'
 (Prod.snd
 (Prod.snd
 (S.mulI (S.sgB n1 (S.desV (Min.min np (20)) fun j => tp (j + ap)))
 (List.length (S.grp (S.desV (Min.min np (20)) fun j => tp (j + ap))))
 (fun j =>
 S.at' (S.grp (S.desV (Min.min np (20)) fun j => tp (j + ap))) j)
 (S.sgB n2 (S.desV (Min.min nq (20)) fun j => tq (j + aq)))
 (List.length (S.grp (S.desV (Min.min nq (20)) fun j => tq (j + aq))))
 fun j =>
 S.at' (S.grp (S.desV (Min.min nq (20)) fun j => tq (j + aq))) j)))
 j)
 (S.sgB n3 (S.desV (Min.min nr (20)) fun j => tr (j + ar)))
 (List.length (S.grp (S.desV (Min.min nr (20)) fun j => tr (j + ar))))
 fun j =>
 S.at' (S.grp (S.desV (Min.min nr (20)) fun j => tr (j + ar))) j)),
 Prod.fst
 (Prod.snd
 (S.mulI (S.sgB n2 (S.desV (Min.min nq (20)) fun j => tq (j + aq)))
 (List.length (S.grp (S.desV (Min.min nq (20)) fun j => tq (j + aq))))
 (fun j =>
 S.at' (S.grp (S.desV (Min.min nq (20)) fun j => tq (j + aq))) j)
 (S.sgB n3 (S.desV (Min.min nr (20)) fun j => tr (j + ar)))
 (List.length (S.grp (S.desV (Min.min nr (20)) fun j => tr (j + ar))))
 fun j =>
 S.at' (S.grp (S.desV (Min.min nr (20)) fun j => tr (j + ar))) j)),
 Prod.fst
 (Prod.snd
 (S.mulI (S.sgB n1 (S.desV (Min.min np (20)) fun j => tp (j + ap)))
 (List.length (S.grp (S.desV (Min.min np (20)) fun j => tp (j + ap))))
 (fun j =>
 S.at' (S.grp (S.desV (Min.min np (20)) fun j => tp (j + ap))) j)
 (Prod.fst
 (S.mulI (S.sgB n2 (S.desV (Min.min nq (20)) fun j => tq (j + aq)))
 (List.length (S.grp (S.desV (Min.min nq (20)) fun j => tq (j + aq))))
 (fun j =>
 S.at' (S.grp (S.desV (Min.min nq (20)) fun j => tq (j + aq))) j)
 (S.sgB n3 (S.desV (Min.min nr (20)) fun j => tr (j + ar)))
 (List.length (S.grp (S.desV (Min.min nr (20)) fun j => tr (j + ar))))
 fun j =>
 S.at' (S.grp (S.desV (Min.min nr (20)) fun j => tr (j + ar))) j))
 (List.length
 (Prod.snd
 (Prod.snd
 (S.mulI (S.sgB n2 (S.desV (Min.min nq (20)) fun j => tq (j + aq)))
 (List.length (S.grp (S.desV (Min.min nq (20)) fun j => tq (j + aq))))
 (fun j =>
 S.at' (S.grp (S.desV (Min.min nq (20)) fun j => tq (j + aq))) j)
 (S.sgB n3 (S.desV (Min.min nr (20)) fun j => tr (j + ar)))
 (List.length (S.grp (S.desV (Min.min nr (20)) fun j => tr (j + ar))))
 fun j =>
 S.at' (S.grp (S.desV (Min.min nr (20)) fun j => tr (j + ar))) j))))
 fun j =>
 S.at'
 (Prod.snd
 (Prod.snd
 (S.mulI (S.sgB n2 (S.desV (Min.min nq (20)) fun j => tq (j + aq)))
 (List.length (S.grp (S.desV (Min.min nq (20)) fun j => tq (j + aq))))
 (fun j =>
 S.at' (S.grp (S.desV (Min.min nq (20)) fun j => tq (j + aq))) j)
 (S.sgB n3 (S.desV (Min.min nr (20)) fun j => tr (j + ar)))
 (List.length (S.grp (S.desV (Min.min nr (20)) fun j => tr (j + ar))))
 fun j =>
 S.at' (S.grp (S.desV (Min.min nr (20)) fun j => tr (j + ar))) j)))
 j))]))))
 else (none))
 else (none))
 else (none))
 else (none))
 else (some (.inr (false))))
 else (none))
 else (some (.inr (false))))
 else (none)))))))
 else (none))
 else (none))
 else (none))
 else (none))
 else (none))
 else (none))
 else (none))
 else (none) : Option (St7 ⊕ Rt7)) = some x) : Te7 cond Kst Kret n1 ap np mp tp n2 aq nq mq tq n3 ar nr mr tr := by
  unfold Te7
  exact cond_yes rfl (cond_yes rfl (bif_split h
   (fun c0 h => bif_split h
   (fun c1 h => bif_split h
   (fun c2 h => bif_split h
   (fun c3 h => bif_split h
   (fun c4 h => bif_split h
   (fun c5 h => bif_split h
   (fun c6 h => bif_split h
   (fun c7 h => bif_split h
   (fun c8 h => ret_at hR _ h (fun n => n) rfl rfl rfl (rn_bool_tf rfl) rfl (entl_bor (use_lo rfl) rfl rfl (entl_bor (use_lo rfl) rfl rfl (entl_bor (use_lo rfl) rfl rfl entl_nil))))
   (fun c8 h => bif_split h
   (fun c9 h => ret_at hR _ h (fun n => n) rfl rfl rfl (rn_bool_tf rfl) rfl (entl_bor (use_lo rfl) rfl rfl (entl_bor (use_lo rfl) rfl rfl (entl_bor (use_lo rfl) rfl rfl entl_nil))))
   (fun c9 h => bif_split h
   (fun c10 h => ret_at hR _ h (fun n => n) rfl rfl rfl (rn_bool_tf rfl) rfl (entl_bor (use_lo rfl) rfl rfl (entl_bor (use_lo rfl) rfl rfl (entl_bor (use_lo rfl) rfl rfl entl_nil))))
   (fun c10 h => bif_split h
   (fun c11 h => ret_at hR _ h (fun n => n) rfl rfl rfl (rn_bool_tf rfl) rfl (entl_bor (use_lo rfl) rfl rfl (entl_bor (use_lo rfl) rfl rfl (entl_bor (use_lo rfl) rfl rfl entl_nil))))
   (fun c11 h => bif_split h
   (fun c12 h => ret_at hR _ h (fun n => n) rfl rfl rfl (rn_bool_tf rfl) rfl (entl_bor (use_lo rfl) rfl rfl (entl_bor (use_lo rfl) rfl rfl (entl_bor (use_lo rfl) rfl rfl entl_nil))))
   (fun c12 h => bif_split h
   (fun c13 h => bif_split h
   (fun c14 h => bif_split h
   (fun c15 h => bif_split h
   (fun c16 h => cond_yes c3 (cond_yes c4 (bif_split h
   (fun c17 h => cond_yes c7 (bif_split h
   (fun c18 h => bif_split h
   (fun c19 h => cond_yes c5 (bif_split h
   (fun c20 h => stop_at hS _ h (fun n => bif Nat.beq n 3 then 35 else bif Nat.beq n 4 then 34 else bif Nat.beq n 5 then 38 else bif Nat.beq n 6 then 37 else bif Nat.beq n 7 then 44 else bif Nat.beq n 8 then 43 else bif Nat.beq n 9 then 47 else bif Nat.beq n 10 then 46 else bif Nat.beq n 11 then 50 else bif Nat.beq n 12 then 49 else bif Nat.beq n 13 then 56 else bif Nat.beq n 14 then 55 else bif Nat.beq n 15 then 57 else n) rfl rfl rfl ⟨(rn_ptr (use_own rfl) rfl rfl), ⟨(rn_ptr (use_own rfl) rfl rfl), ⟨(rn_ptr (use_own rfl) rfl rfl), ⟨(rn_ptr (use_own rfl) rfl rfl), ⟨(rn_ptr (use_own rfl) rfl rfl), ⟨(rn_ptr (use_own rfl) rfl rfl), ⟨(rn_own (use_own rfl) rfl rfl), ⟨(rn_int rfl), ⟨(rn_int rfl), trivial⟩⟩⟩⟩⟩⟩⟩⟩⟩ rfl (entl_b (use_own rfl) rfl (by simp) (rb_cells ⟨(rn_bool rfl), (rn_own (use_own rfl) rfl rfl), trivial⟩) (entl_new (use_own rfl) rfl (Nat.le_of_eq rfl) (rcs_int (fun _ _ => rfl) rcs_nil) (entl_b (use_own rfl) rfl (by simp) (rb_cells ⟨(rn_bool rfl), (rn_own (use_own rfl) rfl rfl), trivial⟩) (entl_new (use_own rfl) rfl (Nat.le_of_eq rfl) (rcs_int (fun _ _ => rfl) rcs_nil) (entl_b (use_own rfl) rfl (by simp) (rb_cells ⟨(rn_bool rfl), (rn_own (use_own rfl) rfl rfl), trivial⟩) (entl_new (use_own rfl) rfl (Nat.le_of_eq rfl) (rcs_int (fun _ _ => rfl) rcs_nil) (entl_b (use_own rfl) rfl (by simp) (rb_cells ⟨(rn_bool rfl), (rn_own (use_own rfl) rfl rfl), trivial⟩) (entl_new (use_own rfl) rfl (Nat.le_of_eq rfl) (rcs_int (fun _ _ => rfl) rcs_nil) (entl_b (use_own rfl) rfl (by simp) (rb_cells ⟨(rn_bool rfl), (rn_own (use_own rfl) rfl rfl), trivial⟩) (entl_new (use_own rfl) rfl (Nat.le_of_eq rfl) (rcs_int (fun _ _ => rfl) rcs_nil) (entl_b (use_own rfl) rfl (by simp) (rb_cells ⟨(rn_bool rfl), (rn_own (use_own rfl) rfl rfl), trivial⟩) (entl_new (use_own rfl) rfl (Nat.le_of_eq rfl) (rcs_int (fun _ _ => rfl) rcs_nil) (entl_b (use_own rfl) rfl (by simp) (rb_lit (fun j hj i hi => (match j, hj with | 0, _ => (match i, hi with | 0, _ => ⟨_, rfl, rn_int rfl⟩ | _ + 1, h => absurd h (by simp [lenc])) | 1, _ => (match i, hi with | 0, _ => ⟨_, rfl, rn_int rfl⟩ | _ + 1, h => absurd h (by simp [lenc])) | 2, _ => (match i, hi with | 0, _ => ⟨_, rfl, rn_int rfl⟩ | _ + 1, h => absurd h (by simp [lenc])) | 3, _ => (match i, hi with | 0, _ => ⟨_, rfl, rn_int rfl⟩ | _ + 1, h => absurd h (by simp [lenc])) | 4, _ => (match i, hi with | 0, _ => ⟨_, rfl, rn_int rfl⟩ | _ + 1, h => absurd h (by simp [lenc])) | 5, _ => (match i, hi with | 0, _ => ⟨_, rfl, rn_int rfl⟩ | _ + 1, h => absurd h (by simp [lenc])) | 6, _ => (match i, hi with | 0, _ => ⟨_, rfl, rn_int rfl⟩ | _ + 1, h => absurd h (by simp [lenc])) | 7, _ => (match i, hi with | 0, _ => ⟨_, rfl, rn_int rfl⟩ | _ + 1, h => absurd h (by simp [lenc])) | _ + 8, h => absurd h (by simp)))) (entl_bor (use_lo rfl) rfl rfl (entl_bor (use_lo rfl) rfl rfl (entl_bor (use_lo rfl) rfl rfl entl_nil)))))))))))))))))
   (fun c20 h => no_some h)))
   (fun c19 h => no_some h))
   (fun c18 h => no_some h)))
   (fun c17 h => no_some h))))
   (fun c16 h => ret_at hR _ h (fun n => n) rfl rfl rfl (rn_bool_tf rfl) rfl (entl_bor (use_lo rfl) rfl rfl (entl_bor (use_lo rfl) rfl rfl (entl_bor (use_lo rfl) rfl rfl entl_nil)))))
   (fun c15 h => no_some h))
   (fun c14 h => ret_at hR _ h (fun n => n) rfl rfl rfl (rn_bool_tf rfl) rfl (entl_bor (use_lo rfl) rfl rfl (entl_bor (use_lo rfl) rfl rfl (entl_bor (use_lo rfl) rfl rfl entl_nil)))))
   (fun c13 h => no_some h)))))))
   (fun c7 h => no_some h))
   (fun c6 h => no_some h))
   (fun c5 h => no_some h))
   (fun c4 h => no_some h))
   (fun c3 h => no_some h))
   (fun c2 h => no_some h))
   (fun c1 h => no_some h))
   (fun c0 h => no_some h)))
attribute [local irreducible] Int.subNatNat in
theorem b7_0 (n1 : Bool) (ap np mp : Nat) (tp : Nat → Int) (n2 : Bool) (aq nq mq : Nat) (tq : Nat → Int) (n3 : Bool) (ar nr mr : Nat) (tr : Nat → Int) (Kst : KS) (Kret : KR) (x : St7 ⊕ Rt7) (hS : HS 3 400 ((I7 n1 ap np mp tp n2 aq nq mq tq n3 ar nr mr tr)) Kst x) (hR : HR 3 400 ((V7 n1 ap np mp tp n2 aq nq mq tq n3 ar nr mr tr)) (fun r => [newL (3 + 1) ((N7 n1 ap np mp tp n2 aq nq mq tq n3 ar nr mr tr) r) ++ [(0, (false, .cols mp [.int .u32 tp])), (1, (false, .cols mq [.int .u32 tq])), (2, (false, .cols mr [.int .u32 tr]))]]) Kret x) (x0 : Int) (x1 x2 x3 x4 x5 x6 x7 : List Int) (h : (bif (decide (x0 < (8 : Int)))
 then (bif (decide ((0 : Int) ≤ x0 ∧ x0 < (↑(List.length x7) : Int)))
 then (bif (decide (Int.toNat x0 < List.length x7))
 then (bif (S.at' x7 (Int.toNat x0) != (0 : Int))
 then (some (.inr (false)))
 else (bif (lim IntKind.i64 (x0 + (1 : Int)))
 then (some (.inl (.h0 (x0 + (1 : Int)) (x1) (x2) (x3) (x4) (x5) (x6) (x7))))
 else (none)))
 else (none))
 else (none))
 else (bif (decide
 ((0 + List.length x1 ≤ List.length x1 ∧ List.length x1 ≤ 1000000) ∧
 0 + List.length x2 ≤ List.length x2 ∧ List.length x2 ≤ 1000000))
 then (bif (S.samI
 (Prod.fst
 (S.mulI (S.sgB n1 (S.desV (Min.min np (20)) fun j => tp (j + ap)))
 (List.length (S.grp (S.desV (Min.min np (20)) fun j => tp (j + ap))))
 (fun j =>
 S.at' (S.grp (S.desV (Min.min np (20)) fun j => tp (j + ap))) j)
 (S.sgB n2 (S.desV (Min.min nq (20)) fun j => tq (j + aq)))
 (List.length (S.grp (S.desV (Min.min nq (20)) fun j => tq (j + aq)))) fun j =>
 S.at' (S.grp (S.desV (Min.min nq (20)) fun j => tq (j + aq))) j))
 (List.length x1) (fun j => S.at' x1 j)
 (Prod.fst
 (S.mulI (S.sgB n2 (S.desV (Min.min nq (20)) fun j => tq (j + aq)))
 (List.length (S.grp (S.desV (Min.min nq (20)) fun j => tq (j + aq))))
 (fun j =>
 S.at' (S.grp (S.desV (Min.min nq (20)) fun j => tq (j + aq))) j)
 (S.sgB n1 (S.desV (Min.min np (20)) fun j => tp (j + ap)))
 (List.length (S.grp (S.desV (Min.min np (20)) fun j => tp (j + ap)))) fun j =>
 S.at' (S.grp (S.desV (Min.min np (20)) fun j => tp (j + ap))) j))
 (List.length x2) fun j => S.at' x2 j)
 then (bif (decide
 ((0 + List.length x3 ≤ List.length x3 ∧ List.length x3 ≤ 1000000) ∧
 0 + List.length x4 ≤ List.length x4 ∧ List.length x4 ≤ 1000000))
 then (bif (S.samI
 (Prod.fst
 (S.mulI (S.sgB n1 (S.desV (Min.min np (20)) fun j => tp (j + ap)))
 (List.length (S.grp (S.desV (Min.min np (20)) fun j => tp (j + ap))))
 (fun j =>
 S.at' (S.grp (S.desV (Min.min np (20)) fun j => tp (j + ap))) j)
 (Prod.fst
 (S.addS (S.sgB n2 (S.desV (Min.min nq (20)) fun j => tq (j + aq)))
 (List.length (S.grp (S.desV (Min.min nq (20)) fun j => tq (j + aq))))
 (fun j =>
 S.at' (S.grp (S.desV (Min.min nq (20)) fun j => tq (j + aq))) j)
 (S.sgB n3 (S.desV (Min.min nr (20)) fun j => tr (j + ar)))
 (List.length (S.grp (S.desV (Min.min nr (20)) fun j => tr (j + ar))))
 fun j =>
 S.at' (S.grp (S.desV (Min.min nr (20)) fun j => tr (j + ar))) j))
 (List.length
 (Prod.snd
 (Prod.snd
 (S.addS (S.sgB n2 (S.desV (Min.min nq (20)) fun j => tq (j + aq)))
 (List.length (S.grp (S.desV (Min.min nq (20)) fun j => tq (j + aq))))
 (fun j =>
 S.at' (S.grp (S.desV (Min.min nq (20)) fun j => tq (j + aq))) j)
 (S.sgB n3 (S.desV (Min.min nr (20)) fun j => tr (j + ar)))
 (List.length (S.grp (S.desV (Min.min nr (20)) fun j => tr (j + ar))))
 fun j =>
 S.at' (S.grp (S.desV (Min.min nr (20)) fun j => tr (j + ar))) j))))
 fun j =>
 S.at'
 (Prod.snd
 (Prod.snd
 (S.addS (S.sgB n2 (S.desV (Min.min nq (20)) fun j => tq (j + aq)))
 (List.length (S.grp (S.desV (Min.min nq (20)) fun j => tq (j + aq))))
 (fun j =>
 S.at' (S.grp (S.desV (Min.min nq (20)) fun j => tq (j + aq))) j)
 (S.sgB n3 (S.desV (Min.min nr (20)) fun j => tr (j + ar)))
 (List.length (S.grp (S.desV (Min.min nr (20)) fun j => tr (j + ar))))
 fun j =>
 S.at' (S.grp (S.desV (Min.min nr (20)) fun j => tr (j + ar))) j)))
 j))
 (List.length x3) (fun j => S.at' x3 j)
 (Prod.fst
 (S.addS
 (Prod.fst
 (S.mulI (S.sgB n1 (S.desV (Min.min np (20)) fun j => tp (j + ap)))
 (List.length (S.grp (S.desV (Min.min np (20)) fun j => tp (j + ap))))
 (fun j =>
 S.at' (S.grp (S.desV (Min.min np (20)) fun j => tp (j + ap))) j)
 (S.sgB n2 (S.desV (Min.min nq (20)) fun j => tq (j + aq)))
 (List.length (S.grp (S.desV (Min.min nq (20)) fun j => tq (j + aq))))
 fun j =>
 S.at' (S.grp (S.desV (Min.min nq (20)) fun j => tq (j + aq))) j))
 (List.length
 (Prod.snd
 (Prod.snd
 (S.mulI (S.sgB n1 (S.desV (Min.min np (20)) fun j => tp (j + ap)))
 (List.length (S.grp (S.desV (Min.min np (20)) fun j => tp (j + ap))))
 (fun j =>
 S.at' (S.grp (S.desV (Min.min np (20)) fun j => tp (j + ap))) j)
 (S.sgB n2 (S.desV (Min.min nq (20)) fun j => tq (j + aq)))
 (List.length (S.grp (S.desV (Min.min nq (20)) fun j => tq (j + aq))))
 fun j =>
 S.at' (S.grp (S.desV (Min.min nq (20)) fun j => tq (j + aq))) j))))
 (fun j =>
 S.at'
 (Prod.snd
 (Prod.snd
 (S.mulI (S.sgB n1 (S.desV (Min.min np (20)) fun j => tp (j + ap)))
 (List.length (S.grp (S.desV (Min.min np (20)) fun j => tp (j + ap))))
 (fun j =>
 S.at' (S.grp (S.desV (Min.min np (20)) fun j => tp (j + ap))) j)
 (S.sgB n2 (S.desV (Min.min nq (20)) fun j => tq (j + aq)))
 (List.length (S.grp (S.desV (Min.min nq (20)) fun j => tq (j + aq))))
 fun j =>
 S.at' (S.grp (S.desV (Min.min nq (20)) fun j => tq (j + aq))) j)))
 j)
 (Prod.fst
 (S.mulI (S.sgB n1 (S.desV (Min.min np (20)) fun j => tp (j + ap)))
 (List.length (S.grp (S.desV (Min.min np (20)) fun j => tp (j + ap))))
 (fun j =>
 S.at' (S.grp (S.desV (Min.min np (20)) fun j => tp (j + ap))) j)
 (S.sgB n3 (S.desV (Min.min nr (20)) fun j => tr (j + ar)))
 (List.length (S.grp (S.desV (Min.min nr (20)) fun j => tr (j + ar))))
 fun j =>
 S.at' (S.grp (S.desV (Min.min nr (20)) fun j => tr (j + ar))) j))
 (List.length
 (Prod.snd
 (Prod.snd
 (S.mulI (S.sgB n1 (S.desV (Min.min np (20)) fun j => tp (j + ap)))
 (List.length (S.grp (S.desV (Min.min np (20)) fun j => tp (j + ap))))
 (fun j =>
 S.at' (S.grp (S.desV (Min.min np (20)) fun j => tp (j + ap))) j)
 (S.sgB n3 (S.desV (Min.min nr (20)) fun j => tr (j + ar)))
 (List.length (S.grp (S.desV (Min.min nr (20)) fun j => tr (j + ar))))
 fun j =>
 S.at' (S.grp (S.desV (Min.min nr (20)) fun j => tr (j + ar))) j))))
 fun j =>
 S.at'
 (Prod.snd
 (Prod.snd
 (S.mulI (S.sgB n1 (S.desV (Min.min np (20)) fun j => tp (j + ap)))
 (List.length (S.grp (S.desV (Min.min np (20)) fun j => tp (j + ap))))
 (fun j =>
 S.at' (S.grp (S.desV (Min.min np (20)) fun j => tp (j + ap))) j)
 (S.sgB n3 (S.desV (Min.min nr (20)) fun j => tr (j + ar)))
 (List.length (S.grp (S.desV (Min.min nr (20)) fun j => tr (j + ar))))
 fun j =>
 S.at' (S.grp (S.desV (Min.min nr (20)) fun j => tr (j + ar))) j)))
 j))
 (List.length x4) fun j => S.at' x4 j)
 then (bif (decide
 ((0 + List.length x5 ≤ List.length x5 ∧ List.length x5 ≤ 1000000) ∧
 0 + List.length x6 ≤ List.length x6 ∧ List.length x6 ≤ 1000000))
 then (bif (S.samI
 (Prod.fst
 (S.mulI
 (Prod.fst
 (S.mulI (S.sgB n1 (S.desV (Min.min np (20)) fun j => tp (j + ap)))
 (List.length (S.grp (S.desV (Min.min np (20)) fun j => tp (j + ap))))
 (fun j =>
 S.at' (S.grp (S.desV (Min.min np (20)) fun j => tp (j + ap))) j)
 (S.sgB n2 (S.desV (Min.min nq (20)) fun j => tq (j + aq)))
 (List.length (S.grp (S.desV (Min.min nq (20)) fun j => tq (j + aq))))
 fun j =>
 S.at' (S.grp (S.desV (Min.min nq (20)) fun j => tq (j + aq))) j))
 (List.length
 (Prod.snd
 (Prod.snd
 (S.mulI (S.sgB n1 (S.desV (Min.min np (20)) fun j => tp (j + ap)))
 (List.length (S.grp (S.desV (Min.min np (20)) fun j => tp (j + ap))))
 (fun j =>
 S.at' (S.grp (S.desV (Min.min np (20)) fun j => tp (j + ap))) j)
 (S.sgB n2 (S.desV (Min.min nq (20)) fun j => tq (j + aq)))
 (List.length (S.grp (S.desV (Min.min nq (20)) fun j => tq (j + aq))))
 fun j =>
 S.at' (S.grp (S.desV (Min.min nq (20)) fun j => tq (j + aq))) j))))
 (fun j =>
 S.at'
 (Prod.snd
 (Prod.snd
 (S.mulI (S.sgB n1 (S.desV (Min.min np (20)) fun j => tp (j + ap)))
 (List.length (S.grp (S.desV (Min.min np (20)) fun j => tp (j + ap))))
 (fun j =>
 S.at' (S.grp (S.desV (Min.min np (20)) fun j => tp (j + ap))) j)
 (S.sgB n2 (S.desV (Min.min nq (20)) fun j => tq (j + aq)))
 (List.length (S.grp (S.desV (Min.min nq (20)) fun j => tq (j + aq))))
 fun j =>
 S.at' (S.grp (S.desV (Min.min nq (20)) fun j => tq (j + aq))) j)))
 j)
 (S.sgB n3 (S.desV (Min.min nr (20)) fun j => tr (j + ar)))
 (List.length (S.grp (S.desV (Min.min nr (20)) fun j => tr (j + ar)))) fun j =>
 S.at' (S.grp (S.desV (Min.min nr (20)) fun j => tr (j + ar))) j))
 (List.length x5) (fun j => S.at' x5 j)
 (Prod.fst
 (S.mulI (S.sgB n1 (S.desV (Min.min np (20)) fun j => tp (j + ap)))
 (List.length (S.grp (S.desV (Min.min np (20)) fun j => tp (j + ap))))
 (fun j =>
 S.at' (S.grp (S.desV (Min.min np (20)) fun j => tp (j + ap))) j)
 (Prod.fst
 (S.mulI (S.sgB n2 (S.desV (Min.min nq (20)) fun j => tq (j + aq)))
 (List.length (S.grp (S.desV (Min.min nq (20)) fun j => tq (j + aq))))
 (fun j =>
 S.at' (S.grp (S.desV (Min.min nq (20)) fun j => tq (j + aq))) j)
 (S.sgB n3 (S.desV (Min.min nr (20)) fun j => tr (j + ar)))
 (List.length (S.grp (S.desV (Min.min nr (20)) fun j => tr (j + ar))))
 fun j =>
 S.at' (S.grp (S.desV (Min.min nr (20)) fun j => tr (j + ar))) j))
 (List.length
 (Prod.snd
 (Prod.snd
 (S.mulI (S.sgB n2 (S.desV (Min.min nq (20)) fun j => tq (j + aq)))
 (List.length (S.grp (S.desV (Min.min nq (20)) fun j => tq (j + aq))))
 (fun j =>
 S.at' (S.grp (S.desV (Min.min nq (20)) fun j => tq (j + aq))) j)
 (S.sgB n3 (S.desV (Min.min nr (20)) fun j => tr (j + ar)))
 (List.length (S.grp (S.desV (Min.min nr (20)) fun j => tr (j + ar))))
 fun j =>
 S.at' (S.grp (S.desV (Min.min nr (20)) fun j => tr (j + ar))) j))))
 fun j =>
 S.at'
 (Prod.snd
 (Prod.snd
 (S.mulI (S.sgB n2 (S.desV (Min.min nq (20)) fun j => tq (j + aq)))
 (List.length (S.grp (S.desV (Min.min nq (20)) fun j => tq (j + aq))))
 (fun j =>
 S.at' (S.grp (S.desV (Min.min nq (20)) fun j => tq (j + aq))) j)
 (S.sgB n3 (S.desV (Min.min nr (20)) fun j => tr (j + ar)))
 (List.length (S.grp (S.desV (Min.min nr (20)) fun j => tr (j + ar))))
 fun j =>
 S.at' (S.grp (S.desV (Min.min nr (20)) fun j => tr (j + ar))) j)))
 j))
 (List.length x6) fun j => S.at' x6 j)
 then (some (.inr (true)))
 else (some (.inr (false))))
 else (none))
 else (some (.inr (false))))
 else (none))
 else (some (.inr (false))))
 else (none)) : Option (St7 ⊕ Rt7)) = some x) : T7_0 cond Kst Kret n1 ap np mp tp n2 aq nq mq tq n3 ar nr mr tr x0 x1 x2 x3 x4 x5 x6 x7 := by
  unfold T7_0
  refine bif_split h
   (fun c0 h => bif_split h
   (fun c1 h => bif_split h
   (fun c2 h => bif_split h
   (fun c3 h => ?_)
   (fun c3 h => bif_split h
   (fun c4 h => stop_at hS _ h (fun n => bif Nat.beq n 3 then 3 else bif Nat.beq n 4 then 4 else bif Nat.beq n 5 then 5 else bif Nat.beq n 6 then 6 else bif Nat.beq n 7 then 7 else bif Nat.beq n 8 then 8 else bif Nat.beq n 9 then 9 else bif Nat.beq n 10 then 10 else bif Nat.beq n 11 then 11 else bif Nat.beq n 12 then 12 else bif Nat.beq n 13 then 13 else bif Nat.beq n 14 then 14 else bif Nat.beq n 15 then 15 else n) rfl rfl rfl ⟨(rn_ptr (use_own rfl) rfl rfl), ⟨(rn_ptr (use_own rfl) rfl rfl), ⟨(rn_ptr (use_own rfl) rfl rfl), ⟨(rn_ptr (use_own rfl) rfl rfl), ⟨(rn_ptr (use_own rfl) rfl rfl), ⟨(rn_ptr (use_own rfl) rfl rfl), ⟨(rn_own (use_own rfl) rfl rfl), ⟨(rn_int rfl), ⟨(rn_int rfl), trivial⟩⟩⟩⟩⟩⟩⟩⟩⟩ rfl (entl_b (use_own rfl) rfl (by simp) (rb_cells ⟨(rn_bool rfl), (rn_own (use_own rfl) rfl rfl), trivial⟩) (entl_new (use_own rfl) rfl (Nat.le_of_eq rfl) (rcs_int (fun _ _ => rfl) rcs_nil) (entl_b (use_own rfl) rfl (by simp) (rb_cells ⟨(rn_bool rfl), (rn_own (use_own rfl) rfl rfl), trivial⟩) (entl_new (use_own rfl) rfl (Nat.le_of_eq rfl) (rcs_int (fun _ _ => rfl) rcs_nil) (entl_b (use_own rfl) rfl (by simp) (rb_cells ⟨(rn_bool rfl), (rn_own (use_own rfl) rfl rfl), trivial⟩) (entl_new (use_own rfl) rfl (Nat.le_of_eq rfl) (rcs_int (fun _ _ => rfl) rcs_nil) (entl_b (use_own rfl) rfl (by simp) (rb_cells ⟨(rn_bool rfl), (rn_own (use_own rfl) rfl rfl), trivial⟩) (entl_new (use_own rfl) rfl (Nat.le_of_eq rfl) (rcs_int (fun _ _ => rfl) rcs_nil) (entl_b (use_own rfl) rfl (by simp) (rb_cells ⟨(rn_bool rfl), (rn_own (use_own rfl) rfl rfl), trivial⟩) (entl_new (use_own rfl) rfl (Nat.le_of_eq rfl) (rcs_int (fun _ _ => rfl) rcs_nil) (entl_b (use_own rfl) rfl (by simp) (rb_cells ⟨(rn_bool rfl), (rn_own (use_own rfl) rfl rfl), trivial⟩) (entl_new (use_own rfl) rfl (Nat.le_of_eq rfl) (rcs_int (fun _ _ => rfl) rcs_nil) (entl_new (use_own rfl) rfl (Nat.le_of_eq rfl) (rcs_int (fun _ _ => rfl) rcs_nil) (entl_bor (use_lo rfl) rfl rfl (entl_bor (use_lo rfl) rfl rfl (entl_bor (use_lo rfl) rfl rfl entl_nil)))))))))))))))))
   (fun c4 h => ?_)))
   (fun c2 h => ?_))
   (fun c1 h => ?_))
   (fun c0 h => bif_split h
   (fun c1 h => bif_split h
   (fun c2 h => bif_split h
   (fun c3 h => bif_split h
   (fun c4 h => bif_split h
   (fun c5 h => bif_split h
   (fun c6 h => ?_)
   (fun c6 h => ?_))
   (fun c5 h => ?_))
   (fun c4 h => ?_))
   (fun c3 h => ?_))
   (fun c2 h => ?_))
   (fun c1 h => ?_))
  all_goals first
    | exact no_some h
    | exact ret_at hR _ h (fun n => n) rfl rfl rfl (rn_bool_tf rfl) rfl (entl_bor (use_lo rfl) rfl rfl (entl_bor (use_lo rfl) rfl rfl (entl_bor (use_lo rfl) rfl rfl entl_nil)))
theorem a7 (n1 : Bool) (ap np mp : Nat) (tp : Nat → Int) (n2 : Bool) (aq nq mq : Nat) (tq : Nat → Int) (n3 : Bool) (ar nr mr : Nat) (tr : Nat → Int) {r : Rt7} (h : Goes ((q7 n1 ap np mp tp n2 aq nq mq tq n3 ar nr mr tr)) ((p7 n1 ap np mp tp n2 aq nq mq tq n3 ar nr mr tr)) r) : CallR Tryd.prog 7 [.agg [.bool n1, .loose ⟨0, 1, ap, 0⟩ np], .agg [.bool n2, .loose ⟨1, 1, aq, 0⟩ nq], .agg [.bool n3, .loose ⟨2, 1, ar, 0⟩ nr]] [[(0, (false, .cols mp [.int .u32 tp])), (1, (false, .cols mq [.int .u32 tq])), (2, (false, .cols mr [.int .u32 tr]))]] 3 ((V7 n1 ap np mp tp n2 aq nq mq tq n3 ar nr mr tr) r) ((fun r => [newL (3 + 1) ((N7 n1 ap np mp tp n2 aq nq mq tq n3 ar nr mr tr) r) ++ [(0, (false, .cols mp [.int .u32 tp])), (1, (false, .cols mq [.int .u32 tq])), (2, (false, .cols mr [.int .u32 tr]))]]) r) 400 ∧ ∃ F, Tryd.prog.funcs[7]? = some F ∧ F.body.isSome = true ∧ (F.name == "runtime.NumGoroutine") = false := by
  refine dec_calls (f := 7) (lo := 3) (hi := 400) (H := [[(0, (false, .cols mp [.int .u32 tp])), (1, (false, .cols mq [.int .u32 tq])), (2, (false, .cols mr [.int .u32 tr]))]]) (args := [.agg [.bool n1, .loose ⟨0, 1, ap, 0⟩ np], .agg [.bool n2, .loose ⟨1, 1, aq, 0⟩ nq], .agg [.bool n3, .loose ⟨2, 1, ar, 0⟩ nr]]) Tryd.envOk Tryd.mixed xR_ok ((I7 n1 ap np mp tp n2 aq nq mq tq n3 ar nr mr tr)) ((V7 n1 ap np mp tp n2 aq nq mq tq n3 ar nr mr tr)) (fun r => [newL (3 + 1) ((N7 n1 ap np mp tp n2 aq nq mq tq n3 ar nr mr tr) r) ++ [(0, (false, .cols mp [.int .u32 tp])), (1, (false, .cols mq [.int .u32 tq])), (2, (false, .cols mr [.int .u32 tr]))]]) (fn := mkFn Tryd.f7) (ts := [20, 22, 26, 28, 30, 34, 162, 163, 164]) (n := 400) rfl (by decide) (by simp) (names_of rfl) ?_ ?_ ?_ h
  · intro s; cases s <;> exact ⟨hd_ok _ _, by simp [I7], names_of rfl, Nat.le_of_ble_eq_true rfl⟩
  · intro Kst Kret x hS hR h
    exact Holds.eq (te7 cond Kst Kret n1 ap np mp tp n2 aq nq mq tq n3 ar nr mr tr) (be7 n1 ap np mp tp n2 aq nq mq tq n3 ar nr mr tr Kst Kret x hS hR h)
  · intro Kst Kret x hS hR s h
    cases s with
    | h0 x0 x1 x2 x3 x4 x5 x6 x7 => exact Holds.eq (t7_0 cond Kst Kret n1 ap np mp tp n2 aq nq mq tq n3 ar nr mr tr x0 x1 x2 x3 x4 x5 x6 x7) (b7_0 n1 ap np mp tp n2 aq nq mq tq n3 ar nr mr tr Kst Kret x hS hR x0 x1 x2 x3 x4 x5 x6 x7 h)
noncomputable def k7  : Con := ⟨7, [.agg [.plain (.bool), .list [.int .u32]], .agg [.plain (.bool), .list [.int .u32]], .agg [.plain (.bool), .list [.int .u32]]], fun (x : (Bool × (Nat × Nat × Nat × (Nat → Int) × Unit) × Unit) × (Bool × (Nat × Nat × Nat × (Nat → Int) × Unit) × Unit) × (Bool × (Nat × Nat × Nat × (Nat → Int) × Unit) × Unit) × Unit) => (fun (n1 : Bool) (ap np mp : Nat) (tp : Nat → Int) (n2 : Bool) (aq nq mq : Nat) (tq : Nat → Int) (n3 : Bool) (ar nr mr : Nat) (tr : Nat → Int) => decide ((ap + np ≤ mp ∧ S.u32B (fun j => tp (j + ap)) np = true) ∧ (aq + nq ≤ mq ∧ S.u32B (fun j => tq (j + aq)) nq = true) ∧ ar + nr ≤ mr ∧ S.u32B (fun j => tr (j + ar)) nr = true)) x.1.1 x.1.2.1.1 x.1.2.1.2.1 x.1.2.1.2.2.1 x.1.2.1.2.2.2.1 x.2.1.1 x.2.1.2.1.1 x.2.1.2.1.2.1 x.2.1.2.1.2.2.1 x.2.1.2.1.2.2.2.1 x.2.2.1.1 x.2.2.1.2.1.1 x.2.2.1.2.1.2.1 x.2.2.1.2.1.2.2.1 x.2.2.1.2.1.2.2.2.1, fun (x : (Bool × (Nat × Nat × Nat × (Nat → Int) × Unit) × Unit) × (Bool × (Nat × Nat × Nat × (Nat → Int) × Unit) × Unit) × (Bool × (Nat × Nat × Nat × (Nat → Int) × Unit) × Unit) × Unit) => (fun (n1 : Bool) (ap np mp : Nat) (tp : Nat → Int) (n2 : Bool) (aq nq mq : Nat) (tq : Nat → Int) (n3 : Bool) (ar nr mr : Nat) (tr : Nat → Int) => (V7 n1 ap np mp tp n2 aq nq mq tq n3 ar nr mr tr) (true)) x.1.1 x.1.2.1.1 x.1.2.1.2.1 x.1.2.1.2.2.1 x.1.2.1.2.2.2.1 x.2.1.1 x.2.1.2.1.1 x.2.1.2.1.2.1 x.2.1.2.1.2.2.1 x.2.1.2.1.2.2.2.1 x.2.2.1.1 x.2.2.1.2.1.1 x.2.2.1.2.1.2.1 x.2.2.1.2.1.2.2.1 x.2.2.1.2.1.2.2.2.1, fun (x : (Bool × (Nat × Nat × Nat × (Nat → Int) × Unit) × Unit) × (Bool × (Nat × Nat × Nat × (Nat → Int) × Unit) × Unit) × (Bool × (Nat × Nat × Nat × (Nat → Int) × Unit) × Unit) × Unit) => (fun (n1 : Bool) (ap np mp : Nat) (tp : Nat → Int) (n2 : Bool) (aq nq mq : Nat) (tq : Nat → Int) (n3 : Bool) (ar nr mr : Nat) (tr : Nat → Int) => (N7 n1 ap np mp tp n2 aq nq mq tq n3 ar nr mr tr) (true)) x.1.1 x.1.2.1.1 x.1.2.1.2.1 x.1.2.1.2.2.1 x.1.2.1.2.2.2.1 x.2.1.1 x.2.1.2.1.1 x.2.1.2.1.2.1 x.2.1.2.1.2.2.1 x.2.1.2.1.2.2.2.1 x.2.2.1.1 x.2.2.1.2.1.1 x.2.2.1.2.1.2.1 x.2.2.1.2.1.2.2.1 x.2.2.1.2.1.2.2.2.1, fun _ _ => .dead⟩
theorem s7' (n1 : Bool) (ap np mp : Nat) (tp : Nat → Int) (n2 : Bool) (aq nq mq : Nat) (tq : Nat → Int) (n3 : Bool) (ar nr mr : Nat) (tr : Nat → Int) (a b c : Int) (ha : (a.natAbs : Int) < S.pw 20) (hb : (b.natAbs : Int) < S.pw 20) (hc : (c.natAbs : Int) < S.pw 20) (sA : S.sgB n1 (S.desV (min np 20) (fun j => tp (j + ap))) = decide (a < 0)) (sB : S.sgB n2 (S.desV (min nq 20) (fun j => tq (j + aq))) = decide (b < 0)) (sC : S.sgB n3 (S.desV (min nr 20) (fun j => tr (j + ar))) = decide (c < 0)) (gA : S.grp (S.desV (min np 20) (fun j => tp (j + ap))) = (S.grp ((a).natAbs : Int))) (gB : S.grp (S.desV (min nq 20) (fun j => tq (j + aq))) = (S.grp ((b).natAbs : Int))) (gC : S.grp (S.desV (min nr 20) (fun j => tr (j + ar))) = (S.grp ((c).natAbs : Int))) : ∀ k i : Nat, i + k = 8 → Comes (q7 n1 ap np mp tp n2 aq nq mq tq n3 ar nr mr tr) (.h0 (i : Int) (S.grp ((a * b).natAbs : Int)) (S.grp ((a * b).natAbs : Int)) (S.grp ((a * b + a * c).natAbs : Int)) (S.grp ((a * b + a * c).natAbs : Int)) (S.grp ((a * b * c).natAbs : Int)) (S.grp ((a * b * c).natAbs : Int)) [0, 0, 0, 0, 0, 0, 0, 0]) true := by
  have u20 : ∀ {v : Int}, (v.natAbs : Int) < S.pw 20 → (v.natAbs : Int) < S.pw 80 := fun h => abs_up h (by decide)
  have kab := abs_addE (l := 21) ha hb rfl
  have kbc := abs_addE (l := 21) hb hc rfl
  have kabc := abs_addE (l := 22) kab (abs_up hc (m := 21) (by decide)) rfl
  have mab := abs_mulE (l := 40) ha hb rfl
  have mac := abs_mulE (l := 40) ha hc rfl
  have mbc := abs_mulE (l := 40) hb hc rfl
  have msum := abs_addE (l := 41) mab mac rfl
  have mabc := abs_mulE (l := 60) mab hc rfl
  have e1 := addS_I (u20 ha) (u20 hb) rfl (abs_up kab (by decide))
  have e2 := addS_I (u20 hb) (u20 ha) (Int.add_comm b a) (abs_up kab (by decide))
  have e3 := addS_I (u20 hb) (u20 hc) rfl (abs_up kbc (by decide))
  have e4 := addS_I (abs_up kab (by decide)) (u20 hc) rfl (abs_up kabc (by decide))
  have e5 := addS_I (u20 ha) (abs_up kbc (by decide)) (Int.add_assoc a b c).symm (abs_up kabc (by decide))
  have f1 := mulI_I (u20 ha) (u20 hb) rfl (abs_up mab (by decide))
  have f2 := mulI_I (u20 hb) (u20 ha) (Int.mul_comm b a) (abs_up mab (by decide))
  have f3 := mulI_I (u20 ha) (u20 hc) rfl (abs_up mac (by decide))
  have f4 := mulI_I (u20 hb) (u20 hc) rfl (abs_up mbc (by decide))
  have f5 := mulI_I (u20 ha) (abs_up kbc (by decide)) (Int.mul_add a b c) (abs_up msum (by decide))
  have f6 := addS_I (abs_up mab (by decide)) (abs_up mac (by decide)) rfl (abs_up msum (by decide))
  have f7 := mulI_I (abs_up mab (by decide)) (u20 hc) rfl (abs_up mabc (by decide))
  have f8 := mulI_I (u20 ha) (abs_up mbc (by decide)) (Int.mul_assoc a b c).symm (abs_up mabc (by decide))
  have l1 := len_I ha (by decide)
  have l2 := len_I hb (by decide)
  have l3 := len_I hc (by decide)
  have l4 := len_I kab (by decide)
  have l5 := len_I kbc (by decide)
  have l6 := len_I kabc (by decide)
  have l7 := len_I mab (by decide)
  have l8 := len_I mac (by decide)
  have l9 := len_I mbc (by decide)
  have l10 := len_I msum (by decide)
  have l11 := len_I mabc (by decide)
  intro k
  induction k with
  | zero =>
    intro i hi
    obtain rfl : i = 8 := by omega
    apply Comes.of
    show Goes _ _ _
    rw [q7]
    simp only [sA, sB, sC, gA, gB, gC, e1, e2, e3, e4, e5, f1, f2, f3, f4, f5, f6, f7, f8]
    repeat' first
      | with_reducible exact goes_inr.mpr rfl
      | (refine goes_ok ?_ ?_; focus (first | with_reducible exact beq_self_eq_true _ | (simp only [Bool.and_eq_true, decide_eq_true_eq, and_self, eq_self]; done) | with_reducible exact decide_eq_true trivial | with_reducible exact decide_eq_true rfl | (simp only [eq_self, decide_true, Bool.and_self, Bool.and_true, Bool.true_and]; done) | (apply decide_eq_true; omega) | (rw [lim64]; apply decide_eq_true; omega) | (apply decide_eq_true; simp only [mkl_len, mkl_zero, List.length_nil, true_and, and_true, and_self, Nat.zero_add, Nat.add_zero, Nat.le_refl]; done) | (apply decide_eq_true; simp only [mkl_len, mkl_zero, List.length_nil, true_and, and_true, and_self, Nat.zero_add, Nat.add_zero, Nat.le_refl]; omega) | decide | exact samI_self))
      | (refine goes_no ?_ ?_; focus (first | with_reducible exact bne_self_eq_false _ | (apply decide_eq_false; omega) | decide | (apply decide_eq_false; decide)))

  | succ k ih =>
    intro i hi
    have ih := ih (i + 1) (by omega)
    have ei : ((i + 1 : Nat) : Int) = (i : Int) + 1 := by omega
    rw [ei] at ih
    have z := zero8 i (by omega)
    have hl : [(0 : Int), 0, 0, 0, 0, 0, 0, 0].length = 8 := rfl
    apply Comes.of
    show Goes _ _ _
    rw [q7]
    simp only [hl, Int.toNat_natCast, z]
    repeat' first
      | with_reducible exact ih
      | (with_reducible refine goes_ok ?_ ?_; focus (first | (apply decide_eq_true; omega) | (rw [lim64]; apply decide_eq_true; omega)))
      | (with_reducible refine goes_no ?_ ?_; focus (first | with_reducible exact bne_self_eq_false _ | (rw [z]; with_reducible exact bne_self_eq_false _) | (simp [z]; done)))
    trace_state
    exact ih
theorem s7 (n1 : Bool) (ap np mp : Nat) (tp : Nat → Int) (n2 : Bool) (aq nq mq : Nat) (tq : Nat → Int) (n3 : Bool) (ar nr mr : Nat) (tr : Nat → Int) (hp : (ap + np ≤ mp ∧ S.u32B (fun j => tp (j + ap)) np = true) ∧ (aq + nq ≤ mq ∧ S.u32B (fun j => tq (j + aq)) nq = true) ∧ ar + nr ≤ mr ∧ S.u32B (fun j => tr (j + ar)) nr = true) : Goes ((q7 n1 ap np mp tp n2 aq nq mq tq n3 ar nr mr tr)) ((p7 n1 ap np mp tp n2 aq nq mq tq n3 ar nr mr tr)) (true) := by
  obtain ⟨p1, p2, p3⟩ := hp
  obtain ⟨sA, gA⟩ := des_I (ng := n1) (V := (S.desV (min np 20) (fun j => tp (j + ap)))) desV_nn
  obtain ⟨sB, gB⟩ := des_I (ng := n2) (V := (S.desV (min nq 20) (fun j => tq (j + aq)))) desV_nn
  obtain ⟨sC, gC⟩ := des_I (ng := n3) (V := (S.desV (min nr 20) (fun j => tr (j + ar)))) desV_nn
  have bd : ∀ (ng : Bool) (V : Int), 0 ≤ V → V < S.pw 20 → ((S.sv ng V).natAbs : Int) < S.pw 20 := fun ng V h1 h2 => by rw [sv_abs]; omega
  have ha := bd n1 (S.desV (min np 20) (fun j => tp (j + ap))) desV_nn (desV_lt (by omega))
  have hb := bd n2 (S.desV (min nq 20) (fun j => tq (j + aq))) desV_nn (desV_lt (by omega))
  have hc := bd n3 (S.desV (min nr 20) (fun j => tr (j + ar))) desV_nn (desV_lt (by omega))
  generalize S.sv n1 (S.desV (min np 20) (fun j => tp (j + ap))) = a at *
  generalize S.sv n2 (S.desV (min nq 20) (fun j => tq (j + aq))) = b at *
  generalize S.sv n3 (S.desV (min nr 20) (fun j => tr (j + ar))) = c at *
  have hm := s7' n1 ap np mp tp n2 aq nq mq tq n3 ar nr mr tr a b c ha hb hc sA sB sC gA gB gC 8 0 rfl
  have u20 : ∀ {v : Int}, (v.natAbs : Int) < S.pw 20 → (v.natAbs : Int) < S.pw 80 := fun h => abs_up h (by decide)
  have kab := abs_addE (l := 21) ha hb rfl
  have kbc := abs_addE (l := 21) hb hc rfl
  have kabc := abs_addE (l := 22) kab (abs_up hc (m := 21) (by decide)) rfl
  have mab := abs_mulE (l := 40) ha hb rfl
  have mac := abs_mulE (l := 40) ha hc rfl
  have mbc := abs_mulE (l := 40) hb hc rfl
  have msum := abs_addE (l := 41) mab mac rfl
  have mabc := abs_mulE (l := 60) mab hc rfl
  have e1 := addS_I (u20 ha) (u20 hb) rfl (abs_up kab (by decide))
  have e2 := addS_I (u20 hb) (u20 ha) (Int.add_comm b a) (abs_up kab (by decide))
  have e3 := addS_I (u20 hb) (u20 hc) rfl (abs_up kbc (by decide))
  have e4 := addS_I (abs_up kab (by decide)) (u20 hc) rfl (abs_up kabc (by decide))
  have e5 := addS_I (u20 ha) (abs_up kbc (by decide)) (Int.add_assoc a b c).symm (abs_up kabc (by decide))
  have f1 := mulI_I (u20 ha) (u20 hb) rfl (abs_up mab (by decide))
  have f2 := mulI_I (u20 hb) (u20 ha) (Int.mul_comm b a) (abs_up mab (by decide))
  have f3 := mulI_I (u20 ha) (u20 hc) rfl (abs_up mac (by decide))
  have f4 := mulI_I (u20 hb) (u20 hc) rfl (abs_up mbc (by decide))
  have f5 := mulI_I (u20 ha) (abs_up kbc (by decide)) (Int.mul_add a b c) (abs_up msum (by decide))
  have f6 := addS_I (abs_up mab (by decide)) (abs_up mac (by decide)) rfl (abs_up msum (by decide))
  have f7 := mulI_I (abs_up mab (by decide)) (u20 hc) rfl (abs_up mabc (by decide))
  have f8 := mulI_I (u20 ha) (abs_up mbc (by decide)) (Int.mul_assoc a b c).symm (abs_up mabc (by decide))
  have l1 := len_I ha (by decide)
  have l2 := len_I hb (by decide)
  have l3 := len_I hc (by decide)
  have l4 := len_I kab (by decide)
  have l5 := len_I kbc (by decide)
  have l6 := len_I kabc (by decide)
  have l7 := len_I mab (by decide)
  have l8 := len_I mac (by decide)
  have l9 := len_I mbc (by decide)
  have l10 := len_I msum (by decide)
  have l11 := len_I mabc (by decide)
  unfold p7
  simp only [sA, sB, sC, gA, gB, gC, e1, e2, e3, e4, e5, f1, f2, f3, f4, f5, f6, f7, f8]
  repeat' first
    | exact hm
    | (refine goes_ok ?_ ?_; focus (first | exact decide_eq_true p1 | exact decide_eq_true p2 | exact decide_eq_true p3 | exact samI_self | (apply decide_eq_true; omega)))
    | (refine goes_no ?_ ?_; focus (first | rfl | exact bne_self_eq_false _))
theorem k7_ok  : k7.ok Tryd.prog := by
  intro x hx
  obtain ⟨⟨n1, ⟨ap, np, mp, tp, _⟩, _⟩, ⟨n2, ⟨aq, nq, mq, tq, _⟩, _⟩, ⟨n3, ⟨ar, nr, mr, tr, _⟩, _⟩, _⟩ := x
  obtain ⟨h1, h2⟩ := a7 n1 ap np mp tp n2 aq nq mq tq n3 ar nr mr tr (s7 n1 ap np mp tp n2 aq nq mq tq n3 ar nr mr tr (of_dec hx rfl))
  exact ⟨⟨400, (by decide : 3 + 1 + 0 ≤ 400), h1⟩, h2⟩
theorem pre7  {x : SsI k7.ss} (hx : ssFits k7.ss x) : k7.pre (ssj k7.ss x) = true := by
  obtain ⟨⟨b0, ⟨n, t, u'⟩, u1⟩, ⟨b1, ⟨m, t2, u2⟩, u3⟩, ⟨b2, ⟨m3, t3, u4⟩, u5⟩, u''⟩ := x
  obtain ⟨⟨-, ⟨hn, ht, -⟩, -⟩, ⟨-, ⟨hm, ht2, -⟩, -⟩, ⟨-, ⟨h3, ht3, -⟩, -⟩, -⟩ := hx
  exact decide_eq_true ⟨⟨Nat.le_of_eq (Nat.zero_add _), u32B_mk ht⟩, ⟨Nat.le_of_eq (Nat.zero_add _), u32B_mk ht2⟩, Nat.le_of_eq (Nat.zero_add _), u32B_mk ht3⟩
end Go.Ev
