/-
  The law of Acts.
-/
import Derived.Test.YtffldkecndnbiaaE3x
namespace Go.Ev
open Go.Proofs
set_option linter.unusedVariables false
set_option linter.unusedSimpArgs false
set_option maxRecDepth 100000
abbrev St6 := Empty
abbrev Rt6 := Bool
noncomputable def V6 (ap np mp : Nat) (tp : Nat → Int) (vp : Nat → Int) (gp : Nat → Int) (wp : Nat → Int) (al nl ml : Nat) (tl : Nat → Int) (ev : Int) (ag ng mg : Nat) (tg : Nat → Int) (r : Rt6) : PV := PV.bool r
noncomputable def N6 (ap np mp : Nat) (tp : Nat → Int) (vp : Nat → Int) (gp : Nat → Int) (wp : Nat → Int) (al nl ml : Nat) (tl : Nat → Int) (ev : Int) (ag ng mg : Nat) (tg : Nat → Int) (r : Rt6) : List Blk := []
noncomputable def I6 (ap np mp : Nat) (tp : Nat → Int) (vp : Nat → Int) (gp : Nat → Int) (wp : Nat → Int) (al nl ml : Nat) (tl : Nat → Int) (ev : Int) (ag ng mg : Nat) (tg : Nat → Int) : St6 → Hd := fun s => s.elim
noncomputable def q6 (ap np mp : Nat) (tp : Nat → Int) (vp : Nat → Int) (gp : Nat → Int) (wp : Nat → Int) (al nl ml : Nat) (tl : Nat → Int) (ev : Int) (ag ng mg : Nat) (tg : Nat → Int) : St6 → Option (St6 ⊕ Rt6) := fun s => s.elim
noncomputable def p6 (ap np mp : Nat) (tp : Nat → Int) (vp : Nat → Int) (gp : Nat → Int) (wp : Nat → Int) (al nl ml : Nat) (tl : Nat → Int) (ev : Int) (ag ng mg : Nat) (tg : Nat → Int) : Option (St6 ⊕ Rt6) := bif (decide ((↑np : Int) ≤ (70 : Int)))
 then (bif (decide ((↑nl : Int) > (80 : Int)))
 then (some (.inr (true)))
 else (bif (decide ((↑ng : Int) > (80 : Int)))
 then (some (.inr (true)))
 else (bif (decide (ap + np ≤ mp ∧ np ≤ 1000000))
 then (bif (decide (al + nl ≤ ml ∧ nl ≤ 1000000))
 then (bif (decide (ag + ng ≤ mg ∧ ng ≤ 1000000))
 then (bif (decide
 (0 + np ≤ np ∧
 np ≤ 1000000 ∧ 0 + nl ≤ nl ∧ nl ≤ 1000000 ∧ 0 + ng ≤ ng ∧ ng ≤ 1000000))
 then (bif (decide
 (ap + np ≤ mp ∧ np ≤ 1000000 ∧ al + nl ≤ ml ∧ nl ≤ 1000000 ∧ ag + ng ≤ mg ∧ ng ≤ 1000000))
 then (bif (Prod.fst
 (S.actS np (fun (q : Nat) => tp (q + ap)) (fun (q : Nat) => vp (q + ap)) (fun (q : Nat) => gp (q + ap))
 (fun (q : Nat) => wp (q + ap)) nl (fun (q : Nat) => tl (q + al)) ev ng fun (q : Nat) => tg (q + ag)) ==
 Prod.fst
 (S.actS np (fun (q : Nat) => tp (q + ap)) (fun (q : Nat) => vp (q + ap)) (fun (q : Nat) => gp (q + ap))
 (fun (q : Nat) => wp (q + ap)) nl (fun (q : Nat) => tl (q + al)) ev ng fun (q : Nat) => tg (q + ag)))
 then (bif (decide
 (0 +
 List.length
 (Prod.snd
 (S.actS np (fun (q : Nat) => tp (q + ap)) (fun (q : Nat) => vp (q + ap))
 (fun (q : Nat) => gp (q + ap)) (fun (q : Nat) => wp (q + ap)) nl (fun (q : Nat) => tl (q + al)) ev ng
 fun (q : Nat) => tg (q + ag))) ≤
 List.length
 (Prod.snd
 (S.actS np (fun (q : Nat) => tp (q + ap)) (fun (q : Nat) => vp (q + ap)) (fun (q : Nat) => gp (q + ap))
 (fun (q : Nat) => wp (q + ap)) nl (fun (q : Nat) => tl (q + al)) ev ng fun (q : Nat) => tg (q + ag))) ∧
 List.length
 (Prod.snd
 (S.actS np (fun (q : Nat) => tp (q + ap)) (fun (q : Nat) => vp (q + ap))
 (fun (q : Nat) => gp (q + ap)) (fun (q : Nat) => wp (q + ap)) nl (fun (q : Nat) => tl (q + al)) ev ng
 fun (q : Nat) => tg (q + ag))) ≤
 1000000 ∧
 0 +
 List.length
 (Prod.snd
 (S.actS np (fun (q : Nat) => tp (q + ap)) (fun (q : Nat) => vp (q + ap))
 (fun (q : Nat) => gp (q + ap)) (fun (q : Nat) => wp (q + ap)) nl (fun (q : Nat) => tl (q + al)) ev ng
 fun (q : Nat) => tg (q + ag))) ≤
 List.length
 (Prod.snd
 (S.actS np (fun (q : Nat) => tp (q + ap)) (fun (q : Nat) => vp (q + ap))
 (fun (q : Nat) => gp (q + ap)) (fun (q : Nat) => wp (q + ap)) nl (fun (q : Nat) => tl (q + al)) ev ng
 fun (q : Nat) => tg (q + ag))) ∧
 List.length
 (Prod.snd
 (S.actS np (fun (q : Nat) => tp (q + ap)) (fun (q : Nat) => vp (q + ap))
 (fun (q : Nat) => gp (q + ap)) (fun (q : Nat) => wp (q + ap)) nl (fun (q : Nat) => tl (q + al)) ev ng
 fun (q : Nat) => tg (q + ag))) ≤
 1000000))
 then (bif (decide
 ((S.mkl
 (List.length
 (Prod.snd
 (S.actS np (fun (q : Nat) => tp (q + ap)) (fun (q : Nat) => vp (q + ap)) (fun (q : Nat) => gp (q + ap))
 (fun (q : Nat) => wp (q + ap)) nl (fun (q : Nat) => tl (q + al)) ev ng fun (q : Nat) => tg (q + ag))))
 fun (j : Nat) =>
 S.at'
 (Prod.snd
 (S.actS np (fun (q : Nat) => tp (q + ap)) (fun (q : Nat) => vp (q + ap)) (fun (q : Nat) => gp (q + ap))
 (fun (q : Nat) => wp (q + ap)) nl (fun (q : Nat) => tl (q + al)) ev ng fun (q : Nat) => tg (q + ag)))
 j) =
 S.mkl
 (List.length
 (Prod.snd
 (S.actS np (fun (q : Nat) => tp (q + ap)) (fun (q : Nat) => vp (q + ap)) (fun (q : Nat) => gp (q + ap))
 (fun (q : Nat) => wp (q + ap)) nl (fun (q : Nat) => tl (q + al)) ev ng fun (q : Nat) => tg (q + ag))))
 fun (j : Nat) =>
 S.at'
 (Prod.snd
 (S.actS np (fun (q : Nat) => tp (q + ap)) (fun (q : Nat) => vp (q + ap)) (fun (q : Nat) => gp (q + ap))
 (fun (q : Nat) => wp (q + ap)) nl (fun (q : Nat) => tl (q + al)) ev ng fun (q : Nat) => tg (q + ag)))
 j))
 then (some (.inr (true)))
 else (some (.inr (false))))
 else (none))
 else (some (.inr (false))))
 else (none))
 else (none))
 else (none))
 else (none))
 else (none))))
 else (some (.inr (true)))
noncomputable def Te6 (test : Bool → Prop → Prop → Prop) (Kst : KS) (Kret : KR) (ap np mp : Nat) (tp : Nat → Int) (vp : Nat → Int) (gp : Nat → Int) (wp : Nat → Int) (al nl ml : Nat) (tl : Nat → Int) (ev : Int) (ag ng mg : Nat) (tg : Nat → Int) : Prop :=
  test (true)
 (test (true)
 (test (decide ((↑np : Int) ≤ (70 : Int)))
 (test (decide ((↑nl : Int) > (80 : Int)))
 (test (true)
 (test (true)
 (Kret (PV.tf true) ([[(2, false, Blk.cols mg [Col.int IntKind.i64 tg]),
 (1, false, Blk.cols ml [Col.int IntKind.i64 tl]),
 (0, false,
 Blk.cols mp
 [Col.int IntKind.i64 tp, Col.int IntKind.i64 vp, Col.int IntKind.i64 gp,
 Col.int IntKind.i64 wp])]]) (8))
 (Kret (PV.tf false) ([[(2, false, Blk.cols mg [Col.int IntKind.i64 tg]),
 (1, false, Blk.cols ml [Col.int IntKind.i64 tl]),
 (0, false,
 Blk.cols mp
 [Col.int IntKind.i64 tp, Col.int IntKind.i64 vp, Col.int IntKind.i64 gp,
 Col.int IntKind.i64 wp])]]) (8)))
 (False))
 (test (decide ((↑ng : Int) > (80 : Int)))
 (test (true)
 (test (true)
 (Kret (PV.tf true) ([[(2, false, Blk.cols mg [Col.int IntKind.i64 tg]),
 (1, false, Blk.cols ml [Col.int IntKind.i64 tl]),
 (0, false,
 Blk.cols mp
 [Col.int IntKind.i64 tp, Col.int IntKind.i64 vp, Col.int IntKind.i64 gp,
 Col.int IntKind.i64 wp])]]) (8))
 (Kret (PV.tf false) ([[(2, false, Blk.cols mg [Col.int IntKind.i64 tg]),
 (1, false, Blk.cols ml [Col.int IntKind.i64 tl]),
 (0, false,
 Blk.cols mp
 [Col.int IntKind.i64 tp, Col.int IntKind.i64 vp, Col.int IntKind.i64 gp,
 Col.int IntKind.i64 wp])]]) (8)))
 (False))
 (test (decide (ap + np ≤ mp ∧ np ≤ 1000000))
 (test (decide (al + nl ≤ ml ∧ nl ≤ 1000000))
 (test (decide (ag + ng ≤ mg ∧ ng ≤ 1000000))
 (test (decide
 (0 + np ≤ np ∧
 np ≤ 1000000 ∧ 0 + nl ≤ nl ∧ nl ≤ 1000000 ∧ 0 + ng ≤ ng ∧ ng ≤ 1000000))
 (test (decide
 (ap + np ≤ mp ∧ np ≤ 1000000 ∧ al + nl ≤ ml ∧ nl ≤ 1000000 ∧ ag + ng ≤ mg ∧ ng ≤ 1000000))
 (test (Prod.fst
 (S.actS np (fun (q : Nat) => tp (q + ap)) (fun (q : Nat) => vp (q + ap)) (fun (q : Nat) => gp (q + ap))
 (fun (q : Nat) => wp (q + ap)) nl (fun (q : Nat) => tl (q + al)) ev ng fun (q : Nat) => tg (q + ag)) ==
 Prod.fst
 (S.actS np (fun (q : Nat) => tp (q + ap)) (fun (q : Nat) => vp (q + ap)) (fun (q : Nat) => gp (q + ap))
 (fun (q : Nat) => wp (q + ap)) nl (fun (q : Nat) => tl (q + al)) ev ng fun (q : Nat) => tg (q + ag)))
 (test (decide
 (0 +
 List.length
 (Prod.snd
 (S.actS np (fun (q : Nat) => tp (q + ap)) (fun (q : Nat) => vp (q + ap))
 (fun (q : Nat) => gp (q + ap)) (fun (q : Nat) => wp (q + ap)) nl (fun (q : Nat) => tl (q + al)) ev ng
 fun (q : Nat) => tg (q + ag))) ≤
 List.length
 (Prod.snd
 (S.actS np (fun (q : Nat) => tp (q + ap)) (fun (q : Nat) => vp (q + ap)) (fun (q : Nat) => gp (q + ap))
 (fun (q : Nat) => wp (q + ap)) nl (fun (q : Nat) => tl (q + al)) ev ng fun (q : Nat) => tg (q + ag))) ∧
 List.length
 (Prod.snd
 (S.actS np (fun (q : Nat) => tp (q + ap)) (fun (q : Nat) => vp (q + ap))
 (fun (q : Nat) => gp (q + ap)) (fun (q : Nat) => wp (q + ap)) nl (fun (q : Nat) => tl (q + al)) ev ng
 fun (q : Nat) => tg (q + ag))) ≤
 1000000 ∧
 0 +
 List.length
 (Prod.snd
 (S.actS np (fun (q : Nat) => tp (q + ap)) (fun (q : Nat) => vp (q + ap))
 (fun (q : Nat) => gp (q + ap)) (fun (q : Nat) => wp (q + ap)) nl (fun (q : Nat) => tl (q + al)) ev ng
 fun (q : Nat) => tg (q + ag))) ≤
 List.length
 (Prod.snd
 (S.actS np (fun (q : Nat) => tp (q + ap)) (fun (q : Nat) => vp (q + ap))
 (fun (q : Nat) => gp (q + ap)) (fun (q : Nat) => wp (q + ap)) nl (fun (q : Nat) => tl (q + al)) ev ng
 fun (q : Nat) => tg (q + ag))) ∧
 List.length
 (Prod.snd
 (S.actS np (fun (q : Nat) => tp (q + ap)) (fun (q : Nat) => vp (q + ap))
 (fun (q : Nat) => gp (q + ap)) (fun (q : Nat) => wp (q + ap)) nl (fun (q : Nat) => tl (q + al)) ev ng
 fun (q : Nat) => tg (q + ag))) ≤
 1000000))
 (test (decide
 ((S.mkl
 (List.length
 (Prod.snd
 (S.actS np (fun (q : Nat) => tp (q + ap)) (fun (q : Nat) => vp (q + ap)) (fun (q : Nat) => gp (q + ap))
 (fun (q : Nat) => wp (q + ap)) nl (fun (q : Nat) => tl (q + al)) ev ng fun (q : Nat) => tg (q + ag))))
 fun (j : Nat) =>
 S.at'
 (Prod.snd
 (S.actS np (fun (q : Nat) => tp (q + ap)) (fun (q : Nat) => vp (q + ap)) (fun (q : Nat) => gp (q + ap))
 (fun (q : Nat) => wp (q + ap)) nl (fun (q : Nat) => tl (q + al)) ev ng fun (q : Nat) => tg (q + ag)))
 j) =
 S.mkl
 (List.length
 (Prod.snd
 (S.actS np (fun (q : Nat) => tp (q + ap)) (fun (q : Nat) => vp (q + ap)) (fun (q : Nat) => gp (q + ap))
 (fun (q : Nat) => wp (q + ap)) nl (fun (q : Nat) => tl (q + al)) ev ng fun (q : Nat) => tg (q + ag))))
 fun (j : Nat) =>
 S.at'
 (Prod.snd
 (S.actS np (fun (q : Nat) => tp (q + ap)) (fun (q : Nat) => vp (q + ap)) (fun (q : Nat) => gp (q + ap))
 (fun (q : Nat) => wp (q + ap)) nl (fun (q : Nat) => tl (q + al)) ev ng fun (q : Nat) => tg (q + ag)))
 j))
 (Kret (PV.tf true) ([[(2, false, Blk.cols mg [Col.int IntKind.i64 tg]),
 (1, false, Blk.cols ml [Col.int IntKind.i64 tl]),
 (0, false,
 Blk.cols mp
 [Col.int IntKind.i64 tp, Col.int IntKind.i64 vp, Col.int IntKind.i64 gp,
 Col.int IntKind.i64 wp])]]) (20))
 (Kret (PV.tf false) ([[(2, false, Blk.cols mg [Col.int IntKind.i64 tg]),
 (1, false, Blk.cols ml [Col.int IntKind.i64 tl]),
 (0, false,
 Blk.cols mp
 [Col.int IntKind.i64 tp, Col.int IntKind.i64 vp, Col.int IntKind.i64 gp,
 Col.int IntKind.i64 wp])]]) (20)))
 (False))
 (Kret (PV.tf false) ([[(2, false, Blk.cols mg [Col.int IntKind.i64 tg]),
 (1, false, Blk.cols ml [Col.int IntKind.i64 tl]),
 (0, false,
 Blk.cols mp
 [Col.int IntKind.i64 tp, Col.int IntKind.i64 vp, Col.int IntKind.i64 gp,
 Col.int IntKind.i64 wp])]]) (19)))
 (False))
 (False))
 (False))
 (False))
 (False))))
 (test (true)
 (test (true)
 (Kret (PV.tf true) ([[(2, false, Blk.cols mg [Col.int IntKind.i64 tg]),
 (1, false, Blk.cols ml [Col.int IntKind.i64 tl]),
 (0, false,
 Blk.cols mp
 [Col.int IntKind.i64 tp, Col.int IntKind.i64 vp, Col.int IntKind.i64 gp,
 Col.int IntKind.i64 wp])]]) (8))
 (Kret (PV.tf false) ([[(2, false, Blk.cols mg [Col.int IntKind.i64 tg]),
 (1, false, Blk.cols ml [Col.int IntKind.i64 tl]),
 (0, false,
 Blk.cols mp
 [Col.int IntKind.i64 tp, Col.int IntKind.i64 vp, Col.int IntKind.i64 gp,
 Col.int IntKind.i64 wp])]]) (8)))
 (False)))
 (test (true)
 (test (true)
 (Kret (PV.tf true) ([[(2, false, Blk.cols mg [Col.int IntKind.i64 tg]),
 (1, false, Blk.cols ml [Col.int IntKind.i64 tl]),
 (0, false,
 Blk.cols mp
 [Col.int IntKind.i64 tp, Col.int IntKind.i64 vp, Col.int IntKind.i64 gp,
 Col.int IntKind.i64 wp])]]) (7))
 (Kret (PV.tf false) ([[(2, false, Blk.cols mg [Col.int IntKind.i64 tg]),
 (1, false, Blk.cols ml [Col.int IntKind.i64 tl]),
 (0, false,
 Blk.cols mp
 [Col.int IntKind.i64 tp, Col.int IntKind.i64 vp, Col.int IntKind.i64 gp,
 Col.int IntKind.i64 wp])]]) (7)))
 (False)))
 (False)
set_option maxRecDepth 100000 in
theorem te6 (test : Bool → Prop → Prop → Prop) (Kst : KS) (Kret : KR) (ap np mp : Nat) (tp : Nat → Int) (vp : Nat → Int) (gp : Nat → Int) (wp : Nat → Int) (al nl ml : Nat) (tl : Nat → Int) (ev : Int) (ag ng mg : Nat) (tg : Nat → Int) : run test Try.env true (xN test) true 400 ⟨6, [.cd (mkFn Try.f6).body], argT 0 [.agg [.loose ⟨0, 4, ap, 0⟩ np], .agg [.loose ⟨1, 1, al, 0⟩ nl, .int .i64 ev, .loose ⟨2, 1, ag, 0⟩ ng]], [[], [(0, (false, .cols mp [.int .i64 tp, .int .i64 vp, .int .i64 gp, .int .i64 wp])), (1, (false, .cols ml [.int .i64 tl])), (2, (false, .cols mg [.int .i64 tg]))]], 3⟩ (proj 3 [] Kst Kret) =
  Te6 test Kst Kret ap np mp tp vp gp wp al nl ml tl ev ag ng mg tg := by kernel_rfl
set_option maxRecDepth 100000 in
theorem be6 (ap np mp : Nat) (tp : Nat → Int) (vp : Nat → Int) (gp : Nat → Int) (wp : Nat → Int) (al nl ml : Nat) (tl : Nat → Int) (ev : Int) (ag ng mg : Nat) (tg : Nat → Int) (Kst : KS) (Kret : KR) (x : St6 ⊕ Rt6) (hS : HS 3 400 ((I6 ap np mp tp vp gp wp al nl ml tl ev ag ng mg tg)) Kst x) (hR : HR 3 400 ((V6 ap np mp tp vp gp wp al nl ml tl ev ag ng mg tg)) (fun r => [newL (3 + 1) ((N6 ap np mp tp vp gp wp al nl ml tl ev ag ng mg tg) r) ++ [(0, (false, .cols mp [.int .i64 tp, .int .i64 vp, .int .i64 gp, .int .i64 wp])), (1, (false, .cols ml [.int .i64 tl])), (2, (false, .cols mg [.int .i64 tg]))]]) Kret x) (h : (bif (decide ((↑np : Int) ≤ (70 : Int)))
 then (bif (decide ((↑nl : Int) > (80 : Int)))
 then (some (.inr (true)))
 else (bif (decide ((↑ng : Int) > (80 : Int)))
 then (some (.inr (true)))
 else (bif (decide (ap + np ≤ mp ∧ np ≤ 1000000))
 then (bif (decide (al + nl ≤ ml ∧ nl ≤ 1000000))
 then (bif (decide (ag + ng ≤ mg ∧ ng ≤ 1000000))
 then (bif (decide
 (0 + np ≤ np ∧
 np ≤ 1000000 ∧ 0 + nl ≤ nl ∧ nl ≤ 1000000 ∧ 0 + ng ≤ ng ∧ ng ≤ 1000000))
 then (bif (decide
 (ap + np ≤ mp ∧ np ≤ 1000000 ∧ al + nl ≤ ml ∧ nl ≤ 1000000 ∧ ag + ng ≤ mg ∧ ng ≤ 1000000))
 then (bif (Prod.fst
 (S.actS np (fun (q : Nat) => tp (q + ap)) (fun (q : Nat) => vp (q + ap)) (fun (q : Nat) => gp (q + ap))
 (fun (q : Nat) => wp (q + ap)) nl (fun (q : Nat) => tl (q + al)) ev ng fun (q : Nat) => tg (q + ag)) ==
 Prod.fst
 (S.actS np (fun (q : Nat) => tp (q + ap)) (fun (q : Nat) => vp (q + ap)) (fun (q : Nat) => gp (q + ap))
 (fun (q : Nat) => wp (q + ap)) nl (fun (q : Nat) => tl (q + al)) ev ng fun (q : Nat) => tg (q + ag)))
 then (bif (decide
 (0 +
 List.length
 (Prod.snd
 (S.actS np (fun (q : Nat) => tp (q + ap)) (fun (q : Nat) => vp (q + ap))
 (fun (q : Nat) => gp (q + ap)) (fun (q : Nat) => wp (q + ap)) nl (fun (q : Nat) => tl (q + al)) ev ng
 fun (q : Nat) => tg (q + ag))) ≤
 List.length
 (Prod.snd
 (S.actS np (fun (q : Nat) => tp (q + ap)) (fun (q : Nat) => vp (q + ap)) (fun (q : Nat) => gp (q + ap))
 (fun (q : Nat) => wp (q + ap)) nl (fun (q : Nat) => tl (q + al)) ev ng fun (q : Nat) => tg (q + ag))) ∧
 List.length
 (Prod.snd
 (S.actS np (fun (q : Nat) => tp (q + ap)) (fun (q : Nat) => vp (q + ap))
 (fun (q : Nat) => gp (q + ap)) (fun (q : Nat) => wp (q + ap)) nl (fun (q : Nat) => tl (q + al)) ev ng
 fun (q : Nat) => tg (q + ag))) ≤
 1000000 ∧
 0 +
 List.length
 (Prod.snd
 (S.actS np (fun (q : Nat) => tp (q + ap)) (fun (q : Nat) => vp (q + ap))
 (fun (q : Nat) => gp (q + ap)) (fun (q : Nat) => wp (q + ap)) nl (fun (q : Nat) => tl (q + al)) ev ng
 fun (q : Nat) => tg (q + ag))) ≤
 List.length
 (Prod.snd
 (S.actS np (fun (q : Nat) => tp (q + ap)) (fun (q : Nat) => vp (q + ap))
 (fun (q : Nat) => gp (q + ap)) (fun (q : Nat) => wp (q + ap)) nl (fun (q : Nat) => tl (q + al)) ev ng
 fun (q : Nat) => tg (q + ag))) ∧
 List.length
 (Prod.snd
 (S.actS np (fun (q : Nat) => tp (q + ap)) (fun (q : Nat) => vp (q + ap))
 (fun (q : Nat) => gp (q + ap)) (fun (q : Nat) => wp (q + ap)) nl (fun (q : Nat) => tl (q + al)) ev ng
 fun (q : Nat) => tg (q + ag))) ≤
 1000000))
 then (bif (decide
 ((S.mkl
 (List.length
 (Prod.snd
 (S.actS np (fun (q : Nat) => tp (q + ap)) (fun (q : Nat) => vp (q + ap)) (fun (q : Nat) => gp (q + ap))
 (fun (q : Nat) => wp (q + ap)) nl (fun (q : Nat) => tl (q + al)) ev ng fun (q : Nat) => tg (q + ag))))
 fun (j : Nat) =>
 S.at'
 (Prod.snd
 (S.actS np (fun (q : Nat) => tp (q + ap)) (fun (q : Nat) => vp (q + ap)) (fun (q : Nat) => gp (q + ap))
 (fun (q : Nat) => wp (q + ap)) nl (fun (q : Nat) => tl (q + al)) ev ng fun (q : Nat) => tg (q + ag)))
 j) =
 S.mkl
 (List.length
 (Prod.snd
 (S.actS np (fun (q : Nat) => tp (q + ap)) (fun (q : Nat) => vp (q + ap)) (fun (q : Nat) => gp (q + ap))
 (fun (q : Nat) => wp (q + ap)) nl (fun (q : Nat) => tl (q + al)) ev ng fun (q : Nat) => tg (q + ag))))
 fun (j : Nat) =>
 S.at'
 (Prod.snd
 (S.actS np (fun (q : Nat) => tp (q + ap)) (fun (q : Nat) => vp (q + ap)) (fun (q : Nat) => gp (q + ap))
 (fun (q : Nat) => wp (q + ap)) nl (fun (q : Nat) => tl (q + al)) ev ng fun (q : Nat) => tg (q + ag)))
 j))
 then (some (.inr (true)))
 else (some (.inr (false))))
 else (none))
 else (some (.inr (false))))
 else (none))
 else (none))
 else (none))
 else (none))
 else (none))))
 else (some (.inr (true))) : Option (St6 ⊕ Rt6)) = some x) : Te6 cond Kst Kret ap np mp tp vp gp wp al nl ml tl ev ag ng mg tg := by
  unfold Te6
  exact cond_yes rfl (cond_yes rfl (bif_split h
   (fun c0 h => bif_split h
   (fun c1 h => cond_yes rfl (cond_yes rfl (ret_at hR _ h (fun n => n) rfl rfl rfl (rn_bool_tf rfl) rfl (entl_bor (use_lo rfl) rfl rfl (entl_bor (use_lo rfl) rfl rfl (entl_bor (use_lo rfl) rfl rfl entl_nil))))))
   (fun c1 h => bif_split h
   (fun c2 h => cond_yes rfl (cond_yes rfl (ret_at hR _ h (fun n => n) rfl rfl rfl (rn_bool_tf rfl) rfl (entl_bor (use_lo rfl) rfl rfl (entl_bor (use_lo rfl) rfl rfl (entl_bor (use_lo rfl) rfl rfl entl_nil))))))
   (fun c2 h => bif_split h
   (fun c3 h => bif_split h
   (fun c4 h => bif_split h
   (fun c5 h => bif_split h
   (fun c6 h => bif_split h
   (fun c7 h => bif_split h
   (fun c8 h => bif_split h
   (fun c9 h => bif_split h
   (fun c10 h => ret_at hR _ h (fun n => n) rfl rfl rfl (rn_bool_tf rfl) rfl (entl_bor (use_lo rfl) rfl rfl (entl_bor (use_lo rfl) rfl rfl (entl_bor (use_lo rfl) rfl rfl entl_nil))))
   (fun c10 h => ret_at hR _ h (fun n => n) rfl rfl rfl (rn_bool_tf rfl) rfl (entl_bor (use_lo rfl) rfl rfl (entl_bor (use_lo rfl) rfl rfl (entl_bor (use_lo rfl) rfl rfl entl_nil)))))
   (fun c9 h => no_some h))
   (fun c8 h => ret_at hR _ h (fun n => n) rfl rfl rfl (rn_bool_tf rfl) rfl (entl_bor (use_lo rfl) rfl rfl (entl_bor (use_lo rfl) rfl rfl (entl_bor (use_lo rfl) rfl rfl entl_nil)))))
   (fun c7 h => no_some h))
   (fun c6 h => no_some h))
   (fun c5 h => no_some h))
   (fun c4 h => no_some h))
   (fun c3 h => no_some h))))
   (fun c0 h => cond_yes rfl (cond_yes rfl (ret_at hR _ h (fun n => n) rfl rfl rfl (rn_bool_tf rfl) rfl (entl_bor (use_lo rfl) rfl rfl (entl_bor (use_lo rfl) rfl rfl (entl_bor (use_lo rfl) rfl rfl entl_nil))))))))
theorem a6 (ap np mp : Nat) (tp : Nat → Int) (vp : Nat → Int) (gp : Nat → Int) (wp : Nat → Int) (al nl ml : Nat) (tl : Nat → Int) (ev : Int) (ag ng mg : Nat) (tg : Nat → Int) {r : Rt6} (h : Goes ((q6 ap np mp tp vp gp wp al nl ml tl ev ag ng mg tg)) ((p6 ap np mp tp vp gp wp al nl ml tl ev ag ng mg tg)) r) : CallR Try.prog 6 [.agg [.loose ⟨0, 4, ap, 0⟩ np], .agg [.loose ⟨1, 1, al, 0⟩ nl, .int .i64 ev, .loose ⟨2, 1, ag, 0⟩ ng]] [[(0, (false, .cols mp [.int .i64 tp, .int .i64 vp, .int .i64 gp, .int .i64 wp])), (1, (false, .cols ml [.int .i64 tl])), (2, (false, .cols mg [.int .i64 tg]))]] 3 ((V6 ap np mp tp vp gp wp al nl ml tl ev ag ng mg tg) r) ((fun r => [newL (3 + 1) ((N6 ap np mp tp vp gp wp al nl ml tl ev ag ng mg tg) r) ++ [(0, (false, .cols mp [.int .i64 tp, .int .i64 vp, .int .i64 gp, .int .i64 wp])), (1, (false, .cols ml [.int .i64 tl])), (2, (false, .cols mg [.int .i64 tg]))]]) r) 400 ∧ ∃ F, Try.prog.funcs[6]? = some F ∧ F.body.isSome = true ∧ (F.name == "runtime.NumGoroutine") = false := by
  refine dec_calls (f := 6) (lo := 3) (hi := 400) (H := [[(0, (false, .cols mp [.int .i64 tp, .int .i64 vp, .int .i64 gp, .int .i64 wp])), (1, (false, .cols ml [.int .i64 tl])), (2, (false, .cols mg [.int .i64 tg]))]]) (args := [.agg [.loose ⟨0, 4, ap, 0⟩ np], .agg [.loose ⟨1, 1, al, 0⟩ nl, .int .i64 ev, .loose ⟨2, 1, ag, 0⟩ ng]]) Try.envOk Try.mixed xN_ok ((I6 ap np mp tp vp gp wp al nl ml tl ev ag ng mg tg)) ((V6 ap np mp tp vp gp wp al nl ml tl ev ag ng mg tg)) (fun r => [newL (3 + 1) ((N6 ap np mp tp vp gp wp al nl ml tl ev ag ng mg tg) r) ++ [(0, (false, .cols mp [.int .i64 tp, .int .i64 vp, .int .i64 gp, .int .i64 wp])), (1, (false, .cols ml [.int .i64 tl])), (2, (false, .cols mg [.int .i64 tg]))]]) (fn := mkFn Try.f6) (ts := []) (n := 400) rfl (by decide) (by simp) (names_of rfl) ?_ ?_ ?_ h
  · intro s; exact s.elim
  · intro Kst Kret x hS hR h
    exact Holds.eq (te6 cond Kst Kret ap np mp tp vp gp wp al nl ml tl ev ag ng mg tg) (be6 ap np mp tp vp gp wp al nl ml tl ev ag ng mg tg Kst Kret x hS hR h)
  · intro Kst Kret x hS hR s h; exact s.elim
noncomputable def k6 : Con := ⟨6, [.agg [.list [.int .i64, .int .i64, .int .i64, .int .i64]], .agg [.list [.int .i64], .plain (.int .i64), .list [.int .i64]]], fun (x : ((Nat × Nat × Nat × (Nat → Int) × (Nat → Int) × (Nat → Int) × (Nat → Int) × Unit) × Unit) × ((Nat × Nat × Nat × (Nat → Int) × Unit) × Int × (Nat × Nat × Nat × (Nat → Int) × Unit) × Unit) × Unit) => (fun (ap np mp : Nat) (tp : Nat → Int) (vp : Nat → Int) (gp : Nat → Int) (wp : Nat → Int) (al nl ml : Nat) (tl : Nat → Int) (ev : Int) (ag ng mg : Nat) (tg : Nat → Int) => decide (ap + np ≤ mp ∧ al + nl ≤ ml ∧ ag + ng ≤ mg)) x.1.1.1 x.1.1.2.1 x.1.1.2.2.1 x.1.1.2.2.2.1 x.1.1.2.2.2.2.1 x.1.1.2.2.2.2.2.1 x.1.1.2.2.2.2.2.2.1 x.2.1.1.1 x.2.1.1.2.1 x.2.1.1.2.2.1 x.2.1.1.2.2.2.1 x.2.1.2.1 x.2.1.2.2.1.1 x.2.1.2.2.1.2.1 x.2.1.2.2.1.2.2.1 x.2.1.2.2.1.2.2.2.1, fun (x : ((Nat × Nat × Nat × (Nat → Int) × (Nat → Int) × (Nat → Int) × (Nat → Int) × Unit) × Unit) × ((Nat × Nat × Nat × (Nat → Int) × Unit) × Int × (Nat × Nat × Nat × (Nat → Int) × Unit) × Unit) × Unit) => (fun (ap np mp : Nat) (tp : Nat → Int) (vp : Nat → Int) (gp : Nat → Int) (wp : Nat → Int) (al nl ml : Nat) (tl : Nat → Int) (ev : Int) (ag ng mg : Nat) (tg : Nat → Int) => (V6 ap np mp tp vp gp wp al nl ml tl ev ag ng mg tg) (true)) x.1.1.1 x.1.1.2.1 x.1.1.2.2.1 x.1.1.2.2.2.1 x.1.1.2.2.2.2.1 x.1.1.2.2.2.2.2.1 x.1.1.2.2.2.2.2.2.1 x.2.1.1.1 x.2.1.1.2.1 x.2.1.1.2.2.1 x.2.1.1.2.2.2.1 x.2.1.2.1 x.2.1.2.2.1.1 x.2.1.2.2.1.2.1 x.2.1.2.2.1.2.2.1 x.2.1.2.2.1.2.2.2.1, fun (x : ((Nat × Nat × Nat × (Nat → Int) × (Nat → Int) × (Nat → Int) × (Nat → Int) × Unit) × Unit) × ((Nat × Nat × Nat × (Nat → Int) × Unit) × Int × (Nat × Nat × Nat × (Nat → Int) × Unit) × Unit) × Unit) => (fun (ap np mp : Nat) (tp : Nat → Int) (vp : Nat → Int) (gp : Nat → Int) (wp : Nat → Int) (al nl ml : Nat) (tl : Nat → Int) (ev : Int) (ag ng mg : Nat) (tg : Nat → Int) => (N6 ap np mp tp vp gp wp al nl ml tl ev ag ng mg tg) (true)) x.1.1.1 x.1.1.2.1 x.1.1.2.2.1 x.1.1.2.2.2.1 x.1.1.2.2.2.2.1 x.1.1.2.2.2.2.2.1 x.1.1.2.2.2.2.2.2.1 x.2.1.1.1 x.2.1.1.2.1 x.2.1.1.2.2.1 x.2.1.1.2.2.2.1 x.2.1.2.1 x.2.1.2.2.1.1 x.2.1.2.2.1.2.1 x.2.1.2.2.1.2.2.1 x.2.1.2.2.1.2.2.2.1, fun _ _ => .dead⟩
theorem s6 (ap np mp : Nat) (tp : Nat → Int) (vp : Nat → Int) (gp : Nat → Int) (wp : Nat → Int) (al nl ml : Nat) (tl : Nat → Int) (ev : Int) (ag ng mg : Nat) (tg : Nat → Int) (hp : ap + np ≤ mp ∧ al + nl ≤ ml ∧ ag + ng ≤ mg) : Goes ((q6 ap np mp tp vp gp wp al nl ml tl ev ag ng mg tg)) ((p6 ap np mp tp vp gp wp al nl ml tl ev ag ng mg tg)) (true) := by
  unfold p6
  by_cases hn : np ≤ 70
  · skip
    by_cases hn2 : nl ≤ 80
    · skip
      by_cases hn3 : ng ≤ 80
      · skip
        have l1 := act_len (n := np) (p := (fun q => tp (q + ap))) (d := (fun q => vp (q + ap))) (u := (fun q => gp (q + ap))) (j := (fun q => wp (q + ap))) (m := nl) (add := (fun q => tl (q + al))) (ev := ev) (c := ng) (g := (fun q => tg (q + ag)))
        generalize S.actS np (fun q => tp (q + ap)) (fun q => vp (q + ap)) (fun q => gp (q + ap)) (fun q => wp (q + ap)) nl (fun q => tl (q + al)) ev ng (fun q => tg (q + ag)) = P1 at *
        repeat' first
          | with_reducible exact goes_inr.mpr rfl
          | (refine goes_ok ?_ ?_; focus (first | with_reducible exact beq_self_eq_true _ | (simp only [Bool.and_eq_true, decide_eq_true_eq, and_self, eq_self]; done) | with_reducible exact decide_eq_true trivial | with_reducible exact decide_eq_true rfl | (simp only [eq_self, decide_true, Bool.and_self, Bool.and_true, Bool.true_and]; done) | (apply decide_eq_true; omega) | (rw [lim64]; apply decide_eq_true; omega) | (apply decide_eq_true; simp only [mkl_len, mkl_zero, List.length_nil, true_and, and_true, and_self, Nat.zero_add, Nat.add_zero, Nat.le_refl]; done) | (apply decide_eq_true; simp only [mkl_len, mkl_zero, List.length_nil, true_and, and_true, and_self, Nat.zero_add, Nat.add_zero, Nat.le_refl]; omega) | decide))
          | (refine goes_no ?_ ?_; focus (first | with_reducible exact bne_self_eq_false _ | (apply decide_eq_false; omega) | decide))
      · repeat' first
          | with_reducible exact goes_inr.mpr rfl
          | (refine goes_no ?_ ?_; focus (apply decide_eq_false; omega))
          | (refine goes_ok ?_ ?_; focus (apply decide_eq_true; omega))
    · repeat' first
        | with_reducible exact goes_inr.mpr rfl
        | (refine goes_no ?_ ?_; focus (apply decide_eq_false; omega))
        | (refine goes_ok ?_ ?_; focus (apply decide_eq_true; omega))
  · repeat' first
      | with_reducible exact goes_inr.mpr rfl
      | (refine goes_no ?_ ?_; focus (apply decide_eq_false; omega))
      | (refine goes_ok ?_ ?_; focus (apply decide_eq_true; omega))

theorem k6_ok : k6.ok Try.prog := by
  intro x hx
  obtain ⟨⟨⟨ap, np, mp, tp, vp, gp, wp, _⟩, _⟩, ⟨⟨al, nl, ml, tl, _⟩, ev, ⟨ag, ng, mg, tg, _⟩, _⟩, _⟩ := x
  obtain ⟨h1, h2⟩ := a6 ap np mp tp vp gp wp al nl ml tl ev ag ng mg tg (s6 ap np mp tp vp gp wp al nl ml tl ev ag ng mg tg (of_dec hx rfl))
  exact ⟨⟨400, (by decide : 3 + 1 + 0 ≤ 400), h1⟩, h2⟩

end Go.Ev
