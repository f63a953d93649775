/-
  The law of Measure.
-/
import Derived.Test.YtffldkecndnbiaaD3x
namespace Go.Ev
open Go.Proofs
set_option linter.unusedVariables false
set_option linter.unusedSimpArgs false
set_option maxRecDepth 100000
abbrev St4 := Empty
abbrev Rt4 := Bool
noncomputable def V4 (ap np mp : Nat) (tp : Nat → Int) (vp : Nat → Int) (gp : Nat → Int) (wp : Nat → Int) (al nl ml : Nat) (tl : Nat → Int) (sy : Int) (r : Rt4) : PV := PV.bool r
noncomputable def N4 (ap np mp : Nat) (tp : Nat → Int) (vp : Nat → Int) (gp : Nat → Int) (wp : Nat → Int) (al nl ml : Nat) (tl : Nat → Int) (sy : Int) (r : Rt4) : List Blk := []
noncomputable def I4 (ap np mp : Nat) (tp : Nat → Int) (vp : Nat → Int) (gp : Nat → Int) (wp : Nat → Int) (al nl ml : Nat) (tl : Nat → Int) (sy : Int) : St4 → Hd := fun s => s.elim
noncomputable def q4 (ap np mp : Nat) (tp : Nat → Int) (vp : Nat → Int) (gp : Nat → Int) (wp : Nat → Int) (al nl ml : Nat) (tl : Nat → Int) (sy : Int) : St4 → Option (St4 ⊕ Rt4) := fun s => s.elim
noncomputable def p4 (ap np mp : Nat) (tp : Nat → Int) (vp : Nat → Int) (gp : Nat → Int) (wp : Nat → Int) (al nl ml : Nat) (tl : Nat → Int) (sy : Int) : Option (St4 ⊕ Rt4) := bif (decide ((↑np : Int) ≤ (70 : Int)))
 then (bif (decide ((↑nl : Int) > (80 : Int)))
 then (some (.inr (true)))
 else (bif (decide (ap + np ≤ mp ∧ np ≤ 1000000))
 then (bif (decide (al + nl ≤ ml ∧ nl ≤ 1000000))
 then (bif (decide (0 + np ≤ np ∧ np ≤ 1000000 ∧ 0 + nl ≤ nl ∧ nl ≤ 1000000))
 then (bif (decide (ap + np ≤ mp ∧ np ≤ 1000000 ∧ al + nl ≤ ml ∧ nl ≤ 1000000))
 then (bif (Prod.fst
 (S.meaS np (fun (q : Nat) => tp (q + ap)) (fun (q : Nat) => vp (q + ap)) (fun (q : Nat) => gp (q + ap))
 (fun (q : Nat) => wp (q + ap)) nl (fun (q : Nat) => tl (q + al)) sy) ==
 Prod.fst
 (S.meaS np (fun (q : Nat) => tp (q + ap)) (fun (q : Nat) => vp (q + ap)) (fun (q : Nat) => gp (q + ap))
 (fun (q : Nat) => wp (q + ap)) nl (fun (q : Nat) => tl (q + al)) sy))
 then (bif (decide
 (0 +
 List.length
 (Prod.snd
 (S.meaS np (fun (q : Nat) => tp (q + ap)) (fun (q : Nat) => vp (q + ap))
 (fun (q : Nat) => gp (q + ap)) (fun (q : Nat) => wp (q + ap)) nl (fun (q : Nat) => tl (q + al)) sy)) ≤
 List.length
 (Prod.snd
 (S.meaS np (fun (q : Nat) => tp (q + ap)) (fun (q : Nat) => vp (q + ap)) (fun (q : Nat) => gp (q + ap))
 (fun (q : Nat) => wp (q + ap)) nl (fun (q : Nat) => tl (q + al)) sy)) ∧
 List.length
 (Prod.snd
 (S.meaS np (fun (q : Nat) => tp (q + ap)) (fun (q : Nat) => vp (q + ap))
 (fun (q : Nat) => gp (q + ap)) (fun (q : Nat) => wp (q + ap)) nl (fun (q : Nat) => tl (q + al)) sy)) ≤
 1000000 ∧
 0 +
 List.length
 (Prod.snd
 (S.meaS np (fun (q : Nat) => tp (q + ap)) (fun (q : Nat) => vp (q + ap))
 (fun (q : Nat) => gp (q + ap)) (fun (q : Nat) => wp (q + ap)) nl (fun (q : Nat) => tl (q + al)) sy)) ≤
 List.length
 (Prod.snd
 (S.meaS np (fun (q : Nat) => tp (q + ap)) (fun (q : Nat) => vp (q + ap))
 (fun (q : Nat) => gp (q + ap)) (fun (q : Nat) => wp (q + ap)) nl (fun (q : Nat) => tl (q + al)) sy)) ∧
 List.length
 (Prod.snd
 (S.meaS np (fun (q : Nat) => tp (q + ap)) (fun (q : Nat) => vp (q + ap))
 (fun (q : Nat) => gp (q + ap)) (fun (q : Nat) => wp (q + ap)) nl (fun (q : Nat) => tl (q + al)) sy)) ≤
 1000000))
 then (bif (decide
 ((S.mkl
 (List.length
 (Prod.snd
 (S.meaS np (fun (q : Nat) => tp (q + ap)) (fun (q : Nat) => vp (q + ap)) (fun (q : Nat) => gp (q + ap))
 (fun (q : Nat) => wp (q + ap)) nl (fun (q : Nat) => tl (q + al)) sy)))
 fun (j : Nat) =>
 (Prod.fst
 (S.at'
 (Prod.snd
 (S.meaS np (fun (q : Nat) => tp (q + ap)) (fun (q : Nat) => vp (q + ap))
 (fun (q : Nat) => gp (q + ap)) (fun (q : Nat) => wp (q + ap)) nl (fun (q : Nat) => tl (q + al)) sy))
 j),
 Prod.fst
 (Prod.snd
 (S.at'
 (Prod.snd
 (S.meaS np (fun (q : Nat) => tp (q + ap)) (fun (q : Nat) => vp (q + ap))
 (fun (q : Nat) => gp (q + ap)) (fun (q : Nat) => wp (q + ap)) nl (fun (q : Nat) => tl (q + al)) sy))
 j)),
 Prod.fst
 (Prod.snd
 (Prod.snd
 (S.at'
 (Prod.snd
 (S.meaS np (fun (q : Nat) => tp (q + ap)) (fun (q : Nat) => vp (q + ap))
 (fun (q : Nat) => gp (q + ap)) (fun (q : Nat) => wp (q + ap)) nl (fun (q : Nat) => tl (q + al)) sy))
 j))),
 Prod.snd
 (Prod.snd
 (Prod.snd
 (S.at'
 (Prod.snd
 (S.meaS np (fun (q : Nat) => tp (q + ap)) (fun (q : Nat) => vp (q + ap))
 (fun (q : Nat) => gp (q + ap)) (fun (q : Nat) => wp (q + ap)) nl (fun (q : Nat) => tl (q + al)) sy))
 j))))) =
 S.mkl
 (List.length
 (Prod.snd
 (S.meaS np (fun (q : Nat) => tp (q + ap)) (fun (q : Nat) => vp (q + ap)) (fun (q : Nat) => gp (q + ap))
 (fun (q : Nat) => wp (q + ap)) nl (fun (q : Nat) => tl (q + al)) sy)))
 fun (j : Nat) =>
 (Prod.fst
 (S.at'
 (Prod.snd
 (S.meaS np (fun (q : Nat) => tp (q + ap)) (fun (q : Nat) => vp (q + ap))
 (fun (q : Nat) => gp (q + ap)) (fun (q : Nat) => wp (q + ap)) nl (fun (q : Nat) => tl (q + al)) sy))
 j),
 Prod.fst
 (Prod.snd
 (S.at'
 (Prod.snd
 (S.meaS np (fun (q : Nat) => tp (q + ap)) (fun (q : Nat) => vp (q + ap))
 (fun (q : Nat) => gp (q + ap)) (fun (q : Nat) => wp (q + ap)) nl (fun (q : Nat) => tl (q + al)) sy))
 j)),
 Prod.fst
 (Prod.snd
 (Prod.snd
 (S.at'
 (Prod.snd
 (S.meaS np (fun (q : Nat) => tp (q + ap)) (fun (q : Nat) => vp (q + ap))
 (fun (q : Nat) => gp (q + ap)) (fun (q : Nat) => wp (q + ap)) nl (fun (q : Nat) => tl (q + al)) sy))
 j))),
 Prod.snd
 (Prod.snd
 (Prod.snd
 (S.at'
 (Prod.snd
 (S.meaS np (fun (q : Nat) => tp (q + ap)) (fun (q : Nat) => vp (q + ap))
 (fun (q : Nat) => gp (q + ap)) (fun (q : Nat) => wp (q + ap)) nl (fun (q : Nat) => tl (q + al)) sy))
 j))))))
 then (some (.inr (true)))
 else (some (.inr (false))))
 else (none))
 else (some (.inr (false))))
 else (none))
 else (none))
 else (none))
 else (none)))
 else (some (.inr (true)))
noncomputable def Te4 (test : Bool → Prop → Prop → Prop) (Kst : KS) (Kret : KR) (ap np mp : Nat) (tp : Nat → Int) (vp : Nat → Int) (gp : Nat → Int) (wp : Nat → Int) (al nl ml : Nat) (tl : Nat → Int) (sy : Int) : Prop :=
  test (true)
 (test (true)
 (test (decide ((↑np : Int) ≤ (70 : Int)))
 (test (decide ((↑nl : Int) > (80 : Int)))
 (test (true)
 (test (true)
 (Kret (PV.tf true) ([[(1, false, Blk.cols ml [Col.int IntKind.i64 tl]),
 (0, false,
 Blk.cols mp
 [Col.int IntKind.i64 tp, Col.int IntKind.i64 vp, Col.int IntKind.i64 gp,
 Col.int IntKind.i64 wp])]]) (6))
 (Kret (PV.tf false) ([[(1, false, Blk.cols ml [Col.int IntKind.i64 tl]),
 (0, false,
 Blk.cols mp
 [Col.int IntKind.i64 tp, Col.int IntKind.i64 vp, Col.int IntKind.i64 gp,
 Col.int IntKind.i64 wp])]]) (6)))
 (False))
 (test (decide (ap + np ≤ mp ∧ np ≤ 1000000))
 (test (decide (al + nl ≤ ml ∧ nl ≤ 1000000))
 (test (decide (0 + np ≤ np ∧ np ≤ 1000000 ∧ 0 + nl ≤ nl ∧ nl ≤ 1000000))
 (test (decide (ap + np ≤ mp ∧ np ≤ 1000000 ∧ al + nl ≤ ml ∧ nl ≤ 1000000))
 (test (Prod.fst
 (S.meaS np (fun (q : Nat) => tp (q + ap)) (fun (q : Nat) => vp (q + ap)) (fun (q : Nat) => gp (q + ap))
 (fun (q : Nat) => wp (q + ap)) nl (fun (q : Nat) => tl (q + al)) sy) ==
 Prod.fst
 (S.meaS np (fun (q : Nat) => tp (q + ap)) (fun (q : Nat) => vp (q + ap)) (fun (q : Nat) => gp (q + ap))
 (fun (q : Nat) => wp (q + ap)) nl (fun (q : Nat) => tl (q + al)) sy))
 (test (decide
 (0 +
 List.length
 (Prod.snd
 (S.meaS np (fun (q : Nat) => tp (q + ap)) (fun (q : Nat) => vp (q + ap))
 (fun (q : Nat) => gp (q + ap)) (fun (q : Nat) => wp (q + ap)) nl (fun (q : Nat) => tl (q + al)) sy)) ≤
 List.length
 (Prod.snd
 (S.meaS np (fun (q : Nat) => tp (q + ap)) (fun (q : Nat) => vp (q + ap)) (fun (q : Nat) => gp (q + ap))
 (fun (q : Nat) => wp (q + ap)) nl (fun (q : Nat) => tl (q + al)) sy)) ∧
 List.length
 (Prod.snd
 (S.meaS np (fun (q : Nat) => tp (q + ap)) (fun (q : Nat) => vp (q + ap))
 (fun (q : Nat) => gp (q + ap)) (fun (q : Nat) => wp (q + ap)) nl (fun (q : Nat) => tl (q + al)) sy)) ≤
 1000000 ∧
 0 +
 List.length
 (Prod.snd
 (S.meaS np (fun (q : Nat) => tp (q + ap)) (fun (q : Nat) => vp (q + ap))
 (fun (q : Nat) => gp (q + ap)) (fun (q : Nat) => wp (q + ap)) nl (fun (q : Nat) => tl (q + al)) sy)) ≤
 List.length
 (Prod.snd
 (S.meaS np (fun (q : Nat) => tp (q + ap)) (fun (q : Nat) => vp (q + ap))
 (fun (q : Nat) => gp (q + ap)) (fun (q : Nat) => wp (q + ap)) nl (fun (q : Nat) => tl (q + al)) sy)) ∧
 List.length
 (Prod.snd
 (S.meaS np (fun (q : Nat) => tp (q + ap)) (fun (q : Nat) => vp (q + ap))
 (fun (q : Nat) => gp (q + ap)) (fun (q : Nat) => wp (q + ap)) nl (fun (q : Nat) => tl (q + al)) sy)) ≤
 1000000))
 (test (decide
 ((S.mkl
 (List.length
 (Prod.snd
 (S.meaS np (fun (q : Nat) => tp (q + ap)) (fun (q : Nat) => vp (q + ap)) (fun (q : Nat) => gp (q + ap))
 (fun (q : Nat) => wp (q + ap)) nl (fun (q : Nat) => tl (q + al)) sy)))
 fun (j : Nat) =>
 (Prod.fst
 (S.at'
 (Prod.snd
 (S.meaS np (fun (q : Nat) => tp (q + ap)) (fun (q : Nat) => vp (q + ap))
 (fun (q : Nat) => gp (q + ap)) (fun (q : Nat) => wp (q + ap)) nl (fun (q : Nat) => tl (q + al)) sy))
 j),
 Prod.fst
 (Prod.snd
 (S.at'
 (Prod.snd
 (S.meaS np (fun (q : Nat) => tp (q + ap)) (fun (q : Nat) => vp (q + ap))
 (fun (q : Nat) => gp (q + ap)) (fun (q : Nat) => wp (q + ap)) nl (fun (q : Nat) => tl (q + al)) sy))
 j)),
 Prod.fst
 (Prod.snd
 (Prod.snd
 (S.at'
 (Prod.snd
 (S.meaS np (fun (q : Nat) => tp (q + ap)) (fun (q : Nat) => vp (q + ap))
 (fun (q : Nat) => gp (q + ap)) (fun (q : Nat) => wp (q + ap)) nl (fun (q : Nat) => tl (q + al)) sy))
 j))),
 Prod.snd
 (Prod.snd
 (Prod.snd
 (S.at'
 (Prod.snd
 (S.meaS np (fun (q : Nat) => tp (q + ap)) (fun (q : Nat) => vp (q + ap))
 (fun (q : Nat) => gp (q + ap)) (fun (q : Nat) => wp (q + ap)) nl (fun (q : Nat) => tl (q + al)) sy))
 j))))) =
 S.mkl
 (List.length
 (Prod.snd
 (S.meaS np (fun (q : Nat) => tp (q + ap)) (fun (q : Nat) => vp (q + ap)) (fun (q : Nat) => gp (q + ap))
 (fun (q : Nat) => wp (q + ap)) nl (fun (q : Nat) => tl (q + al)) sy)))
 fun (j : Nat) =>
 (Prod.fst
 (S.at'
 (Prod.snd
 (S.meaS np (fun (q : Nat) => tp (q + ap)) (fun (q : Nat) => vp (q + ap))
 (fun (q : Nat) => gp (q + ap)) (fun (q : Nat) => wp (q + ap)) nl (fun (q : Nat) => tl (q + al)) sy))
 j),
 Prod.fst
 (Prod.snd
 (S.at'
 (Prod.snd
 (S.meaS np (fun (q : Nat) => tp (q + ap)) (fun (q : Nat) => vp (q + ap))
 (fun (q : Nat) => gp (q + ap)) (fun (q : Nat) => wp (q + ap)) nl (fun (q : Nat) => tl (q + al)) sy))
 j)),
 Prod.fst
 (Prod.snd
 (Prod.snd
 (S.at'
 (Prod.snd
 (S.meaS np (fun (q : Nat) => tp (q + ap)) (fun (q : Nat) => vp (q + ap))
 (fun (q : Nat) => gp (q + ap)) (fun (q : Nat) => wp (q + ap)) nl (fun (q : Nat) => tl (q + al)) sy))
 j))),
 Prod.snd
 (Prod.snd
 (Prod.snd
 (S.at'
 (Prod.snd
 (S.meaS np (fun (q : Nat) => tp (q + ap)) (fun (q : Nat) => vp (q + ap))
 (fun (q : Nat) => gp (q + ap)) (fun (q : Nat) => wp (q + ap)) nl (fun (q : Nat) => tl (q + al)) sy))
 j))))))
 (Kret (PV.tf true) ([[(1, false, Blk.cols ml [Col.int IntKind.i64 tl]),
 (0, false,
 Blk.cols mp
 [Col.int IntKind.i64 tp, Col.int IntKind.i64 vp, Col.int IntKind.i64 gp,
 Col.int IntKind.i64 wp])]]) (16))
 (Kret (PV.tf false) ([[(1, false, Blk.cols ml [Col.int IntKind.i64 tl]),
 (0, false,
 Blk.cols mp
 [Col.int IntKind.i64 tp, Col.int IntKind.i64 vp, Col.int IntKind.i64 gp,
 Col.int IntKind.i64 wp])]]) (16)))
 (False))
 (Kret (PV.tf false) ([[(1, false, Blk.cols ml [Col.int IntKind.i64 tl]),
 (0, false,
 Blk.cols mp
 [Col.int IntKind.i64 tp, Col.int IntKind.i64 vp, Col.int IntKind.i64 gp,
 Col.int IntKind.i64 wp])]]) (15)))
 (False))
 (False))
 (False))
 (False)))
 (test (true)
 (test (true)
 (Kret (PV.tf true) ([[(1, false, Blk.cols ml [Col.int IntKind.i64 tl]),
 (0, false,
 Blk.cols mp
 [Col.int IntKind.i64 tp, Col.int IntKind.i64 vp, Col.int IntKind.i64 gp,
 Col.int IntKind.i64 wp])]]) (6))
 (Kret (PV.tf false) ([[(1, false, Blk.cols ml [Col.int IntKind.i64 tl]),
 (0, false,
 Blk.cols mp
 [Col.int IntKind.i64 tp, Col.int IntKind.i64 vp, Col.int IntKind.i64 gp,
 Col.int IntKind.i64 wp])]]) (6)))
 (False)))
 (test (true)
 (test (true)
 (Kret (PV.tf true) ([[(1, false, Blk.cols ml [Col.int IntKind.i64 tl]),
 (0, false,
 Blk.cols mp
 [Col.int IntKind.i64 tp, Col.int IntKind.i64 vp, Col.int IntKind.i64 gp,
 Col.int IntKind.i64 wp])]]) (5))
 (Kret (PV.tf false) ([[(1, false, Blk.cols ml [Col.int IntKind.i64 tl]),
 (0, false,
 Blk.cols mp
 [Col.int IntKind.i64 tp, Col.int IntKind.i64 vp, Col.int IntKind.i64 gp,
 Col.int IntKind.i64 wp])]]) (5)))
 (False)))
 (False)
set_option maxRecDepth 100000 in
theorem te4 (test : Bool → Prop → Prop → Prop) (Kst : KS) (Kret : KR) (ap np mp : Nat) (tp : Nat → Int) (vp : Nat → Int) (gp : Nat → Int) (wp : Nat → Int) (al nl ml : Nat) (tl : Nat → Int) (sy : Int) : run test Try.env true (xL test) true 400 ⟨4, [.cd (mkFn Try.f4).body], argT 0 [.agg [.loose ⟨0, 4, ap, 0⟩ np], .loose ⟨1, 1, al, 0⟩ nl, .int .i64 sy], [[], [(0, (false, .cols mp [.int .i64 tp, .int .i64 vp, .int .i64 gp, .int .i64 wp])), (1, (false, .cols ml [.int .i64 tl]))]], 2⟩ (proj 2 [] Kst Kret) =
  Te4 test Kst Kret ap np mp tp vp gp wp al nl ml tl sy := by kernel_rfl
set_option maxRecDepth 100000 in
theorem be4 (ap np mp : Nat) (tp : Nat → Int) (vp : Nat → Int) (gp : Nat → Int) (wp : Nat → Int) (al nl ml : Nat) (tl : Nat → Int) (sy : Int) (Kst : KS) (Kret : KR) (x : St4 ⊕ Rt4) (hS : HS 2 400 ((I4 ap np mp tp vp gp wp al nl ml tl sy)) Kst x) (hR : HR 2 400 ((V4 ap np mp tp vp gp wp al nl ml tl sy)) (fun r => [newL (2 + 1) ((N4 ap np mp tp vp gp wp al nl ml tl sy) r) ++ [(0, (false, .cols mp [.int .i64 tp, .int .i64 vp, .int .i64 gp, .int .i64 wp])), (1, (false, .cols ml [.int .i64 tl]))]]) Kret x) (h : (bif (decide ((↑np : Int) ≤ (70 : Int)))
 then (bif (decide ((↑nl : Int) > (80 : Int)))
 then (some (.inr (true)))
 else (bif (decide (ap + np ≤ mp ∧ np ≤ 1000000))
 then (bif (decide (al + nl ≤ ml ∧ nl ≤ 1000000))
 then (bif (decide (0 + np ≤ np ∧ np ≤ 1000000 ∧ 0 + nl ≤ nl ∧ nl ≤ 1000000))
 then (bif (decide (ap + np ≤ mp ∧ np ≤ 1000000 ∧ al + nl ≤ ml ∧ nl ≤ 1000000))
 then (bif (Prod.fst
 (S.meaS np (fun (q : Nat) => tp (q + ap)) (fun (q : Nat) => vp (q + ap)) (fun (q : Nat) => gp (q + ap))
 (fun (q : Nat) => wp (q + ap)) nl (fun (q : Nat) => tl (q + al)) sy) ==
 Prod.fst
 (S.meaS np (fun (q : Nat) => tp (q + ap)) (fun (q : Nat) => vp (q + ap)) (fun (q : Nat) => gp (q + ap))
 (fun (q : Nat) => wp (q + ap)) nl (fun (q : Nat) => tl (q + al)) sy))
 then (bif (decide
 (0 +
 List.length
 (Prod.snd
 (S.meaS np (fun (q : Nat) => tp (q + ap)) (fun (q : Nat) => vp (q + ap))
 (fun (q : Nat) => gp (q + ap)) (fun (q : Nat) => wp (q + ap)) nl (fun (q : Nat) => tl (q + al)) sy)) ≤
 List.length
 (Prod.snd
 (S.meaS np (fun (q : Nat) => tp (q + ap)) (fun (q : Nat) => vp (q + ap)) (fun (q : Nat) => gp (q + ap))
 (fun (q : Nat) => wp (q + ap)) nl (fun (q : Nat) => tl (q + al)) sy)) ∧
 List.length
 (Prod.snd
 (S.meaS np (fun (q : Nat) => tp (q + ap)) (fun (q : Nat) => vp (q + ap))
 (fun (q : Nat) => gp (q + ap)) (fun (q : Nat) => wp (q + ap)) nl (fun (q : Nat) => tl (q + al)) sy)) ≤
 1000000 ∧
 0 +
 List.length
 (Prod.snd
 (S.meaS np (fun (q : Nat) => tp (q + ap)) (fun (q : Nat) => vp (q + ap))
 (fun (q : Nat) => gp (q + ap)) (fun (q : Nat) => wp (q + ap)) nl (fun (q : Nat) => tl (q + al)) sy)) ≤
 List.length
 (Prod.snd
 (S.meaS np (fun (q : Nat) => tp (q + ap)) (fun (q : Nat) => vp (q + ap))
 (fun (q : Nat) => gp (q + ap)) (fun (q : Nat) => wp (q + ap)) nl (fun (q : Nat) => tl (q + al)) sy)) ∧
 List.length
 (Prod.snd
 (S.meaS np (fun (q : Nat) => tp (q + ap)) (fun (q : Nat) => vp (q + ap))
 (fun (q : Nat) => gp (q + ap)) (fun (q : Nat) => wp (q + ap)) nl (fun (q : Nat) => tl (q + al)) sy)) ≤
 1000000))
 then (bif (decide
 ((S.mkl
 (List.length
 (Prod.snd
 (S.meaS np (fun (q : Nat) => tp (q + ap)) (fun (q : Nat) => vp (q + ap)) (fun (q : Nat) => gp (q + ap))
 (fun (q : Nat) => wp (q + ap)) nl (fun (q : Nat) => tl (q + al)) sy)))
 fun (j : Nat) =>
 (Prod.fst
 (S.at'
 (Prod.snd
 (S.meaS np (fun (q : Nat) => tp (q + ap)) (fun (q : Nat) => vp (q + ap))
 (fun (q : Nat) => gp (q + ap)) (fun (q : Nat) => wp (q + ap)) nl (fun (q : Nat) => tl (q + al)) sy))
 j),
 Prod.fst
 (Prod.snd
 (S.at'
 (Prod.snd
 (S.meaS np (fun (q : Nat) => tp (q + ap)) (fun (q : Nat) => vp (q + ap))
 (fun (q : Nat) => gp (q + ap)) (fun (q : Nat) => wp (q + ap)) nl (fun (q : Nat) => tl (q + al)) sy))
 j)),
 Prod.fst
 (Prod.snd
 (Prod.snd
 (S.at'
 (Prod.snd
 (S.meaS np (fun (q : Nat) => tp (q + ap)) (fun (q : Nat) => vp (q + ap))
 (fun (q : Nat) => gp (q + ap)) (fun (q : Nat) => wp (q + ap)) nl (fun (q : Nat) => tl (q + al)) sy))
 j))),
 Prod.snd
 (Prod.snd
 (Prod.snd
 (S.at'
 (Prod.snd
 (S.meaS np (fun (q : Nat) => tp (q + ap)) (fun (q : Nat) => vp (q + ap))
 (fun (q : Nat) => gp (q + ap)) (fun (q : Nat) => wp (q + ap)) nl (fun (q : Nat) => tl (q + al)) sy))
 j))))) =
 S.mkl
 (List.length
 (Prod.snd
 (S.meaS np (fun (q : Nat) => tp (q + ap)) (fun (q : Nat) => vp (q + ap)) (fun (q : Nat) => gp (q + ap))
 (fun (q : Nat) => wp (q + ap)) nl (fun (q : Nat) => tl (q + al)) sy)))
 fun (j : Nat) =>
 (Prod.fst
 (S.at'
 (Prod.snd
 (S.meaS np (fun (q : Nat) => tp (q + ap)) (fun (q : Nat) => vp (q + ap))
 (fun (q : Nat) => gp (q + ap)) (fun (q : Nat) => wp (q + ap)) nl (fun (q : Nat) => tl (q + al)) sy))
 j),
 Prod.fst
 (Prod.snd
 (S.at'
 (Prod.snd
 (S.meaS np (fun (q : Nat) => tp (q + ap)) (fun (q : Nat) => vp (q + ap))
 (fun (q : Nat) => gp (q + ap)) (fun (q : Nat) => wp (q + ap)) nl (fun (q : Nat) => tl (q + al)) sy))
 j)),
 Prod.fst
 (Prod.snd
 (Prod.snd
 (S.at'
 (Prod.snd
 (S.meaS np (fun (q : Nat) => tp (q + ap)) (fun (q : Nat) => vp (q + ap))
 (fun (q : Nat) => gp (q + ap)) (fun (q : Nat) => wp (q + ap)) nl (fun (q : Nat) => tl (q + al)) sy))
 j))),
 Prod.snd
 (Prod.snd
 (Prod.snd
 (S.at'
 (Prod.snd
 (S.meaS np (fun (q : Nat) => tp (q + ap)) (fun (q : Nat) => vp (q + ap))
 (fun (q : Nat) => gp (q + ap)) (fun (q : Nat) => wp (q + ap)) nl (fun (q : Nat) => tl (q + al)) sy))
 j))))))
 then (some (.inr (true)))
 else (some (.inr (false))))
 else (none))
 else (some (.inr (false))))
 else (none))
 else (none))
 else (none))
 else (none)))
 else (some (.inr (true))) : Option (St4 ⊕ Rt4)) = some x) : Te4 cond Kst Kret ap np mp tp vp gp wp al nl ml tl sy := by
  unfold Te4
  exact cond_yes rfl (cond_yes rfl (bif_split h
   (fun c0 h => bif_split h
   (fun c1 h => cond_yes rfl (cond_yes rfl (ret_at hR _ h (fun n => n) rfl rfl rfl (rn_bool_tf rfl) rfl (entl_bor (use_lo rfl) rfl rfl (entl_bor (use_lo rfl) rfl rfl entl_nil)))))
   (fun c1 h => bif_split h
   (fun c2 h => bif_split h
   (fun c3 h => bif_split h
   (fun c4 h => bif_split h
   (fun c5 h => bif_split h
   (fun c6 h => bif_split h
   (fun c7 h => bif_split h
   (fun c8 h => ret_at hR _ h (fun n => n) rfl rfl rfl (rn_bool_tf rfl) rfl (entl_bor (use_lo rfl) rfl rfl (entl_bor (use_lo rfl) rfl rfl entl_nil)))
   (fun c8 h => ret_at hR _ h (fun n => n) rfl rfl rfl (rn_bool_tf rfl) rfl (entl_bor (use_lo rfl) rfl rfl (entl_bor (use_lo rfl) rfl rfl entl_nil))))
   (fun c7 h => no_some h))
   (fun c6 h => ret_at hR _ h (fun n => n) rfl rfl rfl (rn_bool_tf rfl) rfl (entl_bor (use_lo rfl) rfl rfl (entl_bor (use_lo rfl) rfl rfl entl_nil))))
   (fun c5 h => no_some h))
   (fun c4 h => no_some h))
   (fun c3 h => no_some h))
   (fun c2 h => no_some h)))
   (fun c0 h => cond_yes rfl (cond_yes rfl (ret_at hR _ h (fun n => n) rfl rfl rfl (rn_bool_tf rfl) rfl (entl_bor (use_lo rfl) rfl rfl (entl_bor (use_lo rfl) rfl rfl entl_nil)))))))
theorem a4 (ap np mp : Nat) (tp : Nat → Int) (vp : Nat → Int) (gp : Nat → Int) (wp : Nat → Int) (al nl ml : Nat) (tl : Nat → Int) (sy : Int) {r : Rt4} (h : Goes ((q4 ap np mp tp vp gp wp al nl ml tl sy)) ((p4 ap np mp tp vp gp wp al nl ml tl sy)) r) : CallR Try.prog 4 [.agg [.loose ⟨0, 4, ap, 0⟩ np], .loose ⟨1, 1, al, 0⟩ nl, .int .i64 sy] [[(0, (false, .cols mp [.int .i64 tp, .int .i64 vp, .int .i64 gp, .int .i64 wp])), (1, (false, .cols ml [.int .i64 tl]))]] 2 ((V4 ap np mp tp vp gp wp al nl ml tl sy) r) ((fun r => [newL (2 + 1) ((N4 ap np mp tp vp gp wp al nl ml tl sy) r) ++ [(0, (false, .cols mp [.int .i64 tp, .int .i64 vp, .int .i64 gp, .int .i64 wp])), (1, (false, .cols ml [.int .i64 tl]))]]) r) 400 ∧ ∃ F, Try.prog.funcs[4]? = some F ∧ F.body.isSome = true ∧ (F.name == "runtime.NumGoroutine") = false := by
  refine dec_calls (f := 4) (lo := 2) (hi := 400) (H := [[(0, (false, .cols mp [.int .i64 tp, .int .i64 vp, .int .i64 gp, .int .i64 wp])), (1, (false, .cols ml [.int .i64 tl]))]]) (args := [.agg [.loose ⟨0, 4, ap, 0⟩ np], .loose ⟨1, 1, al, 0⟩ nl, .int .i64 sy]) Try.envOk Try.mixed xL_ok ((I4 ap np mp tp vp gp wp al nl ml tl sy)) ((V4 ap np mp tp vp gp wp al nl ml tl sy)) (fun r => [newL (2 + 1) ((N4 ap np mp tp vp gp wp al nl ml tl sy) r) ++ [(0, (false, .cols mp [.int .i64 tp, .int .i64 vp, .int .i64 gp, .int .i64 wp])), (1, (false, .cols ml [.int .i64 tl]))]]) (fn := mkFn Try.f4) (ts := []) (n := 400) rfl (by decide) (by simp) (names_of rfl) ?_ ?_ ?_ h
  · intro s; exact s.elim
  · intro Kst Kret x hS hR h
    exact Holds.eq (te4 cond Kst Kret ap np mp tp vp gp wp al nl ml tl sy) (be4 ap np mp tp vp gp wp al nl ml tl sy Kst Kret x hS hR h)
  · intro Kst Kret x hS hR s h; exact s.elim
noncomputable def k4 : Con := ⟨4, [.agg [.list [.int .i64, .int .i64, .int .i64, .int .i64]], .one (.list [.int .i64]), .one (.plain (.int .i64))], fun (x : ((Nat × Nat × Nat × (Nat → Int) × (Nat → Int) × (Nat → Int) × (Nat → Int) × Unit) × Unit) × (Nat × Nat × Nat × (Nat → Int) × Unit) × Int × Unit) => (fun (ap np mp : Nat) (tp : Nat → Int) (vp : Nat → Int) (gp : Nat → Int) (wp : Nat → Int) (al nl ml : Nat) (tl : Nat → Int) (sy : Int) => decide (ap + np ≤ mp ∧ al + nl ≤ ml)) x.1.1.1 x.1.1.2.1 x.1.1.2.2.1 x.1.1.2.2.2.1 x.1.1.2.2.2.2.1 x.1.1.2.2.2.2.2.1 x.1.1.2.2.2.2.2.2.1 x.2.1.1 x.2.1.2.1 x.2.1.2.2.1 x.2.1.2.2.2.1 x.2.2.1, fun (x : ((Nat × Nat × Nat × (Nat → Int) × (Nat → Int) × (Nat → Int) × (Nat → Int) × Unit) × Unit) × (Nat × Nat × Nat × (Nat → Int) × Unit) × Int × Unit) => (fun (ap np mp : Nat) (tp : Nat → Int) (vp : Nat → Int) (gp : Nat → Int) (wp : Nat → Int) (al nl ml : Nat) (tl : Nat → Int) (sy : Int) => (V4 ap np mp tp vp gp wp al nl ml tl sy) (true)) x.1.1.1 x.1.1.2.1 x.1.1.2.2.1 x.1.1.2.2.2.1 x.1.1.2.2.2.2.1 x.1.1.2.2.2.2.2.1 x.1.1.2.2.2.2.2.2.1 x.2.1.1 x.2.1.2.1 x.2.1.2.2.1 x.2.1.2.2.2.1 x.2.2.1, fun (x : ((Nat × Nat × Nat × (Nat → Int) × (Nat → Int) × (Nat → Int) × (Nat → Int) × Unit) × Unit) × (Nat × Nat × Nat × (Nat → Int) × Unit) × Int × Unit) => (fun (ap np mp : Nat) (tp : Nat → Int) (vp : Nat → Int) (gp : Nat → Int) (wp : Nat → Int) (al nl ml : Nat) (tl : Nat → Int) (sy : Int) => (N4 ap np mp tp vp gp wp al nl ml tl sy) (true)) x.1.1.1 x.1.1.2.1 x.1.1.2.2.1 x.1.1.2.2.2.1 x.1.1.2.2.2.2.1 x.1.1.2.2.2.2.2.1 x.1.1.2.2.2.2.2.2.1 x.2.1.1 x.2.1.2.1 x.2.1.2.2.1 x.2.1.2.2.2.1 x.2.2.1, fun _ _ => .dead⟩
theorem s4 (ap np mp : Nat) (tp : Nat → Int) (vp : Nat → Int) (gp : Nat → Int) (wp : Nat → Int) (al nl ml : Nat) (tl : Nat → Int) (sy : Int) (hp : ap + np ≤ mp ∧ al + nl ≤ ml) : Goes ((q4 ap np mp tp vp gp wp al nl ml tl sy)) ((p4 ap np mp tp vp gp wp al nl ml tl sy)) (true) := by
  unfold p4
  by_cases hn : np ≤ 70
  · skip
    by_cases hn2 : nl ≤ 80
    · skip
      have l1 := mea_len (n := np) (p := (fun q => tp (q + ap))) (d := (fun q => vp (q + ap))) (u := (fun q => gp (q + ap))) (j := (fun q => wp (q + ap))) (m := nl) (r := (fun q => tl (q + al))) (a := sy)
      generalize S.meaS np (fun q => tp (q + ap)) (fun q => vp (q + ap)) (fun q => gp (q + ap)) (fun q => wp (q + ap)) nl (fun q => tl (q + al)) sy = P1 at *
      repeat' first
        | with_reducible exact goes_inr.mpr rfl
        | (refine goes_ok ?_ ?_; focus (first | with_reducible exact beq_self_eq_true _ | (simp only [Bool.and_eq_true, decide_eq_true_eq, and_self, eq_self]; done) | with_reducible exact decide_eq_true trivial | with_reducible exact decide_eq_true rfl | (simp only [eq_self, decide_true, Bool.and_self, Bool.and_true, Bool.true_and]; done) | (apply decide_eq_true; omega) | (rw [lim64]; apply decide_eq_true; omega) | (apply decide_eq_true; simp only [mkl_len, mkl_zero, List.length_nil, true_and, and_true, and_self, Nat.zero_add, Nat.add_zero, Nat.le_refl]; done) | (apply decide_eq_true; simp only [mkl_len, mkl_zero, List.length_nil, true_and, and_true, and_self, Nat.zero_add, Nat.add_zero, Nat.le_refl]; omega) | decide))
        | (refine goes_no ?_ ?_; focus (first | with_reducible exact bne_self_eq_false _ | (apply decide_eq_false; omega) | decide))
    · repeat' first
        | with_reducible exact goes_inr.mpr rfl
        | (refine goes_no ?_ ?_; focus (apply decide_eq_false; omega))
        | (refine goes_ok ?_ ?_; focus (apply decide_eq_true; omega))
  · repeat' first
      | with_reducible exact goes_inr.mpr rfl
      | (refine goes_no ?_ ?_; focus (apply decide_eq_false; omega))
      | (refine goes_ok ?_ ?_; focus (apply decide_eq_true; omega))

theorem k4_ok : k4.ok Try.prog := by
  intro x hx
  obtain ⟨⟨⟨ap, np, mp, tp, vp, gp, wp, _⟩, _⟩, ⟨al, nl, ml, tl, _⟩, sy, _⟩ := x
  obtain ⟨h1, h2⟩ := a4 ap np mp tp vp gp wp al nl ml tl sy (s4 ap np mp tp vp gp wp al nl ml tl sy (of_dec hx rfl))
  exact ⟨⟨400, (by decide : 2 + 1 + 0 ≤ 400), h1⟩, h2⟩

end Go.Ev
