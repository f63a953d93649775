/-
  The law of Erases.
-/
import Derived.Test.YtccojphjkaikeaaMA1
import Derived.Test.YtccojphjkaikeaaMB1
import Derived.Test.YtccojphjkaikeaaMB2
import Derived.Test.YtccojphjkaikeaaMB6
namespace Go.Ev
open Go.Proofs
set_option linter.unusedVariables false
set_option linter.unusedSimpArgs false
set_option maxRecDepth 100000
noncomputable def yC2 (test : Bool → Prop → Prop → Prop) : Ext := consX test [k12, k34, k35, k25, k37, k38]
theorem yC2_ok : ExtOk Try.prog (yC2 cond) := consX_ok (l := [k12, k34, k35, k25, k37, k38]) ⟨k12_ok, k34_ok, k35_ok, k25_ok, k37_ok, k38_ok, trivial⟩
abbrev St8 := Empty
abbrev Rt8 := Bool
noncomputable def V8 (ar nr mr : Nat) (tr : Nat → Int) (vr : Nat → Int) (gr : Nat → Int) (ao no mo : Nat) (to : Nat → Bool) (al nl ml : Nat) (tl : Nat → Int) (r : Rt8) : PV := PV.bool r
noncomputable def N8 (ar nr mr : Nat) (tr : Nat → Int) (vr : Nat → Int) (gr : Nat → Int) (ao no mo : Nat) (to : Nat → Bool) (al nl ml : Nat) (tl : Nat → Int) (r : Rt8) : List Blk := []
noncomputable def I8 (ar nr mr : Nat) (tr : Nat → Int) (vr : Nat → Int) (gr : Nat → Int) (ao no mo : Nat) (to : Nat → Bool) (al nl ml : Nat) (tl : Nat → Int) : St8 → Hd := fun s => s.elim
noncomputable def q8 (ar nr mr : Nat) (tr : Nat → Int) (vr : Nat → Int) (gr : Nat → Int) (ao no mo : Nat) (to : Nat → Bool) (al nl ml : Nat) (tl : Nat → Int) : St8 → Option (St8 ⊕ Rt8) := fun s => s.elim
noncomputable def p8 (ar nr mr : Nat) (tr : Nat → Int) (vr : Nat → Int) (gr : Nat → Int) (ao no mo : Nat) (to : Nat → Bool) (al nl ml : Nat) (tl : Nat → Int) : Option (St8 ⊕ Rt8) := bif (decide ((↑nr : Int) ≤ (45 : Int)))
 then (bif (decide ((↑no : Int) ≤ (50 : Int)))
 then (bif (decide ((↑nl : Int) > (60 : Int)))
 then (bif (decide ((↑nl : Int) ≤ (1000 : Int)))
 then (some (.inr (true)))
 else (bif (decide ((↑nl : Int) > (1010 : Int)))
 then (some (.inr (true)))
 else (bif (decide (ar + nr ≤ mr ∧ nr ≤ 1000000))
 then (bif (decide (ao + no ≤ mo ∧ no ≤ 1000000))
 then (bif (decide (al + nl ≤ ml ∧ nl ≤ 1000000))
 then (bif (decide
 (0 + nr ≤ nr ∧
 nr ≤ 1000000 ∧ 0 + no ≤ no ∧ no ≤ 1000000 ∧ 0 + nl ≤ nl ∧ nl ≤ 1000000))
 then (bif (Prod.fst
 (S.erS nr (fun (j : Nat) => tr (j + ar)) (fun (j : Nat) => vr (j + ar)) (fun (j : Nat) => gr (j + ar)) no nl
 fun (j : Nat) => tl (j + al)))
 then (bif (decide
 (ar + nr ≤ mr ∧ nr ≤ 1000000 ∧ ao + no ≤ mo ∧ no ≤ 1000000 ∧ al + nl ≤ ml ∧ nl ≤ 1000000))
 then (bif (Prod.snd
 (S.erS nr (fun (j : Nat) => tr (j + ar)) (fun (j : Nat) => vr (j + ar)) (fun (j : Nat) => gr (j + ar)) no nl
 fun (j : Nat) => tl (j + al)) ==
 Prod.snd
 (S.erS nr (fun (j : Nat) => tr (j + ar)) (fun (j : Nat) => vr (j + ar)) (fun (j : Nat) => gr (j + ar)) no nl
 fun (j : Nat) => tl (j + al)))
 then (some (.inr (true)))
 else (some (.inr (false))))
 else (none))
 else (bif (decide
 (ar + nr ≤ mr ∧ nr ≤ 1000000 ∧ ao + no ≤ mo ∧ no ≤ 1000000 ∧ al + nl ≤ ml ∧ nl ≤ 1000000))
 then (bif (Prod.snd
 (S.erS nr (fun (j : Nat) => tr (j + ar)) (fun (j : Nat) => vr (j + ar)) (fun (j : Nat) => gr (j + ar)) no nl
 fun (j : Nat) => tl (j + al)) ==
 Prod.snd
 (S.erS nr (fun (j : Nat) => tr (j + ar)) (fun (j : Nat) => vr (j + ar)) (fun (j : Nat) => gr (j + ar)) no nl
 fun (j : Nat) => tl (j + al)))
 then (some (.inr (true)))
 else (some (.inr (false))))
 else (none)))
 else (none))
 else (none))
 else (none))
 else (none))))
 else (bif (decide ((↑nl : Int) > (1010 : Int)))
 then (some (.inr (true)))
 else (bif (decide (ar + nr ≤ mr ∧ nr ≤ 1000000))
 then (bif (decide (ao + no ≤ mo ∧ no ≤ 1000000))
 then (bif (decide (al + nl ≤ ml ∧ nl ≤ 1000000))
 then (bif (decide
 (0 + nr ≤ nr ∧
 nr ≤ 1000000 ∧ 0 + no ≤ no ∧ no ≤ 1000000 ∧ 0 + nl ≤ nl ∧ nl ≤ 1000000))
 then (bif (Prod.fst
 (S.erS nr (fun (j : Nat) => tr (j + ar)) (fun (j : Nat) => vr (j + ar)) (fun (j : Nat) => gr (j + ar)) no nl
 fun (j : Nat) => tl (j + al)))
 then (bif (decide
 (ar + nr ≤ mr ∧ nr ≤ 1000000 ∧ ao + no ≤ mo ∧ no ≤ 1000000 ∧ al + nl ≤ ml ∧ nl ≤ 1000000))
 then (bif (Prod.snd
 (S.erS nr (fun (j : Nat) => tr (j + ar)) (fun (j : Nat) => vr (j + ar)) (fun (j : Nat) => gr (j + ar)) no nl
 fun (j : Nat) => tl (j + al)) ==
 Prod.snd
 (S.erS nr (fun (j : Nat) => tr (j + ar)) (fun (j : Nat) => vr (j + ar)) (fun (j : Nat) => gr (j + ar)) no nl
 fun (j : Nat) => tl (j + al)))
 then (some (.inr (true)))
 else (some (.inr (false))))
 else (none))
 else (bif (decide
 (ar + nr ≤ mr ∧ nr ≤ 1000000 ∧ ao + no ≤ mo ∧ no ≤ 1000000 ∧ al + nl ≤ ml ∧ nl ≤ 1000000))
 then (bif (Prod.snd
 (S.erS nr (fun (j : Nat) => tr (j + ar)) (fun (j : Nat) => vr (j + ar)) (fun (j : Nat) => gr (j + ar)) no nl
 fun (j : Nat) => tl (j + al)) ==
 Prod.snd
 (S.erS nr (fun (j : Nat) => tr (j + ar)) (fun (j : Nat) => vr (j + ar)) (fun (j : Nat) => gr (j + ar)) no nl
 fun (j : Nat) => tl (j + al)))
 then (some (.inr (true)))
 else (some (.inr (false))))
 else (none)))
 else (none))
 else (none))
 else (none))
 else (none))))
 else (some (.inr (true))))
 else (some (.inr (true)))
noncomputable def Te8 (test : Bool → Prop → Prop → Prop) (Kst : KS) (Kret : KR) (ar nr mr : Nat) (tr : Nat → Int) (vr : Nat → Int) (gr : Nat → Int) (ao no mo : Nat) (to : Nat → Bool) (al nl ml : Nat) (tl : Nat → Int) : Prop :=
  test (true)
 (test (true)
 (test (decide ((↑nr : Int) ≤ (45 : Int)))
 (test (decide ((↑no : Int) ≤ (50 : Int)))
 (test (decide ((↑nl : Int) > (60 : Int)))
 (test (decide ((↑nl : Int) ≤ (1000 : Int)))
 (test (true)
 (test (true)
 (Kret (PV.tf true) ([[(2, false, Blk.cols ml [Col.int IntKind.i64 tl]),
 (1, false, Blk.cols mo [Col.bool to]),
 (0, false,
 Blk.cols mr
 [Col.int IntKind.i64 tr, Col.int IntKind.i64 vr, Col.int IntKind.i64 gr])]]) (7))
 (Kret (PV.tf false) ([[(2, false, Blk.cols ml [Col.int IntKind.i64 tl]),
 (1, false, Blk.cols mo [Col.bool to]),
 (0, false,
 Blk.cols mr
 [Col.int IntKind.i64 tr, Col.int IntKind.i64 vr, Col.int IntKind.i64 gr])]]) (7)))
 (False))
 (test (decide ((↑nl : Int) > (1010 : Int)))
 (test (true)
 (test (true)
 (Kret (PV.tf true) ([[(2, false, Blk.cols ml [Col.int IntKind.i64 tl]),
 (1, false, Blk.cols mo [Col.bool to]),
 (0, false,
 Blk.cols mr
 [Col.int IntKind.i64 tr, Col.int IntKind.i64 vr, Col.int IntKind.i64 gr])]]) (7))
 (Kret (PV.tf false) ([[(2, false, Blk.cols ml [Col.int IntKind.i64 tl]),
 (1, false, Blk.cols mo [Col.bool to]),
 (0, false,
 Blk.cols mr
 [Col.int IntKind.i64 tr, Col.int IntKind.i64 vr, Col.int IntKind.i64 gr])]]) (7)))
 (False))
 (test (decide (ar + nr ≤ mr ∧ nr ≤ 1000000))
 (test (decide (ao + no ≤ mo ∧ no ≤ 1000000))
 (test (decide (al + nl ≤ ml ∧ nl ≤ 1000000))
 (test (decide
 (0 + nr ≤ nr ∧
 nr ≤ 1000000 ∧ 0 + no ≤ no ∧ no ≤ 1000000 ∧ 0 + nl ≤ nl ∧ nl ≤ 1000000))
 (test (Prod.fst
 (S.erS nr (fun (j : Nat) => tr (j + ar)) (fun (j : Nat) => vr (j + ar)) (fun (j : Nat) => gr (j + ar)) no nl
 fun (j : Nat) => tl (j + al)))
 (test (decide
 (ar + nr ≤ mr ∧ nr ≤ 1000000 ∧ ao + no ≤ mo ∧ no ≤ 1000000 ∧ al + nl ≤ ml ∧ nl ≤ 1000000))
 (test (Prod.fst
 (S.erS nr (fun (j : Nat) => tr (j + ar)) (fun (j : Nat) => vr (j + ar)) (fun (j : Nat) => gr (j + ar)) no nl
 fun (j : Nat) => tl (j + al)))
 (test (Prod.snd
 (S.erS nr (fun (j : Nat) => tr (j + ar)) (fun (j : Nat) => vr (j + ar)) (fun (j : Nat) => gr (j + ar)) no nl
 fun (j : Nat) => tl (j + al)) ==
 Prod.snd
 (S.erS nr (fun (j : Nat) => tr (j + ar)) (fun (j : Nat) => vr (j + ar)) (fun (j : Nat) => gr (j + ar)) no nl
 fun (j : Nat) => tl (j + al)))
 (Kret (PV.tf true) ([[(2, false, Blk.cols ml [Col.int IntKind.i64 tl]),
 (1, false, Blk.cols mo [Col.bool to]),
 (0, false,
 Blk.cols mr
 [Col.int IntKind.i64 tr, Col.int IntKind.i64 vr, Col.int IntKind.i64 gr])]]) (16))
 (Kret (PV.tf false) ([[(2, false, Blk.cols ml [Col.int IntKind.i64 tl]),
 (1, false, Blk.cols mo [Col.bool to]),
 (0, false,
 Blk.cols mr
 [Col.int IntKind.i64 tr, Col.int IntKind.i64 vr, Col.int IntKind.i64 gr])]]) (16)))
 (Kret (PV.tf false) ([[(2, false, Blk.cols ml [Col.int IntKind.i64 tl]),
 (1, false, Blk.cols mo [Col.bool to]),
 (0, false,
 Blk.cols mr
 [Col.int IntKind.i64 tr, Col.int IntKind.i64 vr, Col.int IntKind.i64 gr])]]) (16)))
 (False))
 (test (decide
 (ar + nr ≤ mr ∧ nr ≤ 1000000 ∧ ao + no ≤ mo ∧ no ≤ 1000000 ∧ al + nl ≤ ml ∧ nl ≤ 1000000))
 (test (Prod.fst
 (S.erS nr (fun (j : Nat) => tr (j + ar)) (fun (j : Nat) => vr (j + ar)) (fun (j : Nat) => gr (j + ar)) no nl
 fun (j : Nat) => tl (j + al)))
 (Kret (PV.tf false) ([[(2, false, Blk.cols ml [Col.int IntKind.i64 tl]),
 (1, false, Blk.cols mo [Col.bool to]),
 (0, false,
 Blk.cols mr
 [Col.int IntKind.i64 tr, Col.int IntKind.i64 vr, Col.int IntKind.i64 gr])]]) (16))
 (test (Prod.snd
 (S.erS nr (fun (j : Nat) => tr (j + ar)) (fun (j : Nat) => vr (j + ar)) (fun (j : Nat) => gr (j + ar)) no nl
 fun (j : Nat) => tl (j + al)) ==
 Prod.snd
 (S.erS nr (fun (j : Nat) => tr (j + ar)) (fun (j : Nat) => vr (j + ar)) (fun (j : Nat) => gr (j + ar)) no nl
 fun (j : Nat) => tl (j + al)))
 (Kret (PV.tf true) ([[(2, false, Blk.cols ml [Col.int IntKind.i64 tl]),
 (1, false, Blk.cols mo [Col.bool to]),
 (0, false,
 Blk.cols mr
 [Col.int IntKind.i64 tr, Col.int IntKind.i64 vr, Col.int IntKind.i64 gr])]]) (16))
 (Kret (PV.tf false) ([[(2, false, Blk.cols ml [Col.int IntKind.i64 tl]),
 (1, false, Blk.cols mo [Col.bool to]),
 (0, false,
 Blk.cols mr
 [Col.int IntKind.i64 tr, Col.int IntKind.i64 vr, Col.int IntKind.i64 gr])]]) (16))))
 (False)))
 (False))
 (False))
 (False))
 (False))))
 (test (decide ((↑nl : Int) > (1010 : Int)))
 (test (true)
 (test (true)
 (Kret (PV.tf true) ([[(2, false, Blk.cols ml [Col.int IntKind.i64 tl]),
 (1, false, Blk.cols mo [Col.bool to]),
 (0, false,
 Blk.cols mr
 [Col.int IntKind.i64 tr, Col.int IntKind.i64 vr, Col.int IntKind.i64 gr])]]) (7))
 (Kret (PV.tf false) ([[(2, false, Blk.cols ml [Col.int IntKind.i64 tl]),
 (1, false, Blk.cols mo [Col.bool to]),
 (0, false,
 Blk.cols mr
 [Col.int IntKind.i64 tr, Col.int IntKind.i64 vr, Col.int IntKind.i64 gr])]]) (7)))
 (False))
 (test (decide (ar + nr ≤ mr ∧ nr ≤ 1000000))
 (test (decide (ao + no ≤ mo ∧ no ≤ 1000000))
 (test (decide (al + nl ≤ ml ∧ nl ≤ 1000000))
 (test (decide
 (0 + nr ≤ nr ∧
 nr ≤ 1000000 ∧ 0 + no ≤ no ∧ no ≤ 1000000 ∧ 0 + nl ≤ nl ∧ nl ≤ 1000000))
 (test (Prod.fst
 (S.erS nr (fun (j : Nat) => tr (j + ar)) (fun (j : Nat) => vr (j + ar)) (fun (j : Nat) => gr (j + ar)) no nl
 fun (j : Nat) => tl (j + al)))
 (test (decide
 (ar + nr ≤ mr ∧ nr ≤ 1000000 ∧ ao + no ≤ mo ∧ no ≤ 1000000 ∧ al + nl ≤ ml ∧ nl ≤ 1000000))
 (test (Prod.fst
 (S.erS nr (fun (j : Nat) => tr (j + ar)) (fun (j : Nat) => vr (j + ar)) (fun (j : Nat) => gr (j + ar)) no nl
 fun (j : Nat) => tl (j + al)))
 (test (Prod.snd
 (S.erS nr (fun (j : Nat) => tr (j + ar)) (fun (j : Nat) => vr (j + ar)) (fun (j : Nat) => gr (j + ar)) no nl
 fun (j : Nat) => tl (j + al)) ==
 Prod.snd
 (S.erS nr (fun (j : Nat) => tr (j + ar)) (fun (j : Nat) => vr (j + ar)) (fun (j : Nat) => gr (j + ar)) no nl
 fun (j : Nat) => tl (j + al)))
 (Kret (PV.tf true) ([[(2, false, Blk.cols ml [Col.int IntKind.i64 tl]),
 (1, false, Blk.cols mo [Col.bool to]),
 (0, false,
 Blk.cols mr
 [Col.int IntKind.i64 tr, Col.int IntKind.i64 vr, Col.int IntKind.i64 gr])]]) (16))
 (Kret (PV.tf false) ([[(2, false, Blk.cols ml [Col.int IntKind.i64 tl]),
 (1, false, Blk.cols mo [Col.bool to]),
 (0, false,
 Blk.cols mr
 [Col.int IntKind.i64 tr, Col.int IntKind.i64 vr, Col.int IntKind.i64 gr])]]) (16)))
 (Kret (PV.tf false) ([[(2, false, Blk.cols ml [Col.int IntKind.i64 tl]),
 (1, false, Blk.cols mo [Col.bool to]),
 (0, false,
 Blk.cols mr
 [Col.int IntKind.i64 tr, Col.int IntKind.i64 vr, Col.int IntKind.i64 gr])]]) (16)))
 (False))
 (test (decide
 (ar + nr ≤ mr ∧ nr ≤ 1000000 ∧ ao + no ≤ mo ∧ no ≤ 1000000 ∧ al + nl ≤ ml ∧ nl ≤ 1000000))
 (test (Prod.fst
 (S.erS nr (fun (j : Nat) => tr (j + ar)) (fun (j : Nat) => vr (j + ar)) (fun (j : Nat) => gr (j + ar)) no nl
 fun (j : Nat) => tl (j + al)))
 (Kret (PV.tf false) ([[(2, false, Blk.cols ml [Col.int IntKind.i64 tl]),
 (1, false, Blk.cols mo [Col.bool to]),
 (0, false,
 Blk.cols mr
 [Col.int IntKind.i64 tr, Col.int IntKind.i64 vr, Col.int IntKind.i64 gr])]]) (16))
 (test (Prod.snd
 (S.erS nr (fun (j : Nat) => tr (j + ar)) (fun (j : Nat) => vr (j + ar)) (fun (j : Nat) => gr (j + ar)) no nl
 fun (j : Nat) => tl (j + al)) ==
 Prod.snd
 (S.erS nr (fun (j : Nat) => tr (j + ar)) (fun (j : Nat) => vr (j + ar)) (fun (j : Nat) => gr (j + ar)) no nl
 fun (j : Nat) => tl (j + al)))
 (Kret (PV.tf true) ([[(2, false, Blk.cols ml [Col.int IntKind.i64 tl]),
 (1, false, Blk.cols mo [Col.bool to]),
 (0, false,
 Blk.cols mr
 [Col.int IntKind.i64 tr, Col.int IntKind.i64 vr, Col.int IntKind.i64 gr])]]) (16))
 (Kret (PV.tf false) ([[(2, false, Blk.cols ml [Col.int IntKind.i64 tl]),
 (1, false, Blk.cols mo [Col.bool to]),
 (0, false,
 Blk.cols mr
 [Col.int IntKind.i64 tr, Col.int IntKind.i64 vr, Col.int IntKind.i64 gr])]]) (16))))
 (False)))
 (False))
 (False))
 (False))
 (False))))
 (test (true)
 (test (true)
 (Kret (PV.tf true) ([[(2, false, Blk.cols ml [Col.int IntKind.i64 tl]),
 (1, false, Blk.cols mo [Col.bool to]),
 (0, false,
 Blk.cols mr
 [Col.int IntKind.i64 tr, Col.int IntKind.i64 vr, Col.int IntKind.i64 gr])]]) (7))
 (Kret (PV.tf false) ([[(2, false, Blk.cols ml [Col.int IntKind.i64 tl]),
 (1, false, Blk.cols mo [Col.bool to]),
 (0, false,
 Blk.cols mr
 [Col.int IntKind.i64 tr, Col.int IntKind.i64 vr, Col.int IntKind.i64 gr])]]) (7)))
 (False)))
 (test (true)
 (test (true)
 (Kret (PV.tf true) ([[(2, false, Blk.cols ml [Col.int IntKind.i64 tl]),
 (1, false, Blk.cols mo [Col.bool to]),
 (0, false,
 Blk.cols mr
 [Col.int IntKind.i64 tr, Col.int IntKind.i64 vr, Col.int IntKind.i64 gr])]]) (7))
 (Kret (PV.tf false) ([[(2, false, Blk.cols ml [Col.int IntKind.i64 tl]),
 (1, false, Blk.cols mo [Col.bool to]),
 (0, false,
 Blk.cols mr
 [Col.int IntKind.i64 tr, Col.int IntKind.i64 vr, Col.int IntKind.i64 gr])]]) (7)))
 (False)))
 (test (true)
 (test (true)
 (Kret (PV.tf true) ([[(2, false, Blk.cols ml [Col.int IntKind.i64 tl]),
 (1, false, Blk.cols mo [Col.bool to]),
 (0, false,
 Blk.cols mr
 [Col.int IntKind.i64 tr, Col.int IntKind.i64 vr, Col.int IntKind.i64 gr])]]) (6))
 (Kret (PV.tf false) ([[(2, false, Blk.cols ml [Col.int IntKind.i64 tl]),
 (1, false, Blk.cols mo [Col.bool to]),
 (0, false,
 Blk.cols mr
 [Col.int IntKind.i64 tr, Col.int IntKind.i64 vr, Col.int IntKind.i64 gr])]]) (6)))
 (False)))
 (False)
set_option maxRecDepth 100000 in
theorem te8 (test : Bool → Prop → Prop → Prop) (Kst : KS) (Kret : KR) (ar nr mr : Nat) (tr : Nat → Int) (vr : Nat → Int) (gr : Nat → Int) (ao no mo : Nat) (to : Nat → Bool) (al nl ml : Nat) (tl : Nat → Int) : run test Try.env true (yC2 test) true 400 ⟨8, [.cd (mkFn Try.f8).body], argT 0 [.agg [.loose ⟨0, 3, ar, 0⟩ nr, .loose ⟨1, 1, ao, 0⟩ no], .loose ⟨2, 1, al, 0⟩ nl], [[], [(0, (false, .cols mr [.int .i64 tr, .int .i64 vr, .int .i64 gr])), (1, (false, .cols mo [.bool to])), (2, (false, .cols ml [.int .i64 tl]))]], 3⟩ (proj 3 [] Kst Kret) =
  Te8 test Kst Kret ar nr mr tr vr gr ao no mo to al nl ml tl := by kernel_rfl
set_option maxRecDepth 100000 in
theorem be8 (ar nr mr : Nat) (tr : Nat → Int) (vr : Nat → Int) (gr : Nat → Int) (ao no mo : Nat) (to : Nat → Bool) (al nl ml : Nat) (tl : Nat → Int) (Kst : KS) (Kret : KR) (x : St8 ⊕ Rt8) (hS : HS 3 400 ((I8 ar nr mr tr vr gr ao no mo to al nl ml tl)) Kst x) (hR : HR 3 400 ((V8 ar nr mr tr vr gr ao no mo to al nl ml tl)) (fun r => [newL (3 + 1) ((N8 ar nr mr tr vr gr ao no mo to al nl ml tl) r) ++ [(0, (false, .cols mr [.int .i64 tr, .int .i64 vr, .int .i64 gr])), (1, (false, .cols mo [.bool to])), (2, (false, .cols ml [.int .i64 tl]))]]) Kret x) (h : (bif (decide ((↑nr : Int) ≤ (45 : Int)))
 then (bif (decide ((↑no : Int) ≤ (50 : Int)))
 then (bif (decide ((↑nl : Int) > (60 : Int)))
 then (bif (decide ((↑nl : Int) ≤ (1000 : Int)))
 then (some (.inr (true)))
 else (bif (decide ((↑nl : Int) > (1010 : Int)))
 then (some (.inr (true)))
 else (bif (decide (ar + nr ≤ mr ∧ nr ≤ 1000000))
 then (bif (decide (ao + no ≤ mo ∧ no ≤ 1000000))
 then (bif (decide (al + nl ≤ ml ∧ nl ≤ 1000000))
 then (bif (decide
 (0 + nr ≤ nr ∧
 nr ≤ 1000000 ∧ 0 + no ≤ no ∧ no ≤ 1000000 ∧ 0 + nl ≤ nl ∧ nl ≤ 1000000))
 then (bif (Prod.fst
 (S.erS nr (fun (j : Nat) => tr (j + ar)) (fun (j : Nat) => vr (j + ar)) (fun (j : Nat) => gr (j + ar)) no nl
 fun (j : Nat) => tl (j + al)))
 then (bif (decide
 (ar + nr ≤ mr ∧ nr ≤ 1000000 ∧ ao + no ≤ mo ∧ no ≤ 1000000 ∧ al + nl ≤ ml ∧ nl ≤ 1000000))
 then (bif (Prod.snd
 (S.erS nr (fun (j : Nat) => tr (j + ar)) (fun (j : Nat) => vr (j + ar)) (fun (j : Nat) => gr (j + ar)) no nl
 fun (j : Nat) => tl (j + al)) ==
 Prod.snd
 (S.erS nr (fun (j : Nat) => tr (j + ar)) (fun (j : Nat) => vr (j + ar)) (fun (j : Nat) => gr (j + ar)) no nl
 fun (j : Nat) => tl (j + al)))
 then (some (.inr (true)))
 else (some (.inr (false))))
 else (none))
 else (bif (decide
 (ar + nr ≤ mr ∧ nr ≤ 1000000 ∧ ao + no ≤ mo ∧ no ≤ 1000000 ∧ al + nl ≤ ml ∧ nl ≤ 1000000))
 then (bif (Prod.snd
 (S.erS nr (fun (j : Nat) => tr (j + ar)) (fun (j : Nat) => vr (j + ar)) (fun (j : Nat) => gr (j + ar)) no nl
 fun (j : Nat) => tl (j + al)) ==
 Prod.snd
 (S.erS nr (fun (j : Nat) => tr (j + ar)) (fun (j : Nat) => vr (j + ar)) (fun (j : Nat) => gr (j + ar)) no nl
 fun (j : Nat) => tl (j + al)))
 then (some (.inr (true)))
 else (some (.inr (false))))
 else (none)))
 else (none))
 else (none))
 else (none))
 else (none))))
 else (bif (decide ((↑nl : Int) > (1010 : Int)))
 then (some (.inr (true)))
 else (bif (decide (ar + nr ≤ mr ∧ nr ≤ 1000000))
 then (bif (decide (ao + no ≤ mo ∧ no ≤ 1000000))
 then (bif (decide (al + nl ≤ ml ∧ nl ≤ 1000000))
 then (bif (decide
 (0 + nr ≤ nr ∧
 nr ≤ 1000000 ∧ 0 + no ≤ no ∧ no ≤ 1000000 ∧ 0 + nl ≤ nl ∧ nl ≤ 1000000))
 then (bif (Prod.fst
 (S.erS nr (fun (j : Nat) => tr (j + ar)) (fun (j : Nat) => vr (j + ar)) (fun (j : Nat) => gr (j + ar)) no nl
 fun (j : Nat) => tl (j + al)))
 then (bif (decide
 (ar + nr ≤ mr ∧ nr ≤ 1000000 ∧ ao + no ≤ mo ∧ no ≤ 1000000 ∧ al + nl ≤ ml ∧ nl ≤ 1000000))
 then (bif (Prod.snd
 (S.erS nr (fun (j : Nat) => tr (j + ar)) (fun (j : Nat) => vr (j + ar)) (fun (j : Nat) => gr (j + ar)) no nl
 fun (j : Nat) => tl (j + al)) ==
 Prod.snd
 (S.erS nr (fun (j : Nat) => tr (j + ar)) (fun (j : Nat) => vr (j + ar)) (fun (j : Nat) => gr (j + ar)) no nl
 fun (j : Nat) => tl (j + al)))
 then (some (.inr (true)))
 else (some (.inr (false))))
 else (none))
 else (bif (decide
 (ar + nr ≤ mr ∧ nr ≤ 1000000 ∧ ao + no ≤ mo ∧ no ≤ 1000000 ∧ al + nl ≤ ml ∧ nl ≤ 1000000))
 then (bif (Prod.snd
 (S.erS nr (fun (j : Nat) => tr (j + ar)) (fun (j : Nat) => vr (j + ar)) (fun (j : Nat) => gr (j + ar)) no nl
 fun (j : Nat) => tl (j + al)) ==
 Prod.snd
 (S.erS nr (fun (j : Nat) => tr (j + ar)) (fun (j : Nat) => vr (j + ar)) (fun (j : Nat) => gr (j + ar)) no nl
 fun (j : Nat) => tl (j + al)))
 then (some (.inr (true)))
 else (some (.inr (false))))
 else (none)))
 else (none))
 else (none))
 else (none))
 else (none))))
 else (some (.inr (true))))
 else (some (.inr (true))) : Option (St8 ⊕ Rt8)) = some x) : Te8 cond Kst Kret ar nr mr tr vr gr ao no mo to al nl ml tl := by
  unfold Te8
  exact cond_yes rfl (cond_yes rfl (bif_split h
   (fun c0 h => bif_split h
   (fun c1 h => bif_split h
   (fun c2 h => bif_split h
   (fun c3 h => cond_yes rfl (cond_yes rfl (ret_at hR _ h (fun n => n) rfl rfl rfl (rn_bool_tf rfl) rfl (entl_bor (use_lo rfl) rfl rfl (entl_bor (use_lo rfl) rfl rfl (entl_bor (use_lo rfl) rfl rfl entl_nil))))))
   (fun c3 h => bif_split h
   (fun c4 h => cond_yes rfl (cond_yes rfl (ret_at hR _ h (fun n => n) rfl rfl rfl (rn_bool_tf rfl) rfl (entl_bor (use_lo rfl) rfl rfl (entl_bor (use_lo rfl) rfl rfl (entl_bor (use_lo rfl) rfl rfl entl_nil))))))
   (fun c4 h => bif_split h
   (fun c5 h => bif_split h
   (fun c6 h => bif_split h
   (fun c7 h => bif_split h
   (fun c8 h => bif_split h
   (fun c9 h => bif_split h
   (fun c10 h => cond_yes c9 (bif_split h
   (fun c11 h => ret_at hR _ h (fun n => n) rfl rfl rfl (rn_bool_tf rfl) rfl (entl_bor (use_lo rfl) rfl rfl (entl_bor (use_lo rfl) rfl rfl (entl_bor (use_lo rfl) rfl rfl entl_nil))))
   (fun c11 h => ret_at hR _ h (fun n => n) rfl rfl rfl (rn_bool_tf rfl) rfl (entl_bor (use_lo rfl) rfl rfl (entl_bor (use_lo rfl) rfl rfl (entl_bor (use_lo rfl) rfl rfl entl_nil))))))
   (fun c10 h => no_some h))
   (fun c9 h => bif_split h
   (fun c10 h => cond_no c9 (bif_split h
   (fun c11 h => ret_at hR _ h (fun n => n) rfl rfl rfl (rn_bool_tf rfl) rfl (entl_bor (use_lo rfl) rfl rfl (entl_bor (use_lo rfl) rfl rfl (entl_bor (use_lo rfl) rfl rfl entl_nil))))
   (fun c11 h => ret_at hR _ h (fun n => n) rfl rfl rfl (rn_bool_tf rfl) rfl (entl_bor (use_lo rfl) rfl rfl (entl_bor (use_lo rfl) rfl rfl (entl_bor (use_lo rfl) rfl rfl entl_nil))))))
   (fun c10 h => no_some h)))
   (fun c8 h => no_some h))
   (fun c7 h => no_some h))
   (fun c6 h => no_some h))
   (fun c5 h => no_some h))))
   (fun c2 h => bif_split h
   (fun c3 h => cond_yes rfl (cond_yes rfl (ret_at hR _ h (fun n => n) rfl rfl rfl (rn_bool_tf rfl) rfl (entl_bor (use_lo rfl) rfl rfl (entl_bor (use_lo rfl) rfl rfl (entl_bor (use_lo rfl) rfl rfl entl_nil))))))
   (fun c3 h => bif_split h
   (fun c4 h => bif_split h
   (fun c5 h => bif_split h
   (fun c6 h => bif_split h
   (fun c7 h => bif_split h
   (fun c8 h => bif_split h
   (fun c9 h => cond_yes c8 (bif_split h
   (fun c10 h => ret_at hR _ h (fun n => n) rfl rfl rfl (rn_bool_tf rfl) rfl (entl_bor (use_lo rfl) rfl rfl (entl_bor (use_lo rfl) rfl rfl (entl_bor (use_lo rfl) rfl rfl entl_nil))))
   (fun c10 h => ret_at hR _ h (fun n => n) rfl rfl rfl (rn_bool_tf rfl) rfl (entl_bor (use_lo rfl) rfl rfl (entl_bor (use_lo rfl) rfl rfl (entl_bor (use_lo rfl) rfl rfl entl_nil))))))
   (fun c9 h => no_some h))
   (fun c8 h => bif_split h
   (fun c9 h => cond_no c8 (bif_split h
   (fun c10 h => ret_at hR _ h (fun n => n) rfl rfl rfl (rn_bool_tf rfl) rfl (entl_bor (use_lo rfl) rfl rfl (entl_bor (use_lo rfl) rfl rfl (entl_bor (use_lo rfl) rfl rfl entl_nil))))
   (fun c10 h => ret_at hR _ h (fun n => n) rfl rfl rfl (rn_bool_tf rfl) rfl (entl_bor (use_lo rfl) rfl rfl (entl_bor (use_lo rfl) rfl rfl (entl_bor (use_lo rfl) rfl rfl entl_nil))))))
   (fun c9 h => no_some h)))
   (fun c7 h => no_some h))
   (fun c6 h => no_some h))
   (fun c5 h => no_some h))
   (fun c4 h => no_some h))))
   (fun c1 h => cond_yes rfl (cond_yes rfl (ret_at hR _ h (fun n => n) rfl rfl rfl (rn_bool_tf rfl) rfl (entl_bor (use_lo rfl) rfl rfl (entl_bor (use_lo rfl) rfl rfl (entl_bor (use_lo rfl) rfl rfl entl_nil)))))))
   (fun c0 h => cond_yes rfl (cond_yes rfl (ret_at hR _ h (fun n => n) rfl rfl rfl (rn_bool_tf rfl) rfl (entl_bor (use_lo rfl) rfl rfl (entl_bor (use_lo rfl) rfl rfl (entl_bor (use_lo rfl) rfl rfl entl_nil))))))))
theorem a8 (ar nr mr : Nat) (tr : Nat → Int) (vr : Nat → Int) (gr : Nat → Int) (ao no mo : Nat) (to : Nat → Bool) (al nl ml : Nat) (tl : Nat → Int) {r : Rt8} (h : Goes ((q8 ar nr mr tr vr gr ao no mo to al nl ml tl)) ((p8 ar nr mr tr vr gr ao no mo to al nl ml tl)) r) : CallR Try.prog 8 [.agg [.loose ⟨0, 3, ar, 0⟩ nr, .loose ⟨1, 1, ao, 0⟩ no], .loose ⟨2, 1, al, 0⟩ nl] [[(0, (false, .cols mr [.int .i64 tr, .int .i64 vr, .int .i64 gr])), (1, (false, .cols mo [.bool to])), (2, (false, .cols ml [.int .i64 tl]))]] 3 ((V8 ar nr mr tr vr gr ao no mo to al nl ml tl) r) ((fun r => [newL (3 + 1) ((N8 ar nr mr tr vr gr ao no mo to al nl ml tl) r) ++ [(0, (false, .cols mr [.int .i64 tr, .int .i64 vr, .int .i64 gr])), (1, (false, .cols mo [.bool to])), (2, (false, .cols ml [.int .i64 tl]))]]) r) 400 ∧ ∃ F, Try.prog.funcs[8]? = some F ∧ F.body.isSome = true ∧ (F.name == "runtime.NumGoroutine") = false := by
  refine dec_calls (f := 8) (lo := 3) (hi := 400) (H := [[(0, (false, .cols mr [.int .i64 tr, .int .i64 vr, .int .i64 gr])), (1, (false, .cols mo [.bool to])), (2, (false, .cols ml [.int .i64 tl]))]]) (args := [.agg [.loose ⟨0, 3, ar, 0⟩ nr, .loose ⟨1, 1, ao, 0⟩ no], .loose ⟨2, 1, al, 0⟩ nl]) Try.envOk Try.mixed yC2_ok ((I8 ar nr mr tr vr gr ao no mo to al nl ml tl)) ((V8 ar nr mr tr vr gr ao no mo to al nl ml tl)) (fun r => [newL (3 + 1) ((N8 ar nr mr tr vr gr ao no mo to al nl ml tl) r) ++ [(0, (false, .cols mr [.int .i64 tr, .int .i64 vr, .int .i64 gr])), (1, (false, .cols mo [.bool to])), (2, (false, .cols ml [.int .i64 tl]))]]) (fn := mkFn Try.f8) (ts := []) (n := 400) rfl (by decide) (by simp) (names_of rfl) ?_ ?_ ?_ h
  · intro s; exact s.elim
  · intro Kst Kret x hS hR h
    exact Holds.eq (te8 cond Kst Kret ar nr mr tr vr gr ao no mo to al nl ml tl) (be8 ar nr mr tr vr gr ao no mo to al nl ml tl Kst Kret x hS hR h)
  · intro Kst Kret x hS hR s h; exact s.elim
noncomputable def k8 : Con := ⟨8, [.agg [.list [.int .i64, .int .i64, .int .i64], .list [.bool]], .one (.list [.int .i64])], fun (x : ((Nat × Nat × Nat × (Nat → Int) × (Nat → Int) × (Nat → Int) × Unit) × (Nat × Nat × Nat × (Nat → Bool) × Unit) × Unit) × (Nat × Nat × Nat × (Nat → Int) × Unit) × Unit) => (fun (ar nr mr : Nat) (tr : Nat → Int) (vr : Nat → Int) (gr : Nat → Int) (ao no mo : Nat) (to : Nat → Bool) (al nl ml : Nat) (tl : Nat → Int) => decide (ar + nr ≤ mr ∧ ao + no ≤ mo ∧ al + nl ≤ ml)) x.1.1.1 x.1.1.2.1 x.1.1.2.2.1 x.1.1.2.2.2.1 x.1.1.2.2.2.2.1 x.1.1.2.2.2.2.2.1 x.1.2.1.1 x.1.2.1.2.1 x.1.2.1.2.2.1 x.1.2.1.2.2.2.1 x.2.1.1 x.2.1.2.1 x.2.1.2.2.1 x.2.1.2.2.2.1, fun (x : ((Nat × Nat × Nat × (Nat → Int) × (Nat → Int) × (Nat → Int) × Unit) × (Nat × Nat × Nat × (Nat → Bool) × Unit) × Unit) × (Nat × Nat × Nat × (Nat → Int) × Unit) × Unit) => (fun (ar nr mr : Nat) (tr : Nat → Int) (vr : Nat → Int) (gr : Nat → Int) (ao no mo : Nat) (to : Nat → Bool) (al nl ml : Nat) (tl : Nat → Int) => (V8 ar nr mr tr vr gr ao no mo to al nl ml tl) (true)) x.1.1.1 x.1.1.2.1 x.1.1.2.2.1 x.1.1.2.2.2.1 x.1.1.2.2.2.2.1 x.1.1.2.2.2.2.2.1 x.1.2.1.1 x.1.2.1.2.1 x.1.2.1.2.2.1 x.1.2.1.2.2.2.1 x.2.1.1 x.2.1.2.1 x.2.1.2.2.1 x.2.1.2.2.2.1, fun (x : ((Nat × Nat × Nat × (Nat → Int) × (Nat → Int) × (Nat → Int) × Unit) × (Nat × Nat × Nat × (Nat → Bool) × Unit) × Unit) × (Nat × Nat × Nat × (Nat → Int) × Unit) × Unit) => (fun (ar nr mr : Nat) (tr : Nat → Int) (vr : Nat → Int) (gr : Nat → Int) (ao no mo : Nat) (to : Nat → Bool) (al nl ml : Nat) (tl : Nat → Int) => (N8 ar nr mr tr vr gr ao no mo to al nl ml tl) (true)) x.1.1.1 x.1.1.2.1 x.1.1.2.2.1 x.1.1.2.2.2.1 x.1.1.2.2.2.2.1 x.1.1.2.2.2.2.2.1 x.1.2.1.1 x.1.2.1.2.1 x.1.2.1.2.2.1 x.1.2.1.2.2.2.1 x.2.1.1 x.2.1.2.1 x.2.1.2.2.1 x.2.1.2.2.2.1, fun _ _ => .dead⟩
theorem s8 (ar nr mr : Nat) (tr : Nat → Int) (vr : Nat → Int) (gr : Nat → Int) (ao no mo : Nat) (to : Nat → Bool) (al nl ml : Nat) (tl : Nat → Int) (hp : ar + nr ≤ mr ∧ ao + no ≤ mo ∧ al + nl ≤ ml) : Goes ((q8 ar nr mr tr vr gr ao no mo to al nl ml tl)) ((p8 ar nr mr tr vr gr ao no mo to al nl ml tl)) (true) := by
  obtain ⟨hp1, hp2, hp3⟩ := hp
  unfold p8
  generalize S.erS nr (fun j => tr (j + ar)) (fun j => vr (j + ar)) (fun j => gr (j + ar)) no nl (fun j => tl (j + al)) = P
  by_cases h1 : (nr : Int) ≤ 45
  case neg => exact goes_no (decide_eq_false h1) rfl
  refine goes_ok (decide_eq_true h1) ?_
  by_cases h2 : (no : Int) ≤ 50
  case neg => exact goes_no (decide_eq_false h2) rfl
  refine goes_ok (decide_eq_true h2) ?_
  obtain ⟨P1, P2⟩ := P
  by_cases h3 : (nl : Int) > 60
  · refine goes_ok (decide_eq_true h3) ?_
    by_cases h4 : (nl : Int) ≤ 1000
    · exact goes_ok (decide_eq_true h4) rfl
    refine goes_no (decide_eq_false h4) ?_
    by_cases h5 : (nl : Int) > 1010
    · exact goes_ok (decide_eq_true h5) rfl
    refine goes_no (decide_eq_false h5) ?_
    cases P1
    all_goals (
      repeat' first
        | exact goes_inr.mpr rfl
        | refine goes_ok (by first | exact beq_self_eq_true _ | exact decide_eq_true trivial | (simp only [eq_self, decide_true, Bool.and_self, Bool.and_true, Bool.true_and]; done) | (apply decide_eq_true; omega) | (rw [lim64]; apply decide_eq_true; omega) | (apply decide_eq_true; simp only [mkl_len, mkl_zero, List.length_nil, true_and, and_true, and_self, Nat.zero_add, Nat.add_zero, Nat.le_refl]; done) | (apply decide_eq_true; simp only [mkl_len, mkl_zero, List.length_nil, true_and, and_true, and_self, Nat.zero_add, Nat.add_zero, Nat.le_refl]; omega)) ?_ | (refine goes_no rfl ?_)
      )
  · refine goes_no (decide_eq_false h3) ?_
    by_cases h5 : (nl : Int) > 1010
    · exact goes_ok (decide_eq_true h5) rfl
    refine goes_no (decide_eq_false h5) ?_
    cases P1
    all_goals (
      repeat' first
        | exact goes_inr.mpr rfl
        | refine goes_ok (by first | exact beq_self_eq_true _ | exact decide_eq_true trivial | (simp only [eq_self, decide_true, Bool.and_self, Bool.and_true, Bool.true_and]; done) | (apply decide_eq_true; omega) | (rw [lim64]; apply decide_eq_true; omega) | (apply decide_eq_true; simp only [mkl_len, mkl_zero, List.length_nil, true_and, and_true, and_self, Nat.zero_add, Nat.add_zero, Nat.le_refl]; done) | (apply decide_eq_true; simp only [mkl_len, mkl_zero, List.length_nil, true_and, and_true, and_self, Nat.zero_add, Nat.add_zero, Nat.le_refl]; omega)) ?_ | (refine goes_no rfl ?_)
      )

theorem k8_ok : k8.ok Try.prog := by
  intro x hx
  obtain ⟨⟨⟨ar, nr, mr, tr, vr, gr, _⟩, ⟨ao, no, mo, to, _⟩, _⟩, ⟨al, nl, ml, tl, _⟩, _⟩ := x
  obtain ⟨h1, h2⟩ := a8 ar nr mr tr vr gr ao no mo to al nl ml tl (s8 ar nr mr tr vr gr ao no mo to al nl ml tl (of_decide_eq_true hx))
  exact ⟨⟨400, (by decide : 3 + 1 + 0 ≤ 400), h1⟩, h2⟩


end Go.Ev
