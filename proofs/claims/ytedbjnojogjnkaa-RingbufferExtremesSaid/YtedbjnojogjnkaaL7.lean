/-
  A step of the program.
-/
import Derived.Test.YtedbjnojogjnkaaL7a
namespace Go.Ev
open Go.Proofs
set_option linter.unusedVariables false
set_option linter.unusedSimpArgs false
abbrev St49 := Empty
abbrev Rt49 := Int × Int × Int × Int × Bool × Int × List (Int × Int × Bool)
noncomputable def V49 (ca : Int) (af : Int) (al nl ml : Nat) (tl : Nat → Int) (vl : Nat → Int) (gl : Nat → Bool) (ov : Int) (re : Int) (fz : Bool) (kd : Int) (st : Int) (sv : Int) (sg : Bool) (r : Rt49) : PV := PV.tup
 [PV.agg
 [PV.int IntKind.i64 r.1, PV.int IntKind.i64 r.2.1,
 PV.own (2) (3) (List.length r.2.2.2.2.2.2), PV.int IntKind.i64 r.2.2.1,
 PV.int IntKind.i64 r.2.2.2.1, PV.bool r.2.2.2.2.1],
 PV.int IntKind.i64 r.2.2.2.2.2.1]
noncomputable def N49 (ca : Int) (af : Int) (al nl ml : Nat) (tl : Nat → Int) (vl : Nat → Int) (gl : Nat → Bool) (ov : Int) (re : Int) (fz : Bool) (kd : Int) (st : Int) (sv : Int) (sg : Bool) (r : Rt49) : List Blk := [Blk.cols (List.length r.2.2.2.2.2.2)
 [Col.int IntKind.i64 fun (j : Nat) => (S.at' r.2.2.2.2.2.2 j).1,
 Col.int IntKind.i64 fun (j : Nat) => (S.at' r.2.2.2.2.2.2 j).2.1,
 Col.bool fun (j : Nat) => (S.at' r.2.2.2.2.2.2 j).2.2]]
noncomputable def I49 (ca : Int) (af : Int) (al nl ml : Nat) (tl : Nat → Int) (vl : Nat → Int) (gl : Nat → Bool) (ov : Int) (re : Int) (fz : Bool) (kd : Int) (st : Int) (sv : Int) (sg : Bool) : St49 → Hd := fun s => s.elim
noncomputable def q49 (ca : Int) (af : Int) (al nl ml : Nat) (tl : Nat → Int) (vl : Nat → Int) (gl : Nat → Bool) (ov : Int) (re : Int) (fz : Bool) (kd : Int) (st : Int) (sv : Int) (sg : Bool) : St49 → Option (St49 ⊕ Rt49) := fun s => s.elim
noncomputable def p49 (ca : Int) (af : Int) (al nl ml : Nat) (tl : Nat → Int) (vl : Nat → Int) (gl : Nat → Bool) (ov : Int) (re : Int) (fz : Bool) (kd : Int) (st : Int) (sv : Int) (sg : Bool) : Option (St49 ⊕ Rt49) := bif (kd == (1 : Int))
 then (bif (decide (al + nl ≤ ml ∧ nl ≤ 1000000))
 then (some (.inr (Prod.fst
 (S.putS ca af nl (fun (j : Nat) => tl (j + al)) (fun (j : Nat) => vl (j + al)) (fun (j : Nat) => gl (j + al)) ov
 re fz st sv sg), Prod.fst
 (Prod.snd
 (S.putS ca af nl (fun (j : Nat) => tl (j + al)) (fun (j : Nat) => vl (j + al)) (fun (j : Nat) => gl (j + al))
 ov re fz st sv sg)), Prod.fst
 (Prod.snd
 (Prod.snd
 (S.putS ca af nl (fun (j : Nat) => tl (j + al)) (fun (j : Nat) => vl (j + al))
 (fun (j : Nat) => gl (j + al)) ov re fz st sv sg))), Prod.fst
 (Prod.snd
 (Prod.snd
 (Prod.snd
 (S.putS ca af nl (fun (j : Nat) => tl (j + al)) (fun (j : Nat) => vl (j + al))
 (fun (j : Nat) => gl (j + al)) ov re fz st sv sg)))), Prod.fst
 (Prod.snd
 (Prod.snd
 (Prod.snd
 (Prod.snd
 (S.putS ca af nl (fun (j : Nat) => tl (j + al)) (fun (j : Nat) => vl (j + al))
 (fun (j : Nat) => gl (j + al)) ov re fz st sv sg))))), Prod.fst
 (Prod.snd
 (Prod.snd
 (Prod.snd
 (Prod.snd
 (Prod.snd
 (S.putS ca af nl (fun (j : Nat) => tl (j + al)) (fun (j : Nat) => vl (j + al))
 (fun (j : Nat) => gl (j + al)) ov re fz st sv sg)))))), Prod.snd
 (Prod.snd
 (Prod.snd
 (Prod.snd
 (Prod.snd
 (Prod.snd
 (S.putS ca af nl (fun (j : Nat) => tl (j + al)) (fun (j : Nat) => vl (j + al))
 (fun (j : Nat) => gl (j + al)) ov re fz st sv sg)))))))))
 else (none))
 else (bif (kd == (2 : Int))
 then (bif (decide (al + nl ≤ ml ∧ nl ≤ 1000000))
 then (some (.inr (Prod.fst
 (S.frzS ca af nl (fun (j : Nat) => tl (j + al)) (fun (j : Nat) => vl (j + al)) (fun (j : Nat) => gl (j + al)) ov
 re fz (0 : Int)), Prod.fst
 (Prod.snd
 (S.frzS ca af nl (fun (j : Nat) => tl (j + al)) (fun (j : Nat) => vl (j + al)) (fun (j : Nat) => gl (j + al))
 ov re fz (0 : Int))), Prod.fst
 (Prod.snd
 (Prod.snd
 (S.frzS ca af nl (fun (j : Nat) => tl (j + al)) (fun (j : Nat) => vl (j + al))
 (fun (j : Nat) => gl (j + al)) ov re fz (0 : Int)))), Prod.fst
 (Prod.snd
 (Prod.snd
 (Prod.snd
 (S.frzS ca af nl (fun (j : Nat) => tl (j + al)) (fun (j : Nat) => vl (j + al))
 (fun (j : Nat) => gl (j + al)) ov re fz (0 : Int))))), Prod.fst
 (Prod.snd
 (Prod.snd
 (Prod.snd
 (Prod.snd
 (S.frzS ca af nl (fun (j : Nat) => tl (j + al)) (fun (j : Nat) => vl (j + al))
 (fun (j : Nat) => gl (j + al)) ov re fz (0 : Int)))))), Prod.fst
 (Prod.snd
 (Prod.snd
 (Prod.snd
 (Prod.snd
 (Prod.snd
 (S.frzS ca af nl (fun (j : Nat) => tl (j + al)) (fun (j : Nat) => vl (j + al))
 (fun (j : Nat) => gl (j + al)) ov re fz (0 : Int))))))), Prod.snd
 (Prod.snd
 (Prod.snd
 (Prod.snd
 (Prod.snd
 (Prod.snd
 (S.frzS ca af nl (fun (j : Nat) => tl (j + al)) (fun (j : Nat) => vl (j + al))
 (fun (j : Nat) => gl (j + al)) ov re fz (0 : Int))))))))))
 else (none))
 else (bif (kd == (3 : Int))
 then (bif (decide (al + nl ≤ ml ∧ nl ≤ 1000000))
 then (some (.inr ((S.reaS ca af nl (fun (j : Nat) => tl (j + al)) (fun (j : Nat) => vl (j + al)) ov re fz).1, (S.reaS ca af nl (fun (j : Nat) => tl (j + al)) (fun (j : Nat) => vl (j + al)) ov re fz).2.1, (0 : Int), Prod.fst
 ((S.reaS ca af nl (fun (j : Nat) => tl (j + al)) (fun (j : Nat) => vl (j + al)) ov re fz).2.2), false, Prod.snd
 ((S.reaS ca af nl (fun (j : Nat) => tl (j + al)) (fun (j : Nat) => vl (j + al)) ov re fz).2.2), [])))
 else (none))
 else (some (.inr ((0 : Int), (0 : Int), (0 : Int), (0 : Int), false, (1 : Int), [])))))
noncomputable def Te49 (test : Bool → Prop → Prop → Prop) (Kst : KS) (Kret : KR) (ca : Int) (af : Int) (al nl ml : Nat) (tl : Nat → Int) (vl : Nat → Int) (gl : Nat → Bool) (ov : Int) (re : Int) (fz : Bool) (kd : Int) (st : Int) (sv : Int) (sg : Bool) : Prop :=
  test (kd == (1 : Int))
 (test (decide (al + nl ≤ ml ∧ nl ≤ 1000000))
 (Kret (PV.tup
 [PV.agg
 [PV.int IntKind.i64
 (Prod.fst
 (S.putS ca af nl (fun (j : Nat) => tl (j + al)) (fun (j : Nat) => vl (j + al))
 (fun (j : Nat) => gl (j + al)) ov re fz st sv sg)),
 PV.int IntKind.i64
 (Prod.fst
 (Prod.snd
 (S.putS ca af nl (fun (j : Nat) => tl (j + al)) (fun (j : Nat) => vl (j + al))
 (fun (j : Nat) => gl (j + al)) ov re fz st sv sg))),
 PV.own (5) (3)
 (List.length
 (Prod.snd
 (Prod.snd
 (Prod.snd
 (Prod.snd
 (Prod.snd
 (Prod.snd
 (S.putS ca af nl (fun (j : Nat) => tl (j + al)) (fun (j : Nat) => vl (j + al))
 (fun (j : Nat) => gl (j + al)) ov re fz st sv sg)))))))),
 PV.int IntKind.i64
 (Prod.fst
 (Prod.snd
 (Prod.snd
 (S.putS ca af nl (fun (j : Nat) => tl (j + al)) (fun (j : Nat) => vl (j + al))
 (fun (j : Nat) => gl (j + al)) ov re fz st sv sg)))),
 PV.int IntKind.i64
 (Prod.fst
 (Prod.snd
 (Prod.snd
 (Prod.snd
 (S.putS ca af nl (fun (j : Nat) => tl (j + al)) (fun (j : Nat) => vl (j + al))
 (fun (j : Nat) => gl (j + al)) ov re fz st sv sg))))),
 PV.bool
 (Prod.fst
 (Prod.snd
 (Prod.snd
 (Prod.snd
 (Prod.snd
 (S.putS ca af nl (fun (j : Nat) => tl (j + al)) (fun (j : Nat) => vl (j + al))
 (fun (j : Nat) => gl (j + al)) ov re fz st sv sg))))))],
 PV.int IntKind.i64
 (Prod.fst
 (Prod.snd
 (Prod.snd
 (Prod.snd
 (Prod.snd
 (Prod.snd
 (S.putS ca af nl (fun (j : Nat) => tl (j + al)) (fun (j : Nat) => vl (j + al))
 (fun (j : Nat) => gl (j + al)) ov re fz st sv sg)))))))]) ([[(0, false,
 Blk.cols ml [Col.int IntKind.i64 tl, Col.int IntKind.i64 vl, Col.bool gl]),
 (5, true,
 Blk.cols
 (List.length
 (Prod.snd
 (Prod.snd
 (Prod.snd
 (Prod.snd
 (Prod.snd
 (Prod.snd
 (S.putS ca af nl (fun (j : Nat) => tl (j + al)) (fun (j : Nat) => vl (j + al))
 (fun (j : Nat) => gl (j + al)) ov re fz st sv sg))))))))
 [Col.int IntKind.i64 fun (j : Nat) =>
 Prod.fst
 (S.at'
 (Prod.snd
 (Prod.snd
 (Prod.snd
 (Prod.snd
 (Prod.snd
 (Prod.snd
 (S.putS ca af nl (fun (j : Nat) => tl (j + al)) (fun (j : Nat) => vl (j + al))
 (fun (j : Nat) => gl (j + al)) ov re fz st sv sg)))))))
 j),
 Col.int IntKind.i64 fun (j : Nat) =>
 Prod.fst
 (Prod.snd
 (S.at'
 (Prod.snd
 (Prod.snd
 (Prod.snd
 (Prod.snd
 (Prod.snd
 (Prod.snd
 (S.putS ca af nl (fun (j : Nat) => tl (j + al)) (fun (j : Nat) => vl (j + al))
 (fun (j : Nat) => gl (j + al)) ov re fz st sv sg)))))))
 j)),
 Col.bool fun (j : Nat) =>
 Prod.snd
 (Prod.snd
 (S.at'
 (Prod.snd
 (Prod.snd
 (Prod.snd
 (Prod.snd
 (Prod.snd
 (Prod.snd
 (S.putS ca af nl (fun (j : Nat) => tl (j + al)) (fun (j : Nat) => vl (j + al))
 (fun (j : Nat) => gl (j + al)) ov re fz st sv sg)))))))
 j))])]]) (6))
 (False))
 (test (kd == (2 : Int))
 (test (decide (al + nl ≤ ml ∧ nl ≤ 1000000))
 (Kret (PV.tup
 [PV.agg
 [PV.int IntKind.i64
 (Prod.fst
 (S.frzS ca af nl (fun (j : Nat) => tl (j + al)) (fun (j : Nat) => vl (j + al))
 (fun (j : Nat) => gl (j + al)) ov re fz (0 : Int))),
 PV.int IntKind.i64
 (Prod.fst
 (Prod.snd
 (S.frzS ca af nl (fun (j : Nat) => tl (j + al)) (fun (j : Nat) => vl (j + al))
 (fun (j : Nat) => gl (j + al)) ov re fz (0 : Int)))),
 PV.own (5) (3)
 (List.length
 (Prod.snd
 (Prod.snd
 (Prod.snd
 (Prod.snd
 (Prod.snd
 (Prod.snd
 (S.frzS ca af nl (fun (j : Nat) => tl (j + al)) (fun (j : Nat) => vl (j + al))
 (fun (j : Nat) => gl (j + al)) ov re fz (0 : Int))))))))),
 PV.int IntKind.i64
 (Prod.fst
 (Prod.snd
 (Prod.snd
 (S.frzS ca af nl (fun (j : Nat) => tl (j + al)) (fun (j : Nat) => vl (j + al))
 (fun (j : Nat) => gl (j + al)) ov re fz (0 : Int))))),
 PV.int IntKind.i64
 (Prod.fst
 (Prod.snd
 (Prod.snd
 (Prod.snd
 (S.frzS ca af nl (fun (j : Nat) => tl (j + al)) (fun (j : Nat) => vl (j + al))
 (fun (j : Nat) => gl (j + al)) ov re fz (0 : Int)))))),
 PV.bool
 (Prod.fst
 (Prod.snd
 (Prod.snd
 (Prod.snd
 (Prod.snd
 (S.frzS ca af nl (fun (j : Nat) => tl (j + al)) (fun (j : Nat) => vl (j + al))
 (fun (j : Nat) => gl (j + al)) ov re fz (0 : Int)))))))],
 PV.int IntKind.i64
 (Prod.fst
 (Prod.snd
 (Prod.snd
 (Prod.snd
 (Prod.snd
 (Prod.snd
 (S.frzS ca af nl (fun (j : Nat) => tl (j + al)) (fun (j : Nat) => vl (j + al))
 (fun (j : Nat) => gl (j + al)) ov re fz (0 : Int))))))))]) ([[(0, false,
 Blk.cols ml [Col.int IntKind.i64 tl, Col.int IntKind.i64 vl, Col.bool gl]),
 (5, true,
 Blk.cols
 (List.length
 (Prod.snd
 (Prod.snd
 (Prod.snd
 (Prod.snd
 (Prod.snd
 (Prod.snd
 (S.frzS ca af nl (fun (j : Nat) => tl (j + al)) (fun (j : Nat) => vl (j + al))
 (fun (j : Nat) => gl (j + al)) ov re fz (0 : Int)))))))))
 [Col.int IntKind.i64 fun (j : Nat) =>
 Prod.fst
 (S.at'
 (Prod.snd
 (Prod.snd
 (Prod.snd
 (Prod.snd
 (Prod.snd
 (Prod.snd
 (S.frzS ca af nl (fun (j : Nat) => tl (j + al)) (fun (j : Nat) => vl (j + al))
 (fun (j : Nat) => gl (j + al)) ov re fz (0 : Int))))))))
 j),
 Col.int IntKind.i64 fun (j : Nat) =>
 Prod.fst
 (Prod.snd
 (S.at'
 (Prod.snd
 (Prod.snd
 (Prod.snd
 (Prod.snd
 (Prod.snd
 (Prod.snd
 (S.frzS ca af nl (fun (j : Nat) => tl (j + al)) (fun (j : Nat) => vl (j + al))
 (fun (j : Nat) => gl (j + al)) ov re fz (0 : Int))))))))
 j)),
 Col.bool fun (j : Nat) =>
 Prod.snd
 (Prod.snd
 (S.at'
 (Prod.snd
 (Prod.snd
 (Prod.snd
 (Prod.snd
 (Prod.snd
 (Prod.snd
 (S.frzS ca af nl (fun (j : Nat) => tl (j + al)) (fun (j : Nat) => vl (j + al))
 (fun (j : Nat) => gl (j + al)) ov re fz (0 : Int))))))))
 j))])]]) (6))
 (False))
 (test (kd == (3 : Int))
 (test (decide (al + nl ≤ ml ∧ nl ≤ 1000000))
 (Kret (PV.tup
 [PV.agg
 [PV.int IntKind.i64
 ((S.reaS ca af nl (fun (j : Nat) => tl (j + al)) (fun (j : Nat) => vl (j + al)) ov re fz).1),
 PV.int IntKind.i64
 (Prod.fst
 ((S.reaS ca af nl (fun (j : Nat) => tl (j + al)) (fun (j : Nat) => vl (j + al)) ov re fz).2)),
 PV.nils, PV.int IntKind.i64 (0 : Int),
 PV.int IntKind.i64
 (Prod.fst
 (Prod.snd
 (Prod.snd
 (S.reaS ca af nl (fun (j : Nat) => tl (j + al)) (fun (j : Nat) => vl (j + al)) ov re fz)))),
 PV.tf false],
 PV.int IntKind.i64
 (Prod.snd
 (Prod.snd
 ((S.reaS ca af nl (fun (j : Nat) => tl (j + al)) (fun (j : Nat) => vl (j + al)) ov re fz).2)))]) ([[(0, false,
 Blk.cols ml [Col.int IntKind.i64 tl, Col.int IntKind.i64 vl, Col.bool gl])]]) (5))
 (False))
 (Kret (PV.tup
 [PV.agg
 [PV.int IntKind.i64 (0 : Int), PV.int IntKind.i64 (0 : Int), PV.nils,
 PV.int IntKind.i64 (0 : Int), PV.int IntKind.i64 (0 : Int), PV.tf false],
 PV.int IntKind.i64 (1 : Int)]) ([[(0, false,
 Blk.cols ml [Col.int IntKind.i64 tl, Col.int IntKind.i64 vl, Col.bool gl])]]) (4))))
set_option maxRecDepth 100000 in
theorem te49 (test : Bool → Prop → Prop → Prop) (Kst : KS) (Kret : KR) (ca : Int) (af : Int) (al nl ml : Nat) (tl : Nat → Int) (vl : Nat → Int) (gl : Nat → Bool) (ov : Int) (re : Int) (fz : Bool) (kd : Int) (st : Int) (sv : Int) (sg : Bool) : run test Try.env true (xD test) true 400 ⟨49, [.cd (mkFn Try.f49).body], argT 0 [.agg [.int .i64 ca, .int .i64 af, .loose ⟨0, 3, al, 0⟩ nl, .int .i64 ov, .int .i64 re, .bool fz], .agg [.int .i64 kd, .int .i64 st, .int .i64 sv, .bool sg]], [[], [(0, (false, .cols ml [.int .i64 tl, .int .i64 vl, .bool gl]))]], 1⟩ (proj 1 [] Kst Kret) =
  Te49 test Kst Kret ca af al nl ml tl vl gl ov re fz kd st sv sg := by kernel_rfl
set_option maxRecDepth 100000 in
theorem be49 (ca : Int) (af : Int) (al nl ml : Nat) (tl : Nat → Int) (vl : Nat → Int) (gl : Nat → Bool) (ov : Int) (re : Int) (fz : Bool) (kd : Int) (st : Int) (sv : Int) (sg : Bool) (Kst : KS) (Kret : KR) (x : St49 ⊕ Rt49) (hS : HS 1 400 ((I49 ca af al nl ml tl vl gl ov re fz kd st sv sg)) Kst x) (hR : HR 1 400 ((V49 ca af al nl ml tl vl gl ov re fz kd st sv sg)) (fun r => [newL (1 + 1) ((N49 ca af al nl ml tl vl gl ov re fz kd st sv sg) r) ++ [(0, (false, .cols ml [.int .i64 tl, .int .i64 vl, .bool gl]))]]) Kret x) (h : (bif (kd == (1 : Int))
 then (bif (decide (al + nl ≤ ml ∧ nl ≤ 1000000))
 then (some (.inr (Prod.fst
 (S.putS ca af nl (fun (j : Nat) => tl (j + al)) (fun (j : Nat) => vl (j + al)) (fun (j : Nat) => gl (j + al)) ov
 re fz st sv sg), Prod.fst
 (Prod.snd
 (S.putS ca af nl (fun (j : Nat) => tl (j + al)) (fun (j : Nat) => vl (j + al)) (fun (j : Nat) => gl (j + al))
 ov re fz st sv sg)), Prod.fst
 (Prod.snd
 (Prod.snd
 (S.putS ca af nl (fun (j : Nat) => tl (j + al)) (fun (j : Nat) => vl (j + al))
 (fun (j : Nat) => gl (j + al)) ov re fz st sv sg))), Prod.fst
 (Prod.snd
 (Prod.snd
 (Prod.snd
 (S.putS ca af nl (fun (j : Nat) => tl (j + al)) (fun (j : Nat) => vl (j + al))
 (fun (j : Nat) => gl (j + al)) ov re fz st sv sg)))), Prod.fst
 (Prod.snd
 (Prod.snd
 (Prod.snd
 (Prod.snd
 (S.putS ca af nl (fun (j : Nat) => tl (j + al)) (fun (j : Nat) => vl (j + al))
 (fun (j : Nat) => gl (j + al)) ov re fz st sv sg))))), Prod.fst
 (Prod.snd
 (Prod.snd
 (Prod.snd
 (Prod.snd
 (Prod.snd
 (S.putS ca af nl (fun (j : Nat) => tl (j + al)) (fun (j : Nat) => vl (j + al))
 (fun (j : Nat) => gl (j + al)) ov re fz st sv sg)))))), Prod.snd
 (Prod.snd
 (Prod.snd
 (Prod.snd
 (Prod.snd
 (Prod.snd
 (S.putS ca af nl (fun (j : Nat) => tl (j + al)) (fun (j : Nat) => vl (j + al))
 (fun (j : Nat) => gl (j + al)) ov re fz st sv sg)))))))))
 else (none))
 else (bif (kd == (2 : Int))
 then (bif (decide (al + nl ≤ ml ∧ nl ≤ 1000000))
 then (some (.inr (Prod.fst
 (S.frzS ca af nl (fun (j : Nat) => tl (j + al)) (fun (j : Nat) => vl (j + al)) (fun (j : Nat) => gl (j + al)) ov
 re fz (0 : Int)), Prod.fst
 (Prod.snd
 (S.frzS ca af nl (fun (j : Nat) => tl (j + al)) (fun (j : Nat) => vl (j + al)) (fun (j : Nat) => gl (j + al))
 ov re fz (0 : Int))), Prod.fst
 (Prod.snd
 (Prod.snd
 (S.frzS ca af nl (fun (j : Nat) => tl (j + al)) (fun (j : Nat) => vl (j + al))
 (fun (j : Nat) => gl (j + al)) ov re fz (0 : Int)))), Prod.fst
 (Prod.snd
 (Prod.snd
 (Prod.snd
 (S.frzS ca af nl (fun (j : Nat) => tl (j + al)) (fun (j : Nat) => vl (j + al))
 (fun (j : Nat) => gl (j + al)) ov re fz (0 : Int))))), Prod.fst
 (Prod.snd
 (Prod.snd
 (Prod.snd
 (Prod.snd
 (S.frzS ca af nl (fun (j : Nat) => tl (j + al)) (fun (j : Nat) => vl (j + al))
 (fun (j : Nat) => gl (j + al)) ov re fz (0 : Int)))))), Prod.fst
 (Prod.snd
 (Prod.snd
 (Prod.snd
 (Prod.snd
 (Prod.snd
 (S.frzS ca af nl (fun (j : Nat) => tl (j + al)) (fun (j : Nat) => vl (j + al))
 (fun (j : Nat) => gl (j + al)) ov re fz (0 : Int))))))), Prod.snd
 (Prod.snd
 (Prod.snd
 (Prod.snd
 (Prod.snd
 (Prod.snd
 (S.frzS ca af nl (fun (j : Nat) => tl (j + al)) (fun (j : Nat) => vl (j + al))
 (fun (j : Nat) => gl (j + al)) ov re fz (0 : Int))))))))))
 else (none))
 else (bif (kd == (3 : Int))
 then (bif (decide (al + nl ≤ ml ∧ nl ≤ 1000000))
 then (some (.inr ((S.reaS ca af nl (fun (j : Nat) => tl (j + al)) (fun (j : Nat) => vl (j + al)) ov re fz).1, (S.reaS ca af nl (fun (j : Nat) => tl (j + al)) (fun (j : Nat) => vl (j + al)) ov re fz).2.1, (0 : Int), Prod.fst
 ((S.reaS ca af nl (fun (j : Nat) => tl (j + al)) (fun (j : Nat) => vl (j + al)) ov re fz).2.2), false, Prod.snd
 ((S.reaS ca af nl (fun (j : Nat) => tl (j + al)) (fun (j : Nat) => vl (j + al)) ov re fz).2.2), [])))
 else (none))
 else (some (.inr ((0 : Int), (0 : Int), (0 : Int), (0 : Int), false, (1 : Int), []))))) : Option (St49 ⊕ Rt49)) = some x) : Te49 cond Kst Kret ca af al nl ml tl vl gl ov re fz kd st sv sg := by
  unfold Te49
  exact bif_split h
   (fun c0 h => bif_split h
   (fun c1 h => ret_at hR _ h (fun n => bif Nat.beq n 2 then 5 else n) rfl rfl rfl (rn_tup ⟨(rn_agg ⟨(rn_int rfl), (rn_int rfl), (rn_own (use_own rfl) rfl rfl), (rn_int rfl), (rn_int rfl), (rn_bool rfl), trivial⟩), (rn_int rfl), trivial⟩) rfl (entl_new (use_own rfl) rfl (Nat.le_of_eq rfl) (rcs_int (fun _ _ => rfl) (rcs_int (fun _ _ => rfl) (rcs_bool (fun _ _ => rfl) rcs_nil))) (entl_bor (use_lo rfl) rfl rfl entl_nil)))
   (fun c1 h => no_some h))
   (fun c0 h => bif_split h
   (fun c1 h => bif_split h
   (fun c2 h => ret_at hR _ h (fun n => bif Nat.beq n 2 then 5 else n) rfl rfl rfl (rn_tup ⟨(rn_agg ⟨(rn_int rfl), (rn_int rfl), (rn_own (use_own rfl) rfl rfl), (rn_int rfl), (rn_int rfl), (rn_bool rfl), trivial⟩), (rn_int rfl), trivial⟩) rfl (entl_new (use_own rfl) rfl (Nat.le_of_eq rfl) (rcs_int (fun _ _ => rfl) (rcs_int (fun _ _ => rfl) (rcs_bool (fun _ _ => rfl) rcs_nil))) (entl_bor (use_lo rfl) rfl rfl entl_nil)))
   (fun c2 h => no_some h))
   (fun c1 h => bif_split h
   (fun c2 h => bif_split h
   (fun c3 h => ret_at hR _ h (fun n => bif Nat.beq n 2 then 399 else n) rfl rfl rfl (rn_tup ⟨(rn_agg ⟨(rn_int rfl), (rn_int rfl), (rn_own_nils rfl), (rn_int rfl), (rn_int rfl), (rn_bool_tf rfl), trivial⟩), (rn_int rfl), trivial⟩) rfl (entl_fresh (use_own rfl) (fresh_ok rfl) (entl_bor (use_lo rfl) rfl rfl entl_nil)))
   (fun c3 h => no_some h))
   (fun c2 h => ret_at hR _ h (fun n => bif Nat.beq n 2 then 399 else n) rfl rfl rfl (rn_tup ⟨(rn_agg ⟨(rn_int rfl), (rn_int rfl), (rn_own_nils rfl), (rn_int rfl), (rn_int rfl), (rn_bool_tf rfl), trivial⟩), (rn_int rfl), trivial⟩) rfl (entl_fresh (use_own rfl) (fresh_ok rfl) (entl_bor (use_lo rfl) rfl rfl entl_nil)))))
theorem a49 (ca : Int) (af : Int) (al nl ml : Nat) (tl : Nat → Int) (vl : Nat → Int) (gl : Nat → Bool) (ov : Int) (re : Int) (fz : Bool) (kd : Int) (st : Int) (sv : Int) (sg : Bool) {r : Rt49} (h : Goes ((q49 ca af al nl ml tl vl gl ov re fz kd st sv sg)) ((p49 ca af al nl ml tl vl gl ov re fz kd st sv sg)) r) : CallR Try.prog 49 [.agg [.int .i64 ca, .int .i64 af, .loose ⟨0, 3, al, 0⟩ nl, .int .i64 ov, .int .i64 re, .bool fz], .agg [.int .i64 kd, .int .i64 st, .int .i64 sv, .bool sg]] [[(0, (false, .cols ml [.int .i64 tl, .int .i64 vl, .bool gl]))]] 1 ((V49 ca af al nl ml tl vl gl ov re fz kd st sv sg) r) ((fun r => [newL (1 + 1) ((N49 ca af al nl ml tl vl gl ov re fz kd st sv sg) r) ++ [(0, (false, .cols ml [.int .i64 tl, .int .i64 vl, .bool gl]))]]) r) 400 ∧ ∃ F, Try.prog.funcs[49]? = some F ∧ F.body.isSome = true ∧ (F.name == "runtime.NumGoroutine") = false := by
  refine dec_calls (f := 49) (lo := 1) (hi := 400) (H := [[(0, (false, .cols ml [.int .i64 tl, .int .i64 vl, .bool gl]))]]) (args := [.agg [.int .i64 ca, .int .i64 af, .loose ⟨0, 3, al, 0⟩ nl, .int .i64 ov, .int .i64 re, .bool fz], .agg [.int .i64 kd, .int .i64 st, .int .i64 sv, .bool sg]]) Try.envOk Try.mixed xD_ok ((I49 ca af al nl ml tl vl gl ov re fz kd st sv sg)) ((V49 ca af al nl ml tl vl gl ov re fz kd st sv sg)) (fun r => [newL (1 + 1) ((N49 ca af al nl ml tl vl gl ov re fz kd st sv sg) r) ++ [(0, (false, .cols ml [.int .i64 tl, .int .i64 vl, .bool gl]))]]) (fn := mkFn Try.f49) (ts := []) (n := 400) rfl (by decide) (by simp) (names_of rfl) ?_ ?_ ?_ h
  · intro s; exact s.elim
  · intro Kst Kret x hS hR h
    exact Holds.eq (te49 cond Kst Kret ca af al nl ml tl vl gl ov re fz kd st sv sg) (be49 ca af al nl ml tl vl gl ov re fz kd st sv sg Kst Kret x hS hR h)
  · intro Kst Kret x hS hR s h; exact s.elim
noncomputable def k49 : Con := ⟨49, [.agg [.plain (.int .i64), .plain (.int .i64), .list [.int .i64, .int .i64, .bool], .plain (.int .i64), .plain (.int .i64), .plain (.bool)], .agg [.plain (.int .i64), .plain (.int .i64), .plain (.int .i64), .plain (.bool)]], fun (x : (Int × Int × (Nat × Nat × Nat × (Nat → Int) × (Nat → Int) × (Nat → Bool) × Unit) × Int × Int × Bool × Unit) × (Int × Int × Int × Bool × Unit) × Unit) => (fun (ca : Int) (af : Int) (al nl ml : Nat) (tl : Nat → Int) (vl : Nat → Int) (gl : Nat → Bool) (ov : Int) (re : Int) (fz : Bool) (kd : Int) (st : Int) (sv : Int) (sg : Bool) => decide (al + nl ≤ ml ∧ nl ≤ 999999)) x.1.1 x.1.2.1 x.1.2.2.1.1 x.1.2.2.1.2.1 x.1.2.2.1.2.2.1 x.1.2.2.1.2.2.2.1 x.1.2.2.1.2.2.2.2.1 x.1.2.2.1.2.2.2.2.2.1 x.1.2.2.2.1 x.1.2.2.2.2.1 x.1.2.2.2.2.2.1 x.2.1.1 x.2.1.2.1 x.2.1.2.2.1 x.2.1.2.2.2.1, fun (x : (Int × Int × (Nat × Nat × Nat × (Nat → Int) × (Nat → Int) × (Nat → Bool) × Unit) × Int × Int × Bool × Unit) × (Int × Int × Int × Bool × Unit) × Unit) => (fun (ca : Int) (af : Int) (al nl ml : Nat) (tl : Nat → Int) (vl : Nat → Int) (gl : Nat → Bool) (ov : Int) (re : Int) (fz : Bool) (kd : Int) (st : Int) (sv : Int) (sg : Bool) => (V49 ca af al nl ml tl vl gl ov re fz kd st sv sg) (S.stepS ca af nl (fun j => tl (j + al)) (fun j => vl (j + al)) (fun j => gl (j + al)) ov re fz kd st sv sg)) x.1.1 x.1.2.1 x.1.2.2.1.1 x.1.2.2.1.2.1 x.1.2.2.1.2.2.1 x.1.2.2.1.2.2.2.1 x.1.2.2.1.2.2.2.2.1 x.1.2.2.1.2.2.2.2.2.1 x.1.2.2.2.1 x.1.2.2.2.2.1 x.1.2.2.2.2.2.1 x.2.1.1 x.2.1.2.1 x.2.1.2.2.1 x.2.1.2.2.2.1, fun (x : (Int × Int × (Nat × Nat × Nat × (Nat → Int) × (Nat → Int) × (Nat → Bool) × Unit) × Int × Int × Bool × Unit) × (Int × Int × Int × Bool × Unit) × Unit) => (fun (ca : Int) (af : Int) (al nl ml : Nat) (tl : Nat → Int) (vl : Nat → Int) (gl : Nat → Bool) (ov : Int) (re : Int) (fz : Bool) (kd : Int) (st : Int) (sv : Int) (sg : Bool) => (N49 ca af al nl ml tl vl gl ov re fz kd st sv sg) (S.stepS ca af nl (fun j => tl (j + al)) (fun j => vl (j + al)) (fun j => gl (j + al)) ov re fz kd st sv sg)) x.1.1 x.1.2.1 x.1.2.2.1.1 x.1.2.2.1.2.1 x.1.2.2.1.2.2.1 x.1.2.2.1.2.2.2.1 x.1.2.2.1.2.2.2.2.1 x.1.2.2.1.2.2.2.2.2.1 x.1.2.2.2.1 x.1.2.2.2.2.1 x.1.2.2.2.2.2.1 x.2.1.1 x.2.1.2.1 x.2.1.2.2.1 x.2.1.2.2.2.1⟩
theorem s49 (ca : Int) (af : Int) (al nl ml : Nat) (tl : Nat → Int) (vl : Nat → Int) (gl : Nat → Bool) (ov : Int) (re : Int) (fz : Bool) (kd : Int) (st : Int) (sv : Int) (sg : Bool) (hp : al + nl ≤ ml ∧ nl ≤ 999999) : Goes ((q49 ca af al nl ml tl vl gl ov re fz kd st sv sg)) ((p49 ca af al nl ml tl vl gl ov re fz kd st sv sg)) (S.stepS ca af nl (fun j => tl (j + al)) (fun j => vl (j + al)) (fun j => gl (j + al)) ov re fz kd st sv sg) := by
  obtain ⟨hp1, hp2⟩ := hp
  show Goes _ _ _
  unfold p49
  repeat' first
    | with_reducible refine goes_if (fun h => ?_) (fun h => ?_) <;> (try simp only [lim64, decide_eq_true_eq, decide_eq_false_iff_not, Int.toNat_natCast, toNat_pred, toNat_succ, Option.getD_some, Option.getD_none, Bool.not_eq_true', Bool.not_eq_false', Bool.and_eq_true, Bool.or_eq_true, Bool.and_eq_false_iff, Bool.or_eq_false_iff, bne_iff_ne, beq_iff_eq, bne_eq_false_iff_eq, beq_eq_false_iff_ne, ne_eq, not_and, Int.not_le, Int.not_lt, ge_iff_le, gt_iff_lt, Nat.not_lt, Nat.not_le, Bool.not_eq_true, Bool.not_eq_false, Bool.true_eq_false, Bool.false_eq_true, not_false_eq_true, not_true_eq_false] at h)
    | exact goes_none.mpr (by omega)
  all_goals first | (exfalso; omega) | (refine goes_inr.mpr ?_; simp only [S.stepS, S.noB]; (repeat' split) <;> first | rfl | omega)

theorem k49_ok : k49.ok Try.prog := by
  intro x hx
  obtain ⟨⟨ca, af, ⟨al, nl, ml, tl, vl, gl, _⟩, ov, re, fz, _⟩, ⟨kd, st, sv, sg, _⟩, _⟩ := x
  obtain ⟨h1, h2⟩ := a49 ca af al nl ml tl vl gl ov re fz kd st sv sg (s49 ca af al nl ml tl vl gl ov re fz kd st sv sg (of_decide_eq_true hx))
  exact ⟨⟨400, (by decide : 1 + 1 + 1 ≤ 400), h1⟩, h2⟩
noncomputable def xE (test : Bool → Prop → Prop → Prop) : Ext := consX test [k11, k49, k32, k35, k12, k14, k23, k24, k25, k26, k17, k18, k22, k21, k19, k20]
theorem xE_ok : ExtOk Try.prog (xE cond) := consX_ok ⟨k11_ok, k49_ok, k32_ok, k35_ok, k12_ok, k14_ok, k23_ok, k24_ok, k25_ok, k26_ok, k17_ok, k18_ok, k22_ok, k21_ok, k19_ok, k20_ok, trivial⟩

end Go.Ev
