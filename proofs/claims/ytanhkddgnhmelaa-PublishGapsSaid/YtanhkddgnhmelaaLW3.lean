/-
  The law of Gaps.
-/
import Derived.Test.YtanhkddgnhmelaaG1
namespace Go.Ev
open Go.Proofs
set_option linter.unusedVariables false
set_option linter.unusedSimpArgs false
set_option maxRecDepth 100000
abbrev St3 := Empty
abbrev Rt3 := Bool
noncomputable def V3 (al nl ml : Nat) (tl : Nat → ByteArray) (vl : Nat → Int) (gl : Nat → Int) (wl : Nat → ByteArray) (r : Rt3) : PV := PV.bool r
noncomputable def N3 (al nl ml : Nat) (tl : Nat → ByteArray) (vl : Nat → Int) (gl : Nat → Int) (wl : Nat → ByteArray) (r : Rt3) : List Blk := []
noncomputable def I3 (al nl ml : Nat) (tl : Nat → ByteArray) (vl : Nat → Int) (gl : Nat → Int) (wl : Nat → ByteArray) : St3 → Hd := fun s => s.elim
noncomputable def q3 (al nl ml : Nat) (tl : Nat → ByteArray) (vl : Nat → Int) (gl : Nat → Int) (wl : Nat → ByteArray) : St3 → Option (St3 ⊕ Rt3) := fun s => s.elim
noncomputable def p3 (al nl ml : Nat) (tl : Nat → ByteArray) (vl : Nat → Int) (gl : Nat → Int) (wl : Nat → ByteArray) : Option (St3 ⊕ Rt3) := bif (decide ((↑nl : Int) > (200 : Int)))
 then (bif (decide ((↑nl : Int) ≤ (1000 : Int)))
 then (some (.inr (true)))
 else (bif (decide ((↑nl : Int) > (1010 : Int)))
 then (some (.inr (true)))
 else (bif (decide (al + nl ≤ ml ∧ nl ≤ 1000000))
 then (bif (decide (0 + nl ≤ nl))
 then (bif (decide (al + nl ≤ ml))
 then (bif ((S.gapS nl (fun (j : Nat) => tl (j + al)) fun (j : Nat) => gl (j + al)).1 ==
 (S.gapS nl (fun (j : Nat) => tl (j + al)) fun (j : Nat) => gl (j + al)).1)
 then (bif (decide
 (0 + List.length ((S.gapS nl (fun (j : Nat) => tl (j + al)) fun (j : Nat) => gl (j + al)).2) ≤
 List.length ((S.gapS nl (fun (j : Nat) => tl (j + al)) fun (j : Nat) => gl (j + al)).2) ∧
 List.length ((S.gapS nl (fun (j : Nat) => tl (j + al)) fun (j : Nat) => gl (j + al)).2) ≤
 1000000 ∧
 0 + List.length ((S.gapS nl (fun (j : Nat) => tl (j + al)) fun (j : Nat) => gl (j + al)).2) ≤
 List.length ((S.gapS nl (fun (j : Nat) => tl (j + al)) fun (j : Nat) => gl (j + al)).2) ∧
 List.length ((S.gapS nl (fun (j : Nat) => tl (j + al)) fun (j : Nat) => gl (j + al)).2) ≤
 1000000))
 then (bif (decide
 ((S.mkl (List.length ((S.gapS nl (fun (j : Nat) => tl (j + al)) fun (j : Nat) => gl (j + al)).2))
 fun (j : Nat) =>
 (Prod.fst
 (S.at' ((S.gapS nl (fun (j : Nat) => tl (j + al)) fun (j : Nat) => gl (j + al)).2) j),
 Prod.fst
 (Prod.snd
 (S.at' ((S.gapS nl (fun (j : Nat) => tl (j + al)) fun (j : Nat) => gl (j + al)).2) j)),
 Prod.fst
 (Prod.snd
 (Prod.snd
 (S.at' ((S.gapS nl (fun (j : Nat) => tl (j + al)) fun (j : Nat) => gl (j + al)).2)
 j))),
 Prod.snd
 (Prod.snd
 (Prod.snd
 (S.at' ((S.gapS nl (fun (j : Nat) => tl (j + al)) fun (j : Nat) => gl (j + al)).2)
 j))))) =
 S.mkl (List.length ((S.gapS nl (fun (j : Nat) => tl (j + al)) fun (j : Nat) => gl (j + al)).2))
 fun (j : Nat) =>
 (Prod.fst
 (S.at' ((S.gapS nl (fun (j : Nat) => tl (j + al)) fun (j : Nat) => gl (j + al)).2) j),
 Prod.fst
 (Prod.snd
 (S.at' ((S.gapS nl (fun (j : Nat) => tl (j + al)) fun (j : Nat) => gl (j + al)).2) j)),
 Prod.fst
 (Prod.snd
 (Prod.snd
 (S.at' ((S.gapS nl (fun (j : Nat) => tl (j + al)) fun (j : Nat) => gl (j + al)).2)
 j))),
 Prod.snd
 (Prod.snd
 (Prod.snd
 (S.at' ((S.gapS nl (fun (j : Nat) => tl (j + al)) fun (j : Nat) => gl (j + al)).2)
 j))))))
 then (some (.inr (true)))
 else (some (.inr (false))))
 else (none))
 else (some (.inr (false))))
 else (none))
 else (none))
 else (none))))
 else (bif (decide ((↑nl : Int) > (1010 : Int)))
 then (some (.inr (true)))
 else (bif (decide (al + nl ≤ ml ∧ nl ≤ 1000000))
 then (bif (decide (0 + nl ≤ nl))
 then (bif (decide (al + nl ≤ ml))
 then (bif ((S.gapS nl (fun (j : Nat) => tl (j + al)) fun (j : Nat) => gl (j + al)).1 ==
 (S.gapS nl (fun (j : Nat) => tl (j + al)) fun (j : Nat) => gl (j + al)).1)
 then (bif (decide
 (0 + List.length ((S.gapS nl (fun (j : Nat) => tl (j + al)) fun (j : Nat) => gl (j + al)).2) ≤
 List.length ((S.gapS nl (fun (j : Nat) => tl (j + al)) fun (j : Nat) => gl (j + al)).2) ∧
 List.length ((S.gapS nl (fun (j : Nat) => tl (j + al)) fun (j : Nat) => gl (j + al)).2) ≤
 1000000 ∧
 0 + List.length ((S.gapS nl (fun (j : Nat) => tl (j + al)) fun (j : Nat) => gl (j + al)).2) ≤
 List.length ((S.gapS nl (fun (j : Nat) => tl (j + al)) fun (j : Nat) => gl (j + al)).2) ∧
 List.length ((S.gapS nl (fun (j : Nat) => tl (j + al)) fun (j : Nat) => gl (j + al)).2) ≤
 1000000))
 then (bif (decide
 ((S.mkl (List.length ((S.gapS nl (fun (j : Nat) => tl (j + al)) fun (j : Nat) => gl (j + al)).2))
 fun (j : Nat) =>
 (Prod.fst
 (S.at' ((S.gapS nl (fun (j : Nat) => tl (j + al)) fun (j : Nat) => gl (j + al)).2) j),
 Prod.fst
 (Prod.snd
 (S.at' ((S.gapS nl (fun (j : Nat) => tl (j + al)) fun (j : Nat) => gl (j + al)).2) j)),
 Prod.fst
 (Prod.snd
 (Prod.snd
 (S.at' ((S.gapS nl (fun (j : Nat) => tl (j + al)) fun (j : Nat) => gl (j + al)).2)
 j))),
 Prod.snd
 (Prod.snd
 (Prod.snd
 (S.at' ((S.gapS nl (fun (j : Nat) => tl (j + al)) fun (j : Nat) => gl (j + al)).2)
 j))))) =
 S.mkl (List.length ((S.gapS nl (fun (j : Nat) => tl (j + al)) fun (j : Nat) => gl (j + al)).2))
 fun (j : Nat) =>
 (Prod.fst
 (S.at' ((S.gapS nl (fun (j : Nat) => tl (j + al)) fun (j : Nat) => gl (j + al)).2) j),
 Prod.fst
 (Prod.snd
 (S.at' ((S.gapS nl (fun (j : Nat) => tl (j + al)) fun (j : Nat) => gl (j + al)).2) j)),
 Prod.fst
 (Prod.snd
 (Prod.snd
 (S.at' ((S.gapS nl (fun (j : Nat) => tl (j + al)) fun (j : Nat) => gl (j + al)).2)
 j))),
 Prod.snd
 (Prod.snd
 (Prod.snd
 (S.at' ((S.gapS nl (fun (j : Nat) => tl (j + al)) fun (j : Nat) => gl (j + al)).2)
 j))))))
 then (some (.inr (true)))
 else (some (.inr (false))))
 else (none))
 else (some (.inr (false))))
 else (none))
 else (none))
 else (none)))
noncomputable def Te3 (test : Bool → Prop → Prop → Prop) (Kst : KS) (Kret : KR) (al nl ml : Nat) (tl : Nat → ByteArray) (vl : Nat → Int) (gl : Nat → Int) (wl : Nat → ByteArray) : Prop :=
  test (true)
 (test (true)
 (test (decide ((↑nl : Int) > (200 : Int)))
 (test (decide ((↑nl : Int) ≤ (1000 : Int)))
 (test (true)
 (test (true)
 (Kret (PV.tf true) ([[(0, false,
 Blk.cols ml
 [Col.str tl, Col.int IntKind.i64 vl, Col.int IntKind.i64 gl, Col.str wl])]]) (3))
 (Kret (PV.tf false) ([[(0, false,
 Blk.cols ml
 [Col.str tl, Col.int IntKind.i64 vl, Col.int IntKind.i64 gl, Col.str wl])]]) (3)))
 (False))
 (test (decide ((↑nl : Int) > (1010 : Int)))
 (test (true)
 (test (true)
 (Kret (PV.tf true) ([[(0, false,
 Blk.cols ml
 [Col.str tl, Col.int IntKind.i64 vl, Col.int IntKind.i64 gl, Col.str wl])]]) (3))
 (Kret (PV.tf false) ([[(0, false,
 Blk.cols ml
 [Col.str tl, Col.int IntKind.i64 vl, Col.int IntKind.i64 gl, Col.str wl])]]) (3)))
 (False))
 (test (decide (al + nl ≤ ml ∧ nl ≤ 1000000))
 (test (decide (0 + nl ≤ nl))
 (test (decide (al + nl ≤ ml))
 (test ((S.gapS nl (fun (j : Nat) => tl (j + al)) fun (j : Nat) => gl (j + al)).1 ==
 (S.gapS nl (fun (j : Nat) => tl (j + al)) fun (j : Nat) => gl (j + al)).1)
 (test (decide
 (0 + List.length ((S.gapS nl (fun (j : Nat) => tl (j + al)) fun (j : Nat) => gl (j + al)).2) ≤
 List.length ((S.gapS nl (fun (j : Nat) => tl (j + al)) fun (j : Nat) => gl (j + al)).2) ∧
 List.length ((S.gapS nl (fun (j : Nat) => tl (j + al)) fun (j : Nat) => gl (j + al)).2) ≤
 1000000 ∧
 0 + List.length ((S.gapS nl (fun (j : Nat) => tl (j + al)) fun (j : Nat) => gl (j + al)).2) ≤
 List.length ((S.gapS nl (fun (j : Nat) => tl (j + al)) fun (j : Nat) => gl (j + al)).2) ∧
 List.length ((S.gapS nl (fun (j : Nat) => tl (j + al)) fun (j : Nat) => gl (j + al)).2) ≤
 1000000))
 (test (decide
 ((S.mkl (List.length ((S.gapS nl (fun (j : Nat) => tl (j + al)) fun (j : Nat) => gl (j + al)).2))
 fun (j : Nat) =>
 (Prod.fst
 (S.at' ((S.gapS nl (fun (j : Nat) => tl (j + al)) fun (j : Nat) => gl (j + al)).2) j),
 Prod.fst
 (Prod.snd
 (S.at' ((S.gapS nl (fun (j : Nat) => tl (j + al)) fun (j : Nat) => gl (j + al)).2) j)),
 Prod.fst
 (Prod.snd
 (Prod.snd
 (S.at' ((S.gapS nl (fun (j : Nat) => tl (j + al)) fun (j : Nat) => gl (j + al)).2)
 j))),
 Prod.snd
 (Prod.snd
 (Prod.snd
 (S.at' ((S.gapS nl (fun (j : Nat) => tl (j + al)) fun (j : Nat) => gl (j + al)).2)
 j))))) =
 S.mkl (List.length ((S.gapS nl (fun (j : Nat) => tl (j + al)) fun (j : Nat) => gl (j + al)).2))
 fun (j : Nat) =>
 (Prod.fst
 (S.at' ((S.gapS nl (fun (j : Nat) => tl (j + al)) fun (j : Nat) => gl (j + al)).2) j),
 Prod.fst
 (Prod.snd
 (S.at' ((S.gapS nl (fun (j : Nat) => tl (j + al)) fun (j : Nat) => gl (j + al)).2) j)),
 Prod.fst
 (Prod.snd
 (Prod.snd
 (S.at' ((S.gapS nl (fun (j : Nat) => tl (j + al)) fun (j : Nat) => gl (j + al)).2)
 j))),
 Prod.snd
 (Prod.snd
 (Prod.snd
 (S.at' ((S.gapS nl (fun (j : Nat) => tl (j + al)) fun (j : Nat) => gl (j + al)).2)
 j))))))
 (Kret (PV.tf true) ([[(0, false,
 Blk.cols ml
 [Col.str tl, Col.int IntKind.i64 vl, Col.int IntKind.i64 gl, Col.str wl])]]) (9))
 (Kret (PV.tf false) ([[(0, false,
 Blk.cols ml
 [Col.str tl, Col.int IntKind.i64 vl, Col.int IntKind.i64 gl, Col.str wl])]]) (9)))
 (False))
 (Kret (PV.tf false) ([[(0, false,
 Blk.cols ml
 [Col.str tl, Col.int IntKind.i64 vl, Col.int IntKind.i64 gl, Col.str wl])]]) (8)))
 (False))
 (False))
 (False))))
 (test (decide ((↑nl : Int) > (1010 : Int)))
 (test (true)
 (test (true)
 (Kret (PV.tf true) ([[(0, false,
 Blk.cols ml
 [Col.str tl, Col.int IntKind.i64 vl, Col.int IntKind.i64 gl, Col.str wl])]]) (3))
 (Kret (PV.tf false) ([[(0, false,
 Blk.cols ml
 [Col.str tl, Col.int IntKind.i64 vl, Col.int IntKind.i64 gl, Col.str wl])]]) (3)))
 (False))
 (test (decide (al + nl ≤ ml ∧ nl ≤ 1000000))
 (test (decide (0 + nl ≤ nl))
 (test (decide (al + nl ≤ ml))
 (test ((S.gapS nl (fun (j : Nat) => tl (j + al)) fun (j : Nat) => gl (j + al)).1 ==
 (S.gapS nl (fun (j : Nat) => tl (j + al)) fun (j : Nat) => gl (j + al)).1)
 (test (decide
 (0 + List.length ((S.gapS nl (fun (j : Nat) => tl (j + al)) fun (j : Nat) => gl (j + al)).2) ≤
 List.length ((S.gapS nl (fun (j : Nat) => tl (j + al)) fun (j : Nat) => gl (j + al)).2) ∧
 List.length ((S.gapS nl (fun (j : Nat) => tl (j + al)) fun (j : Nat) => gl (j + al)).2) ≤
 1000000 ∧
 0 + List.length ((S.gapS nl (fun (j : Nat) => tl (j + al)) fun (j : Nat) => gl (j + al)).2) ≤
 List.length ((S.gapS nl (fun (j : Nat) => tl (j + al)) fun (j : Nat) => gl (j + al)).2) ∧
 List.length ((S.gapS nl (fun (j : Nat) => tl (j + al)) fun (j : Nat) => gl (j + al)).2) ≤
 1000000))
 (test (decide
 ((S.mkl (List.length ((S.gapS nl (fun (j : Nat) => tl (j + al)) fun (j : Nat) => gl (j + al)).2))
 fun (j : Nat) =>
 (Prod.fst
 (S.at' ((S.gapS nl (fun (j : Nat) => tl (j + al)) fun (j : Nat) => gl (j + al)).2) j),
 Prod.fst
 (Prod.snd
 (S.at' ((S.gapS nl (fun (j : Nat) => tl (j + al)) fun (j : Nat) => gl (j + al)).2) j)),
 Prod.fst
 (Prod.snd
 (Prod.snd
 (S.at' ((S.gapS nl (fun (j : Nat) => tl (j + al)) fun (j : Nat) => gl (j + al)).2)
 j))),
 Prod.snd
 (Prod.snd
 (Prod.snd
 (S.at' ((S.gapS nl (fun (j : Nat) => tl (j + al)) fun (j : Nat) => gl (j + al)).2)
 j))))) =
 S.mkl (List.length ((S.gapS nl (fun (j : Nat) => tl (j + al)) fun (j : Nat) => gl (j + al)).2))
 fun (j : Nat) =>
 (Prod.fst
 (S.at' ((S.gapS nl (fun (j : Nat) => tl (j + al)) fun (j : Nat) => gl (j + al)).2) j),
 Prod.fst
 (Prod.snd
 (S.at' ((S.gapS nl (fun (j : Nat) => tl (j + al)) fun (j : Nat) => gl (j + al)).2) j)),
 Prod.fst
 (Prod.snd
 (Prod.snd
 (S.at' ((S.gapS nl (fun (j : Nat) => tl (j + al)) fun (j : Nat) => gl (j + al)).2)
 j))),
 Prod.snd
 (Prod.snd
 (Prod.snd
 (S.at' ((S.gapS nl (fun (j : Nat) => tl (j + al)) fun (j : Nat) => gl (j + al)).2)
 j))))))
 (Kret (PV.tf true) ([[(0, false,
 Blk.cols ml
 [Col.str tl, Col.int IntKind.i64 vl, Col.int IntKind.i64 gl, Col.str wl])]]) (9))
 (Kret (PV.tf false) ([[(0, false,
 Blk.cols ml
 [Col.str tl, Col.int IntKind.i64 vl, Col.int IntKind.i64 gl, Col.str wl])]]) (9)))
 (False))
 (Kret (PV.tf false) ([[(0, false,
 Blk.cols ml
 [Col.str tl, Col.int IntKind.i64 vl, Col.int IntKind.i64 gl, Col.str wl])]]) (8)))
 (False))
 (False))
 (False))))
 (test (true)
 (test (true)
 (Kret (PV.tf true) ([[(0, false,
 Blk.cols ml
 [Col.str tl, Col.int IntKind.i64 vl, Col.int IntKind.i64 gl, Col.str wl])]]) (3))
 (Kret (PV.tf false) ([[(0, false,
 Blk.cols ml
 [Col.str tl, Col.int IntKind.i64 vl, Col.int IntKind.i64 gl, Col.str wl])]]) (3)))
 (False)))
 (False)
set_option maxRecDepth 100000 in
theorem te3 (test : Bool → Prop → Prop → Prop) (Kst : KS) (Kret : KR) (al nl ml : Nat) (tl : Nat → ByteArray) (vl : Nat → Int) (gl : Nat → Int) (wl : Nat → ByteArray) : run test Try.env true (xL3 test) true 400 ⟨3, [.cd (mkFn Try.f3).body], argT 0 [.loose ⟨0, 4, al, 0⟩ nl], [[], [(0, (false, .cols ml [.str tl, .int .i64 vl, .int .i64 gl, .str wl]))]], 1⟩ (proj 1 [] Kst Kret) =
  Te3 test Kst Kret al nl ml tl vl gl wl := by kernel_rfl
attribute [local irreducible] Int.subNatNat in
set_option maxRecDepth 100000 in
theorem be3 (al nl ml : Nat) (tl : Nat → ByteArray) (vl : Nat → Int) (gl : Nat → Int) (wl : Nat → ByteArray) (Kst : KS) (Kret : KR) (x : St3 ⊕ Rt3) (hS : HS 1 400 ((I3 al nl ml tl vl gl wl)) Kst x) (hR : HR 1 400 ((V3 al nl ml tl vl gl wl)) (fun r => [newL (1 + 1) ((N3 al nl ml tl vl gl wl) r) ++ [(0, (false, .cols ml [.str tl, .int .i64 vl, .int .i64 gl, .str wl]))]]) Kret x) (h : (bif (decide ((↑nl : Int) > (200 : Int)))
 then (bif (decide ((↑nl : Int) ≤ (1000 : Int)))
 then (some (.inr (true)))
 else (bif (decide ((↑nl : Int) > (1010 : Int)))
 then (some (.inr (true)))
 else (bif (decide (al + nl ≤ ml ∧ nl ≤ 1000000))
 then (bif (decide (0 + nl ≤ nl))
 then (bif (decide (al + nl ≤ ml))
 then (bif ((S.gapS nl (fun (j : Nat) => tl (j + al)) fun (j : Nat) => gl (j + al)).1 ==
 (S.gapS nl (fun (j : Nat) => tl (j + al)) fun (j : Nat) => gl (j + al)).1)
 then (bif (decide
 (0 + List.length ((S.gapS nl (fun (j : Nat) => tl (j + al)) fun (j : Nat) => gl (j + al)).2) ≤
 List.length ((S.gapS nl (fun (j : Nat) => tl (j + al)) fun (j : Nat) => gl (j + al)).2) ∧
 List.length ((S.gapS nl (fun (j : Nat) => tl (j + al)) fun (j : Nat) => gl (j + al)).2) ≤
 1000000 ∧
 0 + List.length ((S.gapS nl (fun (j : Nat) => tl (j + al)) fun (j : Nat) => gl (j + al)).2) ≤
 List.length ((S.gapS nl (fun (j : Nat) => tl (j + al)) fun (j : Nat) => gl (j + al)).2) ∧
 List.length ((S.gapS nl (fun (j : Nat) => tl (j + al)) fun (j : Nat) => gl (j + al)).2) ≤
 1000000))
 then (bif (decide
 ((S.mkl (List.length ((S.gapS nl (fun (j : Nat) => tl (j + al)) fun (j : Nat) => gl (j + al)).2))
 fun (j : Nat) =>
 (Prod.fst
 (S.at' ((S.gapS nl (fun (j : Nat) => tl (j + al)) fun (j : Nat) => gl (j + al)).2) j),
 Prod.fst
 (Prod.snd
 (S.at' ((S.gapS nl (fun (j : Nat) => tl (j + al)) fun (j : Nat) => gl (j + al)).2) j)),
 Prod.fst
 (Prod.snd
 (Prod.snd
 (S.at' ((S.gapS nl (fun (j : Nat) => tl (j + al)) fun (j : Nat) => gl (j + al)).2)
 j))),
 Prod.snd
 (Prod.snd
 (Prod.snd
 (S.at' ((S.gapS nl (fun (j : Nat) => tl (j + al)) fun (j : Nat) => gl (j + al)).2)
 j))))) =
 S.mkl (List.length ((S.gapS nl (fun (j : Nat) => tl (j + al)) fun (j : Nat) => gl (j + al)).2))
 fun (j : Nat) =>
 (Prod.fst
 (S.at' ((S.gapS nl (fun (j : Nat) => tl (j + al)) fun (j : Nat) => gl (j + al)).2) j),
 Prod.fst
 (Prod.snd
 (S.at' ((S.gapS nl (fun (j : Nat) => tl (j + al)) fun (j : Nat) => gl (j + al)).2) j)),
 Prod.fst
 (Prod.snd
 (Prod.snd
 (S.at' ((S.gapS nl (fun (j : Nat) => tl (j + al)) fun (j : Nat) => gl (j + al)).2)
 j))),
 Prod.snd
 (Prod.snd
 (Prod.snd
 (S.at' ((S.gapS nl (fun (j : Nat) => tl (j + al)) fun (j : Nat) => gl (j + al)).2)
 j))))))
 then (some (.inr (true)))
 else (some (.inr (false))))
 else (none))
 else (some (.inr (false))))
 else (none))
 else (none))
 else (none))))
 else (bif (decide ((↑nl : Int) > (1010 : Int)))
 then (some (.inr (true)))
 else (bif (decide (al + nl ≤ ml ∧ nl ≤ 1000000))
 then (bif (decide (0 + nl ≤ nl))
 then (bif (decide (al + nl ≤ ml))
 then (bif ((S.gapS nl (fun (j : Nat) => tl (j + al)) fun (j : Nat) => gl (j + al)).1 ==
 (S.gapS nl (fun (j : Nat) => tl (j + al)) fun (j : Nat) => gl (j + al)).1)
 then (bif (decide
 (0 + List.length ((S.gapS nl (fun (j : Nat) => tl (j + al)) fun (j : Nat) => gl (j + al)).2) ≤
 List.length ((S.gapS nl (fun (j : Nat) => tl (j + al)) fun (j : Nat) => gl (j + al)).2) ∧
 List.length ((S.gapS nl (fun (j : Nat) => tl (j + al)) fun (j : Nat) => gl (j + al)).2) ≤
 1000000 ∧
 0 + List.length ((S.gapS nl (fun (j : Nat) => tl (j + al)) fun (j : Nat) => gl (j + al)).2) ≤
 List.length ((S.gapS nl (fun (j : Nat) => tl (j + al)) fun (j : Nat) => gl (j + al)).2) ∧
 List.length ((S.gapS nl (fun (j : Nat) => tl (j + al)) fun (j : Nat) => gl (j + al)).2) ≤
 1000000))
 then (bif (decide
 ((S.mkl (List.length ((S.gapS nl (fun (j : Nat) => tl (j + al)) fun (j : Nat) => gl (j + al)).2))
 fun (j : Nat) =>
 (Prod.fst
 (S.at' ((S.gapS nl (fun (j : Nat) => tl (j + al)) fun (j : Nat) => gl (j + al)).2) j),
 Prod.fst
 (Prod.snd
 (S.at' ((S.gapS nl (fun (j : Nat) => tl (j + al)) fun (j : Nat) => gl (j + al)).2) j)),
 Prod.fst
 (Prod.snd
 (Prod.snd
 (S.at' ((S.gapS nl (fun (j : Nat) => tl (j + al)) fun (j : Nat) => gl (j + al)).2)
 j))),
 Prod.snd
 (Prod.snd
 (Prod.snd
 (S.at' ((S.gapS nl (fun (j : Nat) => tl (j + al)) fun (j : Nat) => gl (j + al)).2)
 j))))) =
 S.mkl (List.length ((S.gapS nl (fun (j : Nat) => tl (j + al)) fun (j : Nat) => gl (j + al)).2))
 fun (j : Nat) =>
 (Prod.fst
 (S.at' ((S.gapS nl (fun (j : Nat) => tl (j + al)) fun (j : Nat) => gl (j + al)).2) j),
 Prod.fst
 (Prod.snd
 (S.at' ((S.gapS nl (fun (j : Nat) => tl (j + al)) fun (j : Nat) => gl (j + al)).2) j)),
 Prod.fst
 (Prod.snd
 (Prod.snd
 (S.at' ((S.gapS nl (fun (j : Nat) => tl (j + al)) fun (j : Nat) => gl (j + al)).2)
 j))),
 Prod.snd
 (Prod.snd
 (Prod.snd
 (S.at' ((S.gapS nl (fun (j : Nat) => tl (j + al)) fun (j : Nat) => gl (j + al)).2)
 j))))))
 then (some (.inr (true)))
 else (some (.inr (false))))
 else (none))
 else (some (.inr (false))))
 else (none))
 else (none))
 else (none))) : Option (St3 ⊕ Rt3)) = some x) : Te3 cond Kst Kret al nl ml tl vl gl wl := by
  unfold Te3
  exact cond_yes rfl (cond_yes rfl (bif_split h
   (fun c0 h => bif_split h
   (fun c1 h => cond_yes rfl (cond_yes rfl (ret_at hR _ h (fun n => n) rfl rfl rfl (rn_bool_tf rfl) rfl (entl_bor (use_lo rfl) rfl rfl entl_nil))))
   (fun c1 h => bif_split h
   (fun c2 h => cond_yes rfl (cond_yes rfl (ret_at hR _ h (fun n => n) rfl rfl rfl (rn_bool_tf rfl) rfl (entl_bor (use_lo rfl) rfl rfl entl_nil))))
   (fun c2 h => bif_split h
   (fun c3 h => bif_split h
   (fun c4 h => bif_split h
   (fun c5 h => bif_split h
   (fun c6 h => bif_split h
   (fun c7 h => bif_split h
   (fun c8 h => ret_at hR _ h (fun n => n) rfl rfl rfl (rn_bool_tf rfl) rfl (entl_bor (use_lo rfl) rfl rfl entl_nil))
   (fun c8 h => ret_at hR _ h (fun n => n) rfl rfl rfl (rn_bool_tf rfl) rfl (entl_bor (use_lo rfl) rfl rfl entl_nil)))
   (fun c7 h => no_some h))
   (fun c6 h => ret_at hR _ h (fun n => n) rfl rfl rfl (rn_bool_tf rfl) rfl (entl_bor (use_lo rfl) rfl rfl entl_nil)))
   (fun c5 h => no_some h))
   (fun c4 h => no_some h))
   (fun c3 h => no_some h))))
   (fun c0 h => bif_split h
   (fun c1 h => cond_yes rfl (cond_yes rfl (ret_at hR _ h (fun n => n) rfl rfl rfl (rn_bool_tf rfl) rfl (entl_bor (use_lo rfl) rfl rfl entl_nil))))
   (fun c1 h => bif_split h
   (fun c2 h => bif_split h
   (fun c3 h => bif_split h
   (fun c4 h => bif_split h
   (fun c5 h => bif_split h
   (fun c6 h => bif_split h
   (fun c7 h => ret_at hR _ h (fun n => n) rfl rfl rfl (rn_bool_tf rfl) rfl (entl_bor (use_lo rfl) rfl rfl entl_nil))
   (fun c7 h => ret_at hR _ h (fun n => n) rfl rfl rfl (rn_bool_tf rfl) rfl (entl_bor (use_lo rfl) rfl rfl entl_nil)))
   (fun c6 h => no_some h))
   (fun c5 h => ret_at hR _ h (fun n => n) rfl rfl rfl (rn_bool_tf rfl) rfl (entl_bor (use_lo rfl) rfl rfl entl_nil)))
   (fun c4 h => no_some h))
   (fun c3 h => no_some h))
   (fun c2 h => no_some h)))))
theorem a3 (al nl ml : Nat) (tl : Nat → ByteArray) (vl : Nat → Int) (gl : Nat → Int) (wl : Nat → ByteArray) {r : Rt3} (h : Goes ((q3 al nl ml tl vl gl wl)) ((p3 al nl ml tl vl gl wl)) r) : CallR Try.prog 3 [.loose ⟨0, 4, al, 0⟩ nl] [[(0, (false, .cols ml [.str tl, .int .i64 vl, .int .i64 gl, .str wl]))]] 1 ((V3 al nl ml tl vl gl wl) r) ((fun r => [newL (1 + 1) ((N3 al nl ml tl vl gl wl) r) ++ [(0, (false, .cols ml [.str tl, .int .i64 vl, .int .i64 gl, .str wl]))]]) r) 400 ∧ ∃ F, Try.prog.funcs[3]? = some F ∧ F.body.isSome = true ∧ (F.name == "runtime.NumGoroutine") = false := by
  refine dec_calls (sy := true) (f := 3) (lo := 1) (hi := 400) (H := [[(0, (false, .cols ml [.str tl, .int .i64 vl, .int .i64 gl, .str wl]))]]) (args := [.loose ⟨0, 4, al, 0⟩ nl]) Try.envOk Try.mixed xL3_ok ((I3 al nl ml tl vl gl wl)) ((V3 al nl ml tl vl gl wl)) (fun r => [newL (1 + 1) ((N3 al nl ml tl vl gl wl) r) ++ [(0, (false, .cols ml [.str tl, .int .i64 vl, .int .i64 gl, .str wl]))]]) (fn := mkFn Try.f3) (ts := []) (n := 400) rfl (by decide) (by simp) (names_of rfl) ?_ ?_ ?_ h
  · intro s; exact s.elim
  · intro Kst Kret x hS hR h
    exact Holds.eq (te3 cond Kst Kret al nl ml tl vl gl wl) (be3 al nl ml tl vl gl wl Kst Kret x hS hR h)
  · intro Kst Kret x hS hR s h; exact s.elim
noncomputable def k3 : Con := ⟨3, [.one (.list [.str, .int .i64, .int .i64, .str])], fun (x : (Nat × Nat × Nat × (Nat → ByteArray) × (Nat → Int) × (Nat → Int) × (Nat → ByteArray) × Unit) × Unit) => (fun (al nl ml : Nat) (tl : Nat → ByteArray) (vl : Nat → Int) (gl : Nat → Int) (wl : Nat → ByteArray) => decide (al + nl ≤ ml)) x.1.1 x.1.2.1 x.1.2.2.1 x.1.2.2.2.1 x.1.2.2.2.2.1 x.1.2.2.2.2.2.1 x.1.2.2.2.2.2.2.1, fun (x : (Nat × Nat × Nat × (Nat → ByteArray) × (Nat → Int) × (Nat → Int) × (Nat → ByteArray) × Unit) × Unit) => (fun (al nl ml : Nat) (tl : Nat → ByteArray) (vl : Nat → Int) (gl : Nat → Int) (wl : Nat → ByteArray) => (V3 al nl ml tl vl gl wl) (true)) x.1.1 x.1.2.1 x.1.2.2.1 x.1.2.2.2.1 x.1.2.2.2.2.1 x.1.2.2.2.2.2.1 x.1.2.2.2.2.2.2.1, fun (x : (Nat × Nat × Nat × (Nat → ByteArray) × (Nat → Int) × (Nat → Int) × (Nat → ByteArray) × Unit) × Unit) => (fun (al nl ml : Nat) (tl : Nat → ByteArray) (vl : Nat → Int) (gl : Nat → Int) (wl : Nat → ByteArray) => (N3 al nl ml tl vl gl wl) (true)) x.1.1 x.1.2.1 x.1.2.2.1 x.1.2.2.2.1 x.1.2.2.2.2.1 x.1.2.2.2.2.2.1 x.1.2.2.2.2.2.2.1, fun _ _ => .dead⟩
theorem s3 (al nl ml : Nat) (tl : Nat → ByteArray) (vl : Nat → Int) (gl : Nat → Int) (wl : Nat → ByteArray) (hp : al + nl ≤ ml) : Goes ((q3 al nl ml tl vl gl wl)) ((p3 al nl ml tl vl gl wl)) (true) := by
  have hl := gapS_len (n := nl) (t := (fun j => tl (j + al))) (g := (fun j => gl (j + al)))
  unfold p3
  generalize S.gapS nl (fun j => tl (j + al)) (fun j => gl (j + al)) = r at *
  by_cases h1 : nl > 200 ∧ nl ≤ 1000 ∨ nl > 1010
  · unfold Goes
    (repeat' first
      | rfl
      | (refine goes_if (fun h => ?_) (fun h => ?_) <;> (try simp only [lim64, imp_false, decide_eq_true_eq, decide_eq_false_iff_not, Int.toNat_natCast, toNat_pred, toNat_succ, Option.getD_some, Option.getD_none, Bool.not_eq_true', Bool.not_eq_false', Bool.and_eq_true, Bool.or_eq_true, Bool.and_eq_false_iff, Bool.or_eq_false_iff, bne_iff_ne, beq_iff_eq, bne_eq_false_iff_eq, beq_eq_false_iff_ne, ne_eq, not_and, Int.not_le, Int.not_lt, ge_iff_le, gt_iff_lt, Nat.not_lt, Nat.not_le, Bool.not_eq_true, Bool.not_eq_false, Bool.true_eq_false, Bool.false_eq_true, not_false_eq_true, not_true_eq_false] at h) <;> try (exfalso; omega)))
  · show Goes _ _ _
    repeat' first
      | with_reducible exact goes_inr.mpr rfl
      | with_reducible refine goes_if (fun h => ?_) (fun h => ?_) <;> (try simp only [lim64, imp_false, decide_eq_true_eq, decide_eq_false_iff_not, Int.toNat_natCast, toNat_pred, toNat_succ, Option.getD_some, Option.getD_none, Bool.not_eq_true', Bool.not_eq_false', Bool.and_eq_true, Bool.or_eq_true, Bool.and_eq_false_iff, Bool.or_eq_false_iff, bne_iff_ne, beq_iff_eq, bne_eq_false_iff_eq, beq_eq_false_iff_ne, ne_eq, not_and, Int.not_le, Int.not_lt, ge_iff_le, gt_iff_lt, Nat.not_lt, Nat.not_le, Bool.not_eq_true, Bool.not_eq_false, Bool.true_eq_false, Bool.false_eq_true, not_false_eq_true, not_true_eq_false, beq_self_eq_true, eq_self, mkl_len] at h)
      | exact goes_none.mpr (by omega)
    all_goals first | (exfalso; omega) | (exfalso; exact h rfl) | (exfalso; simp_all; done)

theorem k3_ok : k3.ok Try.prog := by
  intro x hx
  obtain ⟨⟨al, nl, ml, tl, vl, gl, wl, _⟩, _⟩ := x
  obtain ⟨h1, h2⟩ := a3 al nl ml tl vl gl wl (s3 al nl ml tl vl gl wl (of_dec hx rfl))
  exact ⟨⟨400, (by decide : 1 + 1 + 0 ≤ 400), h1⟩, h2⟩

end Go.Ev
