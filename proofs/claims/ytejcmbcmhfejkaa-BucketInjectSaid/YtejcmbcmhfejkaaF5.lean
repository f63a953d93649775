/-
  The law of Inject.
-/
import Derived.Test.YtejcmbcmhfejkaaF5x
namespace Go.Ev
open Go.Proofs
set_option linter.unusedVariables false
set_option linter.unusedSimpArgs false
set_option maxRecDepth 100000
inductive St6 where
  | h0 (x0 : Int) (x1 : List Int)
abbrev Rt6 := Bool
noncomputable def V6 (hr : Int) (al nl ml : Nat) (tl : Nat → Int) (fa : Int) (nu : Int) (z : Int) (r : Rt6) : PV := PV.bool r
noncomputable def N6 (hr : Int) (al nl ml : Nat) (tl : Nat → Int) (fa : Int) (nu : Int) (z : Int) (r : Rt6) : List Blk := []
noncomputable def I6 (hr : Int) (al nl ml : Nat) (tl : Nat → Int) (fa : Int) (nu : Int) (z : Int) : St6 → Hd
  | .h0 x0 x1 => ⟨hd Try.f6 0, [PV.ptr (PA.mk (1) (0) (0) (0)),
 PV.ptr (PA.mk (2) (0) (0) (0)),
 PV.ptr (PA.mk (3) (0) (0) (0)),
 PV.loose (PA.mk (0) (1) al (0)) nl, PV.int IntKind.i64 (↑nl : Int),
 PV.int IntKind.i64 x0], [[(1, (true, Blk.cells [PV.int IntKind.i64 hr, PV.loose (PA.mk (0) (1) al (0)) nl])), (2, (true, Blk.cells [PV.int IntKind.i64 fa, PV.int IntKind.i64 nu, PV.int IntKind.i64 z])), (3, (true, Blk.cells
 [PV.int IntKind.i64 ((S.injS hr nl (fun (j : Nat) => tl (j + al)) fa nu z).1),
 PV.own (4) (1) (List.length x1)])), (4, (true, Blk.cols (List.length x1) [Col.int IntKind.i64 fun (j : Nat) => S.at' x1 j]))], [(0, (false, .cols ml [.int .i64 tl]))]], 5⟩
noncomputable def q6 (hr : Int) (al nl ml : Nat) (tl : Nat → Int) (fa : Int) (nu : Int) (z : Int) : St6 → Option (St6 ⊕ Rt6)
  | .h0 x0 x1 => bif (decide (x0 < (↑nl : Int)))
 then (bif (decide ((0 : Int) ≤ x0 ∧ x0 < (↑nl : Int)))
 then (bif (decide (Int.toNat x0 + al < ml))
 then (bif (decide (0 + List.length x1 ≤ List.length x1 ∧ List.length x1 ≤ 1000000))
 then (bif (S.any (fun (j : Nat) => decide (S.at' x1 j = tl (Int.toNat x0 + al))) (List.length x1))
 then (bif (lim IntKind.i64 (x0 + (1 : Int)))
 then (some (.inl (.h0 (x0 + (1 : Int)) (x1))))
 else (none))
 else (some (.inr (false))))
 else (none))
 else (none))
 else (none))
 else (bif (lim IntKind.i64 ((↑nl : Int) + nu))
 then (bif ((↑(List.length x1) : Int) == (↑nl : Int) + nu)
 then (bif (decide (0 + List.length x1 ≤ List.length x1 ∧ List.length x1 ≤ 1000000))
 then (bif ((S.filE ((S.injS hr nl (fun (j : Nat) => tl (j + al)) fa nu z).1) (List.length x1) fun (j : Nat) =>
 S.at' x1 j) ==
 (0 : Int))
 then (some (.inr (true)))
 else (some (.inr (false))))
 else (none))
 else (some (.inr (false))))
 else (none))
noncomputable def p6 (hr : Int) (al nl ml : Nat) (tl : Nat → Int) (fa : Int) (nu : Int) (z : Int) : Option (St6 ⊕ Rt6) := bif (decide ((↑nl : Int) ≤ (2100 : Int)))
 then (bif (decide (al + nl ≤ ml ∧ nl ≤ 1000000))
 then (bif (decide (0 + nl ≤ nl ∧ nl ≤ 1000000))
 then (bif ((S.injS hr nl (fun (j : Nat) => tl (j + al)) fa nu z).2.1 !=
 (S.injS hr nl (fun (j : Nat) => tl (j + al)) fa nu z).2.1)
 then (bif ((S.injS hr nl (fun (j : Nat) => tl (j + al)) fa nu z).2.1 ==
 (S.injS hr nl (fun (j : Nat) => tl (j + al)) fa nu z).2.1)
 then (bif (decide
 (0 + List.length ((S.injS hr nl (fun (j : Nat) => tl (j + al)) fa nu z).2.2) ≤
 List.length ((S.injS hr nl (fun (j : Nat) => tl (j + al)) fa nu z).2.2) ∧
 List.length ((S.injS hr nl (fun (j : Nat) => tl (j + al)) fa nu z).2.2) ≤ 1000000 ∧
 0 + List.length ((S.injS hr nl (fun (j : Nat) => tl (j + al)) fa nu z).2.2) ≤
 List.length ((S.injS hr nl (fun (j : Nat) => tl (j + al)) fa nu z).2.2) ∧
 List.length ((S.injS hr nl (fun (j : Nat) => tl (j + al)) fa nu z).2.2) ≤ 1000000))
 then (bif (decide
 ((S.injS hr nl (fun (j : Nat) => tl (j + al)) fa nu z).1 =
 (S.injS hr nl (fun (j : Nat) => tl (j + al)) fa nu z).1) &&
 decide
 ((S.mkl (List.length ((S.injS hr nl (fun (j : Nat) => tl (j + al)) fa nu z).2.2))
 fun (j : Nat) =>
 S.at' ((S.injS hr nl (fun (j : Nat) => tl (j + al)) fa nu z).2.2) j) =
 S.mkl (List.length ((S.injS hr nl (fun (j : Nat) => tl (j + al)) fa nu z).2.2))
 fun (j : Nat) =>
 S.at' ((S.injS hr nl (fun (j : Nat) => tl (j + al)) fa nu z).2.2) j))
 then (some (.inr (true)))
 else (some (.inr (false))))
 else (none))
 else (some (.inr (false))))
 else (bif (decide
 (0 + List.length ((S.injS hr nl (fun (j : Nat) => tl (j + al)) fa nu z).2.2) ≤
 List.length ((S.injS hr nl (fun (j : Nat) => tl (j + al)) fa nu z).2.2) ∧
 List.length ((S.injS hr nl (fun (j : Nat) => tl (j + al)) fa nu z).2.2) ≤ 1000000 ∧
 0 + List.length ((S.injS hr nl (fun (j : Nat) => tl (j + al)) fa nu z).2.2) ≤
 List.length ((S.injS hr nl (fun (j : Nat) => tl (j + al)) fa nu z).2.2) ∧
 List.length ((S.injS hr nl (fun (j : Nat) => tl (j + al)) fa nu z).2.2) ≤ 1000000))
 then (bif (decide
 ((S.injS hr nl (fun (j : Nat) => tl (j + al)) fa nu z).1 =
 (S.injS hr nl (fun (j : Nat) => tl (j + al)) fa nu z).1) &&
 decide
 ((S.mkl (List.length ((S.injS hr nl (fun (j : Nat) => tl (j + al)) fa nu z).2.2))
 fun (j : Nat) =>
 S.at' ((S.injS hr nl (fun (j : Nat) => tl (j + al)) fa nu z).2.2) j) =
 S.mkl (List.length ((S.injS hr nl (fun (j : Nat) => tl (j + al)) fa nu z).2.2))
 fun (j : Nat) =>
 S.at' ((S.injS hr nl (fun (j : Nat) => tl (j + al)) fa nu z).2.2) j))
 then (bif ((S.injS hr nl (fun (j : Nat) => tl (j + al)) fa nu z).2.1 != (0 : Int))
 then (bif ((S.injS hr nl (fun (j : Nat) => tl (j + al)) fa nu z).2.1 ==
 (S.injS hr nl (fun (j : Nat) => tl (j + al)) fa nu z).2.1)
 then (some (.inr (true)))
 else (some (.inr (false))))
 else (some (.inl (.h0 ((0 : Int)) ((S.injS hr nl (fun (j : Nat) => tl (j + al)) fa nu z).2.2)))))
 else (bif ((S.injS hr nl (fun (j : Nat) => tl (j + al)) fa nu z).2.1 ==
 (S.injS hr nl (fun (j : Nat) => tl (j + al)) fa nu z).2.1)
 then (some (.inr (false)))
 else (some (.inr (false)))))
 else (none)))
 else (none))
 else (none))
 else (some (.inr (true)))
noncomputable def Te6 (test : Bool → Prop → Prop → Prop) (Kst : KS) (Kret : KR) (hr : Int) (al nl ml : Nat) (tl : Nat → Int) (fa : Int) (nu : Int) (z : Int) : Prop :=
  test (true)
 (test (true)
 (test (decide ((↑nl : Int) ≤ (2100 : Int)))
 (test (decide (al + nl ≤ ml ∧ nl ≤ 1000000))
 (test (decide (0 + nl ≤ nl ∧ nl ≤ 1000000))
 (test (decide (al + nl ≤ ml ∧ nl ≤ 1000000))
 (test ((S.injS hr nl (fun (j : Nat) => tl (j + al)) fa nu z).2.1 !=
 (S.injS hr nl (fun (j : Nat) => tl (j + al)) fa nu z).2.1)
 (test ((S.injS hr nl (fun (j : Nat) => tl (j + al)) fa nu z).2.1 ==
 (S.injS hr nl (fun (j : Nat) => tl (j + al)) fa nu z).2.1)
 (test (decide
 (0 + List.length ((S.injS hr nl (fun (j : Nat) => tl (j + al)) fa nu z).2.2) ≤
 List.length ((S.injS hr nl (fun (j : Nat) => tl (j + al)) fa nu z).2.2) ∧
 List.length ((S.injS hr nl (fun (j : Nat) => tl (j + al)) fa nu z).2.2) ≤ 1000000 ∧
 0 + List.length ((S.injS hr nl (fun (j : Nat) => tl (j + al)) fa nu z).2.2) ≤
 List.length ((S.injS hr nl (fun (j : Nat) => tl (j + al)) fa nu z).2.2) ∧
 List.length ((S.injS hr nl (fun (j : Nat) => tl (j + al)) fa nu z).2.2) ≤ 1000000))
 (test (decide
 ((S.injS hr nl (fun (j : Nat) => tl (j + al)) fa nu z).1 =
 (S.injS hr nl (fun (j : Nat) => tl (j + al)) fa nu z).1) &&
 decide
 ((S.mkl (List.length ((S.injS hr nl (fun (j : Nat) => tl (j + al)) fa nu z).2.2))
 fun (j : Nat) =>
 S.at' ((S.injS hr nl (fun (j : Nat) => tl (j + al)) fa nu z).2.2) j) =
 S.mkl (List.length ((S.injS hr nl (fun (j : Nat) => tl (j + al)) fa nu z).2.2))
 fun (j : Nat) =>
 S.at' ((S.injS hr nl (fun (j : Nat) => tl (j + al)) fa nu z).2.2) j))
 (Kret (PV.tf true) ([[(0, false, Blk.cols ml [Col.int IntKind.i64 tl])]]) (16))
 (Kret (PV.tf false) ([[(0, false, Blk.cols ml [Col.int IntKind.i64 tl])]]) (16)))
 (False))
 (Kret (PV.tf false) ([[(0, false, Blk.cols ml [Col.int IntKind.i64 tl])]]) (15)))
 (test (decide
 (0 + List.length ((S.injS hr nl (fun (j : Nat) => tl (j + al)) fa nu z).2.2) ≤
 List.length ((S.injS hr nl (fun (j : Nat) => tl (j + al)) fa nu z).2.2) ∧
 List.length ((S.injS hr nl (fun (j : Nat) => tl (j + al)) fa nu z).2.2) ≤ 1000000 ∧
 0 + List.length ((S.injS hr nl (fun (j : Nat) => tl (j + al)) fa nu z).2.2) ≤
 List.length ((S.injS hr nl (fun (j : Nat) => tl (j + al)) fa nu z).2.2) ∧
 List.length ((S.injS hr nl (fun (j : Nat) => tl (j + al)) fa nu z).2.2) ≤ 1000000))
 (test (decide
 ((S.injS hr nl (fun (j : Nat) => tl (j + al)) fa nu z).1 =
 (S.injS hr nl (fun (j : Nat) => tl (j + al)) fa nu z).1) &&
 decide
 ((S.mkl (List.length ((S.injS hr nl (fun (j : Nat) => tl (j + al)) fa nu z).2.2))
 fun (j : Nat) =>
 S.at' ((S.injS hr nl (fun (j : Nat) => tl (j + al)) fa nu z).2.2) j) =
 S.mkl (List.length ((S.injS hr nl (fun (j : Nat) => tl (j + al)) fa nu z).2.2))
 fun (j : Nat) =>
 S.at' ((S.injS hr nl (fun (j : Nat) => tl (j + al)) fa nu z).2.2) j))
 (test ((S.injS hr nl (fun (j : Nat) => tl (j + al)) fa nu z).2.1 != (0 : Int))
 (test ((S.injS hr nl (fun (j : Nat) => tl (j + al)) fa nu z).2.1 ==
 (S.injS hr nl (fun (j : Nat) => tl (j + al)) fa nu z).2.1)
 (test (decide
 (0 + List.length ((S.injS hr nl (fun (j : Nat) => tl (j + al)) fa nu z).2.2) ≤
 List.length ((S.injS hr nl (fun (j : Nat) => tl (j + al)) fa nu z).2.2) ∧
 List.length ((S.injS hr nl (fun (j : Nat) => tl (j + al)) fa nu z).2.2) ≤ 1000000 ∧
 0 + List.length ((S.injS hr nl (fun (j : Nat) => tl (j + al)) fa nu z).2.2) ≤
 List.length ((S.injS hr nl (fun (j : Nat) => tl (j + al)) fa nu z).2.2) ∧
 List.length ((S.injS hr nl (fun (j : Nat) => tl (j + al)) fa nu z).2.2) ≤ 1000000))
 (test (decide
 ((S.injS hr nl (fun (j : Nat) => tl (j + al)) fa nu z).1 =
 (S.injS hr nl (fun (j : Nat) => tl (j + al)) fa nu z).1) &&
 decide
 ((S.mkl (List.length ((S.injS hr nl (fun (j : Nat) => tl (j + al)) fa nu z).2.2))
 fun (j : Nat) =>
 S.at' ((S.injS hr nl (fun (j : Nat) => tl (j + al)) fa nu z).2.2) j) =
 S.mkl (List.length ((S.injS hr nl (fun (j : Nat) => tl (j + al)) fa nu z).2.2))
 fun (j : Nat) =>
 S.at' ((S.injS hr nl (fun (j : Nat) => tl (j + al)) fa nu z).2.2) j))
 (Kret (PV.tf true) ([[(0, false, Blk.cols ml [Col.int IntKind.i64 tl])]]) (17))
 (Kret (PV.tf false) ([[(0, false, Blk.cols ml [Col.int IntKind.i64 tl])]]) (17)))
 (False))
 (Kret (PV.tf false) ([[(0, false, Blk.cols ml [Col.int IntKind.i64 tl])]]) (16)))
 (Kst (hd Try.f6 0) ([PV.ptr (PA.mk (1) (0) (0) (0)),
 PV.ptr (PA.mk (2) (0) (0) (0)),
 PV.ptr (PA.mk (11) (0) (0) (0)),
 PV.loose (PA.mk (0) (1) al (0)) nl, PV.int IntKind.i64 (↑nl : Int),
 PV.int IntKind.i64 (0 : Int)]) ([[(0, false, Blk.cols ml [Col.int IntKind.i64 tl]),
 (11, true,
 Blk.cells
 [PV.int IntKind.i64 ((S.injS hr nl (fun (j : Nat) => tl (j + al)) fa nu z).1),
 PV.own (10) (1)
 (List.length ((S.injS hr nl (fun (j : Nat) => tl (j + al)) fa nu z).2.2))]),
 (2, true,
 Blk.cells [PV.int IntKind.i64 fa, PV.int IntKind.i64 nu, PV.int IntKind.i64 z]),
 (1, true,
 Blk.cells
 [PV.int IntKind.i64 hr, PV.loose (PA.mk (0) (1) al (0)) nl]),
 (10, true,
 Blk.cols (List.length ((S.injS hr nl (fun (j : Nat) => tl (j + al)) fa nu z).2.2))
 [Col.int IntKind.i64 fun (j : Nat) =>
 S.at' ((S.injS hr nl (fun (j : Nat) => tl (j + al)) fa nu z).2.2) j])]]) (16)))
 (test ((S.injS hr nl (fun (j : Nat) => tl (j + al)) fa nu z).2.1 ==
 (S.injS hr nl (fun (j : Nat) => tl (j + al)) fa nu z).2.1)
 (test (decide
 (0 + List.length ((S.injS hr nl (fun (j : Nat) => tl (j + al)) fa nu z).2.2) ≤
 List.length ((S.injS hr nl (fun (j : Nat) => tl (j + al)) fa nu z).2.2) ∧
 List.length ((S.injS hr nl (fun (j : Nat) => tl (j + al)) fa nu z).2.2) ≤ 1000000 ∧
 0 + List.length ((S.injS hr nl (fun (j : Nat) => tl (j + al)) fa nu z).2.2) ≤
 List.length ((S.injS hr nl (fun (j : Nat) => tl (j + al)) fa nu z).2.2) ∧
 List.length ((S.injS hr nl (fun (j : Nat) => tl (j + al)) fa nu z).2.2) ≤ 1000000))
 (test (decide
 ((S.injS hr nl (fun (j : Nat) => tl (j + al)) fa nu z).1 =
 (S.injS hr nl (fun (j : Nat) => tl (j + al)) fa nu z).1) &&
 decide
 ((S.mkl (List.length ((S.injS hr nl (fun (j : Nat) => tl (j + al)) fa nu z).2.2))
 fun (j : Nat) =>
 S.at' ((S.injS hr nl (fun (j : Nat) => tl (j + al)) fa nu z).2.2) j) =
 S.mkl (List.length ((S.injS hr nl (fun (j : Nat) => tl (j + al)) fa nu z).2.2))
 fun (j : Nat) =>
 S.at' ((S.injS hr nl (fun (j : Nat) => tl (j + al)) fa nu z).2.2) j))
 (Kret (PV.tf true) ([[(0, false, Blk.cols ml [Col.int IntKind.i64 tl])]]) (17))
 (Kret (PV.tf false) ([[(0, false, Blk.cols ml [Col.int IntKind.i64 tl])]]) (17)))
 (False))
 (Kret (PV.tf false) ([[(0, false, Blk.cols ml [Col.int IntKind.i64 tl])]]) (16))))
 (False)))
 (False))
 (False))
 (False))
 (test (true)
 (test (true)
 (Kret (PV.tf true) ([[(0, false, Blk.cols ml [Col.int IntKind.i64 tl])]]) (6))
 (Kret (PV.tf false) ([[(0, false, Blk.cols ml [Col.int IntKind.i64 tl])]]) (6)))
 (False)))
 (test (true)
 (test (true)
 (Kret (PV.tf true) ([[(0, false, Blk.cols ml [Col.int IntKind.i64 tl])]]) (5))
 (Kret (PV.tf false) ([[(0, false, Blk.cols ml [Col.int IntKind.i64 tl])]]) (5)))
 (False)))
 (False)
set_option maxRecDepth 100000 in
theorem te6 (test : Bool → Prop → Prop → Prop) (Kst : KS) (Kret : KR) (hr : Int) (al nl ml : Nat) (tl : Nat → Int) (fa : Int) (nu : Int) (z : Int) : run test Try.env true (xV6 test) true 400 ⟨6, [.cd (mkFn Try.f6).body], argT 0 [.agg [.int .i64 hr, .loose ⟨0, 1, al, 0⟩ nl], .agg [.int .i64 fa, .int .i64 nu, .int .i64 z]], [[], [(0, (false, .cols ml [.int .i64 tl]))]], 1⟩ (proj 1 [2, 3, 5, 64, 65, 66] Kst Kret) =
  Te6 test Kst Kret hr al nl ml tl fa nu z := by kernel_rfl
noncomputable def T6_0 (test : Bool → Prop → Prop → Prop) (Kst : KS) (Kret : KR) (hr : Int) (al nl ml : Nat) (tl : Nat → Int) (fa : Int) (nu : Int) (z : Int) (x0 : Int) (x1 : List Int) : Prop :=
  test (decide (x0 < (↑nl : Int)))
 (test (decide ((0 : Int) ≤ x0 ∧ x0 < (↑nl : Int)))
 (test (decide (Int.toNat x0 + al < ml))
 (test (decide (0 + List.length x1 ≤ List.length x1 ∧ List.length x1 ≤ 1000000))
 (test (S.any (fun (j : Nat) => decide (S.at' x1 j = tl (Int.toNat x0 + al))) (List.length x1))
 (test (lim IntKind.i64 (x0 + (1 : Int)))
 (Kst (hd Try.f6 0) ([PV.ptr (PA.mk (1) (0) (0) (0)),
 PV.ptr (PA.mk (2) (0) (0) (0)),
 PV.ptr (PA.mk (3) (0) (0) (0)),
 PV.loose (PA.mk (0) (1) al (0)) nl, PV.int IntKind.i64 (↑nl : Int),
 PV.int IntKind.i64 (x0 + (1 : Int))]) ([[(0, false, Blk.cols ml [Col.int IntKind.i64 tl]),
 (3, true,
 Blk.cells
 [PV.int IntKind.i64 ((S.injS hr nl (fun (j : Nat) => tl (j + al)) fa nu z).1),
 PV.own (4) (1) (List.length x1)]),
 (2, true,
 Blk.cells [PV.int IntKind.i64 fa, PV.int IntKind.i64 nu, PV.int IntKind.i64 z]),
 (1, true,
 Blk.cells
 [PV.int IntKind.i64 hr, PV.loose (PA.mk (0) (1) al (0)) nl]),
 (4, true,
 Blk.cols (List.length x1) [Col.int IntKind.i64 fun (j : Nat) => S.at' x1 j])]]) (6))
 (False))
 (Kret (PV.tf false) ([[(0, false, Blk.cols ml [Col.int IntKind.i64 tl])]]) (6)))
 (False))
 (False))
 (False))
 (test (lim IntKind.i64 ((↑nl : Int) + nu))
 (test ((↑(List.length x1) : Int) == (↑nl : Int) + nu)
 (test (decide (0 + List.length x1 ≤ List.length x1 ∧ List.length x1 ≤ 1000000))
 (test ((S.filE ((S.injS hr nl (fun (j : Nat) => tl (j + al)) fa nu z).1) (List.length x1) fun (j : Nat) =>
 S.at' x1 j) ==
 (0 : Int))
 (Kret (PV.tf true) ([[(0, false, Blk.cols ml [Col.int IntKind.i64 tl])]]) (6))
 (Kret (PV.tf false) ([[(0, false, Blk.cols ml [Col.int IntKind.i64 tl])]]) (6)))
 (False))
 (Kret (PV.tf false) ([[(0, false, Blk.cols ml [Col.int IntKind.i64 tl])]]) (5)))
 (False))
set_option maxRecDepth 100000 in
theorem t6_0 (test : Bool → Prop → Prop → Prop) (Kst : KS) (Kret : KR) (hr : Int) (al nl ml : Nat) (tl : Nat → Int) (fa : Int) (nu : Int) (z : Int) (x0 : Int) (x1 : List Int) : run test Try.env true (xV6 test) true 400 ⟨6, hd Try.f6 0, zipT [2, 3, 5, 64, 65, 66] [PV.ptr (PA.mk (1) (0) (0) (0)),
 PV.ptr (PA.mk (2) (0) (0) (0)),
 PV.ptr (PA.mk (3) (0) (0) (0)),
 PV.loose (PA.mk (0) (1) al (0)) nl, PV.int IntKind.i64 (↑nl : Int),
 PV.int IntKind.i64 x0], [[(1, (true, Blk.cells [PV.int IntKind.i64 hr, PV.loose (PA.mk (0) (1) al (0)) nl])), (2, (true, Blk.cells [PV.int IntKind.i64 fa, PV.int IntKind.i64 nu, PV.int IntKind.i64 z])), (3, (true, Blk.cells
 [PV.int IntKind.i64 ((S.injS hr nl (fun (j : Nat) => tl (j + al)) fa nu z).1),
 PV.own (4) (1) (List.length x1)])), (4, (true, Blk.cols (List.length x1) [Col.int IntKind.i64 fun (j : Nat) => S.at' x1 j]))], [(0, (false, .cols ml [.int .i64 tl]))]], 5⟩ (proj 1 [2, 3, 5, 64, 65, 66] Kst Kret) =
  T6_0 test Kst Kret hr al nl ml tl fa nu z x0 x1 := by kernel_rfl
set_option maxRecDepth 100000 in
theorem be6 (hr : Int) (al nl ml : Nat) (tl : Nat → Int) (fa : Int) (nu : Int) (z : Int) (Kst : KS) (Kret : KR) (x : St6 ⊕ Rt6) (hS : HS 1 400 ((I6 hr al nl ml tl fa nu z)) Kst x) (hR : HR 1 400 ((V6 hr al nl ml tl fa nu z)) (fun r => [newL (1 + 1) ((N6 hr al nl ml tl fa nu z) r) ++ [(0, (false, .cols ml [.int .i64 tl]))]]) Kret x) (h : (bif (decide ((↑nl : Int) ≤ (2100 : Int)))
 then (bif (decide (al + nl ≤ ml ∧ nl ≤ 1000000))
 then (bif (decide (0 + nl ≤ nl ∧ nl ≤ 1000000))
 then (bif ((S.injS hr nl (fun (j : Nat) => tl (j + al)) fa nu z).2.1 !=
 (S.injS hr nl (fun (j : Nat) => tl (j + al)) fa nu z).2.1)
 then (bif ((S.injS hr nl (fun (j : Nat) => tl (j + al)) fa nu z).2.1 ==
 (S.injS hr nl (fun (j : Nat) => tl (j + al)) fa nu z).2.1)
 then (bif (decide
 (0 + List.length ((S.injS hr nl (fun (j : Nat) => tl (j + al)) fa nu z).2.2) ≤
 List.length ((S.injS hr nl (fun (j : Nat) => tl (j + al)) fa nu z).2.2) ∧
 List.length ((S.injS hr nl (fun (j : Nat) => tl (j + al)) fa nu z).2.2) ≤ 1000000 ∧
 0 + List.length ((S.injS hr nl (fun (j : Nat) => tl (j + al)) fa nu z).2.2) ≤
 List.length ((S.injS hr nl (fun (j : Nat) => tl (j + al)) fa nu z).2.2) ∧
 List.length ((S.injS hr nl (fun (j : Nat) => tl (j + al)) fa nu z).2.2) ≤ 1000000))
 then (bif (decide
 ((S.injS hr nl (fun (j : Nat) => tl (j + al)) fa nu z).1 =
 (S.injS hr nl (fun (j : Nat) => tl (j + al)) fa nu z).1) &&
 decide
 ((S.mkl (List.length ((S.injS hr nl (fun (j : Nat) => tl (j + al)) fa nu z).2.2))
 fun (j : Nat) =>
 S.at' ((S.injS hr nl (fun (j : Nat) => tl (j + al)) fa nu z).2.2) j) =
 S.mkl (List.length ((S.injS hr nl (fun (j : Nat) => tl (j + al)) fa nu z).2.2))
 fun (j : Nat) =>
 S.at' ((S.injS hr nl (fun (j : Nat) => tl (j + al)) fa nu z).2.2) j))
 then (some (.inr (true)))
 else (some (.inr (false))))
 else (none))
 else (some (.inr (false))))
 else (bif (decide
 (0 + List.length ((S.injS hr nl (fun (j : Nat) => tl (j + al)) fa nu z).2.2) ≤
 List.length ((S.injS hr nl (fun (j : Nat) => tl (j + al)) fa nu z).2.2) ∧
 List.length ((S.injS hr nl (fun (j : Nat) => tl (j + al)) fa nu z).2.2) ≤ 1000000 ∧
 0 + List.length ((S.injS hr nl (fun (j : Nat) => tl (j + al)) fa nu z).2.2) ≤
 List.length ((S.injS hr nl (fun (j : Nat) => tl (j + al)) fa nu z).2.2) ∧
 List.length ((S.injS hr nl (fun (j : Nat) => tl (j + al)) fa nu z).2.2) ≤ 1000000))
 then (bif (decide
 ((S.injS hr nl (fun (j : Nat) => tl (j + al)) fa nu z).1 =
 (S.injS hr nl (fun (j : Nat) => tl (j + al)) fa nu z).1) &&
 decide
 ((S.mkl (List.length ((S.injS hr nl (fun (j : Nat) => tl (j + al)) fa nu z).2.2))
 fun (j : Nat) =>
 S.at' ((S.injS hr nl (fun (j : Nat) => tl (j + al)) fa nu z).2.2) j) =
 S.mkl (List.length ((S.injS hr nl (fun (j : Nat) => tl (j + al)) fa nu z).2.2))
 fun (j : Nat) =>
 S.at' ((S.injS hr nl (fun (j : Nat) => tl (j + al)) fa nu z).2.2) j))
 then (bif ((S.injS hr nl (fun (j : Nat) => tl (j + al)) fa nu z).2.1 != (0 : Int))
 then (bif ((S.injS hr nl (fun (j : Nat) => tl (j + al)) fa nu z).2.1 ==
 (S.injS hr nl (fun (j : Nat) => tl (j + al)) fa nu z).2.1)
 then (some (.inr (true)))
 else (some (.inr (false))))
 else (some (.inl (.h0 ((0 : Int)) ((S.injS hr nl (fun (j : Nat) => tl (j + al)) fa nu z).2.2)))))
 else (bif ((S.injS hr nl (fun (j : Nat) => tl (j + al)) fa nu z).2.1 ==
 (S.injS hr nl (fun (j : Nat) => tl (j + al)) fa nu z).2.1)
 then (some (.inr (false)))
 else (some (.inr (false)))))
 else (none)))
 else (none))
 else (none))
 else (some (.inr (true))) : Option (St6 ⊕ Rt6)) = some x) : Te6 cond Kst Kret hr al nl ml tl fa nu z := by
  unfold Te6
  exact cond_yes rfl (cond_yes rfl (bif_split h
   (fun c0 h => bif_split h
   (fun c1 h => bif_split h
   (fun c2 h => cond_yes c1 (bif_split h
   (fun c3 h => bif_split h
   (fun c4 h => bif_split h
   (fun c5 h => bif_split h
   (fun c6 h => ret_at hR _ h (fun n => n) rfl rfl rfl (rn_bool_tf rfl) rfl (entl_bor (use_lo rfl) rfl rfl entl_nil))
   (fun c6 h => ret_at hR _ h (fun n => n) rfl rfl rfl (rn_bool_tf rfl) rfl (entl_bor (use_lo rfl) rfl rfl entl_nil)))
   (fun c5 h => no_some h))
   (fun c4 h => ret_at hR _ h (fun n => n) rfl rfl rfl (rn_bool_tf rfl) rfl (entl_bor (use_lo rfl) rfl rfl entl_nil)))
   (fun c3 h => bif_split h
   (fun c4 h => bif_split h
   (fun c5 h => bif_split h
   (fun c6 h => bif_split h
   (fun c7 h => cond_yes c4 (cond_yes c5 (ret_at hR _ h (fun n => n) rfl rfl rfl (rn_bool_tf rfl) rfl (entl_bor (use_lo rfl) rfl rfl entl_nil))))
   (fun c7 h => ret_at hR _ h (fun n => n) rfl rfl rfl (rn_bool_tf rfl) rfl (entl_bor (use_lo rfl) rfl rfl entl_nil)))
   (fun c6 h => stop_at hS _ h (fun n => bif Nat.beq n 1 then 1 else bif Nat.beq n 2 then 2 else bif Nat.beq n 3 then 11 else bif Nat.beq n 4 then 10 else n) rfl rfl rfl ⟨(rn_ptr (use_own rfl) rfl rfl), ⟨(rn_ptr (use_own rfl) rfl rfl), ⟨(rn_ptr (use_own rfl) rfl rfl), ⟨(rn_loose (use_lo rfl) rfl rfl rfl), ⟨(rn_int rfl), ⟨(rn_int rfl), trivial⟩⟩⟩⟩⟩⟩ rfl (entl_b (use_own rfl) rfl (by simp) (rb_cells ⟨(rn_int rfl), (rn_loose (use_lo rfl) rfl rfl rfl), trivial⟩) (entl_b (use_own rfl) rfl (by simp) (rb_cells ⟨(rn_int rfl), (rn_int rfl), (rn_int rfl), trivial⟩) (entl_b (use_own rfl) rfl (by simp) (rb_cells ⟨(rn_int rfl), (rn_own (use_own rfl) rfl rfl), trivial⟩) (entl_new (use_own rfl) rfl (Nat.le_of_eq rfl) (rcs_int (fun _ _ => rfl) rcs_nil) (entl_bor (use_lo rfl) rfl rfl entl_nil)))))))
   (fun c5 h => bif_split h
   (fun c6 h => cond_yes c4 (cond_no c5 (ret_at hR _ h (fun n => n) rfl rfl rfl (rn_bool_tf rfl) rfl (entl_bor (use_lo rfl) rfl rfl entl_nil))))
   (fun c6 h => ret_at hR _ h (fun n => n) rfl rfl rfl (rn_bool_tf rfl) rfl (entl_bor (use_lo rfl) rfl rfl entl_nil))))
   (fun c4 h => no_some h))))
   (fun c2 h => no_some h))
   (fun c1 h => no_some h))
   (fun c0 h => cond_yes rfl (cond_yes rfl (ret_at hR _ h (fun n => n) rfl rfl rfl (rn_bool_tf rfl) rfl (entl_bor (use_lo rfl) rfl rfl entl_nil))))))
set_option maxRecDepth 100000 in
theorem b6_0 (hr : Int) (al nl ml : Nat) (tl : Nat → Int) (fa : Int) (nu : Int) (z : Int) (Kst : KS) (Kret : KR) (x : St6 ⊕ Rt6) (hS : HS 1 400 ((I6 hr al nl ml tl fa nu z)) Kst x) (hR : HR 1 400 ((V6 hr al nl ml tl fa nu z)) (fun r => [newL (1 + 1) ((N6 hr al nl ml tl fa nu z) r) ++ [(0, (false, .cols ml [.int .i64 tl]))]]) Kret x) (x0 : Int) (x1 : List Int) (h : (bif (decide (x0 < (↑nl : Int)))
 then (bif (decide ((0 : Int) ≤ x0 ∧ x0 < (↑nl : Int)))
 then (bif (decide (Int.toNat x0 + al < ml))
 then (bif (decide (0 + List.length x1 ≤ List.length x1 ∧ List.length x1 ≤ 1000000))
 then (bif (S.any (fun (j : Nat) => decide (S.at' x1 j = tl (Int.toNat x0 + al))) (List.length x1))
 then (bif (lim IntKind.i64 (x0 + (1 : Int)))
 then (some (.inl (.h0 (x0 + (1 : Int)) (x1))))
 else (none))
 else (some (.inr (false))))
 else (none))
 else (none))
 else (none))
 else (bif (lim IntKind.i64 ((↑nl : Int) + nu))
 then (bif ((↑(List.length x1) : Int) == (↑nl : Int) + nu)
 then (bif (decide (0 + List.length x1 ≤ List.length x1 ∧ List.length x1 ≤ 1000000))
 then (bif ((S.filE ((S.injS hr nl (fun (j : Nat) => tl (j + al)) fa nu z).1) (List.length x1) fun (j : Nat) =>
 S.at' x1 j) ==
 (0 : Int))
 then (some (.inr (true)))
 else (some (.inr (false))))
 else (none))
 else (some (.inr (false))))
 else (none)) : Option (St6 ⊕ Rt6)) = some x) : T6_0 cond Kst Kret hr al nl ml tl fa nu z x0 x1 := by
  unfold T6_0
  exact bif_split h
   (fun c0 h => bif_split h
   (fun c1 h => bif_split h
   (fun c2 h => bif_split h
   (fun c3 h => bif_split h
   (fun c4 h => bif_split h
   (fun c5 h => stop_at hS _ h (fun n => bif Nat.beq n 1 then 1 else bif Nat.beq n 2 then 2 else bif Nat.beq n 3 then 3 else bif Nat.beq n 4 then 4 else n) rfl rfl rfl ⟨(rn_ptr (use_own rfl) rfl rfl), ⟨(rn_ptr (use_own rfl) rfl rfl), ⟨(rn_ptr (use_own rfl) rfl rfl), ⟨(rn_loose (use_lo rfl) rfl rfl rfl), ⟨(rn_int rfl), ⟨(rn_int rfl), trivial⟩⟩⟩⟩⟩⟩ rfl (entl_b (use_own rfl) rfl (by simp) (rb_cells ⟨(rn_int rfl), (rn_loose (use_lo rfl) rfl rfl rfl), trivial⟩) (entl_b (use_own rfl) rfl (by simp) (rb_cells ⟨(rn_int rfl), (rn_int rfl), (rn_int rfl), trivial⟩) (entl_b (use_own rfl) rfl (by simp) (rb_cells ⟨(rn_int rfl), (rn_own (use_own rfl) rfl rfl), trivial⟩) (entl_new (use_own rfl) rfl (Nat.le_of_eq rfl) (rcs_int (fun _ _ => rfl) rcs_nil) (entl_bor (use_lo rfl) rfl rfl entl_nil))))))
   (fun c5 h => no_some h))
   (fun c4 h => ret_at hR _ h (fun n => n) rfl rfl rfl (rn_bool_tf rfl) rfl (entl_bor (use_lo rfl) rfl rfl entl_nil)))
   (fun c3 h => no_some h))
   (fun c2 h => no_some h))
   (fun c1 h => no_some h))
   (fun c0 h => bif_split h
   (fun c1 h => bif_split h
   (fun c2 h => bif_split h
   (fun c3 h => bif_split h
   (fun c4 h => ret_at hR _ h (fun n => n) rfl rfl rfl (rn_bool_tf rfl) rfl (entl_bor (use_lo rfl) rfl rfl entl_nil))
   (fun c4 h => ret_at hR _ h (fun n => n) rfl rfl rfl (rn_bool_tf rfl) rfl (entl_bor (use_lo rfl) rfl rfl entl_nil)))
   (fun c3 h => no_some h))
   (fun c2 h => ret_at hR _ h (fun n => n) rfl rfl rfl (rn_bool_tf rfl) rfl (entl_bor (use_lo rfl) rfl rfl entl_nil)))
   (fun c1 h => no_some h))
theorem a6 (hr : Int) (al nl ml : Nat) (tl : Nat → Int) (fa : Int) (nu : Int) (z : Int) {r : Rt6} (h : Goes ((q6 hr al nl ml tl fa nu z)) ((p6 hr al nl ml tl fa nu z)) r) : CallR Try.prog 6 [.agg [.int .i64 hr, .loose ⟨0, 1, al, 0⟩ nl], .agg [.int .i64 fa, .int .i64 nu, .int .i64 z]] [[(0, (false, .cols ml [.int .i64 tl]))]] 1 ((V6 hr al nl ml tl fa nu z) r) ((fun r => [newL (1 + 1) ((N6 hr al nl ml tl fa nu z) r) ++ [(0, (false, .cols ml [.int .i64 tl]))]]) r) 400 ∧ ∃ F, Try.prog.funcs[6]? = some F ∧ F.body.isSome = true ∧ (F.name == "runtime.NumGoroutine") = false := by
  refine dec_calls (f := 6) (lo := 1) (hi := 400) (H := [[(0, (false, .cols ml [.int .i64 tl]))]]) (args := [.agg [.int .i64 hr, .loose ⟨0, 1, al, 0⟩ nl], .agg [.int .i64 fa, .int .i64 nu, .int .i64 z]]) Try.envOk Try.mixed xV6_ok ((I6 hr al nl ml tl fa nu z)) ((V6 hr al nl ml tl fa nu z)) (fun r => [newL (1 + 1) ((N6 hr al nl ml tl fa nu z) r) ++ [(0, (false, .cols ml [.int .i64 tl]))]]) (fn := mkFn Try.f6) (ts := [2, 3, 5, 64, 65, 66]) (n := 400) rfl (by decide) (by simp) (names_of rfl) ?_ ?_ ?_ h
  · intro s; cases s <;> exact ⟨hd_ok _ _, by simp [I6], names_of rfl, Nat.le_of_ble_eq_true rfl⟩
  · intro Kst Kret x hS hR h
    exact Holds.eq (te6 cond Kst Kret hr al nl ml tl fa nu z) (be6 hr al nl ml tl fa nu z Kst Kret x hS hR h)
  · intro Kst Kret x hS hR s h
    cases s with
    | h0 x0 x1 => exact Holds.eq (t6_0 cond Kst Kret hr al nl ml tl fa nu z x0 x1) (b6_0 hr al nl ml tl fa nu z Kst Kret x hS hR x0 x1 h)
noncomputable def k6 : Con := ⟨6, [.agg [.plain (.int .i64), .list [.int .i64]], .agg [.plain (.int .i64), .plain (.int .i64), .plain (.int .i64)]], fun (x : (Int × (Nat × Nat × Nat × (Nat → Int) × Unit) × Unit) × (Int × Int × Int × Unit) × Unit) => (fun (hr : Int) (al nl ml : Nat) (tl : Nat → Int) (fa : Int) (nu : Int) (z : Int) => decide (al + nl ≤ ml)) x.1.1 x.1.2.1.1 x.1.2.1.2.1 x.1.2.1.2.2.1 x.1.2.1.2.2.2.1 x.2.1.1 x.2.1.2.1 x.2.1.2.2.1, fun (x : (Int × (Nat × Nat × Nat × (Nat → Int) × Unit) × Unit) × (Int × Int × Int × Unit) × Unit) => (fun (hr : Int) (al nl ml : Nat) (tl : Nat → Int) (fa : Int) (nu : Int) (z : Int) => (V6 hr al nl ml tl fa nu z) (true)) x.1.1 x.1.2.1.1 x.1.2.1.2.1 x.1.2.1.2.2.1 x.1.2.1.2.2.2.1 x.2.1.1 x.2.1.2.1 x.2.1.2.2.1, fun (x : (Int × (Nat × Nat × Nat × (Nat → Int) × Unit) × Unit) × (Int × Int × Int × Unit) × Unit) => (fun (hr : Int) (al nl ml : Nat) (tl : Nat → Int) (fa : Int) (nu : Int) (z : Int) => (N6 hr al nl ml tl fa nu z) (true)) x.1.1 x.1.2.1.1 x.1.2.1.2.1 x.1.2.1.2.2.1 x.1.2.1.2.2.2.1 x.2.1.1 x.2.1.2.1 x.2.1.2.2.1, fun _ _ => .dead⟩
theorem s6' (hr : Int) (al nl ml : Nat) (tl : Nat → Int) (fa : Int) (nu : Int) (z : Int) (hp : al + nl ≤ ml ∧ nl ≤ 2100) {L : List Int} (hL : L.length ≤ 2000) (hR : S.filE (S.injS hr nl (fun j => tl (j + al)) fa nu z).1 L.length (fun j => S.at' L j) = 0) (he : (L.length : Int) = nl + nu) (hnu : 1 ≤ nu ∧ nu ≤ 2000) (hall : ∀ i, i < nl → S.any (fun j => decide (S.at' L j = tl (i + al))) L.length = true) : ∀ k i : Nat, i + k = nl → Comes (q6 hr al nl ml tl fa nu z) (.h0 (i : Int) L) true := by
  obtain ⟨hp1, hp2⟩ := hp
  intro k
  induction k with
  | zero =>
    intro i hi
    apply Comes.of
    show Goes _ _ _
    (first | rw [q6] | unfold q6)
    repeat' first
      | with_reducible refine goes_if (fun h => ?_) (fun h => ?_) <;> (try simp only [lim64, decide_eq_true_eq, decide_eq_false_iff_not, Int.toNat_natCast, toNat_pred, toNat_succ, Option.getD_some, Option.getD_none, Bool.not_eq_true', Bool.not_eq_false', Bool.and_eq_true, Bool.or_eq_true, Bool.and_eq_false_iff, Bool.or_eq_false_iff, bne_iff_ne, beq_iff_eq, bne_eq_false_iff_eq, beq_eq_false_iff_ne, ne_eq, not_and, Int.not_le, Int.not_lt, ge_iff_le, gt_iff_lt, Nat.not_lt, Nat.not_le, Bool.not_eq_true, Bool.not_eq_false, Bool.true_eq_false, Bool.false_eq_true, not_false_eq_true, not_true_eq_false] at h)
      | exact goes_none.mpr (by omega)
    all_goals first | (exfalso; omega) | exact goes_inr.mpr rfl | exact absurd hR (by assumption)
  | succ k ih =>
    intro i hi
    have ha := hall i (by omega)
    apply Comes.of
    show Goes _ _ _
    (first | rw [q6] | unfold q6)
    repeat' first
      | with_reducible refine goes_if (fun h => ?_) (fun h => ?_) <;> (try simp only [lim64, decide_eq_true_eq, decide_eq_false_iff_not, Int.toNat_natCast, toNat_pred, toNat_succ, Option.getD_some, Option.getD_none, Bool.not_eq_true', Bool.not_eq_false', Bool.and_eq_true, Bool.or_eq_true, Bool.and_eq_false_iff, Bool.or_eq_false_iff, bne_iff_ne, beq_iff_eq, bne_eq_false_iff_eq, beq_eq_false_iff_ne, ne_eq, not_and, Int.not_le, Int.not_lt, ge_iff_le, gt_iff_lt, Nat.not_lt, Nat.not_le, Bool.not_eq_true, Bool.not_eq_false, Bool.true_eq_false, Bool.false_eq_true, not_false_eq_true, not_true_eq_false] at h)
      | exact goes_none.mpr (by omega)
    all_goals first
      | (exfalso; omega)
      | exact ih (i + 1) (by omega)
      | (exfalso; rw [ha] at *; simp_all; done)
      | (exfalso; simp_all; done)
theorem s6 (hr : Int) (al nl ml : Nat) (tl : Nat → Int) (fa : Int) (nu : Int) (z : Int) (hp : al + nl ≤ ml) : Goes ((q6 hr al nl ml tl fa nu z)) ((p6 hr al nl ml tl fa nu z)) (true) := by
  unfold p6
  by_cases hn : nl ≤ 2100
  · obtain ⟨h1, h2⟩ := inj_law (h := hr) (a := fa) (m := nu) (z := z) (n := nl) (t := (fun j => tl (j + al)))
    have hm : (S.injS hr nl (fun j => tl (j + al)) fa nu z).2.1 = 0 → _ := fun h0 => s6' hr al nl ml tl fa nu z ⟨hp, hn⟩ (L := (S.injS hr nl (fun j => tl (j + al)) fa nu z).2.2) h1 (by rcases h2 with h2 | h2; exact absurd h0 h2; exact h2.2.1) (by rcases h2 with h2 | h2; exact absurd h0 h2; exact h2.2.2.1) (by rcases h2 with h2 | h2; exact absurd h0 h2; exact h2.2.2.2.1) (by rcases h2 with h2 | h2; exact absurd h0 h2; exact h2.2.2.2.2) nl 0 (by omega)
    generalize (S.injS hr nl (fun j => tl (j + al)) fa nu z) = P at hm h1 h2 ⊢
    clear h2
    by_cases h0 : P.2.1 = 0
    · replace hm := hm h0
      have h6 : (P.2.1 != 0) = false := by rw [h0]; rfl
      repeat' first
        | with_reducible exact goes_inr.mpr rfl
        | exact hm
        | (refine goes_ok ?_ ?_; focus (first | with_reducible exact beq_self_eq_true _ | (simp only [Bool.and_eq_true, decide_eq_true_eq, and_self, eq_self]; done) | with_reducible exact decide_eq_true trivial | with_reducible exact decide_eq_true rfl | (simp only [eq_self, decide_true, Bool.and_self, Bool.and_true, Bool.true_and]; done) | (apply decide_eq_true; omega) | (rw [lim64]; apply decide_eq_true; omega) | (apply decide_eq_true; simp only [mkl_len, mkl_zero, List.length_nil, true_and, and_true, and_self, Nat.zero_add, Nat.add_zero, Nat.le_refl]; done) | (apply decide_eq_true; simp only [mkl_len, mkl_zero, List.length_nil, true_and, and_true, and_self, Nat.zero_add, Nat.add_zero, Nat.le_refl]; omega) | decide))
        | (refine goes_no ?_ ?_; focus (first | with_reducible exact bne_self_eq_false _ | (apply decide_eq_false; omega) | decide | exact h6))
    · clear hm
      repeat' first
        | with_reducible exact goes_inr.mpr rfl
        | (refine goes_if (fun h => ?_) (fun h => ?_))
      all_goals first | rfl | (exfalso; simp_all; done) | (exfalso; simp at h; omega)
  · have hd : decide ((nl : Int) ≤ 2100) = false := decide_eq_false (by omega)
    rw [hd]
    exact goes_inr.mpr rfl

theorem k6_ok : k6.ok Try.prog := by
  intro x hx
  obtain ⟨⟨hr, ⟨al, nl, ml, tl, _⟩, _⟩, ⟨fa, nu, z, _⟩, _⟩ := x
  obtain ⟨h1, h2⟩ := a6 hr al nl ml tl fa nu z (s6 hr al nl ml tl fa nu z (of_dec hx rfl))
  exact ⟨⟨400, (by decide : 1 + 1 + 0 ≤ 400), h1⟩, h2⟩

end Go.Ev
