/-
  Steps of descriptions, as they are made.
-/
import Derived.Test.YtedbjnojogjnkaaS0
namespace Go.Ev
open Go.Proofs
set_option linter.unusedVariables false
set_option linter.unusedSimpArgs false
inductive St37 where
  | h0 (x0 : Int) (x1 : Int) (x2 : List (Int × Int × Int × Bool))
abbrev Rt37 := List (Int × Int × Int × Bool)
noncomputable def V37 (al nl ml : Nat) (tl : Nat → Int) (vl : Nat → Int) (r : Rt37) : PV := PV.own (2) (4) (List.length r)
noncomputable def N37 (al nl ml : Nat) (tl : Nat → Int) (vl : Nat → Int) (r : Rt37) : List Blk := [Blk.cols (List.length r)
 [Col.int IntKind.i64 fun (j : Nat) => (S.at' r j).1,
 Col.int IntKind.i64 fun (j : Nat) => (S.at' r j).2.1,
 Col.int IntKind.i64 fun (j : Nat) => (S.at' r j).2.2.1,
 Col.bool fun (j : Nat) => (S.at' r j).2.2.2]]
noncomputable def I37 (al nl ml : Nat) (tl : Nat → Int) (vl : Nat → Int) : St37 → Hd
  | .h0 x0 x1 x2 => ⟨hd Try.f37 0, [PV.loose (PA.mk (0) (2) al (0)) nl,
 PV.own (1) (4) (List.length x2), PV.int IntKind.i64 x0, PV.int IntKind.i64 x1], [[(1, (true, Blk.cols (List.length x2)
 [Col.int IntKind.i64 fun (j : Nat) => (S.at' x2 j).1,
 Col.int IntKind.i64 fun (j : Nat) => (S.at' x2 j).2.1,
 Col.int IntKind.i64 fun (j : Nat) => (S.at' x2 j).2.2.1,
 Col.bool fun (j : Nat) => (S.at' x2 j).2.2.2]))], [(0, (false, .cols ml [.int .u8 tl, .int .u8 vl]))]], 2⟩
noncomputable def q37 (al nl ml : Nat) (tl : Nat → Int) (vl : Nat → Int) : St37 → Option (St37 ⊕ Rt37)
  | .h0 x0 x1 x2 => bif (decide (x1 < (↑nl : Int)))
 then (bif (decide ((0 : Int) ≤ x1 ∧ x1 < (↑nl : Int)))
 then (bif (decide (Int.toNat x1 + al < ml))
 then (bif (Int.tmod (tl (Int.toNat x1 + al)) (16 : Int) == (14 : Int))
 then (bif (Int.tmod (tl (Int.toNat x1 + al)) (16 : Int) == (15 : Int))
 then (bif (lim IntKind.u8 (Int.tdiv (tl (Int.toNat x1 + al)) (16 : Int)))
 then (bif (lim IntKind.i64 (Int.tdiv (tl (Int.toNat x1 + al)) (16 : Int)))
 then (bif (lim IntKind.i64 (x0 + Int.tdiv (tl (Int.toNat x1 + al)) (16 : Int)))
 then (bif (lim IntKind.i64 (Int.tmod (vl (Int.toNat x1 + al)) (32 : Int)))
 then (bif (lim IntKind.i64 (Int.tmod (vl (Int.toNat x1 + al)) (32 : Int) - (16 : Int)))
 then (bif (decide (vl (Int.toNat x1 + al) ≥ (32 : Int)))
 then (bif (decide (List.length x2 + 1 ≤ 1000000))
 then (bif (decide (List.length x2 ≤ List.length x2))
 then (bif (lim IntKind.i64 (x1 + (1 : Int)))
 then (some (.inl (.h0 (x0 + Int.tdiv (tl (Int.toNat x1 + al)) (16 : Int)) (x1 + (1 : Int)) (S.snoc x2
 ((3 : Int), x0 + Int.tdiv (tl (Int.toNat x1 + al)) (16 : Int),
 Int.tmod (vl (Int.toNat x1 + al)) (32 : Int) - (16 : Int), true)))))
 else (none))
 else (none))
 else (none))
 else (bif (decide (List.length x2 + 1 ≤ 1000000))
 then (bif (decide (List.length x2 ≤ List.length x2))
 then (bif (lim IntKind.i64 (x1 + (1 : Int)))
 then (some (.inl (.h0 (x0 + Int.tdiv (tl (Int.toNat x1 + al)) (16 : Int)) (x1 + (1 : Int)) (S.snoc x2
 ((3 : Int), x0 + Int.tdiv (tl (Int.toNat x1 + al)) (16 : Int),
 Int.tmod (vl (Int.toNat x1 + al)) (32 : Int) - (16 : Int), false)))))
 else (none))
 else (none))
 else (none)))
 else (none))
 else (none))
 else (none))
 else (none))
 else (none))
 else (bif (lim IntKind.u8 (Int.tdiv (tl (Int.toNat x1 + al)) (16 : Int)))
 then (bif (lim IntKind.i64 (Int.tdiv (tl (Int.toNat x1 + al)) (16 : Int)))
 then (bif (lim IntKind.i64 (x0 + Int.tdiv (tl (Int.toNat x1 + al)) (16 : Int)))
 then (bif (lim IntKind.i64 (Int.tmod (vl (Int.toNat x1 + al)) (32 : Int)))
 then (bif (lim IntKind.i64 (Int.tmod (vl (Int.toNat x1 + al)) (32 : Int) - (16 : Int)))
 then (bif (decide (vl (Int.toNat x1 + al) ≥ (32 : Int)))
 then (bif (decide (List.length x2 + 1 ≤ 1000000))
 then (bif (decide (List.length x2 ≤ List.length x2))
 then (bif (lim IntKind.i64 (x1 + (1 : Int)))
 then (some (.inl (.h0 (x0 + Int.tdiv (tl (Int.toNat x1 + al)) (16 : Int)) (x1 + (1 : Int)) (S.snoc x2
 ((2 : Int), x0 + Int.tdiv (tl (Int.toNat x1 + al)) (16 : Int),
 Int.tmod (vl (Int.toNat x1 + al)) (32 : Int) - (16 : Int), true)))))
 else (none))
 else (none))
 else (none))
 else (bif (decide (List.length x2 + 1 ≤ 1000000))
 then (bif (decide (List.length x2 ≤ List.length x2))
 then (bif (lim IntKind.i64 (x1 + (1 : Int)))
 then (some (.inl (.h0 (x0 + Int.tdiv (tl (Int.toNat x1 + al)) (16 : Int)) (x1 + (1 : Int)) (S.snoc x2
 ((2 : Int), x0 + Int.tdiv (tl (Int.toNat x1 + al)) (16 : Int),
 Int.tmod (vl (Int.toNat x1 + al)) (32 : Int) - (16 : Int), false)))))
 else (none))
 else (none))
 else (none)))
 else (none))
 else (none))
 else (none))
 else (none))
 else (none)))
 else (bif (Int.tmod (tl (Int.toNat x1 + al)) (16 : Int) == (15 : Int))
 then (bif (lim IntKind.u8 (Int.tdiv (tl (Int.toNat x1 + al)) (16 : Int)))
 then (bif (lim IntKind.i64 (Int.tdiv (tl (Int.toNat x1 + al)) (16 : Int)))
 then (bif (lim IntKind.i64 (x0 + Int.tdiv (tl (Int.toNat x1 + al)) (16 : Int)))
 then (bif (lim IntKind.i64 (Int.tmod (vl (Int.toNat x1 + al)) (32 : Int)))
 then (bif (lim IntKind.i64 (Int.tmod (vl (Int.toNat x1 + al)) (32 : Int) - (16 : Int)))
 then (bif (decide (vl (Int.toNat x1 + al) ≥ (32 : Int)))
 then (bif (decide (List.length x2 + 1 ≤ 1000000))
 then (bif (decide (List.length x2 ≤ List.length x2))
 then (bif (lim IntKind.i64 (x1 + (1 : Int)))
 then (some (.inl (.h0 (x0 + Int.tdiv (tl (Int.toNat x1 + al)) (16 : Int)) (x1 + (1 : Int)) (S.snoc x2
 ((3 : Int), x0 + Int.tdiv (tl (Int.toNat x1 + al)) (16 : Int),
 Int.tmod (vl (Int.toNat x1 + al)) (32 : Int) - (16 : Int), true)))))
 else (none))
 else (none))
 else (none))
 else (bif (decide (List.length x2 + 1 ≤ 1000000))
 then (bif (decide (List.length x2 ≤ List.length x2))
 then (bif (lim IntKind.i64 (x1 + (1 : Int)))
 then (some (.inl (.h0 (x0 + Int.tdiv (tl (Int.toNat x1 + al)) (16 : Int)) (x1 + (1 : Int)) (S.snoc x2
 ((3 : Int), x0 + Int.tdiv (tl (Int.toNat x1 + al)) (16 : Int),
 Int.tmod (vl (Int.toNat x1 + al)) (32 : Int) - (16 : Int), false)))))
 else (none))
 else (none))
 else (none)))
 else (none))
 else (none))
 else (none))
 else (none))
 else (none))
 else (bif (lim IntKind.u8 (Int.tdiv (tl (Int.toNat x1 + al)) (16 : Int)))
 then (bif (lim IntKind.i64 (Int.tdiv (tl (Int.toNat x1 + al)) (16 : Int)))
 then (bif (lim IntKind.i64 (x0 + Int.tdiv (tl (Int.toNat x1 + al)) (16 : Int)))
 then (bif (lim IntKind.i64 (Int.tmod (vl (Int.toNat x1 + al)) (32 : Int)))
 then (bif (lim IntKind.i64 (Int.tmod (vl (Int.toNat x1 + al)) (32 : Int) - (16 : Int)))
 then (bif (decide (vl (Int.toNat x1 + al) ≥ (32 : Int)))
 then (bif (decide (List.length x2 + 1 ≤ 1000000))
 then (bif (decide (List.length x2 ≤ List.length x2))
 then (bif (lim IntKind.i64 (x1 + (1 : Int)))
 then (some (.inl (.h0 (x0 + Int.tdiv (tl (Int.toNat x1 + al)) (16 : Int)) (x1 + (1 : Int)) (S.snoc x2
 ((1 : Int), x0 + Int.tdiv (tl (Int.toNat x1 + al)) (16 : Int),
 Int.tmod (vl (Int.toNat x1 + al)) (32 : Int) - (16 : Int), true)))))
 else (none))
 else (none))
 else (none))
 else (bif (decide (List.length x2 + 1 ≤ 1000000))
 then (bif (decide (List.length x2 ≤ List.length x2))
 then (bif (lim IntKind.i64 (x1 + (1 : Int)))
 then (some (.inl (.h0 (x0 + Int.tdiv (tl (Int.toNat x1 + al)) (16 : Int)) (x1 + (1 : Int)) (S.snoc x2
 ((1 : Int), x0 + Int.tdiv (tl (Int.toNat x1 + al)) (16 : Int),
 Int.tmod (vl (Int.toNat x1 + al)) (32 : Int) - (16 : Int), false)))))
 else (none))
 else (none))
 else (none)))
 else (none))
 else (none))
 else (none))
 else (none))
 else (none))))
 else (none))
 else (none))
 else (some (.inr (x2)))
noncomputable def p37 (al nl ml : Nat) (tl : Nat → Int) (vl : Nat → Int) : Option (St37 ⊕ Rt37) := some (.inl (.h0 ((0 : Int)) ((0 : Int)) ([])))
noncomputable def Te37 (test : Bool → Prop → Prop → Prop) (Kst : KS) (Kret : KR) (al nl ml : Nat) (tl : Nat → Int) (vl : Nat → Int) : Prop :=
  Kst (hd Try.f37 0) ([PV.loose (PA.mk (0) (2) al (0)) nl, PV.nils,
 PV.int IntKind.i64 (0 : Int), PV.int IntKind.i64 (0 : Int)]) ([[(0, false, Blk.cols ml [Col.int IntKind.u8 tl, Col.int IntKind.u8 vl])]]) (1)
set_option maxRecDepth 100000 in
theorem te37 (test : Bool → Prop → Prop → Prop) (Kst : KS) (Kret : KR) (al nl ml : Nat) (tl : Nat → Int) (vl : Nat → Int) : run test Try.env true (xH test) true 400 ⟨37, [.cd (mkFn Try.f37).body], argT 0 [.loose ⟨0, 2, al, 0⟩ nl], [[], [(0, (false, .cols ml [.int .u8 tl, .int .u8 vl]))]], 1⟩ (proj 1 [0, 3, 4, 5] Kst Kret) =
  Te37 test Kst Kret al nl ml tl vl := by kernel_rfl
noncomputable def T37_0 (test : Bool → Prop → Prop → Prop) (Kst : KS) (Kret : KR) (al nl ml : Nat) (tl : Nat → Int) (vl : Nat → Int) (x0 : Int) (x1 : Int) (x2 : List (Int × Int × Int × Bool)) : Prop :=
  test (decide (x1 < (↑nl : Int)))
 (test (decide ((0 : Int) ≤ x1 ∧ x1 < (↑nl : Int)))
 (test (true)
 (test (decide (Int.toNat x1 + al < ml))
 (test (false)
 (False)
 (test (Int.tmod (tl (Int.toNat x1 + al)) (16 : Int) == (14 : Int))
 (test (decide ((0 : Int) ≤ x1 ∧ x1 < (↑nl : Int)))
 (test (true)
 (test (decide (Int.toNat x1 + al < ml))
 (test (false)
 (False)
 (test (Int.tmod (tl (Int.toNat x1 + al)) (16 : Int) == (15 : Int))
 (test (decide ((0 : Int) ≤ x1 ∧ x1 < (↑nl : Int)))
 (test (true)
 (test (decide (Int.toNat x1 + al < ml))
 (test (false)
 (False)
 (test (lim IntKind.u8 (Int.tdiv (tl (Int.toNat x1 + al)) (16 : Int)))
 (test (lim IntKind.i64 (Int.tdiv (tl (Int.toNat x1 + al)) (16 : Int)))
 (test (lim IntKind.i64 (x0 + Int.tdiv (tl (Int.toNat x1 + al)) (16 : Int)))
 (test (decide ((0 : Int) ≤ x1 ∧ x1 < (↑nl : Int)))
 (test (true)
 (test (decide (Int.toNat x1 + al < ml))
 (test (false)
 (False)
 (test (lim IntKind.i64 (Int.tmod (vl (Int.toNat x1 + al)) (32 : Int)))
 (test (lim IntKind.i64 (Int.tmod (vl (Int.toNat x1 + al)) (32 : Int) - (16 : Int)))
 (test (decide ((0 : Int) ≤ x1 ∧ x1 < (↑nl : Int)))
 (test (true)
 (test (decide (Int.toNat x1 + al < ml))
 (test (decide (vl (Int.toNat x1 + al) ≥ (32 : Int)))
 (test (decide (List.length x2 + 1 ≤ 1000000))
 (test (decide (List.length x2 ≤ List.length x2))
 (test (true)
 (test (lim IntKind.i64 (x1 + (1 : Int)))
 (Kst (hd Try.f37 0) ([PV.loose (PA.mk (0) (2) al (0)) nl,
 PV.own (4) (4) (List.length x2 + 1),
 PV.int IntKind.i64 (x0 + Int.tdiv (tl (Int.toNat x1 + al)) (16 : Int)),
 PV.int IntKind.i64 (x1 + (1 : Int))]) ([[(0, false, Blk.cols ml [Col.int IntKind.u8 tl, Col.int IntKind.u8 vl]),
 (4, true,
 Blk.cols (List.length x2 + 1)
 [Col.int IntKind.i64 fun (j : Nat) =>
 bif Nat.blt j (List.length x2) then (S.at' x2 j).1 else (3 : Int),
 Col.int IntKind.i64 fun (j : Nat) =>
 bif Nat.blt j (List.length x2) then (S.at' x2 j).2.1
 else x0 + Int.tdiv (tl (Int.toNat x1 + al)) (16 : Int),
 Col.int IntKind.i64 fun (j : Nat) =>
 bif Nat.blt j (List.length x2) then (S.at' x2 j).2.2.1
 else Int.tmod (vl (Int.toNat x1 + al)) (32 : Int) - (16 : Int),
 Col.bool fun (j : Nat) =>
 bif Nat.blt j (List.length x2) then (S.at' x2 j).2.2.2 else true])]]) (5))
 (False))
 (False))
 (False))
 (False))
 (test (decide (List.length x2 + 1 ≤ 1000000))
 (test (decide (List.length x2 ≤ List.length x2))
 (test (true)
 (test (lim IntKind.i64 (x1 + (1 : Int)))
 (Kst (hd Try.f37 0) ([PV.loose (PA.mk (0) (2) al (0)) nl,
 PV.own (4) (4) (List.length x2 + 1),
 PV.int IntKind.i64 (x0 + Int.tdiv (tl (Int.toNat x1 + al)) (16 : Int)),
 PV.int IntKind.i64 (x1 + (1 : Int))]) ([[(0, false, Blk.cols ml [Col.int IntKind.u8 tl, Col.int IntKind.u8 vl]),
 (4, true,
 Blk.cols (List.length x2 + 1)
 [Col.int IntKind.i64 fun (j : Nat) =>
 bif Nat.blt j (List.length x2) then (S.at' x2 j).1 else (3 : Int),
 Col.int IntKind.i64 fun (j : Nat) =>
 bif Nat.blt j (List.length x2) then (S.at' x2 j).2.1
 else x0 + Int.tdiv (tl (Int.toNat x1 + al)) (16 : Int),
 Col.int IntKind.i64 fun (j : Nat) =>
 bif Nat.blt j (List.length x2) then (S.at' x2 j).2.2.1
 else Int.tmod (vl (Int.toNat x1 + al)) (32 : Int) - (16 : Int),
 Col.bool fun (j : Nat) =>
 bif Nat.blt j (List.length x2) then (S.at' x2 j).2.2.2 else false])]]) (5))
 (False))
 (False))
 (False))
 (False)))
 (False))
 (False))
 (False))
 (False))
 (False)))
 (False))
 (False))
 (False))
 (False))
 (False))
 (False)))
 (False))
 (False))
 (False))
 (test (decide ((0 : Int) ≤ x1 ∧ x1 < (↑nl : Int)))
 (test (true)
 (test (decide (Int.toNat x1 + al < ml))
 (test (false)
 (False)
 (test (lim IntKind.u8 (Int.tdiv (tl (Int.toNat x1 + al)) (16 : Int)))
 (test (lim IntKind.i64 (Int.tdiv (tl (Int.toNat x1 + al)) (16 : Int)))
 (test (lim IntKind.i64 (x0 + Int.tdiv (tl (Int.toNat x1 + al)) (16 : Int)))
 (test (decide ((0 : Int) ≤ x1 ∧ x1 < (↑nl : Int)))
 (test (true)
 (test (decide (Int.toNat x1 + al < ml))
 (test (false)
 (False)
 (test (lim IntKind.i64 (Int.tmod (vl (Int.toNat x1 + al)) (32 : Int)))
 (test (lim IntKind.i64 (Int.tmod (vl (Int.toNat x1 + al)) (32 : Int) - (16 : Int)))
 (test (decide ((0 : Int) ≤ x1 ∧ x1 < (↑nl : Int)))
 (test (true)
 (test (decide (Int.toNat x1 + al < ml))
 (test (decide (vl (Int.toNat x1 + al) ≥ (32 : Int)))
 (test (decide (List.length x2 + 1 ≤ 1000000))
 (test (decide (List.length x2 ≤ List.length x2))
 (test (true)
 (test (lim IntKind.i64 (x1 + (1 : Int)))
 (Kst (hd Try.f37 0) ([PV.loose (PA.mk (0) (2) al (0)) nl,
 PV.own (4) (4) (List.length x2 + 1),
 PV.int IntKind.i64 (x0 + Int.tdiv (tl (Int.toNat x1 + al)) (16 : Int)),
 PV.int IntKind.i64 (x1 + (1 : Int))]) ([[(0, false, Blk.cols ml [Col.int IntKind.u8 tl, Col.int IntKind.u8 vl]),
 (4, true,
 Blk.cols (List.length x2 + 1)
 [Col.int IntKind.i64 fun (j : Nat) =>
 bif Nat.blt j (List.length x2) then (S.at' x2 j).1 else (2 : Int),
 Col.int IntKind.i64 fun (j : Nat) =>
 bif Nat.blt j (List.length x2) then (S.at' x2 j).2.1
 else x0 + Int.tdiv (tl (Int.toNat x1 + al)) (16 : Int),
 Col.int IntKind.i64 fun (j : Nat) =>
 bif Nat.blt j (List.length x2) then (S.at' x2 j).2.2.1
 else Int.tmod (vl (Int.toNat x1 + al)) (32 : Int) - (16 : Int),
 Col.bool fun (j : Nat) =>
 bif Nat.blt j (List.length x2) then (S.at' x2 j).2.2.2 else true])]]) (5))
 (False))
 (False))
 (False))
 (False))
 (test (decide (List.length x2 + 1 ≤ 1000000))
 (test (decide (List.length x2 ≤ List.length x2))
 (test (true)
 (test (lim IntKind.i64 (x1 + (1 : Int)))
 (Kst (hd Try.f37 0) ([PV.loose (PA.mk (0) (2) al (0)) nl,
 PV.own (4) (4) (List.length x2 + 1),
 PV.int IntKind.i64 (x0 + Int.tdiv (tl (Int.toNat x1 + al)) (16 : Int)),
 PV.int IntKind.i64 (x1 + (1 : Int))]) ([[(0, false, Blk.cols ml [Col.int IntKind.u8 tl, Col.int IntKind.u8 vl]),
 (4, true,
 Blk.cols (List.length x2 + 1)
 [Col.int IntKind.i64 fun (j : Nat) =>
 bif Nat.blt j (List.length x2) then (S.at' x2 j).1 else (2 : Int),
 Col.int IntKind.i64 fun (j : Nat) =>
 bif Nat.blt j (List.length x2) then (S.at' x2 j).2.1
 else x0 + Int.tdiv (tl (Int.toNat x1 + al)) (16 : Int),
 Col.int IntKind.i64 fun (j : Nat) =>
 bif Nat.blt j (List.length x2) then (S.at' x2 j).2.2.1
 else Int.tmod (vl (Int.toNat x1 + al)) (32 : Int) - (16 : Int),
 Col.bool fun (j : Nat) =>
 bif Nat.blt j (List.length x2) then (S.at' x2 j).2.2.2 else false])]]) (5))
 (False))
 (False))
 (False))
 (False)))
 (False))
 (False))
 (False))
 (False))
 (False)))
 (False))
 (False))
 (False))
 (False))
 (False))
 (False)))
 (False))
 (False))
 (False))))
 (False))
 (False))
 (False))
 (test (decide ((0 : Int) ≤ x1 ∧ x1 < (↑nl : Int)))
 (test (true)
 (test (decide (Int.toNat x1 + al < ml))
 (test (false)
 (False)
 (test (Int.tmod (tl (Int.toNat x1 + al)) (16 : Int) == (15 : Int))
 (test (decide ((0 : Int) ≤ x1 ∧ x1 < (↑nl : Int)))
 (test (true)
 (test (decide (Int.toNat x1 + al < ml))
 (test (false)
 (False)
 (test (lim IntKind.u8 (Int.tdiv (tl (Int.toNat x1 + al)) (16 : Int)))
 (test (lim IntKind.i64 (Int.tdiv (tl (Int.toNat x1 + al)) (16 : Int)))
 (test (lim IntKind.i64 (x0 + Int.tdiv (tl (Int.toNat x1 + al)) (16 : Int)))
 (test (decide ((0 : Int) ≤ x1 ∧ x1 < (↑nl : Int)))
 (test (true)
 (test (decide (Int.toNat x1 + al < ml))
 (test (false)
 (False)
 (test (lim IntKind.i64 (Int.tmod (vl (Int.toNat x1 + al)) (32 : Int)))
 (test (lim IntKind.i64 (Int.tmod (vl (Int.toNat x1 + al)) (32 : Int) - (16 : Int)))
 (test (decide ((0 : Int) ≤ x1 ∧ x1 < (↑nl : Int)))
 (test (true)
 (test (decide (Int.toNat x1 + al < ml))
 (test (decide (vl (Int.toNat x1 + al) ≥ (32 : Int)))
 (test (decide (List.length x2 + 1 ≤ 1000000))
 (test (decide (List.length x2 ≤ List.length x2))
 (test (true)
 (test (lim IntKind.i64 (x1 + (1 : Int)))
 (Kst (hd Try.f37 0) ([PV.loose (PA.mk (0) (2) al (0)) nl,
 PV.own (4) (4) (List.length x2 + 1),
 PV.int IntKind.i64 (x0 + Int.tdiv (tl (Int.toNat x1 + al)) (16 : Int)),
 PV.int IntKind.i64 (x1 + (1 : Int))]) ([[(0, false, Blk.cols ml [Col.int IntKind.u8 tl, Col.int IntKind.u8 vl]),
 (4, true,
 Blk.cols (List.length x2 + 1)
 [Col.int IntKind.i64 fun (j : Nat) =>
 bif Nat.blt j (List.length x2) then (S.at' x2 j).1 else (3 : Int),
 Col.int IntKind.i64 fun (j : Nat) =>
 bif Nat.blt j (List.length x2) then (S.at' x2 j).2.1
 else x0 + Int.tdiv (tl (Int.toNat x1 + al)) (16 : Int),
 Col.int IntKind.i64 fun (j : Nat) =>
 bif Nat.blt j (List.length x2) then (S.at' x2 j).2.2.1
 else Int.tmod (vl (Int.toNat x1 + al)) (32 : Int) - (16 : Int),
 Col.bool fun (j : Nat) =>
 bif Nat.blt j (List.length x2) then (S.at' x2 j).2.2.2 else true])]]) (5))
 (False))
 (False))
 (False))
 (False))
 (test (decide (List.length x2 + 1 ≤ 1000000))
 (test (decide (List.length x2 ≤ List.length x2))
 (test (true)
 (test (lim IntKind.i64 (x1 + (1 : Int)))
 (Kst (hd Try.f37 0) ([PV.loose (PA.mk (0) (2) al (0)) nl,
 PV.own (4) (4) (List.length x2 + 1),
 PV.int IntKind.i64 (x0 + Int.tdiv (tl (Int.toNat x1 + al)) (16 : Int)),
 PV.int IntKind.i64 (x1 + (1 : Int))]) ([[(0, false, Blk.cols ml [Col.int IntKind.u8 tl, Col.int IntKind.u8 vl]),
 (4, true,
 Blk.cols (List.length x2 + 1)
 [Col.int IntKind.i64 fun (j : Nat) =>
 bif Nat.blt j (List.length x2) then (S.at' x2 j).1 else (3 : Int),
 Col.int IntKind.i64 fun (j : Nat) =>
 bif Nat.blt j (List.length x2) then (S.at' x2 j).2.1
 else x0 + Int.tdiv (tl (Int.toNat x1 + al)) (16 : Int),
 Col.int IntKind.i64 fun (j : Nat) =>
 bif Nat.blt j (List.length x2) then (S.at' x2 j).2.2.1
 else Int.tmod (vl (Int.toNat x1 + al)) (32 : Int) - (16 : Int),
 Col.bool fun (j : Nat) =>
 bif Nat.blt j (List.length x2) then (S.at' x2 j).2.2.2 else false])]]) (5))
 (False))
 (False))
 (False))
 (False)))
 (False))
 (False))
 (False))
 (False))
 (False)))
 (False))
 (False))
 (False))
 (False))
 (False))
 (False)))
 (False))
 (False))
 (False))
 (test (decide ((0 : Int) ≤ x1 ∧ x1 < (↑nl : Int)))
 (test (true)
 (test (decide (Int.toNat x1 + al < ml))
 (test (false)
 (False)
 (test (lim IntKind.u8 (Int.tdiv (tl (Int.toNat x1 + al)) (16 : Int)))
 (test (lim IntKind.i64 (Int.tdiv (tl (Int.toNat x1 + al)) (16 : Int)))
 (test (lim IntKind.i64 (x0 + Int.tdiv (tl (Int.toNat x1 + al)) (16 : Int)))
 (test (decide ((0 : Int) ≤ x1 ∧ x1 < (↑nl : Int)))
 (test (true)
 (test (decide (Int.toNat x1 + al < ml))
 (test (false)
 (False)
 (test (lim IntKind.i64 (Int.tmod (vl (Int.toNat x1 + al)) (32 : Int)))
 (test (lim IntKind.i64 (Int.tmod (vl (Int.toNat x1 + al)) (32 : Int) - (16 : Int)))
 (test (decide ((0 : Int) ≤ x1 ∧ x1 < (↑nl : Int)))
 (test (true)
 (test (decide (Int.toNat x1 + al < ml))
 (test (decide (vl (Int.toNat x1 + al) ≥ (32 : Int)))
 (test (decide (List.length x2 + 1 ≤ 1000000))
 (test (decide (List.length x2 ≤ List.length x2))
 (test (true)
 (test (lim IntKind.i64 (x1 + (1 : Int)))
 (Kst (hd Try.f37 0) ([PV.loose (PA.mk (0) (2) al (0)) nl,
 PV.own (4) (4) (List.length x2 + 1),
 PV.int IntKind.i64 (x0 + Int.tdiv (tl (Int.toNat x1 + al)) (16 : Int)),
 PV.int IntKind.i64 (x1 + (1 : Int))]) ([[(0, false, Blk.cols ml [Col.int IntKind.u8 tl, Col.int IntKind.u8 vl]),
 (4, true,
 Blk.cols (List.length x2 + 1)
 [Col.int IntKind.i64 fun (j : Nat) =>
 bif Nat.blt j (List.length x2) then (S.at' x2 j).1 else (1 : Int),
 Col.int IntKind.i64 fun (j : Nat) =>
 bif Nat.blt j (List.length x2) then (S.at' x2 j).2.1
 else x0 + Int.tdiv (tl (Int.toNat x1 + al)) (16 : Int),
 Col.int IntKind.i64 fun (j : Nat) =>
 bif Nat.blt j (List.length x2) then (S.at' x2 j).2.2.1
 else Int.tmod (vl (Int.toNat x1 + al)) (32 : Int) - (16 : Int),
 Col.bool fun (j : Nat) =>
 bif Nat.blt j (List.length x2) then (S.at' x2 j).2.2.2 else true])]]) (5))
 (False))
 (False))
 (False))
 (False))
 (test (decide (List.length x2 + 1 ≤ 1000000))
 (test (decide (List.length x2 ≤ List.length x2))
 (test (true)
 (test (lim IntKind.i64 (x1 + (1 : Int)))
 (Kst (hd Try.f37 0) ([PV.loose (PA.mk (0) (2) al (0)) nl,
 PV.own (4) (4) (List.length x2 + 1),
 PV.int IntKind.i64 (x0 + Int.tdiv (tl (Int.toNat x1 + al)) (16 : Int)),
 PV.int IntKind.i64 (x1 + (1 : Int))]) ([[(0, false, Blk.cols ml [Col.int IntKind.u8 tl, Col.int IntKind.u8 vl]),
 (4, true,
 Blk.cols (List.length x2 + 1)
 [Col.int IntKind.i64 fun (j : Nat) =>
 bif Nat.blt j (List.length x2) then (S.at' x2 j).1 else (1 : Int),
 Col.int IntKind.i64 fun (j : Nat) =>
 bif Nat.blt j (List.length x2) then (S.at' x2 j).2.1
 else x0 + Int.tdiv (tl (Int.toNat x1 + al)) (16 : Int),
 Col.int IntKind.i64 fun (j : Nat) =>
 bif Nat.blt j (List.length x2) then (S.at' x2 j).2.2.1
 else Int.tmod (vl (Int.toNat x1 + al)) (32 : Int) - (16 : Int),
 Col.bool fun (j : Nat) =>
 bif Nat.blt j (List.length x2) then (S.at' x2 j).2.2.2 else false])]]) (5))
 (False))
 (False))
 (False))
 (False)))
 (False))
 (False))
 (False))
 (False))
 (False)))
 (False))
 (False))
 (False))
 (False))
 (False))
 (False)))
 (False))
 (False))
 (False))))
 (False))
 (False))
 (False))))
 (False))
 (False))
 (False))
 (Kret (PV.own (1) (4) (List.length x2)) ([[(0, false, Blk.cols ml [Col.int IntKind.u8 tl, Col.int IntKind.u8 vl]),
 (1, true,
 Blk.cols (List.length x2)
 [Col.int IntKind.i64 fun (j : Nat) => (S.at' x2 j).1,
 Col.int IntKind.i64 fun (j : Nat) => (S.at' x2 j).2.1,
 Col.int IntKind.i64 fun (j : Nat) => (S.at' x2 j).2.2.1,
 Col.bool fun (j : Nat) => (S.at' x2 j).2.2.2])]]) (2))
set_option maxRecDepth 100000 in
theorem t37_0 (test : Bool → Prop → Prop → Prop) (Kst : KS) (Kret : KR) (al nl ml : Nat) (tl : Nat → Int) (vl : Nat → Int) (x0 : Int) (x1 : Int) (x2 : List (Int × Int × Int × Bool)) : run test Try.env true (xH test) true 400 ⟨37, hd Try.f37 0, zipT [0, 3, 4, 5] [PV.loose (PA.mk (0) (2) al (0)) nl,
 PV.own (1) (4) (List.length x2), PV.int IntKind.i64 x0, PV.int IntKind.i64 x1], [[(1, (true, Blk.cols (List.length x2)
 [Col.int IntKind.i64 fun (j : Nat) => (S.at' x2 j).1,
 Col.int IntKind.i64 fun (j : Nat) => (S.at' x2 j).2.1,
 Col.int IntKind.i64 fun (j : Nat) => (S.at' x2 j).2.2.1,
 Col.bool fun (j : Nat) => (S.at' x2 j).2.2.2]))], [(0, (false, .cols ml [.int .u8 tl, .int .u8 vl]))]], 2⟩ (proj 1 [0, 3, 4, 5] Kst Kret) =
  T37_0 test Kst Kret al nl ml tl vl x0 x1 x2 := by kernel_rfl
set_option maxRecDepth 100000 in
theorem be37 (al nl ml : Nat) (tl : Nat → Int) (vl : Nat → Int) (Kst : KS) (Kret : KR) (x : St37 ⊕ Rt37) (hS : HS 1 400 ((I37 al nl ml tl vl)) Kst x) (hR : HR 1 400 ((V37 al nl ml tl vl)) (fun r => [newL (1 + 1) ((N37 al nl ml tl vl) r) ++ [(0, (false, .cols ml [.int .u8 tl, .int .u8 vl]))]]) Kret x) (h : (some (.inl (.h0 ((0 : Int)) ((0 : Int)) ([]))) : Option (St37 ⊕ Rt37)) = some x) : Te37 cond Kst Kret al nl ml tl vl := by
  unfold Te37
  exact stop_at hS _ h (fun n => bif Nat.beq n 1 then 399 else n) rfl rfl rfl ⟨(rn_loose (use_lo rfl) rfl rfl rfl), ⟨(rn_own_nils rfl), ⟨(rn_int rfl), ⟨(rn_int rfl), trivial⟩⟩⟩⟩ rfl (entl_fresh (use_own rfl) (fresh_ok rfl) (entl_bor (use_lo rfl) rfl rfl entl_nil))
set_option maxRecDepth 100000 in
theorem b37_0 (al nl ml : Nat) (tl : Nat → Int) (vl : Nat → Int) (Kst : KS) (Kret : KR) (x : St37 ⊕ Rt37) (hS : HS 1 400 ((I37 al nl ml tl vl)) Kst x) (hR : HR 1 400 ((V37 al nl ml tl vl)) (fun r => [newL (1 + 1) ((N37 al nl ml tl vl) r) ++ [(0, (false, .cols ml [.int .u8 tl, .int .u8 vl]))]]) Kret x) (x0 : Int) (x1 : Int) (x2 : List (Int × Int × Int × Bool)) (h : (bif (decide (x1 < (↑nl : Int)))
 then (bif (decide ((0 : Int) ≤ x1 ∧ x1 < (↑nl : Int)))
 then (bif (decide (Int.toNat x1 + al < ml))
 then (bif (Int.tmod (tl (Int.toNat x1 + al)) (16 : Int) == (14 : Int))
 then (bif (Int.tmod (tl (Int.toNat x1 + al)) (16 : Int) == (15 : Int))
 then (bif (lim IntKind.u8 (Int.tdiv (tl (Int.toNat x1 + al)) (16 : Int)))
 then (bif (lim IntKind.i64 (Int.tdiv (tl (Int.toNat x1 + al)) (16 : Int)))
 then (bif (lim IntKind.i64 (x0 + Int.tdiv (tl (Int.toNat x1 + al)) (16 : Int)))
 then (bif (lim IntKind.i64 (Int.tmod (vl (Int.toNat x1 + al)) (32 : Int)))
 then (bif (lim IntKind.i64 (Int.tmod (vl (Int.toNat x1 + al)) (32 : Int) - (16 : Int)))
 then (bif (decide (vl (Int.toNat x1 + al) ≥ (32 : Int)))
 then (bif (decide (List.length x2 + 1 ≤ 1000000))
 then (bif (decide (List.length x2 ≤ List.length x2))
 then (bif (lim IntKind.i64 (x1 + (1 : Int)))
 then (some (.inl (.h0 (x0 + Int.tdiv (tl (Int.toNat x1 + al)) (16 : Int)) (x1 + (1 : Int)) (S.snoc x2
 ((3 : Int), x0 + Int.tdiv (tl (Int.toNat x1 + al)) (16 : Int),
 Int.tmod (vl (Int.toNat x1 + al)) (32 : Int) - (16 : Int), true)))))
 else (none))
 else (none))
 else (none))
 else (bif (decide (List.length x2 + 1 ≤ 1000000))
 then (bif (decide (List.length x2 ≤ List.length x2))
 then (bif (lim IntKind.i64 (x1 + (1 : Int)))
 then (some (.inl (.h0 (x0 + Int.tdiv (tl (Int.toNat x1 + al)) (16 : Int)) (x1 + (1 : Int)) (S.snoc x2
 ((3 : Int), x0 + Int.tdiv (tl (Int.toNat x1 + al)) (16 : Int),
 Int.tmod (vl (Int.toNat x1 + al)) (32 : Int) - (16 : Int), false)))))
 else (none))
 else (none))
 else (none)))
 else (none))
 else (none))
 else (none))
 else (none))
 else (none))
 else (bif (lim IntKind.u8 (Int.tdiv (tl (Int.toNat x1 + al)) (16 : Int)))
 then (bif (lim IntKind.i64 (Int.tdiv (tl (Int.toNat x1 + al)) (16 : Int)))
 then (bif (lim IntKind.i64 (x0 + Int.tdiv (tl (Int.toNat x1 + al)) (16 : Int)))
 then (bif (lim IntKind.i64 (Int.tmod (vl (Int.toNat x1 + al)) (32 : Int)))
 then (bif (lim IntKind.i64 (Int.tmod (vl (Int.toNat x1 + al)) (32 : Int) - (16 : Int)))
 then (bif (decide (vl (Int.toNat x1 + al) ≥ (32 : Int)))
 then (bif (decide (List.length x2 + 1 ≤ 1000000))
 then (bif (decide (List.length x2 ≤ List.length x2))
 then (bif (lim IntKind.i64 (x1 + (1 : Int)))
 then (some (.inl (.h0 (x0 + Int.tdiv (tl (Int.toNat x1 + al)) (16 : Int)) (x1 + (1 : Int)) (S.snoc x2
 ((2 : Int), x0 + Int.tdiv (tl (Int.toNat x1 + al)) (16 : Int),
 Int.tmod (vl (Int.toNat x1 + al)) (32 : Int) - (16 : Int), true)))))
 else (none))
 else (none))
 else (none))
 else (bif (decide (List.length x2 + 1 ≤ 1000000))
 then (bif (decide (List.length x2 ≤ List.length x2))
 then (bif (lim IntKind.i64 (x1 + (1 : Int)))
 then (some (.inl (.h0 (x0 + Int.tdiv (tl (Int.toNat x1 + al)) (16 : Int)) (x1 + (1 : Int)) (S.snoc x2
 ((2 : Int), x0 + Int.tdiv (tl (Int.toNat x1 + al)) (16 : Int),
 Int.tmod (vl (Int.toNat x1 + al)) (32 : Int) - (16 : Int), false)))))
 else (none))
 else (none))
 else (none)))
 else (none))
 else (none))
 else (none))
 else (none))
 else (none)))
 else (bif (Int.tmod (tl (Int.toNat x1 + al)) (16 : Int) == (15 : Int))
 then (bif (lim IntKind.u8 (Int.tdiv (tl (Int.toNat x1 + al)) (16 : Int)))
 then (bif (lim IntKind.i64 (Int.tdiv (tl (Int.toNat x1 + al)) (16 : Int)))
 then (bif (lim IntKind.i64 (x0 + Int.tdiv (tl (Int.toNat x1 + al)) (16 : Int)))
 then (bif (lim IntKind.i64 (Int.tmod (vl (Int.toNat x1 + al)) (32 : Int)))
 then (bif (lim IntKind.i64 (Int.tmod (vl (Int.toNat x1 + al)) (32 : Int) - (16 : Int)))
 then (bif (decide (vl (Int.toNat x1 + al) ≥ (32 : Int)))
 then (bif (decide (List.length x2 + 1 ≤ 1000000))
 then (bif (decide (List.length x2 ≤ List.length x2))
 then (bif (lim IntKind.i64 (x1 + (1 : Int)))
 then (some (.inl (.h0 (x0 + Int.tdiv (tl (Int.toNat x1 + al)) (16 : Int)) (x1 + (1 : Int)) (S.snoc x2
 ((3 : Int), x0 + Int.tdiv (tl (Int.toNat x1 + al)) (16 : Int),
 Int.tmod (vl (Int.toNat x1 + al)) (32 : Int) - (16 : Int), true)))))
 else (none))
 else (none))
 else (none))
 else (bif (decide (List.length x2 + 1 ≤ 1000000))
 then (bif (decide (List.length x2 ≤ List.length x2))
 then (bif (lim IntKind.i64 (x1 + (1 : Int)))
 then (some (.inl (.h0 (x0 + Int.tdiv (tl (Int.toNat x1 + al)) (16 : Int)) (x1 + (1 : Int)) (S.snoc x2
 ((3 : Int), x0 + Int.tdiv (tl (Int.toNat x1 + al)) (16 : Int),
 Int.tmod (vl (Int.toNat x1 + al)) (32 : Int) - (16 : Int), false)))))
 else (none))
 else (none))
 else (none)))
 else (none))
 else (none))
 else (none))
 else (none))
 else (none))
 else (bif (lim IntKind.u8 (Int.tdiv (tl (Int.toNat x1 + al)) (16 : Int)))
 then (bif (lim IntKind.i64 (Int.tdiv (tl (Int.toNat x1 + al)) (16 : Int)))
 then (bif (lim IntKind.i64 (x0 + Int.tdiv (tl (Int.toNat x1 + al)) (16 : Int)))
 then (bif (lim IntKind.i64 (Int.tmod (vl (Int.toNat x1 + al)) (32 : Int)))
 then (bif (lim IntKind.i64 (Int.tmod (vl (Int.toNat x1 + al)) (32 : Int) - (16 : Int)))
 then (bif (decide (vl (Int.toNat x1 + al) ≥ (32 : Int)))
 then (bif (decide (List.length x2 + 1 ≤ 1000000))
 then (bif (decide (List.length x2 ≤ List.length x2))
 then (bif (lim IntKind.i64 (x1 + (1 : Int)))
 then (some (.inl (.h0 (x0 + Int.tdiv (tl (Int.toNat x1 + al)) (16 : Int)) (x1 + (1 : Int)) (S.snoc x2
 ((1 : Int), x0 + Int.tdiv (tl (Int.toNat x1 + al)) (16 : Int),
 Int.tmod (vl (Int.toNat x1 + al)) (32 : Int) - (16 : Int), true)))))
 else (none))
 else (none))
 else (none))
 else (bif (decide (List.length x2 + 1 ≤ 1000000))
 then (bif (decide (List.length x2 ≤ List.length x2))
 then (bif (lim IntKind.i64 (x1 + (1 : Int)))
 then (some (.inl (.h0 (x0 + Int.tdiv (tl (Int.toNat x1 + al)) (16 : Int)) (x1 + (1 : Int)) (S.snoc x2
 ((1 : Int), x0 + Int.tdiv (tl (Int.toNat x1 + al)) (16 : Int),
 Int.tmod (vl (Int.toNat x1 + al)) (32 : Int) - (16 : Int), false)))))
 else (none))
 else (none))
 else (none)))
 else (none))
 else (none))
 else (none))
 else (none))
 else (none))))
 else (none))
 else (none))
 else (some (.inr (x2))) : Option (St37 ⊕ Rt37)) = some x) : T37_0 cond Kst Kret al nl ml tl vl x0 x1 x2 := by
  unfold T37_0
  exact bif_split h
   (fun c0 h => bif_split h
   (fun c1 h => cond_yes rfl (bif_split h
   (fun c2 h => cond_no rfl (bif_split h
   (fun c3 h => cond_yes c1 (cond_yes rfl (cond_yes c2 (cond_no rfl (bif_split h
   (fun c4 h => cond_yes c1 (cond_yes rfl (cond_yes c2 (cond_no rfl (bif_split h
   (fun c5 h => bif_split h
   (fun c6 h => bif_split h
   (fun c7 h => cond_yes c1 (cond_yes rfl (cond_yes c2 (cond_no rfl (bif_split h
   (fun c8 h => bif_split h
   (fun c9 h => cond_yes c1 (cond_yes rfl (cond_yes c2 (bif_split h
   (fun c10 h => bif_split h
   (fun c11 h => bif_split h
   (fun c12 h => cond_yes rfl (bif_split h
   (fun c13 h => stop_at hS _ h (fun n => bif Nat.beq n 1 then 4 else n) rfl rfl rfl ⟨(rn_loose (use_lo rfl) rfl rfl rfl), ⟨(rn_own (use_own rfl) rfl (snoc_len' rfl)), ⟨(rn_int rfl), ⟨(rn_int rfl), trivial⟩⟩⟩⟩ rfl (entl_new (use_own rfl) rfl (Nat.le_of_eq (snoc_len' rfl)) (rcs_int (col_snoc' (fun (t : Int × Int × Int × Bool) => t.1) rfl (fun _ _ => rfl)) (rcs_int (col_snoc' (fun (t : Int × Int × Int × Bool) => t.2.1) rfl (fun _ _ => rfl)) (rcs_int (col_snoc' (fun (t : Int × Int × Int × Bool) => t.2.2.1) rfl (fun _ _ => rfl)) (rcs_bool (col_snoc' (fun (t : Int × Int × Int × Bool) => t.2.2.2) rfl (fun _ _ => rfl)) rcs_nil)))) (entl_bor (use_lo rfl) rfl rfl entl_nil)))
   (fun c13 h => no_some h)))
   (fun c12 h => no_some h))
   (fun c11 h => no_some h))
   (fun c10 h => bif_split h
   (fun c11 h => bif_split h
   (fun c12 h => cond_yes rfl (bif_split h
   (fun c13 h => stop_at hS _ h (fun n => bif Nat.beq n 1 then 4 else n) rfl rfl rfl ⟨(rn_loose (use_lo rfl) rfl rfl rfl), ⟨(rn_own (use_own rfl) rfl (snoc_len' rfl)), ⟨(rn_int rfl), ⟨(rn_int rfl), trivial⟩⟩⟩⟩ rfl (entl_new (use_own rfl) rfl (Nat.le_of_eq (snoc_len' rfl)) (rcs_int (col_snoc' (fun (t : Int × Int × Int × Bool) => t.1) rfl (fun _ _ => rfl)) (rcs_int (col_snoc' (fun (t : Int × Int × Int × Bool) => t.2.1) rfl (fun _ _ => rfl)) (rcs_int (col_snoc' (fun (t : Int × Int × Int × Bool) => t.2.2.1) rfl (fun _ _ => rfl)) (rcs_bool (col_snoc' (fun (t : Int × Int × Int × Bool) => t.2.2.2) rfl (fun _ _ => rfl)) rcs_nil)))) (entl_bor (use_lo rfl) rfl rfl entl_nil)))
   (fun c13 h => no_some h)))
   (fun c12 h => no_some h))
   (fun c11 h => no_some h))))))
   (fun c9 h => no_some h))
   (fun c8 h => no_some h))))))
   (fun c7 h => no_some h))
   (fun c6 h => no_some h))
   (fun c5 h => no_some h))))))
   (fun c4 h => cond_yes c1 (cond_yes rfl (cond_yes c2 (cond_no rfl (bif_split h
   (fun c5 h => bif_split h
   (fun c6 h => bif_split h
   (fun c7 h => cond_yes c1 (cond_yes rfl (cond_yes c2 (cond_no rfl (bif_split h
   (fun c8 h => bif_split h
   (fun c9 h => cond_yes c1 (cond_yes rfl (cond_yes c2 (bif_split h
   (fun c10 h => bif_split h
   (fun c11 h => bif_split h
   (fun c12 h => cond_yes rfl (bif_split h
   (fun c13 h => stop_at hS _ h (fun n => bif Nat.beq n 1 then 4 else n) rfl rfl rfl ⟨(rn_loose (use_lo rfl) rfl rfl rfl), ⟨(rn_own (use_own rfl) rfl (snoc_len' rfl)), ⟨(rn_int rfl), ⟨(rn_int rfl), trivial⟩⟩⟩⟩ rfl (entl_new (use_own rfl) rfl (Nat.le_of_eq (snoc_len' rfl)) (rcs_int (col_snoc' (fun (t : Int × Int × Int × Bool) => t.1) rfl (fun _ _ => rfl)) (rcs_int (col_snoc' (fun (t : Int × Int × Int × Bool) => t.2.1) rfl (fun _ _ => rfl)) (rcs_int (col_snoc' (fun (t : Int × Int × Int × Bool) => t.2.2.1) rfl (fun _ _ => rfl)) (rcs_bool (col_snoc' (fun (t : Int × Int × Int × Bool) => t.2.2.2) rfl (fun _ _ => rfl)) rcs_nil)))) (entl_bor (use_lo rfl) rfl rfl entl_nil)))
   (fun c13 h => no_some h)))
   (fun c12 h => no_some h))
   (fun c11 h => no_some h))
   (fun c10 h => bif_split h
   (fun c11 h => bif_split h
   (fun c12 h => cond_yes rfl (bif_split h
   (fun c13 h => stop_at hS _ h (fun n => bif Nat.beq n 1 then 4 else n) rfl rfl rfl ⟨(rn_loose (use_lo rfl) rfl rfl rfl), ⟨(rn_own (use_own rfl) rfl (snoc_len' rfl)), ⟨(rn_int rfl), ⟨(rn_int rfl), trivial⟩⟩⟩⟩ rfl (entl_new (use_own rfl) rfl (Nat.le_of_eq (snoc_len' rfl)) (rcs_int (col_snoc' (fun (t : Int × Int × Int × Bool) => t.1) rfl (fun _ _ => rfl)) (rcs_int (col_snoc' (fun (t : Int × Int × Int × Bool) => t.2.1) rfl (fun _ _ => rfl)) (rcs_int (col_snoc' (fun (t : Int × Int × Int × Bool) => t.2.2.1) rfl (fun _ _ => rfl)) (rcs_bool (col_snoc' (fun (t : Int × Int × Int × Bool) => t.2.2.2) rfl (fun _ _ => rfl)) rcs_nil)))) (entl_bor (use_lo rfl) rfl rfl entl_nil)))
   (fun c13 h => no_some h)))
   (fun c12 h => no_some h))
   (fun c11 h => no_some h))))))
   (fun c9 h => no_some h))
   (fun c8 h => no_some h))))))
   (fun c7 h => no_some h))
   (fun c6 h => no_some h))
   (fun c5 h => no_some h)))))))))))
   (fun c3 h => cond_yes c1 (cond_yes rfl (cond_yes c2 (cond_no rfl (bif_split h
   (fun c4 h => cond_yes c1 (cond_yes rfl (cond_yes c2 (cond_no rfl (bif_split h
   (fun c5 h => bif_split h
   (fun c6 h => bif_split h
   (fun c7 h => cond_yes c1 (cond_yes rfl (cond_yes c2 (cond_no rfl (bif_split h
   (fun c8 h => bif_split h
   (fun c9 h => cond_yes c1 (cond_yes rfl (cond_yes c2 (bif_split h
   (fun c10 h => bif_split h
   (fun c11 h => bif_split h
   (fun c12 h => cond_yes rfl (bif_split h
   (fun c13 h => stop_at hS _ h (fun n => bif Nat.beq n 1 then 4 else n) rfl rfl rfl ⟨(rn_loose (use_lo rfl) rfl rfl rfl), ⟨(rn_own (use_own rfl) rfl (snoc_len' rfl)), ⟨(rn_int rfl), ⟨(rn_int rfl), trivial⟩⟩⟩⟩ rfl (entl_new (use_own rfl) rfl (Nat.le_of_eq (snoc_len' rfl)) (rcs_int (col_snoc' (fun (t : Int × Int × Int × Bool) => t.1) rfl (fun _ _ => rfl)) (rcs_int (col_snoc' (fun (t : Int × Int × Int × Bool) => t.2.1) rfl (fun _ _ => rfl)) (rcs_int (col_snoc' (fun (t : Int × Int × Int × Bool) => t.2.2.1) rfl (fun _ _ => rfl)) (rcs_bool (col_snoc' (fun (t : Int × Int × Int × Bool) => t.2.2.2) rfl (fun _ _ => rfl)) rcs_nil)))) (entl_bor (use_lo rfl) rfl rfl entl_nil)))
   (fun c13 h => no_some h)))
   (fun c12 h => no_some h))
   (fun c11 h => no_some h))
   (fun c10 h => bif_split h
   (fun c11 h => bif_split h
   (fun c12 h => cond_yes rfl (bif_split h
   (fun c13 h => stop_at hS _ h (fun n => bif Nat.beq n 1 then 4 else n) rfl rfl rfl ⟨(rn_loose (use_lo rfl) rfl rfl rfl), ⟨(rn_own (use_own rfl) rfl (snoc_len' rfl)), ⟨(rn_int rfl), ⟨(rn_int rfl), trivial⟩⟩⟩⟩ rfl (entl_new (use_own rfl) rfl (Nat.le_of_eq (snoc_len' rfl)) (rcs_int (col_snoc' (fun (t : Int × Int × Int × Bool) => t.1) rfl (fun _ _ => rfl)) (rcs_int (col_snoc' (fun (t : Int × Int × Int × Bool) => t.2.1) rfl (fun _ _ => rfl)) (rcs_int (col_snoc' (fun (t : Int × Int × Int × Bool) => t.2.2.1) rfl (fun _ _ => rfl)) (rcs_bool (col_snoc' (fun (t : Int × Int × Int × Bool) => t.2.2.2) rfl (fun _ _ => rfl)) rcs_nil)))) (entl_bor (use_lo rfl) rfl rfl entl_nil)))
   (fun c13 h => no_some h)))
   (fun c12 h => no_some h))
   (fun c11 h => no_some h))))))
   (fun c9 h => no_some h))
   (fun c8 h => no_some h))))))
   (fun c7 h => no_some h))
   (fun c6 h => no_some h))
   (fun c5 h => no_some h))))))
   (fun c4 h => cond_yes c1 (cond_yes rfl (cond_yes c2 (cond_no rfl (bif_split h
   (fun c5 h => bif_split h
   (fun c6 h => bif_split h
   (fun c7 h => cond_yes c1 (cond_yes rfl (cond_yes c2 (cond_no rfl (bif_split h
   (fun c8 h => bif_split h
   (fun c9 h => cond_yes c1 (cond_yes rfl (cond_yes c2 (bif_split h
   (fun c10 h => bif_split h
   (fun c11 h => bif_split h
   (fun c12 h => cond_yes rfl (bif_split h
   (fun c13 h => stop_at hS _ h (fun n => bif Nat.beq n 1 then 4 else n) rfl rfl rfl ⟨(rn_loose (use_lo rfl) rfl rfl rfl), ⟨(rn_own (use_own rfl) rfl (snoc_len' rfl)), ⟨(rn_int rfl), ⟨(rn_int rfl), trivial⟩⟩⟩⟩ rfl (entl_new (use_own rfl) rfl (Nat.le_of_eq (snoc_len' rfl)) (rcs_int (col_snoc' (fun (t : Int × Int × Int × Bool) => t.1) rfl (fun _ _ => rfl)) (rcs_int (col_snoc' (fun (t : Int × Int × Int × Bool) => t.2.1) rfl (fun _ _ => rfl)) (rcs_int (col_snoc' (fun (t : Int × Int × Int × Bool) => t.2.2.1) rfl (fun _ _ => rfl)) (rcs_bool (col_snoc' (fun (t : Int × Int × Int × Bool) => t.2.2.2) rfl (fun _ _ => rfl)) rcs_nil)))) (entl_bor (use_lo rfl) rfl rfl entl_nil)))
   (fun c13 h => no_some h)))
   (fun c12 h => no_some h))
   (fun c11 h => no_some h))
   (fun c10 h => bif_split h
   (fun c11 h => bif_split h
   (fun c12 h => cond_yes rfl (bif_split h
   (fun c13 h => stop_at hS _ h (fun n => bif Nat.beq n 1 then 4 else n) rfl rfl rfl ⟨(rn_loose (use_lo rfl) rfl rfl rfl), ⟨(rn_own (use_own rfl) rfl (snoc_len' rfl)), ⟨(rn_int rfl), ⟨(rn_int rfl), trivial⟩⟩⟩⟩ rfl (entl_new (use_own rfl) rfl (Nat.le_of_eq (snoc_len' rfl)) (rcs_int (col_snoc' (fun (t : Int × Int × Int × Bool) => t.1) rfl (fun _ _ => rfl)) (rcs_int (col_snoc' (fun (t : Int × Int × Int × Bool) => t.2.1) rfl (fun _ _ => rfl)) (rcs_int (col_snoc' (fun (t : Int × Int × Int × Bool) => t.2.2.1) rfl (fun _ _ => rfl)) (rcs_bool (col_snoc' (fun (t : Int × Int × Int × Bool) => t.2.2.2) rfl (fun _ _ => rfl)) rcs_nil)))) (entl_bor (use_lo rfl) rfl rfl entl_nil)))
   (fun c13 h => no_some h)))
   (fun c12 h => no_some h))
   (fun c11 h => no_some h))))))
   (fun c9 h => no_some h))
   (fun c8 h => no_some h))))))
   (fun c7 h => no_some h))
   (fun c6 h => no_some h))
   (fun c5 h => no_some h)))))))))))))
   (fun c2 h => no_some h)))
   (fun c1 h => no_some h))
   (fun c0 h => ret_at hR _ h (fun n => bif Nat.beq n 2 then 1 else n) rfl rfl rfl (rn_own (use_own rfl) rfl rfl) rfl (entl_new (use_own rfl) rfl (Nat.le_of_eq rfl) (rcs_int (fun _ _ => rfl) (rcs_int (fun _ _ => rfl) (rcs_int (fun _ _ => rfl) (rcs_bool (fun _ _ => rfl) rcs_nil)))) (entl_bor (use_lo rfl) rfl rfl entl_nil)))
theorem a37 (al nl ml : Nat) (tl : Nat → Int) (vl : Nat → Int) {r : Rt37} (h : Goes ((q37 al nl ml tl vl)) ((p37 al nl ml tl vl)) r) : CallR Try.prog 37 [.loose ⟨0, 2, al, 0⟩ nl] [[(0, (false, .cols ml [.int .u8 tl, .int .u8 vl]))]] 1 ((V37 al nl ml tl vl) r) ((fun r => [newL (1 + 1) ((N37 al nl ml tl vl) r) ++ [(0, (false, .cols ml [.int .u8 tl, .int .u8 vl]))]]) r) 400 ∧ ∃ F, Try.prog.funcs[37]? = some F ∧ F.body.isSome = true ∧ (F.name == "runtime.NumGoroutine") = false := by
  refine dec_calls (f := 37) (lo := 1) (hi := 400) (H := [[(0, (false, .cols ml [.int .u8 tl, .int .u8 vl]))]]) (args := [.loose ⟨0, 2, al, 0⟩ nl]) Try.envOk Try.mixed xH_ok ((I37 al nl ml tl vl)) ((V37 al nl ml tl vl)) (fun r => [newL (1 + 1) ((N37 al nl ml tl vl) r) ++ [(0, (false, .cols ml [.int .u8 tl, .int .u8 vl]))]]) (fn := mkFn Try.f37) (ts := [0, 3, 4, 5]) (n := 400) rfl (by decide) (by simp) (names_of rfl) ?_ ?_ ?_ h
  · intro s; cases s <;> exact ⟨hd_ok _ _, by simp [I37], names_of rfl, Nat.le_of_ble_eq_true rfl⟩
  · intro Kst Kret x hS hR h
    exact Holds.eq (te37 cond Kst Kret al nl ml tl vl) (be37 al nl ml tl vl Kst Kret x hS hR h)
  · intro Kst Kret x hS hR s h
    cases s with
    | h0 x0 x1 x2 => exact Holds.eq (t37_0 cond Kst Kret al nl ml tl vl x0 x1 x2) (b37_0 al nl ml tl vl Kst Kret x hS hR x0 x1 x2 h)
noncomputable def k37 : Con := ⟨37, [.one (.list [.int .u8, .int .u8])], fun (x : (Nat × Nat × Nat × (Nat → Int) × (Nat → Int) × Unit) × Unit) => (fun (al nl ml : Nat) (tl : Nat → Int) (vl : Nat → Int) => decide (al + nl ≤ ml ∧ nl ≤ 900000 ∧ S.bytes nl (fun j => tl (j + al)) = true ∧ S.bytes nl (fun j => vl (j + al)) = true)) x.1.1 x.1.2.1 x.1.2.2.1 x.1.2.2.2.1 x.1.2.2.2.2.1, fun (x : (Nat × Nat × Nat × (Nat → Int) × (Nat → Int) × Unit) × Unit) => (fun (al nl ml : Nat) (tl : Nat → Int) (vl : Nat → Int) => (V37 al nl ml tl vl) (S.stepsT nl (fun j => tl (j + al)) (fun j => vl (j + al)))) x.1.1 x.1.2.1 x.1.2.2.1 x.1.2.2.2.1 x.1.2.2.2.2.1, fun (x : (Nat × Nat × Nat × (Nat → Int) × (Nat → Int) × Unit) × Unit) => (fun (al nl ml : Nat) (tl : Nat → Int) (vl : Nat → Int) => (N37 al nl ml tl vl) (S.stepsT nl (fun j => tl (j + al)) (fun j => vl (j + al)))) x.1.1 x.1.2.1 x.1.2.2.1 x.1.2.2.2.1 x.1.2.2.2.2.1⟩
set_option maxHeartbeats 1000000 in
theorem s37' (al nl ml : Nat) (tl : Nat → Int) (vl : Nat → Int) (hp : al + nl ≤ ml ∧ nl ≤ 900000 ∧ S.bytes nl (fun j => tl (j + al)) = true ∧ S.bytes nl (fun j => vl (j + al)) = true) : ∀ k i : Nat, i + k = nl → Comes (q37 al nl ml tl vl) (.h0 (S.sumT (fun j => tl (j + al)) i) (i : Int) (S.stepsT i (fun j => tl (j + al)) (fun j => vl (j + al)))) (S.stepsT nl (fun j => tl (j + al)) (fun j => vl (j + al))) := by
  obtain ⟨hp1, hp2, hp3, hp4⟩ := hp
  have hp3 := of_decide_eq_true hp3
  have hp4 := of_decide_eq_true hp4
  intro k
  induction k with
  | zero =>
    intro i hi
    obtain rfl : i = nl := by omega
    apply Comes.of
    show Goes _ _ _
    unfold q37
    repeat' first
      | with_reducible refine goes_if (fun h => ?_) (fun h => ?_) <;> (try simp only [lim64, decide_eq_true_eq, decide_eq_false_iff_not, Int.toNat_natCast, toNat_pred, toNat_succ, Option.getD_some, Option.getD_none, Bool.not_eq_true', Bool.not_eq_false', Bool.and_eq_true, Bool.or_eq_true, Bool.and_eq_false_iff, Bool.or_eq_false_iff, bne_iff_ne, beq_iff_eq, bne_eq_false_iff_eq, beq_eq_false_iff_ne, ne_eq, not_and, Int.not_le, Int.not_lt, ge_iff_le, gt_iff_lt, Nat.not_lt, Nat.not_le, Bool.not_eq_true, Bool.not_eq_false, Bool.true_eq_false, Bool.false_eq_true, not_false_eq_true, not_true_eq_false] at h)
      | exact goes_none.mpr (by omega)
    all_goals first | (exfalso; omega) | rfl
  | succ k ih =>
    intro i hi
    have ih := ih (i + 1) (by omega)
    have hl : (S.stepsT i (fun j => tl (j + al)) (fun j => vl (j + al))).length = i := mkl_len
    have hs := sumT_ok (t := fun j => tl (j + al)) (n := i) fun j hj => hp3 j (by omega)
    have hb := byte_facts (x := tl (i + al)) (hp3 i (by omega))
    have hc := byte_facts (x := vl (i + al)) (hp4 i (by omega))
    have e1 : S.stepsT (i + 1) (fun j => tl (j + al)) (fun j => vl (j + al)) = S.snoc (S.stepsT i (fun j => tl (j + al)) (fun j => vl (j + al))) (S.kdT (tl (i + al)), S.sumT (fun j => tl (j + al)) (i + 1), (vl (i + al)).tmod 32 - 16, decide (32 ≤ vl (i + al))) := mkl_succ
    rw [e1] at ih
    have e2 : S.sumT (fun j => tl (j + al)) (i + 1) = S.sumT (fun j => tl (j + al)) i + (tl (i + al)).tdiv 16 := rfl
    rw [e2] at ih
    generalize S.sumT (fun j => tl (j + al)) i = sm at *
    generalize S.stepsT i (fun j => tl (j + al)) (fun j => vl (j + al)) = L at *
    unfold S.kdT at ih
    apply Comes.of
    show Goes _ _ _
    unfold q37
    repeat' first
      | with_reducible refine goes_if (fun h => ?_) (fun h => ?_) <;> (try simp only [lim64, decide_eq_true_eq, decide_eq_false_iff_not, Int.toNat_natCast, toNat_pred, toNat_succ, Option.getD_some, Option.getD_none, Bool.not_eq_true', Bool.not_eq_false', Bool.and_eq_true, Bool.or_eq_true, Bool.and_eq_false_iff, Bool.or_eq_false_iff, bne_iff_ne, beq_iff_eq, bne_eq_false_iff_eq, beq_eq_false_iff_ne, ne_eq, not_and, Int.not_le, Int.not_lt, ge_iff_le, gt_iff_lt, Nat.not_lt, Nat.not_le, Bool.not_eq_true, Bool.not_eq_false, Bool.true_eq_false, Bool.false_eq_true, not_false_eq_true, not_true_eq_false, lim8] at h)
      | exact goes_none.mpr (by omega)
    all_goals first
      | (exfalso; omega)
      | (simp only [*, if_true, if_false, decide_true, show ¬ ((14 : Int) = 15) by decide] at ih; exact ih)
      | (simp only [*, if_true, if_false, decide_true, show ¬ ((14 : Int) = 15) by decide, show decide (32 ≤ vl (i + al)) = false from decide_eq_false (by omega)] at ih; exact ih)
theorem s37 (al nl ml : Nat) (tl : Nat → Int) (vl : Nat → Int) (hp : al + nl ≤ ml ∧ nl ≤ 900000 ∧ S.bytes nl (fun j => tl (j + al)) = true ∧ S.bytes nl (fun j => vl (j + al)) = true) : Goes ((q37 al nl ml tl vl)) ((p37 al nl ml tl vl)) (S.stepsT nl (fun j => tl (j + al)) (fun j => vl (j + al))) := by
  exact s37' al nl ml tl vl hp nl 0 (by omega)
theorem k37_ok : k37.ok Try.prog := by
  intro x hx
  obtain ⟨⟨al, nl, ml, tl, vl, _⟩, _⟩ := x
  obtain ⟨h1, h2⟩ := a37 al nl ml tl vl (s37 al nl ml tl vl (of_decide_eq_true hx))
  exact ⟨⟨400, (by decide : 1 + 1 + 1 ≤ 400), h1⟩, h2⟩

end Go.Ev
