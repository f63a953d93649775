/-
  Extremes, in the program and in the reference.
-/
import Derived.Test.YtedbjnojogjnkaaX0
namespace Go.Ev
open Go.Proofs
set_option linter.unusedVariables false
set_option linter.unusedSimpArgs false
inductive St33 where
  | h0 (x0 : Int) (x1 : List (Int × Int × Bool))
  | h1 (x0 : Int) (x1 : Int) (x2 : Int) (x3 : Int) (x4 : Int) (x5 : List (Int × Int × Bool))
abbrev Rt33 := Int × List (Int × Int × Bool)
noncomputable def V33 (al nl ml : Nat) (tl : Nat → Int) (vl : Nat → Int) (gl : Nat → Bool) (k : Int) (r : Rt33) : PV := PV.tup [PV.own (2) (3) (List.length r.2), PV.int IntKind.i64 r.1]
noncomputable def N33 (al nl ml : Nat) (tl : Nat → Int) (vl : Nat → Int) (gl : Nat → Bool) (k : Int) (r : Rt33) : List Blk := [Blk.cols (List.length r.2)
 [Col.int IntKind.i64 fun (j : Nat) => (S.at' r.2 j).1,
 Col.int IntKind.i64 fun (j : Nat) => (S.at' r.2 j).2.1,
 Col.bool fun (j : Nat) => (S.at' r.2 j).2.2]]
noncomputable def I33 (al nl ml : Nat) (tl : Nat → Int) (vl : Nat → Int) (gl : Nat → Bool) (k : Int) : St33 → Hd
  | .h0 x0 x1 => ⟨hd Try.f33 0, [PV.loose (PA.mk (0) (3) al (0)) nl, PV.int IntKind.i64 k,
 PV.own (1) (3) (List.length x1), PV.int IntKind.i64 x0, PV.unk, PV.unk,
 PV.unk, PV.unk], [[(1, (true, Blk.cols (List.length x1)
 [Col.int IntKind.i64 fun (j : Nat) => (S.at' x1 j).1,
 Col.int IntKind.i64 fun (j : Nat) => (S.at' x1 j).2.1,
 Col.bool fun (j : Nat) => (S.at' x1 j).2.2]))], [(0, (false, .cols ml [.int .i64 tl, .int .i64 vl, .bool gl]))]], 2⟩
  | .h1 x0 x1 x2 x3 x4 x5 => ⟨hd Try.f33 1, [PV.loose (PA.mk (0) (3) al (0)) nl, PV.int IntKind.i64 k,
 PV.own (1) (3) (List.length x5), PV.int IntKind.i64 x0, PV.int IntKind.i64 x1,
 PV.int IntKind.i64 x2, PV.int IntKind.i64 x3, PV.int IntKind.i64 x4], [[(1, (true, Blk.cols (List.length x5)
 [Col.int IntKind.i64 fun (j : Nat) => (S.at' x5 j).1,
 Col.int IntKind.i64 fun (j : Nat) => (S.at' x5 j).2.1,
 Col.bool fun (j : Nat) => (S.at' x5 j).2.2]))], [(0, (false, .cols ml [.int .i64 tl, .int .i64 vl, .bool gl]))]], 2⟩
noncomputable def q33 (al nl ml : Nat) (tl : Nat → Int) (vl : Nat → Int) (gl : Nat → Bool) (k : Int) : St33 → Option (St33 ⊕ Rt33)
  | .h0 x0 x1 => bif (decide (x0 < k))
 then (bif (lim IntKind.i64 (x0 * (↑nl : Int)))
 then (bif (decide (k = (0 : Int)))
 then (none)
 else (bif (lim IntKind.i64 (Int.tdiv (x0 * (↑nl : Int)) k))
 then (bif (lim IntKind.i64 (x0 + (1 : Int)))
 then (bif (lim IntKind.i64 ((x0 + (1 : Int)) * (↑nl : Int)))
 then (bif (lim IntKind.i64 (Int.tdiv ((x0 + (1 : Int)) * (↑nl : Int)) k))
 then (bif (Int.tdiv (x0 * (↑nl : Int)) k == Int.tdiv ((x0 + (1 : Int)) * (↑nl : Int)) k)
 then (some (.inl (.h0 (x0 + (1 : Int)) (x1))))
 else (some (.inl (.h1 (x0) (Int.tdiv ((x0 + (1 : Int)) * (↑nl : Int)) k) (Int.tdiv (x0 * (↑nl : Int)) k) (Int.tdiv (x0 * (↑nl : Int)) k) (Int.tdiv (x0 * (↑nl : Int)) k) (x1)))))
 else (none))
 else (none))
 else (none))
 else (none)))
 else (none))
 else (some (.inr ((0 : Int), x1)))
  | .h1 x0 x1 x2 x3 x4 x5 => bif (decide (x4 < x1))
 then (bif (decide ((0 : Int) ≤ x4 ∧ x4 < (↑nl : Int)))
 then (bif (decide (Int.toNat x4 + al < ml))
 then (bif (decide ((0 : Int) ≤ x2 ∧ x2 < (↑nl : Int)))
 then (bif (decide (Int.toNat x2 + al < ml))
 then (bif (decide (vl (Int.toNat x4 + al) < vl (Int.toNat x2 + al)))
 then (bif (decide ((0 : Int) ≤ x3 ∧ x3 < (↑nl : Int)))
 then (bif (decide (Int.toNat x3 + al < ml))
 then (bif (decide (vl (Int.toNat x4 + al) > vl (Int.toNat x3 + al)))
 then (bif (lim IntKind.i64 (x4 + (1 : Int)))
 then (some (.inl (.h1 (x0) (x1) (x4) (x4) (x4 + (1 : Int)) (x5))))
 else (none))
 else (bif (lim IntKind.i64 (x4 + (1 : Int)))
 then (some (.inl (.h1 (x0) (x1) (x4) (x3) (x4 + (1 : Int)) (x5))))
 else (none)))
 else (none))
 else (none))
 else (bif (decide ((0 : Int) ≤ x3 ∧ x3 < (↑nl : Int)))
 then (bif (decide (Int.toNat x3 + al < ml))
 then (bif (decide (vl (Int.toNat x4 + al) > vl (Int.toNat x3 + al)))
 then (bif (lim IntKind.i64 (x4 + (1 : Int)))
 then (some (.inl (.h1 (x0) (x1) (x2) (x4) (x4 + (1 : Int)) (x5))))
 else (none))
 else (bif (lim IntKind.i64 (x4 + (1 : Int)))
 then (some (.inl (.h1 (x0) (x1) (x2) (x3) (x4 + (1 : Int)) (x5))))
 else (none)))
 else (none))
 else (none)))
 else (none))
 else (none))
 else (none))
 else (none))
 else (bif (decide ((0 : Int) ≤ Min.min x2 x3 ∧ Min.min x2 x3 < (↑nl : Int)))
 then (bif (decide (Int.toNat (Min.min x2 x3) + al < ml))
 then (bif (decide (List.length x5 + 1 ≤ 1000000))
 then (bif (decide (List.length x5 ≤ List.length x5))
 then (bif (x2 != x3)
 then (bif (decide ((0 : Int) ≤ Max.max x2 x3 ∧ Max.max x2 x3 < (↑nl : Int)))
 then (bif (decide (Int.toNat (Max.max x2 x3) + al < ml))
 then (bif (decide (List.length x5 + 1 + 1 ≤ 1000000))
 then (bif (decide (List.length x5 + 1 ≤ List.length x5 + 1))
 then (bif (lim IntKind.i64 (x0 + (1 : Int)))
 then (some (.inl (.h0 (x0 + (1 : Int)) (S.snoc
 (S.snoc x5
 (tl (Int.toNat (Min.min x2 x3) + al), vl (Int.toNat (Min.min x2 x3) + al), gl (Int.toNat (Min.min x2 x3) + al)))
 (tl (Int.toNat (Max.max x2 x3) + al), vl (Int.toNat (Max.max x2 x3) + al), gl (Int.toNat (Max.max x2 x3) + al))))))
 else (none))
 else (none))
 else (none))
 else (none))
 else (none))
 else (bif (lim IntKind.i64 (x0 + (1 : Int)))
 then (some (.inl (.h0 (x0 + (1 : Int)) (S.snoc x5
 (tl (Int.toNat (Min.min x2 x3) + al), vl (Int.toNat (Min.min x2 x3) + al), gl (Int.toNat (Min.min x2 x3) + al))))))
 else (none)))
 else (none))
 else (none))
 else (none))
 else (none))
noncomputable def p33 (al nl ml : Nat) (tl : Nat → Int) (vl : Nat → Int) (gl : Nat → Bool) (k : Int) : Option (St33 ⊕ Rt33) := bif (decide ((↑nl : Int) > (400 : Int)))
 then (some (.inr ((3 : Int), [])))
 else (bif (decide (al + nl ≤ ml ∧ nl ≤ 1000000))
 then (bif (S.errS (fun (j : Nat) => tl (j + al)) (fun (j : Nat) => vl (j + al)) (0) nl != (0 : Int))
 then (some (.inr (S.errS (fun (j : Nat) => tl (j + al)) (fun (j : Nat) => vl (j + al)) (0) nl, [])))
 else (bif (decide (k < (1 : Int)))
 then (some (.inr ((6 : Int), [])))
 else (bif (decide (k > (200 : Int)))
 then (some (.inr ((6 : Int), [])))
 else (some (.inl (.h0 ((0 : Int)) ([])))))))
 else (none))
noncomputable def Te33 (test : Bool → Prop → Prop → Prop) (Kst : KS) (Kret : KR) (al nl ml : Nat) (tl : Nat → Int) (vl : Nat → Int) (gl : Nat → Bool) (k : Int) : Prop :=
  test (decide ((↑nl : Int) > (400 : Int)))
 (Kret (PV.tup [PV.nils, PV.int IntKind.i64 (3 : Int)]) ([[(0, false,
 Blk.cols ml [Col.int IntKind.i64 tl, Col.int IntKind.i64 vl, Col.bool gl])]]) (1))
 (test (decide (al + nl ≤ ml ∧ nl ≤ 1000000))
 (test (S.errS (fun (j : Nat) => tl (j + al)) (fun (j : Nat) => vl (j + al)) (0) nl != (0 : Int))
 (Kret (PV.tup
 [PV.nils,
 PV.int IntKind.i64
 (S.errS (fun (j : Nat) => tl (j + al)) (fun (j : Nat) => vl (j + al)) (0) nl)]) ([[(0, false,
 Blk.cols ml [Col.int IntKind.i64 tl, Col.int IntKind.i64 vl, Col.bool gl])]]) (2))
 (test (decide (k < (1 : Int)))
 (Kret (PV.tup [PV.nils, PV.int IntKind.i64 (6 : Int)]) ([[(0, false,
 Blk.cols ml [Col.int IntKind.i64 tl, Col.int IntKind.i64 vl, Col.bool gl])]]) (2))
 (test (decide (k > (200 : Int)))
 (Kret (PV.tup [PV.nils, PV.int IntKind.i64 (6 : Int)]) ([[(0, false,
 Blk.cols ml [Col.int IntKind.i64 tl, Col.int IntKind.i64 vl, Col.bool gl])]]) (2))
 (Kst (hd Try.f33 0) ([PV.loose (PA.mk (0) (3) al (0)) nl, PV.int IntKind.i64 k, PV.nils,
 PV.int IntKind.i64 (0 : Int), PV.unk, PV.unk, PV.unk, PV.unk]) ([[(0, false,
 Blk.cols ml [Col.int IntKind.i64 tl, Col.int IntKind.i64 vl, Col.bool gl])]]) (2)))))
 (False))
set_option maxRecDepth 100000 in
theorem te33 (test : Bool → Prop → Prop → Prop) (Kst : KS) (Kret : KR) (al nl ml : Nat) (tl : Nat → Int) (vl : Nat → Int) (gl : Nat → Bool) (k : Int) : run test Try.env true (xK test) true 400 ⟨33, [.cd (mkFn Try.f33).body], argT 0 [.loose ⟨0, 3, al, 0⟩ nl, .int .i64 k], [[], [(0, (false, .cols ml [.int .i64 tl, .int .i64 vl, .bool gl]))]], 1⟩ (proj 1 [0, 1, 7, 8, 10, 11, 12, 13] Kst Kret) =
  Te33 test Kst Kret al nl ml tl vl gl k := by kernel_rfl
noncomputable def T33_0 (test : Bool → Prop → Prop → Prop) (Kst : KS) (Kret : KR) (al nl ml : Nat) (tl : Nat → Int) (vl : Nat → Int) (gl : Nat → Bool) (k : Int) (x0 : Int) (x1 : List (Int × Int × Bool)) : Prop :=
  test (decide (x0 < k))
 (test (lim IntKind.i64 (x0 * (↑nl : Int)))
 (test (decide (k = (0 : Int)))
 (False)
 (test (lim IntKind.i64 (Int.tdiv (x0 * (↑nl : Int)) k))
 (test (lim IntKind.i64 (x0 + (1 : Int)))
 (test (lim IntKind.i64 ((x0 + (1 : Int)) * (↑nl : Int)))
 (test (decide (k = (0 : Int)))
 (False)
 (test (lim IntKind.i64 (Int.tdiv ((x0 + (1 : Int)) * (↑nl : Int)) k))
 (test (Int.tdiv (x0 * (↑nl : Int)) k == Int.tdiv ((x0 + (1 : Int)) * (↑nl : Int)) k)
 (test (lim IntKind.i64 (x0 + (1 : Int)))
 (Kst (hd Try.f33 0) ([PV.loose (PA.mk (0) (3) al (0)) nl, PV.int IntKind.i64 k,
 PV.own (1) (3) (List.length x1), PV.int IntKind.i64 (x0 + (1 : Int)),
 PV.int IntKind.i64 (Int.tdiv ((x0 + (1 : Int)) * (↑nl : Int)) k), PV.unk, PV.unk, PV.unk]) ([[(0, false,
 Blk.cols ml [Col.int IntKind.i64 tl, Col.int IntKind.i64 vl, Col.bool gl]),
 (1, true,
 Blk.cols (List.length x1)
 [Col.int IntKind.i64 fun (j : Nat) => (S.at' x1 j).1,
 Col.int IntKind.i64 fun (j : Nat) => (S.at' x1 j).2.1,
 Col.bool fun (j : Nat) => (S.at' x1 j).2.2])]]) (2))
 (False))
 (Kst (hd Try.f33 1) ([PV.loose (PA.mk (0) (3) al (0)) nl, PV.int IntKind.i64 k,
 PV.own (1) (3) (List.length x1), PV.int IntKind.i64 x0,
 PV.int IntKind.i64 (Int.tdiv ((x0 + (1 : Int)) * (↑nl : Int)) k),
 PV.int IntKind.i64 (Int.tdiv (x0 * (↑nl : Int)) k),
 PV.int IntKind.i64 (Int.tdiv (x0 * (↑nl : Int)) k),
 PV.int IntKind.i64 (Int.tdiv (x0 * (↑nl : Int)) k)]) ([[(0, false,
 Blk.cols ml [Col.int IntKind.i64 tl, Col.int IntKind.i64 vl, Col.bool gl]),
 (1, true,
 Blk.cols (List.length x1)
 [Col.int IntKind.i64 fun (j : Nat) => (S.at' x1 j).1,
 Col.int IntKind.i64 fun (j : Nat) => (S.at' x1 j).2.1,
 Col.bool fun (j : Nat) => (S.at' x1 j).2.2])]]) (2)))
 (False)))
 (False))
 (False))
 (False)))
 (False))
 (Kret (PV.tup [PV.own (1) (3) (List.length x1), PV.int IntKind.i64 (0 : Int)]) ([[(0, false,
 Blk.cols ml [Col.int IntKind.i64 tl, Col.int IntKind.i64 vl, Col.bool gl]),
 (1, true,
 Blk.cols (List.length x1)
 [Col.int IntKind.i64 fun (j : Nat) => (S.at' x1 j).1,
 Col.int IntKind.i64 fun (j : Nat) => (S.at' x1 j).2.1,
 Col.bool fun (j : Nat) => (S.at' x1 j).2.2])]]) (2))
set_option maxRecDepth 100000 in
theorem t33_0 (test : Bool → Prop → Prop → Prop) (Kst : KS) (Kret : KR) (al nl ml : Nat) (tl : Nat → Int) (vl : Nat → Int) (gl : Nat → Bool) (k : Int) (x0 : Int) (x1 : List (Int × Int × Bool)) : run test Try.env true (xK test) true 400 ⟨33, hd Try.f33 0, zipT [0, 1, 7, 8, 10, 11, 12, 13] [PV.loose (PA.mk (0) (3) al (0)) nl, PV.int IntKind.i64 k,
 PV.own (1) (3) (List.length x1), PV.int IntKind.i64 x0, PV.unk, PV.unk,
 PV.unk, PV.unk], [[(1, (true, Blk.cols (List.length x1)
 [Col.int IntKind.i64 fun (j : Nat) => (S.at' x1 j).1,
 Col.int IntKind.i64 fun (j : Nat) => (S.at' x1 j).2.1,
 Col.bool fun (j : Nat) => (S.at' x1 j).2.2]))], [(0, (false, .cols ml [.int .i64 tl, .int .i64 vl, .bool gl]))]], 2⟩ (proj 1 [0, 1, 7, 8, 10, 11, 12, 13] Kst Kret) =
  T33_0 test Kst Kret al nl ml tl vl gl k x0 x1 := by kernel_rfl
noncomputable def T33_1 (test : Bool → Prop → Prop → Prop) (Kst : KS) (Kret : KR) (al nl ml : Nat) (tl : Nat → Int) (vl : Nat → Int) (gl : Nat → Bool) (k : Int) (x0 : Int) (x1 : Int) (x2 : Int) (x3 : Int) (x4 : Int) (x5 : List (Int × Int × Bool)) : Prop :=
  test (decide (x4 < x1))
 (test (decide ((0 : Int) ≤ x4 ∧ x4 < (↑nl : Int)))
 (test (decide (Int.toNat x4 + al < ml))
 (test (decide ((0 : Int) ≤ x2 ∧ x2 < (↑nl : Int)))
 (test (decide (Int.toNat x2 + al < ml))
 (test (decide (vl (Int.toNat x4 + al) < vl (Int.toNat x2 + al)))
 (test (decide ((0 : Int) ≤ x4 ∧ x4 < (↑nl : Int)))
 (test (decide (Int.toNat x4 + al < ml))
 (test (decide ((0 : Int) ≤ x3 ∧ x3 < (↑nl : Int)))
 (test (decide (Int.toNat x3 + al < ml))
 (test (decide (vl (Int.toNat x4 + al) > vl (Int.toNat x3 + al)))
 (test (lim IntKind.i64 (x4 + (1 : Int)))
 (Kst (hd Try.f33 1) ([PV.loose (PA.mk (0) (3) al (0)) nl, PV.int IntKind.i64 k,
 PV.own (1) (3) (List.length x5), PV.int IntKind.i64 x0, PV.int IntKind.i64 x1,
 PV.int IntKind.i64 x4, PV.int IntKind.i64 x4, PV.int IntKind.i64 (x4 + (1 : Int))]) ([[(0, false,
 Blk.cols ml [Col.int IntKind.i64 tl, Col.int IntKind.i64 vl, Col.bool gl]),
 (1, true,
 Blk.cols (List.length x5)
 [Col.int IntKind.i64 fun (j : Nat) => (S.at' x5 j).1,
 Col.int IntKind.i64 fun (j : Nat) => (S.at' x5 j).2.1,
 Col.bool fun (j : Nat) => (S.at' x5 j).2.2])]]) (2))
 (False))
 (test (lim IntKind.i64 (x4 + (1 : Int)))
 (Kst (hd Try.f33 1) ([PV.loose (PA.mk (0) (3) al (0)) nl, PV.int IntKind.i64 k,
 PV.own (1) (3) (List.length x5), PV.int IntKind.i64 x0, PV.int IntKind.i64 x1,
 PV.int IntKind.i64 x4, PV.int IntKind.i64 x3, PV.int IntKind.i64 (x4 + (1 : Int))]) ([[(0, false,
 Blk.cols ml [Col.int IntKind.i64 tl, Col.int IntKind.i64 vl, Col.bool gl]),
 (1, true,
 Blk.cols (List.length x5)
 [Col.int IntKind.i64 fun (j : Nat) => (S.at' x5 j).1,
 Col.int IntKind.i64 fun (j : Nat) => (S.at' x5 j).2.1,
 Col.bool fun (j : Nat) => (S.at' x5 j).2.2])]]) (2))
 (False)))
 (False))
 (False))
 (False))
 (False))
 (test (decide ((0 : Int) ≤ x4 ∧ x4 < (↑nl : Int)))
 (test (decide (Int.toNat x4 + al < ml))
 (test (decide ((0 : Int) ≤ x3 ∧ x3 < (↑nl : Int)))
 (test (decide (Int.toNat x3 + al < ml))
 (test (decide (vl (Int.toNat x4 + al) > vl (Int.toNat x3 + al)))
 (test (lim IntKind.i64 (x4 + (1 : Int)))
 (Kst (hd Try.f33 1) ([PV.loose (PA.mk (0) (3) al (0)) nl, PV.int IntKind.i64 k,
 PV.own (1) (3) (List.length x5), PV.int IntKind.i64 x0, PV.int IntKind.i64 x1,
 PV.int IntKind.i64 x2, PV.int IntKind.i64 x4, PV.int IntKind.i64 (x4 + (1 : Int))]) ([[(0, false,
 Blk.cols ml [Col.int IntKind.i64 tl, Col.int IntKind.i64 vl, Col.bool gl]),
 (1, true,
 Blk.cols (List.length x5)
 [Col.int IntKind.i64 fun (j : Nat) => (S.at' x5 j).1,
 Col.int IntKind.i64 fun (j : Nat) => (S.at' x5 j).2.1,
 Col.bool fun (j : Nat) => (S.at' x5 j).2.2])]]) (2))
 (False))
 (test (lim IntKind.i64 (x4 + (1 : Int)))
 (Kst (hd Try.f33 1) ([PV.loose (PA.mk (0) (3) al (0)) nl, PV.int IntKind.i64 k,
 PV.own (1) (3) (List.length x5), PV.int IntKind.i64 x0, PV.int IntKind.i64 x1,
 PV.int IntKind.i64 x2, PV.int IntKind.i64 x3, PV.int IntKind.i64 (x4 + (1 : Int))]) ([[(0, false,
 Blk.cols ml [Col.int IntKind.i64 tl, Col.int IntKind.i64 vl, Col.bool gl]),
 (1, true,
 Blk.cols (List.length x5)
 [Col.int IntKind.i64 fun (j : Nat) => (S.at' x5 j).1,
 Col.int IntKind.i64 fun (j : Nat) => (S.at' x5 j).2.1,
 Col.bool fun (j : Nat) => (S.at' x5 j).2.2])]]) (2))
 (False)))
 (False))
 (False))
 (False))
 (False)))
 (False))
 (False))
 (False))
 (False))
 (test (decide ((0 : Int) ≤ Min.min x2 x3 ∧ Min.min x2 x3 < (↑nl : Int)))
 (test (decide (Int.toNat (Min.min x2 x3) + al < ml))
 (test (decide (Int.toNat (Min.min x2 x3) + al < ml))
 (test (decide (Int.toNat (Min.min x2 x3) + al < ml))
 (test (decide (List.length x5 + 1 ≤ 1000000))
 (test (decide (List.length x5 ≤ List.length x5))
 (test (true)
 (test (x2 != x3)
 (test (decide ((0 : Int) ≤ Max.max x2 x3 ∧ Max.max x2 x3 < (↑nl : Int)))
 (test (decide (Int.toNat (Max.max x2 x3) + al < ml))
 (test (decide (Int.toNat (Max.max x2 x3) + al < ml))
 (test (decide (Int.toNat (Max.max x2 x3) + al < ml))
 (test (decide (List.length x5 + 1 + 1 ≤ 1000000))
 (test (decide (List.length x5 + 1 ≤ List.length x5 + 1))
 (test (true)
 (test (lim IntKind.i64 (x0 + (1 : Int)))
 (Kst (hd Try.f33 0) ([PV.loose (PA.mk (0) (3) al (0)) nl, PV.int IntKind.i64 k,
 PV.own (5) (3) (List.length x5 + 1 + 1),
 PV.int IntKind.i64 (x0 + (1 : Int)), PV.int IntKind.i64 x1, PV.int IntKind.i64 x2,
 PV.int IntKind.i64 x3, PV.int IntKind.i64 x4]) ([[(0, false,
 Blk.cols ml [Col.int IntKind.i64 tl, Col.int IntKind.i64 vl, Col.bool gl]),
 (5, true,
 Blk.cols (List.length x5 + 1 + 1)
 [Col.int IntKind.i64 fun (j : Nat) =>
 bif Nat.blt j (List.length x5 + 1) then
 bif Nat.blt j (List.length x5) then (S.at' x5 j).1 else tl (Int.toNat (Min.min x2 x3) + al)
 else tl (Int.toNat (Max.max x2 x3) + al),
 Col.int IntKind.i64 fun (j : Nat) =>
 bif Nat.blt j (List.length x5 + 1) then
 bif Nat.blt j (List.length x5) then (S.at' x5 j).2.1
 else vl (Int.toNat (Min.min x2 x3) + al)
 else vl (Int.toNat (Max.max x2 x3) + al),
 Col.bool fun (j : Nat) =>
 bif Nat.blt j (List.length x5 + 1) then
 bif Nat.blt j (List.length x5) then (S.at' x5 j).2.2
 else gl (Int.toNat (Min.min x2 x3) + al)
 else gl (Int.toNat (Max.max x2 x3) + al)])]]) (6))
 (False))
 (False))
 (False))
 (False))
 (False))
 (False))
 (False))
 (False))
 (test (lim IntKind.i64 (x0 + (1 : Int)))
 (Kst (hd Try.f33 0) ([PV.loose (PA.mk (0) (3) al (0)) nl, PV.int IntKind.i64 k,
 PV.own (3) (3) (List.length x5 + 1), PV.int IntKind.i64 (x0 + (1 : Int)),
 PV.int IntKind.i64 x1, PV.int IntKind.i64 x2, PV.int IntKind.i64 x3,
 PV.int IntKind.i64 x4]) ([[(0, false,
 Blk.cols ml [Col.int IntKind.i64 tl, Col.int IntKind.i64 vl, Col.bool gl]),
 (3, true,
 Blk.cols (List.length x5 + 1)
 [Col.int IntKind.i64 fun (j : Nat) =>
 bif Nat.blt j (List.length x5) then (S.at' x5 j).1 else tl (Int.toNat (Min.min x2 x3) + al),
 Col.int IntKind.i64 fun (j : Nat) =>
 bif Nat.blt j (List.length x5) then (S.at' x5 j).2.1
 else vl (Int.toNat (Min.min x2 x3) + al),
 Col.bool fun (j : Nat) =>
 bif Nat.blt j (List.length x5) then (S.at' x5 j).2.2
 else gl (Int.toNat (Min.min x2 x3) + al)])]]) (4))
 (False)))
 (False))
 (False))
 (False))
 (False))
 (False))
 (False))
 (False))
set_option maxRecDepth 100000 in
theorem t33_1 (test : Bool → Prop → Prop → Prop) (Kst : KS) (Kret : KR) (al nl ml : Nat) (tl : Nat → Int) (vl : Nat → Int) (gl : Nat → Bool) (k : Int) (x0 : Int) (x1 : Int) (x2 : Int) (x3 : Int) (x4 : Int) (x5 : List (Int × Int × Bool)) : run test Try.env true (xK test) true 400 ⟨33, hd Try.f33 1, zipT [0, 1, 7, 8, 10, 11, 12, 13] [PV.loose (PA.mk (0) (3) al (0)) nl, PV.int IntKind.i64 k,
 PV.own (1) (3) (List.length x5), PV.int IntKind.i64 x0, PV.int IntKind.i64 x1,
 PV.int IntKind.i64 x2, PV.int IntKind.i64 x3, PV.int IntKind.i64 x4], [[(1, (true, Blk.cols (List.length x5)
 [Col.int IntKind.i64 fun (j : Nat) => (S.at' x5 j).1,
 Col.int IntKind.i64 fun (j : Nat) => (S.at' x5 j).2.1,
 Col.bool fun (j : Nat) => (S.at' x5 j).2.2]))], [(0, (false, .cols ml [.int .i64 tl, .int .i64 vl, .bool gl]))]], 2⟩ (proj 1 [0, 1, 7, 8, 10, 11, 12, 13] Kst Kret) =
  T33_1 test Kst Kret al nl ml tl vl gl k x0 x1 x2 x3 x4 x5 := by kernel_rfl
set_option maxRecDepth 100000 in
theorem be33 (al nl ml : Nat) (tl : Nat → Int) (vl : Nat → Int) (gl : Nat → Bool) (k : Int) (Kst : KS) (Kret : KR) (x : St33 ⊕ Rt33) (hS : HS 1 400 ((I33 al nl ml tl vl gl k)) Kst x) (hR : HR 1 400 ((V33 al nl ml tl vl gl k)) (fun r => [newL (1 + 1) ((N33 al nl ml tl vl gl k) r) ++ [(0, (false, .cols ml [.int .i64 tl, .int .i64 vl, .bool gl]))]]) Kret x) (h : (bif (decide ((↑nl : Int) > (400 : Int)))
 then (some (.inr ((3 : Int), [])))
 else (bif (decide (al + nl ≤ ml ∧ nl ≤ 1000000))
 then (bif (S.errS (fun (j : Nat) => tl (j + al)) (fun (j : Nat) => vl (j + al)) (0) nl != (0 : Int))
 then (some (.inr (S.errS (fun (j : Nat) => tl (j + al)) (fun (j : Nat) => vl (j + al)) (0) nl, [])))
 else (bif (decide (k < (1 : Int)))
 then (some (.inr ((6 : Int), [])))
 else (bif (decide (k > (200 : Int)))
 then (some (.inr ((6 : Int), [])))
 else (some (.inl (.h0 ((0 : Int)) ([])))))))
 else (none)) : Option (St33 ⊕ Rt33)) = some x) : Te33 cond Kst Kret al nl ml tl vl gl k := by
  unfold Te33
  exact bif_split h
   (fun c0 h => ret_at hR _ h (fun n => bif Nat.beq n 2 then 399 else n) rfl rfl rfl (rn_tup ⟨(rn_own_nils rfl), (rn_int rfl), trivial⟩) rfl (entl_fresh (use_own rfl) (fresh_ok rfl) (entl_bor (use_lo rfl) rfl rfl entl_nil)))
   (fun c0 h => bif_split h
   (fun c1 h => bif_split h
   (fun c2 h => ret_at hR _ h (fun n => bif Nat.beq n 2 then 399 else n) rfl rfl rfl (rn_tup ⟨(rn_own_nils rfl), (rn_int rfl), trivial⟩) rfl (entl_fresh (use_own rfl) (fresh_ok rfl) (entl_bor (use_lo rfl) rfl rfl entl_nil)))
   (fun c2 h => bif_split h
   (fun c3 h => ret_at hR _ h (fun n => bif Nat.beq n 2 then 399 else n) rfl rfl rfl (rn_tup ⟨(rn_own_nils rfl), (rn_int rfl), trivial⟩) rfl (entl_fresh (use_own rfl) (fresh_ok rfl) (entl_bor (use_lo rfl) rfl rfl entl_nil)))
   (fun c3 h => bif_split h
   (fun c4 h => ret_at hR _ h (fun n => bif Nat.beq n 2 then 399 else n) rfl rfl rfl (rn_tup ⟨(rn_own_nils rfl), (rn_int rfl), trivial⟩) rfl (entl_fresh (use_own rfl) (fresh_ok rfl) (entl_bor (use_lo rfl) rfl rfl entl_nil)))
   (fun c4 h => stop_at hS _ h (fun n => bif Nat.beq n 1 then 399 else n) rfl rfl rfl ⟨(rn_loose (use_lo rfl) rfl rfl rfl), ⟨(rn_int rfl), ⟨(rn_own_nils rfl), ⟨(rn_int rfl), ⟨(rn_unk _), ⟨(rn_unk _), ⟨(rn_unk _), ⟨(rn_unk _), trivial⟩⟩⟩⟩⟩⟩⟩⟩ rfl (entl_fresh (use_own rfl) (fresh_ok rfl) (entl_bor (use_lo rfl) rfl rfl entl_nil))))))
   (fun c1 h => no_some h))
set_option maxRecDepth 100000 in
theorem b33_0 (al nl ml : Nat) (tl : Nat → Int) (vl : Nat → Int) (gl : Nat → Bool) (k : Int) (Kst : KS) (Kret : KR) (x : St33 ⊕ Rt33) (hS : HS 1 400 ((I33 al nl ml tl vl gl k)) Kst x) (hR : HR 1 400 ((V33 al nl ml tl vl gl k)) (fun r => [newL (1 + 1) ((N33 al nl ml tl vl gl k) r) ++ [(0, (false, .cols ml [.int .i64 tl, .int .i64 vl, .bool gl]))]]) Kret x) (x0 : Int) (x1 : List (Int × Int × Bool)) (h : (bif (decide (x0 < k))
 then (bif (lim IntKind.i64 (x0 * (↑nl : Int)))
 then (bif (decide (k = (0 : Int)))
 then (none)
 else (bif (lim IntKind.i64 (Int.tdiv (x0 * (↑nl : Int)) k))
 then (bif (lim IntKind.i64 (x0 + (1 : Int)))
 then (bif (lim IntKind.i64 ((x0 + (1 : Int)) * (↑nl : Int)))
 then (bif (lim IntKind.i64 (Int.tdiv ((x0 + (1 : Int)) * (↑nl : Int)) k))
 then (bif (Int.tdiv (x0 * (↑nl : Int)) k == Int.tdiv ((x0 + (1 : Int)) * (↑nl : Int)) k)
 then (some (.inl (.h0 (x0 + (1 : Int)) (x1))))
 else (some (.inl (.h1 (x0) (Int.tdiv ((x0 + (1 : Int)) * (↑nl : Int)) k) (Int.tdiv (x0 * (↑nl : Int)) k) (Int.tdiv (x0 * (↑nl : Int)) k) (Int.tdiv (x0 * (↑nl : Int)) k) (x1)))))
 else (none))
 else (none))
 else (none))
 else (none)))
 else (none))
 else (some (.inr ((0 : Int), x1))) : Option (St33 ⊕ Rt33)) = some x) : T33_0 cond Kst Kret al nl ml tl vl gl k x0 x1 := by
  unfold T33_0
  exact bif_split h
   (fun c0 h => bif_split h
   (fun c1 h => bif_split h
   (fun c2 h => no_some h)
   (fun c2 h => bif_split h
   (fun c3 h => bif_split h
   (fun c4 h => bif_split h
   (fun c5 h => cond_no c2 (bif_split h
   (fun c6 h => bif_split h
   (fun c7 h => cond_yes c4 (stop_at hS _ h (fun n => bif Nat.beq n 1 then 1 else n) rfl rfl rfl ⟨(rn_loose (use_lo rfl) rfl rfl rfl), ⟨(rn_int rfl), ⟨(rn_own (use_own rfl) rfl rfl), ⟨(rn_int rfl), ⟨(rn_unk _), ⟨(rn_unk _), ⟨(rn_unk _), ⟨(rn_unk _), trivial⟩⟩⟩⟩⟩⟩⟩⟩ rfl (entl_new (use_own rfl) rfl (Nat.le_of_eq rfl) (rcs_int (fun _ _ => rfl) (rcs_int (fun _ _ => rfl) (rcs_bool (fun _ _ => rfl) rcs_nil))) (entl_bor (use_lo rfl) rfl rfl entl_nil))))
   (fun c7 h => stop_at hS _ h (fun n => bif Nat.beq n 1 then 1 else n) rfl rfl rfl ⟨(rn_loose (use_lo rfl) rfl rfl rfl), ⟨(rn_int rfl), ⟨(rn_own (use_own rfl) rfl rfl), ⟨(rn_int rfl), ⟨(rn_int rfl), ⟨(rn_int rfl), ⟨(rn_int rfl), ⟨(rn_int rfl), trivial⟩⟩⟩⟩⟩⟩⟩⟩ rfl (entl_new (use_own rfl) rfl (Nat.le_of_eq rfl) (rcs_int (fun _ _ => rfl) (rcs_int (fun _ _ => rfl) (rcs_bool (fun _ _ => rfl) rcs_nil))) (entl_bor (use_lo rfl) rfl rfl entl_nil))))
   (fun c6 h => no_some h)))
   (fun c5 h => no_some h))
   (fun c4 h => no_some h))
   (fun c3 h => no_some h)))
   (fun c1 h => no_some h))
   (fun c0 h => ret_at hR _ h (fun n => bif Nat.beq n 2 then 1 else n) rfl rfl rfl (rn_tup ⟨(rn_own (use_own rfl) rfl rfl), (rn_int rfl), trivial⟩) rfl (entl_new (use_own rfl) rfl (Nat.le_of_eq rfl) (rcs_int (fun _ _ => rfl) (rcs_int (fun _ _ => rfl) (rcs_bool (fun _ _ => rfl) rcs_nil))) (entl_bor (use_lo rfl) rfl rfl entl_nil)))
set_option maxRecDepth 100000 in
theorem b33_1 (al nl ml : Nat) (tl : Nat → Int) (vl : Nat → Int) (gl : Nat → Bool) (k : Int) (Kst : KS) (Kret : KR) (x : St33 ⊕ Rt33) (hS : HS 1 400 ((I33 al nl ml tl vl gl k)) Kst x) (hR : HR 1 400 ((V33 al nl ml tl vl gl k)) (fun r => [newL (1 + 1) ((N33 al nl ml tl vl gl k) r) ++ [(0, (false, .cols ml [.int .i64 tl, .int .i64 vl, .bool gl]))]]) Kret x) (x0 : Int) (x1 : Int) (x2 : Int) (x3 : Int) (x4 : Int) (x5 : List (Int × Int × Bool)) (h : (bif (decide (x4 < x1))
 then (bif (decide ((0 : Int) ≤ x4 ∧ x4 < (↑nl : Int)))
 then (bif (decide (Int.toNat x4 + al < ml))
 then (bif (decide ((0 : Int) ≤ x2 ∧ x2 < (↑nl : Int)))
 then (bif (decide (Int.toNat x2 + al < ml))
 then (bif (decide (vl (Int.toNat x4 + al) < vl (Int.toNat x2 + al)))
 then (bif (decide ((0 : Int) ≤ x3 ∧ x3 < (↑nl : Int)))
 then (bif (decide (Int.toNat x3 + al < ml))
 then (bif (decide (vl (Int.toNat x4 + al) > vl (Int.toNat x3 + al)))
 then (bif (lim IntKind.i64 (x4 + (1 : Int)))
 then (some (.inl (.h1 (x0) (x1) (x4) (x4) (x4 + (1 : Int)) (x5))))
 else (none))
 else (bif (lim IntKind.i64 (x4 + (1 : Int)))
 then (some (.inl (.h1 (x0) (x1) (x4) (x3) (x4 + (1 : Int)) (x5))))
 else (none)))
 else (none))
 else (none))
 else (bif (decide ((0 : Int) ≤ x3 ∧ x3 < (↑nl : Int)))
 then (bif (decide (Int.toNat x3 + al < ml))
 then (bif (decide (vl (Int.toNat x4 + al) > vl (Int.toNat x3 + al)))
 then (bif (lim IntKind.i64 (x4 + (1 : Int)))
 then (some (.inl (.h1 (x0) (x1) (x2) (x4) (x4 + (1 : Int)) (x5))))
 else (none))
 else (bif (lim IntKind.i64 (x4 + (1 : Int)))
 then (some (.inl (.h1 (x0) (x1) (x2) (x3) (x4 + (1 : Int)) (x5))))
 else (none)))
 else (none))
 else (none)))
 else (none))
 else (none))
 else (none))
 else (none))
 else (bif (decide ((0 : Int) ≤ Min.min x2 x3 ∧ Min.min x2 x3 < (↑nl : Int)))
 then (bif (decide (Int.toNat (Min.min x2 x3) + al < ml))
 then (bif (decide (List.length x5 + 1 ≤ 1000000))
 then (bif (decide (List.length x5 ≤ List.length x5))
 then (bif (x2 != x3)
 then (bif (decide ((0 : Int) ≤ Max.max x2 x3 ∧ Max.max x2 x3 < (↑nl : Int)))
 then (bif (decide (Int.toNat (Max.max x2 x3) + al < ml))
 then (bif (decide (List.length x5 + 1 + 1 ≤ 1000000))
 then (bif (decide (List.length x5 + 1 ≤ List.length x5 + 1))
 then (bif (lim IntKind.i64 (x0 + (1 : Int)))
 then (some (.inl (.h0 (x0 + (1 : Int)) (S.snoc
 (S.snoc x5
 (tl (Int.toNat (Min.min x2 x3) + al), vl (Int.toNat (Min.min x2 x3) + al), gl (Int.toNat (Min.min x2 x3) + al)))
 (tl (Int.toNat (Max.max x2 x3) + al), vl (Int.toNat (Max.max x2 x3) + al), gl (Int.toNat (Max.max x2 x3) + al))))))
 else (none))
 else (none))
 else (none))
 else (none))
 else (none))
 else (bif (lim IntKind.i64 (x0 + (1 : Int)))
 then (some (.inl (.h0 (x0 + (1 : Int)) (S.snoc x5
 (tl (Int.toNat (Min.min x2 x3) + al), vl (Int.toNat (Min.min x2 x3) + al), gl (Int.toNat (Min.min x2 x3) + al))))))
 else (none)))
 else (none))
 else (none))
 else (none))
 else (none)) : Option (St33 ⊕ Rt33)) = some x) : T33_1 cond Kst Kret al nl ml tl vl gl k x0 x1 x2 x3 x4 x5 := by
  unfold T33_1
  exact bif_split h
   (fun c0 h => bif_split h
   (fun c1 h => bif_split h
   (fun c2 h => bif_split h
   (fun c3 h => bif_split h
   (fun c4 h => bif_split h
   (fun c5 h => cond_yes c1 (cond_yes c2 (bif_split h
   (fun c6 h => bif_split h
   (fun c7 h => bif_split h
   (fun c8 h => bif_split h
   (fun c9 h => stop_at hS _ h (fun n => bif Nat.beq n 1 then 1 else n) rfl rfl rfl ⟨(rn_loose (use_lo rfl) rfl rfl rfl), ⟨(rn_int rfl), ⟨(rn_own (use_own rfl) rfl rfl), ⟨(rn_int rfl), ⟨(rn_int rfl), ⟨(rn_int rfl), ⟨(rn_int rfl), ⟨(rn_int rfl), trivial⟩⟩⟩⟩⟩⟩⟩⟩ rfl (entl_new (use_own rfl) rfl (Nat.le_of_eq rfl) (rcs_int (fun _ _ => rfl) (rcs_int (fun _ _ => rfl) (rcs_bool (fun _ _ => rfl) rcs_nil))) (entl_bor (use_lo rfl) rfl rfl entl_nil)))
   (fun c9 h => no_some h))
   (fun c8 h => bif_split h
   (fun c9 h => stop_at hS _ h (fun n => bif Nat.beq n 1 then 1 else n) rfl rfl rfl ⟨(rn_loose (use_lo rfl) rfl rfl rfl), ⟨(rn_int rfl), ⟨(rn_own (use_own rfl) rfl rfl), ⟨(rn_int rfl), ⟨(rn_int rfl), ⟨(rn_int rfl), ⟨(rn_int rfl), ⟨(rn_int rfl), trivial⟩⟩⟩⟩⟩⟩⟩⟩ rfl (entl_new (use_own rfl) rfl (Nat.le_of_eq rfl) (rcs_int (fun _ _ => rfl) (rcs_int (fun _ _ => rfl) (rcs_bool (fun _ _ => rfl) rcs_nil))) (entl_bor (use_lo rfl) rfl rfl entl_nil)))
   (fun c9 h => no_some h)))
   (fun c7 h => no_some h))
   (fun c6 h => no_some h))))
   (fun c5 h => cond_yes c1 (cond_yes c2 (bif_split h
   (fun c6 h => bif_split h
   (fun c7 h => bif_split h
   (fun c8 h => bif_split h
   (fun c9 h => stop_at hS _ h (fun n => bif Nat.beq n 1 then 1 else n) rfl rfl rfl ⟨(rn_loose (use_lo rfl) rfl rfl rfl), ⟨(rn_int rfl), ⟨(rn_own (use_own rfl) rfl rfl), ⟨(rn_int rfl), ⟨(rn_int rfl), ⟨(rn_int rfl), ⟨(rn_int rfl), ⟨(rn_int rfl), trivial⟩⟩⟩⟩⟩⟩⟩⟩ rfl (entl_new (use_own rfl) rfl (Nat.le_of_eq rfl) (rcs_int (fun _ _ => rfl) (rcs_int (fun _ _ => rfl) (rcs_bool (fun _ _ => rfl) rcs_nil))) (entl_bor (use_lo rfl) rfl rfl entl_nil)))
   (fun c9 h => no_some h))
   (fun c8 h => bif_split h
   (fun c9 h => stop_at hS _ h (fun n => bif Nat.beq n 1 then 1 else n) rfl rfl rfl ⟨(rn_loose (use_lo rfl) rfl rfl rfl), ⟨(rn_int rfl), ⟨(rn_own (use_own rfl) rfl rfl), ⟨(rn_int rfl), ⟨(rn_int rfl), ⟨(rn_int rfl), ⟨(rn_int rfl), ⟨(rn_int rfl), trivial⟩⟩⟩⟩⟩⟩⟩⟩ rfl (entl_new (use_own rfl) rfl (Nat.le_of_eq rfl) (rcs_int (fun _ _ => rfl) (rcs_int (fun _ _ => rfl) (rcs_bool (fun _ _ => rfl) rcs_nil))) (entl_bor (use_lo rfl) rfl rfl entl_nil)))
   (fun c9 h => no_some h)))
   (fun c7 h => no_some h))
   (fun c6 h => no_some h)))))
   (fun c4 h => no_some h))
   (fun c3 h => no_some h))
   (fun c2 h => no_some h))
   (fun c1 h => no_some h))
   (fun c0 h => bif_split h
   (fun c1 h => bif_split h
   (fun c2 h => cond_yes c2 (cond_yes c2 (bif_split h
   (fun c3 h => bif_split h
   (fun c4 h => cond_yes rfl (bif_split h
   (fun c5 h => bif_split h
   (fun c6 h => bif_split h
   (fun c7 h => cond_yes c7 (cond_yes c7 (bif_split h
   (fun c8 h => bif_split h
   (fun c9 h => cond_yes rfl (bif_split h
   (fun c10 h => stop_at hS _ h (fun n => bif Nat.beq n 1 then 5 else n) rfl rfl rfl ⟨(rn_loose (use_lo rfl) rfl rfl rfl), ⟨(rn_int rfl), ⟨(rn_own (use_own rfl) rfl (snoc_len' (snoc_len' rfl))), ⟨(rn_int rfl), ⟨(rn_unk _), ⟨(rn_unk _), ⟨(rn_unk _), ⟨(rn_unk _), trivial⟩⟩⟩⟩⟩⟩⟩⟩ rfl (entl_new (use_own rfl) rfl (Nat.le_of_eq (snoc_len' (snoc_len' rfl))) (rcs_int (col_snoc' (fun (t : Int × Int × Bool) => t.1) (snoc_len' rfl) (col_snoc' (fun (t : Int × Int × Bool) => t.1) rfl (fun _ _ => rfl))) (rcs_int (col_snoc' (fun (t : Int × Int × Bool) => t.2.1) (snoc_len' rfl) (col_snoc' (fun (t : Int × Int × Bool) => t.2.1) rfl (fun _ _ => rfl))) (rcs_bool (col_snoc' (fun (t : Int × Int × Bool) => t.2.2) (snoc_len' rfl) (col_snoc' (fun (t : Int × Int × Bool) => t.2.2) rfl (fun _ _ => rfl))) rcs_nil))) (entl_bor (use_lo rfl) rfl rfl entl_nil)))
   (fun c10 h => no_some h)))
   (fun c9 h => no_some h))
   (fun c8 h => no_some h))))
   (fun c7 h => no_some h))
   (fun c6 h => no_some h))
   (fun c5 h => bif_split h
   (fun c6 h => stop_at hS _ h (fun n => bif Nat.beq n 1 then 3 else n) rfl rfl rfl ⟨(rn_loose (use_lo rfl) rfl rfl rfl), ⟨(rn_int rfl), ⟨(rn_own (use_own rfl) rfl (snoc_len' rfl)), ⟨(rn_int rfl), ⟨(rn_unk _), ⟨(rn_unk _), ⟨(rn_unk _), ⟨(rn_unk _), trivial⟩⟩⟩⟩⟩⟩⟩⟩ rfl (entl_new (use_own rfl) rfl (Nat.le_of_eq (snoc_len' rfl)) (rcs_int (col_snoc' (fun (t : Int × Int × Bool) => t.1) rfl (fun _ _ => rfl)) (rcs_int (col_snoc' (fun (t : Int × Int × Bool) => t.2.1) rfl (fun _ _ => rfl)) (rcs_bool (col_snoc' (fun (t : Int × Int × Bool) => t.2.2) rfl (fun _ _ => rfl)) rcs_nil))) (entl_bor (use_lo rfl) rfl rfl entl_nil)))
   (fun c6 h => no_some h))))
   (fun c4 h => no_some h))
   (fun c3 h => no_some h))))
   (fun c2 h => no_some h))
   (fun c1 h => no_some h))
theorem a33 (al nl ml : Nat) (tl : Nat → Int) (vl : Nat → Int) (gl : Nat → Bool) (k : Int) {r : Rt33} (h : Goes ((q33 al nl ml tl vl gl k)) ((p33 al nl ml tl vl gl k)) r) : CallR Try.prog 33 [.loose ⟨0, 3, al, 0⟩ nl, .int .i64 k] [[(0, (false, .cols ml [.int .i64 tl, .int .i64 vl, .bool gl]))]] 1 ((V33 al nl ml tl vl gl k) r) ((fun r => [newL (1 + 1) ((N33 al nl ml tl vl gl k) r) ++ [(0, (false, .cols ml [.int .i64 tl, .int .i64 vl, .bool gl]))]]) r) 400 ∧ ∃ F, Try.prog.funcs[33]? = some F ∧ F.body.isSome = true ∧ (F.name == "runtime.NumGoroutine") = false := by
  refine dec_calls (f := 33) (lo := 1) (hi := 400) (H := [[(0, (false, .cols ml [.int .i64 tl, .int .i64 vl, .bool gl]))]]) (args := [.loose ⟨0, 3, al, 0⟩ nl, .int .i64 k]) Try.envOk Try.mixed xK_ok ((I33 al nl ml tl vl gl k)) ((V33 al nl ml tl vl gl k)) (fun r => [newL (1 + 1) ((N33 al nl ml tl vl gl k) r) ++ [(0, (false, .cols ml [.int .i64 tl, .int .i64 vl, .bool gl]))]]) (fn := mkFn Try.f33) (ts := [0, 1, 7, 8, 10, 11, 12, 13]) (n := 400) rfl (by decide) (by simp) (names_of rfl) ?_ ?_ ?_ h
  · intro s; cases s <;> exact ⟨hd_ok _ _, by simp [I33], names_of rfl, Nat.le_of_ble_eq_true rfl⟩
  · intro Kst Kret x hS hR h
    exact Holds.eq (te33 cond Kst Kret al nl ml tl vl gl k) (be33 al nl ml tl vl gl k Kst Kret x hS hR h)
  · intro Kst Kret x hS hR s h
    cases s with
    | h0 x0 x1 => exact Holds.eq (t33_0 cond Kst Kret al nl ml tl vl gl k x0 x1) (b33_0 al nl ml tl vl gl k Kst Kret x hS hR x0 x1 h)
    | h1 x0 x1 x2 x3 x4 x5 => exact Holds.eq (t33_1 cond Kst Kret al nl ml tl vl gl k x0 x1 x2 x3 x4 x5) (b33_1 al nl ml tl vl gl k Kst Kret x hS hR x0 x1 x2 x3 x4 x5 h)
noncomputable def k33 : Con := ⟨33, [.one (.list [.int .i64, .int .i64, .bool]), .one (.plain (.int .i64))], fun (x : (Nat × Nat × Nat × (Nat → Int) × (Nat → Int) × (Nat → Bool) × Unit) × Int × Unit) => (fun (al nl ml : Nat) (tl : Nat → Int) (vl : Nat → Int) (gl : Nat → Bool) (k : Int) => decide (al + nl ≤ ml ∧ nl ≤ 1000000)) x.1.1 x.1.2.1 x.1.2.2.1 x.1.2.2.2.1 x.1.2.2.2.2.1 x.1.2.2.2.2.2.1 x.2.1, fun (x : (Nat × Nat × Nat × (Nat → Int) × (Nat → Int) × (Nat → Bool) × Unit) × Int × Unit) => (fun (al nl ml : Nat) (tl : Nat → Int) (vl : Nat → Int) (gl : Nat → Bool) (k : Int) => (V33 al nl ml tl vl gl k) (S.extR nl (fun j => tl (j + al)) (fun j => vl (j + al)) (fun j => gl (j + al)) k)) x.1.1 x.1.2.1 x.1.2.2.1 x.1.2.2.2.1 x.1.2.2.2.2.1 x.1.2.2.2.2.2.1 x.2.1, fun (x : (Nat × Nat × Nat × (Nat → Int) × (Nat → Int) × (Nat → Bool) × Unit) × Int × Unit) => (fun (al nl ml : Nat) (tl : Nat → Int) (vl : Nat → Int) (gl : Nat → Bool) (k : Int) => (N33 al nl ml tl vl gl k) (S.extR nl (fun j => tl (j + al)) (fun j => vl (j + al)) (fun j => gl (j + al)) k)) x.1.1 x.1.2.1 x.1.2.2.1 x.1.2.2.2.1 x.1.2.2.2.2.1 x.1.2.2.2.2.2.1 x.2.1⟩
set_option maxHeartbeats 2000000 in
theorem i33 (al nl ml : Nat) (tl : Nat → Int) (vl : Nat → Int) (gl : Nat → Bool) (k : Int) (hp : al + nl ≤ ml) (hn : nl ≤ 400) (p fm to : Nat) (hto : to ≤ nl) (hp2 : p ≤ 200) (A : List Row) (hA : A.length ≤ 1000) {r : Rt33} : ∀ (d i lo hi : Nat), i + d = to → fm ≤ i → fm < to → fm ≤ lo → fm ≤ hi → lo ≤ i → hi ≤ i → lo < to → hi < to → Comes (q33 al nl ml tl vl gl k) (.h0 ((p + 1 : Nat) : Int) (S.addP (fun j => (tl (j + al), vl (j + al), gl (j + al))) A (S.ext (fun j => vl (j + al)) i d lo hi))) r →
    Comes (q33 al nl ml tl vl gl k) (.h1 (p : Int) (to : Int) (lo : Int) (hi : Int) (i : Int) A) r := by
  intro d
  induction d with
  | zero =>
    intro i lo hi h1 h2 h3 h4 h5 h6 h7 h8 h9 hk
    obtain rfl : i = to := by omega
    simp only [S.ext] at hk
    apply Comes.of
    unfold S.addP at hk
    by_cases he : lo = hi
    · subst he
      simp only [if_true] at hk
      show Goes _ _ _
      unfold q33
      repeat' first
        | with_reducible refine goes_if (fun h => ?_) (fun h => ?_) <;> (try simp only [lim64, decide_eq_true_eq, decide_eq_false_iff_not, Int.toNat_natCast, toNat_pred, toNat_succ, Option.getD_some, Option.getD_none, Bool.not_eq_true', Bool.not_eq_false', Bool.and_eq_true, Bool.or_eq_true, Bool.and_eq_false_iff, Bool.or_eq_false_iff, bne_iff_ne, beq_iff_eq, bne_eq_false_iff_eq, beq_eq_false_iff_ne, ne_eq, not_and, Int.not_le, Int.not_lt, ge_iff_le, gt_iff_lt, Nat.not_lt, Nat.not_le, Bool.not_eq_true, Bool.not_eq_false, Bool.true_eq_false, Bool.false_eq_true, not_false_eq_true, not_true_eq_false, eq_self, Int.min_self, Int.max_self] at h)
        | exact goes_none.mpr (by omega)
      all_goals first | (exfalso; omega) | exact hk | (simp only [Int.min_self, Int.toNat_natCast]; exact hk)
    · simp only [he, if_false] at hk
      show Goes _ _ _
      unfold q33
      repeat' first
        | with_reducible refine goes_if (fun h => ?_) (fun h => ?_) <;> (try simp only [lim64, decide_eq_true_eq, decide_eq_false_iff_not, Int.toNat_natCast, toNat_pred, toNat_succ, Option.getD_some, Option.getD_none, Bool.not_eq_true', Bool.not_eq_false', Bool.and_eq_true, Bool.or_eq_true, Bool.and_eq_false_iff, Bool.or_eq_false_iff, bne_iff_ne, beq_iff_eq, bne_eq_false_iff_eq, beq_eq_false_iff_ne, ne_eq, not_and, Int.not_le, Int.not_lt, ge_iff_le, gt_iff_lt, Nat.not_lt, Nat.not_le, Bool.not_eq_true, Bool.not_eq_false, Bool.true_eq_false, Bool.false_eq_true, not_false_eq_true, not_true_eq_false, eq_self] at h)
        | exact goes_none.mpr (by omega)
      all_goals first | (exfalso; omega) | (rw [show min (lo : Int) (hi : Int) = ((min lo hi : Nat) : Int) by omega, show max (lo : Int) (hi : Int) = ((max lo hi : Nat) : Int) by omega]; exact hk)
  | succ d ih =>
    intro i lo hi h1 h2 h3 h4 h5 h6 h7 h8 h9 hk
    have ih := ih (i + 1) (if vl (i + al) < vl (lo + al) then i else lo) (if vl (i + al) > vl (hi + al) then i else hi) (by omega) (by omega) (by omega) (by split <;> omega) (by split <;> omega) (by split <;> omega) (by split <;> omega) (by split <;> omega) (by split <;> omega) hk
    by_cases c1 : vl (i + al) < vl (lo + al) <;> by_cases c2 : vl (i + al) > vl (hi + al) <;> simp only [c1, c2, if_true, if_false] at ih <;> (
    apply Comes.of
    show Goes _ _ _
    unfold q33
    repeat' first
      | with_reducible refine goes_if (fun h => ?_) (fun h => ?_) <;> (try simp only [lim64, decide_eq_true_eq, decide_eq_false_iff_not, Int.toNat_natCast, toNat_pred, toNat_succ, Option.getD_some, Option.getD_none, Bool.not_eq_true', Bool.not_eq_false', Bool.and_eq_true, Bool.or_eq_true, Bool.and_eq_false_iff, Bool.or_eq_false_iff, bne_iff_ne, beq_iff_eq, bne_eq_false_iff_eq, beq_eq_false_iff_ne, ne_eq, not_and, Int.not_le, Int.not_lt, ge_iff_le, gt_iff_lt, Nat.not_lt, Nat.not_le, Bool.not_eq_true, Bool.not_eq_false, Bool.true_eq_false, Bool.false_eq_true, not_false_eq_true, not_true_eq_false, eq_self] at h)
      | exact goes_none.mpr (by omega)
    all_goals first
      | (exfalso; omega)
      | exact ih)
inductive St31 where
  | h0 (x0 : Int) (x1 : List (Int × Int × Bool))
  | h1 (x0 : Nat) (x1 : Nat) (x2 : Int) (x3 : Int) (x4 : Int) (x5 : Nat) (x6 : Nat) (x7 : Int) (x8 : Int) (x9 : List (Int × Int × Bool))
abbrev Rt31 := Int × List (Int × Int × Bool)
noncomputable def V31 (al nl ml : Nat) (tl : Nat → Int) (vl : Nat → Int) (gl : Nat → Bool) (k : Int) (r : Rt31) : PV := PV.tup [PV.own (2) (3) (List.length r.2), PV.int IntKind.i64 r.1]
noncomputable def N31 (al nl ml : Nat) (tl : Nat → Int) (vl : Nat → Int) (gl : Nat → Bool) (k : Int) (r : Rt31) : List Blk := [Blk.cols (List.length r.2)
 [Col.int IntKind.i64 fun (j : Nat) => (S.at' r.2 j).1,
 Col.int IntKind.i64 fun (j : Nat) => (S.at' r.2 j).2.1,
 Col.bool fun (j : Nat) => (S.at' r.2 j).2.2]]
noncomputable def I31 (al nl ml : Nat) (tl : Nat → Int) (vl : Nat → Int) (gl : Nat → Bool) (k : Int) : St31 → Hd
  | .h0 x0 x1 => ⟨hd Try.f31 0, [PV.loose (PA.mk (0) (3) al (0)) nl, PV.int IntKind.i64 k,
 PV.own (1) (3) (List.length x1), PV.unk, PV.unk, PV.unk,
 PV.int IntKind.i64 k, PV.int IntKind.i64 x0, PV.unk, PV.unk, PV.unk], [[(1, (true, Blk.cols (List.length x1)
 [Col.int IntKind.i64 fun (j : Nat) => (S.at' x1 j).1,
 Col.int IntKind.i64 fun (j : Nat) => (S.at' x1 j).2.1,
 Col.bool fun (j : Nat) => (S.at' x1 j).2.2]))], [(0, (false, .cols ml [.int .i64 tl, .int .i64 vl, .bool gl]))]], 2⟩
  | .h1 x0 x1 x2 x3 x4 x5 x6 x7 x8 x9 => ⟨hd Try.f31 1, [PV.loose (PA.mk (0) (3) al (0)) nl, PV.int IntKind.i64 k,
 PV.own (1) (3) (List.length x9),
 PV.loose (PA.mk (0) (3) x0 (0)) x1, PV.int IntKind.i64 x2,
 PV.int IntKind.i64 x3, PV.int IntKind.i64 k, PV.int IntKind.i64 x4,
 PV.loose (PA.mk (0) (3) x5 (0)) x6, PV.int IntKind.i64 x7,
 PV.int IntKind.i64 x8], [[(1, (true, Blk.cols (List.length x9)
 [Col.int IntKind.i64 fun (j : Nat) => (S.at' x9 j).1,
 Col.int IntKind.i64 fun (j : Nat) => (S.at' x9 j).2.1,
 Col.bool fun (j : Nat) => (S.at' x9 j).2.2]))], [(0, (false, .cols ml [.int .i64 tl, .int .i64 vl, .bool gl]))]], 2⟩
noncomputable def q31 (al nl ml : Nat) (tl : Nat → Int) (vl : Nat → Int) (gl : Nat → Bool) (k : Int) : St31 → Option (St31 ⊕ Rt31)
  | .h0 x0 x1 => bif (decide (x0 < k))
 then (bif (lim IntKind.i64 (x0 * (↑nl : Int)))
 then (bif (decide (k = (0 : Int)))
 then (none)
 else (bif (lim IntKind.i64 (Int.tdiv (x0 * (↑nl : Int)) k))
 then (bif (lim IntKind.i64 (x0 + (1 : Int)))
 then (bif (lim IntKind.i64 ((x0 + (1 : Int)) * (↑nl : Int)))
 then (bif (lim IntKind.i64 (Int.tdiv ((x0 + (1 : Int)) * (↑nl : Int)) k))
 then (bif (decide
 ((0 : Int) ≤ Int.tdiv (x0 * (↑nl : Int)) k ∧
 Int.tdiv (x0 * (↑nl : Int)) k ≤ Int.tdiv ((x0 + (1 : Int)) * (↑nl : Int)) k ∧
 Int.tdiv ((x0 + (1 : Int)) * (↑nl : Int)) k ≤ (↑nl : Int)))
 then (bif ((↑(Int.toNat (Int.tdiv ((x0 + (1 : Int)) * (↑nl : Int)) k) - Int.toNat (Int.tdiv (x0 * (↑nl : Int)) k)) : Int) ==
 (0 : Int))
 then (some (.inl (.h0 (x0 + (1 : Int)) (x1))))
 else (some (.inl (.h1 (Int.toNat (Int.tdiv (x0 * (↑nl : Int)) k) + al) (Int.toNat (Int.tdiv ((x0 + (1 : Int)) * (↑nl : Int)) k) - Int.toNat (Int.tdiv (x0 * (↑nl : Int)) k)) ((0 : Int)) ((0 : Int)) (x0) (Int.toNat (Int.tdiv (x0 * (↑nl : Int)) k) + al) (Int.toNat (Int.tdiv ((x0 + (1 : Int)) * (↑nl : Int)) k) - Int.toNat (Int.tdiv (x0 * (↑nl : Int)) k)) ((↑(Int.toNat (Int.tdiv ((x0 + (1 : Int)) * (↑nl : Int)) k) - Int.toNat (Int.tdiv (x0 * (↑nl : Int)) k)) : Int)) ((0 : Int)) (x1)))))
 else (none))
 else (none))
 else (none))
 else (none))
 else (none)))
 else (none))
 else (some (.inr ((0 : Int), x1)))
  | .h1 x0 x1 x2 x3 x4 x5 x6 x7 x8 x9 => bif (decide (x8 < x7))
 then (bif (decide ((0 : Int) ≤ x8 ∧ x8 < (↑x6 : Int)))
 then (bif (decide (Int.toNat x8 + x5 < ml))
 then (bif (decide ((0 : Int) ≤ x2 ∧ x2 < (↑x1 : Int)))
 then (bif (decide (Int.toNat x2 + x0 < ml))
 then (bif (decide (vl (Int.toNat x8 + x5) < vl (Int.toNat x2 + x0)))
 then (bif (decide ((0 : Int) ≤ x3 ∧ x3 < (↑x1 : Int)))
 then (bif (decide (Int.toNat x3 + x0 < ml))
 then (bif (decide (vl (Int.toNat x8 + x5) > vl (Int.toNat x3 + x0)))
 then (bif (lim IntKind.i64 (x8 + (1 : Int)))
 then (some (.inl (.h1 (x0) (x1) (x8) (x8) (x4) (x5) (x6) (x7) (x8 + (1 : Int)) (x9))))
 else (none))
 else (bif (lim IntKind.i64 (x8 + (1 : Int)))
 then (some (.inl (.h1 (x0) (x1) (x8) (x3) (x4) (x5) (x6) (x7) (x8 + (1 : Int)) (x9))))
 else (none)))
 else (none))
 else (none))
 else (bif (decide ((0 : Int) ≤ x3 ∧ x3 < (↑x1 : Int)))
 then (bif (decide (Int.toNat x3 + x0 < ml))
 then (bif (decide (vl (Int.toNat x8 + x5) > vl (Int.toNat x3 + x0)))
 then (bif (lim IntKind.i64 (x8 + (1 : Int)))
 then (some (.inl (.h1 (x0) (x1) (x2) (x8) (x4) (x5) (x6) (x7) (x8 + (1 : Int)) (x9))))
 else (none))
 else (bif (lim IntKind.i64 (x8 + (1 : Int)))
 then (some (.inl (.h1 (x0) (x1) (x2) (x3) (x4) (x5) (x6) (x7) (x8 + (1 : Int)) (x9))))
 else (none)))
 else (none))
 else (none)))
 else (none))
 else (none))
 else (none))
 else (none))
 else (bif (decide ((0 : Int) ≤ Min.min x2 x3 ∧ Min.min x2 x3 < (↑x1 : Int)))
 then (bif (decide (Int.toNat (Min.min x2 x3) + x0 < ml))
 then (bif (decide (List.length x9 + 1 ≤ 1000000))
 then (bif (decide (List.length x9 ≤ List.length x9))
 then (bif (x2 != x3)
 then (bif (decide ((0 : Int) ≤ Max.max x2 x3 ∧ Max.max x2 x3 < (↑x1 : Int)))
 then (bif (decide (Int.toNat (Max.max x2 x3) + x0 < ml))
 then (bif (decide (List.length x9 + 1 + 1 ≤ 1000000))
 then (bif (decide (List.length x9 + 1 ≤ List.length x9 + 1))
 then (bif (lim IntKind.i64 (x4 + (1 : Int)))
 then (some (.inl (.h0 (x4 + (1 : Int)) (S.snoc
 (S.snoc x9
 (tl (Int.toNat (Min.min x2 x3) + x0), vl (Int.toNat (Min.min x2 x3) + x0), gl (Int.toNat (Min.min x2 x3) + x0)))
 (tl (Int.toNat (Max.max x2 x3) + x0), vl (Int.toNat (Max.max x2 x3) + x0), gl (Int.toNat (Max.max x2 x3) + x0))))))
 else (none))
 else (none))
 else (none))
 else (none))
 else (none))
 else (bif (lim IntKind.i64 (x4 + (1 : Int)))
 then (some (.inl (.h0 (x4 + (1 : Int)) (S.snoc x9
 (tl (Int.toNat (Min.min x2 x3) + x0), vl (Int.toNat (Min.min x2 x3) + x0), gl (Int.toNat (Min.min x2 x3) + x0))))))
 else (none)))
 else (none))
 else (none))
 else (none))
 else (none))
noncomputable def p31 (al nl ml : Nat) (tl : Nat → Int) (vl : Nat → Int) (gl : Nat → Bool) (k : Int) : Option (St31 ⊕ Rt31) := bif (decide ((↑nl : Int) > (400 : Int)))
 then (some (.inr ((3 : Int), [])))
 else (bif (decide (al + nl ≤ ml ∧ nl ≤ 1000000))
 then (bif (S.errS (fun (j : Nat) => tl (j + al)) (fun (j : Nat) => vl (j + al)) (0) nl != (0 : Int))
 then (some (.inr (S.errS (fun (j : Nat) => tl (j + al)) (fun (j : Nat) => vl (j + al)) (0) nl, [])))
 else (bif (decide (k ≥ (1 : Int)))
 then (bif (decide (k ≤ (200 : Int)))
 then (some (.inl (.h0 ((0 : Int)) ([]))))
 else (some (.inr ((6 : Int), []))))
 else (some (.inr ((6 : Int), [])))))
 else (none))
noncomputable def Te31 (test : Bool → Prop → Prop → Prop) (Kst : KS) (Kret : KR) (al nl ml : Nat) (tl : Nat → Int) (vl : Nat → Int) (gl : Nat → Bool) (k : Int) : Prop :=
  test (decide ((↑nl : Int) > (400 : Int)))
 (Kret (PV.tup [PV.nils, PV.int IntKind.i64 (3 : Int)]) ([[(0, false,
 Blk.cols ml [Col.int IntKind.i64 tl, Col.int IntKind.i64 vl, Col.bool gl])]]) (1))
 (test (decide (al + nl ≤ ml ∧ nl ≤ 1000000))
 (test (S.errS (fun (j : Nat) => tl (j + al)) (fun (j : Nat) => vl (j + al)) (0) nl != (0 : Int))
 (Kret (PV.tup
 [PV.nils,
 PV.int IntKind.i64
 (S.errS (fun (j : Nat) => tl (j + al)) (fun (j : Nat) => vl (j + al)) (0) nl)]) ([[(0, false,
 Blk.cols ml [Col.int IntKind.i64 tl, Col.int IntKind.i64 vl, Col.bool gl])]]) (2))
 (test (decide (k ≥ (1 : Int)))
 (test (decide (k ≤ (200 : Int)))
 (Kst (hd Try.f31 0) ([PV.loose (PA.mk (0) (3) al (0)) nl, PV.int IntKind.i64 k, PV.nils,
 PV.unk, PV.unk, PV.unk, PV.int IntKind.i64 k, PV.int IntKind.i64 (0 : Int),
 PV.unk, PV.unk, PV.unk]) ([[(0, false,
 Blk.cols ml [Col.int IntKind.i64 tl, Col.int IntKind.i64 vl, Col.bool gl])]]) (2))
 (Kret (PV.tup [PV.nils, PV.int IntKind.i64 (6 : Int)]) ([[(0, false,
 Blk.cols ml [Col.int IntKind.i64 tl, Col.int IntKind.i64 vl, Col.bool gl])]]) (2)))
 (Kret (PV.tup [PV.nils, PV.int IntKind.i64 (6 : Int)]) ([[(0, false,
 Blk.cols ml [Col.int IntKind.i64 tl, Col.int IntKind.i64 vl, Col.bool gl])]]) (2))))
 (False))
set_option maxRecDepth 100000 in
theorem te31 (test : Bool → Prop → Prop → Prop) (Kst : KS) (Kret : KR) (al nl ml : Nat) (tl : Nat → Int) (vl : Nat → Int) (gl : Nat → Bool) (k : Int) : run test Try.env true (xK test) true 400 ⟨31, [.cd (mkFn Try.f31).body], argT 0 [.loose ⟨0, 3, al, 0⟩ nl, .int .i64 k], [[], [(0, (false, .cols ml [.int .i64 tl, .int .i64 vl, .bool gl]))]], 1⟩ (proj 1 [0, 1, 7, 9, 10, 11, 25, 26, 47, 48, 49] Kst Kret) =
  Te31 test Kst Kret al nl ml tl vl gl k := by kernel_rfl
noncomputable def T31_0 (test : Bool → Prop → Prop → Prop) (Kst : KS) (Kret : KR) (al nl ml : Nat) (tl : Nat → Int) (vl : Nat → Int) (gl : Nat → Bool) (k : Int) (x0 : Int) (x1 : List (Int × Int × Bool)) : Prop :=
  test (decide (x0 < k))
 (test (lim IntKind.i64 (x0 * (↑nl : Int)))
 (test (decide (k = (0 : Int)))
 (False)
 (test (lim IntKind.i64 (Int.tdiv (x0 * (↑nl : Int)) k))
 (test (lim IntKind.i64 (x0 + (1 : Int)))
 (test (lim IntKind.i64 ((x0 + (1 : Int)) * (↑nl : Int)))
 (test (decide (k = (0 : Int)))
 (False)
 (test (lim IntKind.i64 (Int.tdiv ((x0 + (1 : Int)) * (↑nl : Int)) k))
 (test (decide
 ((0 : Int) ≤ Int.tdiv (x0 * (↑nl : Int)) k ∧
 Int.tdiv (x0 * (↑nl : Int)) k ≤ Int.tdiv ((x0 + (1 : Int)) * (↑nl : Int)) k ∧
 Int.tdiv ((x0 + (1 : Int)) * (↑nl : Int)) k ≤ (↑nl : Int)))
 (test ((↑(Int.toNat (Int.tdiv ((x0 + (1 : Int)) * (↑nl : Int)) k) - Int.toNat (Int.tdiv (x0 * (↑nl : Int)) k)) : Int) ==
 (0 : Int))
 (test (lim IntKind.i64 (x0 + (1 : Int)))
 (Kst (hd Try.f31 0) ([PV.loose (PA.mk (0) (3) al (0)) nl, PV.int IntKind.i64 k,
 PV.own (1) (3) (List.length x1),
 PV.loose (PA.mk (0) (3) (Int.toNat (Int.tdiv (x0 * (↑nl : Int)) k) + al) (0))
 (Int.toNat (Int.tdiv ((x0 + (1 : Int)) * (↑nl : Int)) k) - Int.toNat (Int.tdiv (x0 * (↑nl : Int)) k)),
 PV.unk, PV.unk, PV.int IntKind.i64 k, PV.int IntKind.i64 (x0 + (1 : Int)), PV.unk,
 PV.unk, PV.unk]) ([[(0, false,
 Blk.cols ml [Col.int IntKind.i64 tl, Col.int IntKind.i64 vl, Col.bool gl]),
 (1, true,
 Blk.cols (List.length x1)
 [Col.int IntKind.i64 fun (j : Nat) => (S.at' x1 j).1,
 Col.int IntKind.i64 fun (j : Nat) => (S.at' x1 j).2.1,
 Col.bool fun (j : Nat) => (S.at' x1 j).2.2])]]) (2))
 (False))
 (Kst (hd Try.f31 1) ([PV.loose (PA.mk (0) (3) al (0)) nl, PV.int IntKind.i64 k,
 PV.own (1) (3) (List.length x1),
 PV.loose (PA.mk (0) (3) (Int.toNat (Int.tdiv (x0 * (↑nl : Int)) k) + al) (0))
 (Int.toNat (Int.tdiv ((x0 + (1 : Int)) * (↑nl : Int)) k) - Int.toNat (Int.tdiv (x0 * (↑nl : Int)) k)),
 PV.int IntKind.i64 (0 : Int), PV.int IntKind.i64 (0 : Int), PV.int IntKind.i64 k,
 PV.int IntKind.i64 x0,
 PV.loose (PA.mk (0) (3) (Int.toNat (Int.tdiv (x0 * (↑nl : Int)) k) + al) (0))
 (Int.toNat (Int.tdiv ((x0 + (1 : Int)) * (↑nl : Int)) k) - Int.toNat (Int.tdiv (x0 * (↑nl : Int)) k)),
 PV.int IntKind.i64
 (↑(Int.toNat (Int.tdiv ((x0 + (1 : Int)) * (↑nl : Int)) k) - Int.toNat (Int.tdiv (x0 * (↑nl : Int)) k)) : Int),
 PV.int IntKind.i64 (0 : Int)]) ([[(0, false,
 Blk.cols ml [Col.int IntKind.i64 tl, Col.int IntKind.i64 vl, Col.bool gl]),
 (1, true,
 Blk.cols (List.length x1)
 [Col.int IntKind.i64 fun (j : Nat) => (S.at' x1 j).1,
 Col.int IntKind.i64 fun (j : Nat) => (S.at' x1 j).2.1,
 Col.bool fun (j : Nat) => (S.at' x1 j).2.2])]]) (2)))
 (False))
 (False)))
 (False))
 (False))
 (False)))
 (False))
 (Kret (PV.tup [PV.own (1) (3) (List.length x1), PV.int IntKind.i64 (0 : Int)]) ([[(0, false,
 Blk.cols ml [Col.int IntKind.i64 tl, Col.int IntKind.i64 vl, Col.bool gl]),
 (1, true,
 Blk.cols (List.length x1)
 [Col.int IntKind.i64 fun (j : Nat) => (S.at' x1 j).1,
 Col.int IntKind.i64 fun (j : Nat) => (S.at' x1 j).2.1,
 Col.bool fun (j : Nat) => (S.at' x1 j).2.2])]]) (2))
set_option maxRecDepth 100000 in
theorem t31_0 (test : Bool → Prop → Prop → Prop) (Kst : KS) (Kret : KR) (al nl ml : Nat) (tl : Nat → Int) (vl : Nat → Int) (gl : Nat → Bool) (k : Int) (x0 : Int) (x1 : List (Int × Int × Bool)) : run test Try.env true (xK test) true 400 ⟨31, hd Try.f31 0, zipT [0, 1, 7, 9, 10, 11, 25, 26, 47, 48, 49] [PV.loose (PA.mk (0) (3) al (0)) nl, PV.int IntKind.i64 k,
 PV.own (1) (3) (List.length x1), PV.unk, PV.unk, PV.unk,
 PV.int IntKind.i64 k, PV.int IntKind.i64 x0, PV.unk, PV.unk, PV.unk], [[(1, (true, Blk.cols (List.length x1)
 [Col.int IntKind.i64 fun (j : Nat) => (S.at' x1 j).1,
 Col.int IntKind.i64 fun (j : Nat) => (S.at' x1 j).2.1,
 Col.bool fun (j : Nat) => (S.at' x1 j).2.2]))], [(0, (false, .cols ml [.int .i64 tl, .int .i64 vl, .bool gl]))]], 2⟩ (proj 1 [0, 1, 7, 9, 10, 11, 25, 26, 47, 48, 49] Kst Kret) =
  T31_0 test Kst Kret al nl ml tl vl gl k x0 x1 := by kernel_rfl
noncomputable def T31_1 (test : Bool → Prop → Prop → Prop) (Kst : KS) (Kret : KR) (al nl ml : Nat) (tl : Nat → Int) (vl : Nat → Int) (gl : Nat → Bool) (k : Int) (x0 : Nat) (x1 : Nat) (x2 : Int) (x3 : Int) (x4 : Int) (x5 : Nat) (x6 : Nat) (x7 : Int) (x8 : Int) (x9 : List (Int × Int × Bool)) : Prop :=
  test (decide (x8 < x7))
 (test (decide ((0 : Int) ≤ x8 ∧ x8 < (↑x6 : Int)))
 (test (decide (Int.toNat x8 + x5 < ml))
 (test (decide (Int.toNat x8 + x5 < ml))
 (test (decide (Int.toNat x8 + x5 < ml))
 (test (decide ((0 : Int) ≤ x2 ∧ x2 < (↑x1 : Int)))
 (test (decide (Int.toNat x2 + x0 < ml))
 (test (decide (vl (Int.toNat x8 + x5) < vl (Int.toNat x2 + x0)))
 (test (decide ((0 : Int) ≤ x3 ∧ x3 < (↑x1 : Int)))
 (test (decide (Int.toNat x3 + x0 < ml))
 (test (decide (vl (Int.toNat x8 + x5) > vl (Int.toNat x3 + x0)))
 (test (lim IntKind.i64 (x8 + (1 : Int)))
 (Kst (hd Try.f31 1) ([PV.loose (PA.mk (0) (3) al (0)) nl, PV.int IntKind.i64 k,
 PV.own (1) (3) (List.length x9),
 PV.loose (PA.mk (0) (3) x0 (0)) x1, PV.int IntKind.i64 x8,
 PV.int IntKind.i64 x8, PV.int IntKind.i64 k, PV.int IntKind.i64 x4,
 PV.loose (PA.mk (0) (3) x5 (0)) x6, PV.int IntKind.i64 x7,
 PV.int IntKind.i64 (x8 + (1 : Int))]) ([[(0, false,
 Blk.cols ml [Col.int IntKind.i64 tl, Col.int IntKind.i64 vl, Col.bool gl]),
 (1, true,
 Blk.cols (List.length x9)
 [Col.int IntKind.i64 fun (j : Nat) => (S.at' x9 j).1,
 Col.int IntKind.i64 fun (j : Nat) => (S.at' x9 j).2.1,
 Col.bool fun (j : Nat) => (S.at' x9 j).2.2])]]) (3))
 (False))
 (test (lim IntKind.i64 (x8 + (1 : Int)))
 (Kst (hd Try.f31 1) ([PV.loose (PA.mk (0) (3) al (0)) nl, PV.int IntKind.i64 k,
 PV.own (1) (3) (List.length x9),
 PV.loose (PA.mk (0) (3) x0 (0)) x1, PV.int IntKind.i64 x8,
 PV.int IntKind.i64 x3, PV.int IntKind.i64 k, PV.int IntKind.i64 x4,
 PV.loose (PA.mk (0) (3) x5 (0)) x6, PV.int IntKind.i64 x7,
 PV.int IntKind.i64 (x8 + (1 : Int))]) ([[(0, false,
 Blk.cols ml [Col.int IntKind.i64 tl, Col.int IntKind.i64 vl, Col.bool gl]),
 (1, true,
 Blk.cols (List.length x9)
 [Col.int IntKind.i64 fun (j : Nat) => (S.at' x9 j).1,
 Col.int IntKind.i64 fun (j : Nat) => (S.at' x9 j).2.1,
 Col.bool fun (j : Nat) => (S.at' x9 j).2.2])]]) (3))
 (False)))
 (False))
 (False))
 (test (decide ((0 : Int) ≤ x3 ∧ x3 < (↑x1 : Int)))
 (test (decide (Int.toNat x3 + x0 < ml))
 (test (decide (vl (Int.toNat x8 + x5) > vl (Int.toNat x3 + x0)))
 (test (lim IntKind.i64 (x8 + (1 : Int)))
 (Kst (hd Try.f31 1) ([PV.loose (PA.mk (0) (3) al (0)) nl, PV.int IntKind.i64 k,
 PV.own (1) (3) (List.length x9),
 PV.loose (PA.mk (0) (3) x0 (0)) x1, PV.int IntKind.i64 x2,
 PV.int IntKind.i64 x8, PV.int IntKind.i64 k, PV.int IntKind.i64 x4,
 PV.loose (PA.mk (0) (3) x5 (0)) x6, PV.int IntKind.i64 x7,
 PV.int IntKind.i64 (x8 + (1 : Int))]) ([[(0, false,
 Blk.cols ml [Col.int IntKind.i64 tl, Col.int IntKind.i64 vl, Col.bool gl]),
 (1, true,
 Blk.cols (List.length x9)
 [Col.int IntKind.i64 fun (j : Nat) => (S.at' x9 j).1,
 Col.int IntKind.i64 fun (j : Nat) => (S.at' x9 j).2.1,
 Col.bool fun (j : Nat) => (S.at' x9 j).2.2])]]) (3))
 (False))
 (test (lim IntKind.i64 (x8 + (1 : Int)))
 (Kst (hd Try.f31 1) ([PV.loose (PA.mk (0) (3) al (0)) nl, PV.int IntKind.i64 k,
 PV.own (1) (3) (List.length x9),
 PV.loose (PA.mk (0) (3) x0 (0)) x1, PV.int IntKind.i64 x2,
 PV.int IntKind.i64 x3, PV.int IntKind.i64 k, PV.int IntKind.i64 x4,
 PV.loose (PA.mk (0) (3) x5 (0)) x6, PV.int IntKind.i64 x7,
 PV.int IntKind.i64 (x8 + (1 : Int))]) ([[(0, false,
 Blk.cols ml [Col.int IntKind.i64 tl, Col.int IntKind.i64 vl, Col.bool gl]),
 (1, true,
 Blk.cols (List.length x9)
 [Col.int IntKind.i64 fun (j : Nat) => (S.at' x9 j).1,
 Col.int IntKind.i64 fun (j : Nat) => (S.at' x9 j).2.1,
 Col.bool fun (j : Nat) => (S.at' x9 j).2.2])]]) (3))
 (False)))
 (False))
 (False)))
 (False))
 (False))
 (False))
 (False))
 (False))
 (False))
 (test (decide ((0 : Int) ≤ Min.min x2 x3 ∧ Min.min x2 x3 < (↑x1 : Int)))
 (test (decide (Int.toNat (Min.min x2 x3) + x0 < ml))
 (test (decide (Int.toNat (Min.min x2 x3) + x0 < ml))
 (test (decide (Int.toNat (Min.min x2 x3) + x0 < ml))
 (test (decide (List.length x9 + 1 ≤ 1000000))
 (test (decide (List.length x9 ≤ List.length x9))
 (test (true)
 (test (x2 != x3)
 (test (decide ((0 : Int) ≤ Max.max x2 x3 ∧ Max.max x2 x3 < (↑x1 : Int)))
 (test (decide (Int.toNat (Max.max x2 x3) + x0 < ml))
 (test (decide (Int.toNat (Max.max x2 x3) + x0 < ml))
 (test (decide (Int.toNat (Max.max x2 x3) + x0 < ml))
 (test (decide (List.length x9 + 1 + 1 ≤ 1000000))
 (test (decide (List.length x9 + 1 ≤ List.length x9 + 1))
 (test (true)
 (test (lim IntKind.i64 (x4 + (1 : Int)))
 (Kst (hd Try.f31 0) ([PV.loose (PA.mk (0) (3) al (0)) nl, PV.int IntKind.i64 k,
 PV.own (5) (3) (List.length x9 + 1 + 1),
 PV.loose (PA.mk (0) (3) x0 (0)) x1, PV.int IntKind.i64 x2,
 PV.int IntKind.i64 x3, PV.int IntKind.i64 k, PV.int IntKind.i64 (x4 + (1 : Int)),
 PV.loose (PA.mk (0) (3) x5 (0)) x6, PV.int IntKind.i64 x7,
 PV.int IntKind.i64 x8]) ([[(0, false,
 Blk.cols ml [Col.int IntKind.i64 tl, Col.int IntKind.i64 vl, Col.bool gl]),
 (5, true,
 Blk.cols (List.length x9 + 1 + 1)
 [Col.int IntKind.i64 fun (j : Nat) =>
 bif Nat.blt j (List.length x9 + 1) then
 bif Nat.blt j (List.length x9) then (S.at' x9 j).1 else tl (Int.toNat (Min.min x2 x3) + x0)
 else tl (Int.toNat (Max.max x2 x3) + x0),
 Col.int IntKind.i64 fun (j : Nat) =>
 bif Nat.blt j (List.length x9 + 1) then
 bif Nat.blt j (List.length x9) then (S.at' x9 j).2.1
 else vl (Int.toNat (Min.min x2 x3) + x0)
 else vl (Int.toNat (Max.max x2 x3) + x0),
 Col.bool fun (j : Nat) =>
 bif Nat.blt j (List.length x9 + 1) then
 bif Nat.blt j (List.length x9) then (S.at' x9 j).2.2
 else gl (Int.toNat (Min.min x2 x3) + x0)
 else gl (Int.toNat (Max.max x2 x3) + x0)])]]) (6))
 (False))
 (False))
 (False))
 (False))
 (False))
 (False))
 (False))
 (False))
 (test (lim IntKind.i64 (x4 + (1 : Int)))
 (Kst (hd Try.f31 0) ([PV.loose (PA.mk (0) (3) al (0)) nl, PV.int IntKind.i64 k,
 PV.own (3) (3) (List.length x9 + 1),
 PV.loose (PA.mk (0) (3) x0 (0)) x1, PV.int IntKind.i64 x2,
 PV.int IntKind.i64 x3, PV.int IntKind.i64 k, PV.int IntKind.i64 (x4 + (1 : Int)),
 PV.loose (PA.mk (0) (3) x5 (0)) x6, PV.int IntKind.i64 x7,
 PV.int IntKind.i64 x8]) ([[(0, false,
 Blk.cols ml [Col.int IntKind.i64 tl, Col.int IntKind.i64 vl, Col.bool gl]),
 (3, true,
 Blk.cols (List.length x9 + 1)
 [Col.int IntKind.i64 fun (j : Nat) =>
 bif Nat.blt j (List.length x9) then (S.at' x9 j).1 else tl (Int.toNat (Min.min x2 x3) + x0),
 Col.int IntKind.i64 fun (j : Nat) =>
 bif Nat.blt j (List.length x9) then (S.at' x9 j).2.1
 else vl (Int.toNat (Min.min x2 x3) + x0),
 Col.bool fun (j : Nat) =>
 bif Nat.blt j (List.length x9) then (S.at' x9 j).2.2
 else gl (Int.toNat (Min.min x2 x3) + x0)])]]) (4))
 (False)))
 (False))
 (False))
 (False))
 (False))
 (False))
 (False))
 (False))
set_option maxRecDepth 100000 in
theorem t31_1 (test : Bool → Prop → Prop → Prop) (Kst : KS) (Kret : KR) (al nl ml : Nat) (tl : Nat → Int) (vl : Nat → Int) (gl : Nat → Bool) (k : Int) (x0 : Nat) (x1 : Nat) (x2 : Int) (x3 : Int) (x4 : Int) (x5 : Nat) (x6 : Nat) (x7 : Int) (x8 : Int) (x9 : List (Int × Int × Bool)) : run test Try.env true (xK test) true 400 ⟨31, hd Try.f31 1, zipT [0, 1, 7, 9, 10, 11, 25, 26, 47, 48, 49] [PV.loose (PA.mk (0) (3) al (0)) nl, PV.int IntKind.i64 k,
 PV.own (1) (3) (List.length x9),
 PV.loose (PA.mk (0) (3) x0 (0)) x1, PV.int IntKind.i64 x2,
 PV.int IntKind.i64 x3, PV.int IntKind.i64 k, PV.int IntKind.i64 x4,
 PV.loose (PA.mk (0) (3) x5 (0)) x6, PV.int IntKind.i64 x7,
 PV.int IntKind.i64 x8], [[(1, (true, Blk.cols (List.length x9)
 [Col.int IntKind.i64 fun (j : Nat) => (S.at' x9 j).1,
 Col.int IntKind.i64 fun (j : Nat) => (S.at' x9 j).2.1,
 Col.bool fun (j : Nat) => (S.at' x9 j).2.2]))], [(0, (false, .cols ml [.int .i64 tl, .int .i64 vl, .bool gl]))]], 2⟩ (proj 1 [0, 1, 7, 9, 10, 11, 25, 26, 47, 48, 49] Kst Kret) =
  T31_1 test Kst Kret al nl ml tl vl gl k x0 x1 x2 x3 x4 x5 x6 x7 x8 x9 := by kernel_rfl
set_option maxRecDepth 100000 in
theorem be31 (al nl ml : Nat) (tl : Nat → Int) (vl : Nat → Int) (gl : Nat → Bool) (k : Int) (Kst : KS) (Kret : KR) (x : St31 ⊕ Rt31) (hS : HS 1 400 ((I31 al nl ml tl vl gl k)) Kst x) (hR : HR 1 400 ((V31 al nl ml tl vl gl k)) (fun r => [newL (1 + 1) ((N31 al nl ml tl vl gl k) r) ++ [(0, (false, .cols ml [.int .i64 tl, .int .i64 vl, .bool gl]))]]) Kret x) (h : (bif (decide ((↑nl : Int) > (400 : Int)))
 then (some (.inr ((3 : Int), [])))
 else (bif (decide (al + nl ≤ ml ∧ nl ≤ 1000000))
 then (bif (S.errS (fun (j : Nat) => tl (j + al)) (fun (j : Nat) => vl (j + al)) (0) nl != (0 : Int))
 then (some (.inr (S.errS (fun (j : Nat) => tl (j + al)) (fun (j : Nat) => vl (j + al)) (0) nl, [])))
 else (bif (decide (k ≥ (1 : Int)))
 then (bif (decide (k ≤ (200 : Int)))
 then (some (.inl (.h0 ((0 : Int)) ([]))))
 else (some (.inr ((6 : Int), []))))
 else (some (.inr ((6 : Int), [])))))
 else (none)) : Option (St31 ⊕ Rt31)) = some x) : Te31 cond Kst Kret al nl ml tl vl gl k := by
  unfold Te31
  exact bif_split h
   (fun c0 h => ret_at hR _ h (fun n => bif Nat.beq n 2 then 399 else n) rfl rfl rfl (rn_tup ⟨(rn_own_nils rfl), (rn_int rfl), trivial⟩) rfl (entl_fresh (use_own rfl) (fresh_ok rfl) (entl_bor (use_lo rfl) rfl rfl entl_nil)))
   (fun c0 h => bif_split h
   (fun c1 h => bif_split h
   (fun c2 h => ret_at hR _ h (fun n => bif Nat.beq n 2 then 399 else n) rfl rfl rfl (rn_tup ⟨(rn_own_nils rfl), (rn_int rfl), trivial⟩) rfl (entl_fresh (use_own rfl) (fresh_ok rfl) (entl_bor (use_lo rfl) rfl rfl entl_nil)))
   (fun c2 h => bif_split h
   (fun c3 h => bif_split h
   (fun c4 h => stop_at hS _ h (fun n => bif Nat.beq n 1 then 399 else n) rfl rfl rfl ⟨(rn_loose (use_lo rfl) rfl rfl rfl), ⟨(rn_int rfl), ⟨(rn_own_nils rfl), ⟨(rn_unk _), ⟨(rn_unk _), ⟨(rn_unk _), ⟨(rn_int rfl), ⟨(rn_int rfl), ⟨(rn_unk _), ⟨(rn_unk _), ⟨(rn_unk _), trivial⟩⟩⟩⟩⟩⟩⟩⟩⟩⟩⟩ rfl (entl_fresh (use_own rfl) (fresh_ok rfl) (entl_bor (use_lo rfl) rfl rfl entl_nil)))
   (fun c4 h => ret_at hR _ h (fun n => bif Nat.beq n 2 then 399 else n) rfl rfl rfl (rn_tup ⟨(rn_own_nils rfl), (rn_int rfl), trivial⟩) rfl (entl_fresh (use_own rfl) (fresh_ok rfl) (entl_bor (use_lo rfl) rfl rfl entl_nil))))
   (fun c3 h => ret_at hR _ h (fun n => bif Nat.beq n 2 then 399 else n) rfl rfl rfl (rn_tup ⟨(rn_own_nils rfl), (rn_int rfl), trivial⟩) rfl (entl_fresh (use_own rfl) (fresh_ok rfl) (entl_bor (use_lo rfl) rfl rfl entl_nil)))))
   (fun c1 h => no_some h))
set_option maxRecDepth 100000 in
theorem b31_0 (al nl ml : Nat) (tl : Nat → Int) (vl : Nat → Int) (gl : Nat → Bool) (k : Int) (Kst : KS) (Kret : KR) (x : St31 ⊕ Rt31) (hS : HS 1 400 ((I31 al nl ml tl vl gl k)) Kst x) (hR : HR 1 400 ((V31 al nl ml tl vl gl k)) (fun r => [newL (1 + 1) ((N31 al nl ml tl vl gl k) r) ++ [(0, (false, .cols ml [.int .i64 tl, .int .i64 vl, .bool gl]))]]) Kret x) (x0 : Int) (x1 : List (Int × Int × Bool)) (h : (bif (decide (x0 < k))
 then (bif (lim IntKind.i64 (x0 * (↑nl : Int)))
 then (bif (decide (k = (0 : Int)))
 then (none)
 else (bif (lim IntKind.i64 (Int.tdiv (x0 * (↑nl : Int)) k))
 then (bif (lim IntKind.i64 (x0 + (1 : Int)))
 then (bif (lim IntKind.i64 ((x0 + (1 : Int)) * (↑nl : Int)))
 then (bif (lim IntKind.i64 (Int.tdiv ((x0 + (1 : Int)) * (↑nl : Int)) k))
 then (bif (decide
 ((0 : Int) ≤ Int.tdiv (x0 * (↑nl : Int)) k ∧
 Int.tdiv (x0 * (↑nl : Int)) k ≤ Int.tdiv ((x0 + (1 : Int)) * (↑nl : Int)) k ∧
 Int.tdiv ((x0 + (1 : Int)) * (↑nl : Int)) k ≤ (↑nl : Int)))
 then (bif ((↑(Int.toNat (Int.tdiv ((x0 + (1 : Int)) * (↑nl : Int)) k) - Int.toNat (Int.tdiv (x0 * (↑nl : Int)) k)) : Int) ==
 (0 : Int))
 then (some (.inl (.h0 (x0 + (1 : Int)) (x1))))
 else (some (.inl (.h1 (Int.toNat (Int.tdiv (x0 * (↑nl : Int)) k) + al) (Int.toNat (Int.tdiv ((x0 + (1 : Int)) * (↑nl : Int)) k) - Int.toNat (Int.tdiv (x0 * (↑nl : Int)) k)) ((0 : Int)) ((0 : Int)) (x0) (Int.toNat (Int.tdiv (x0 * (↑nl : Int)) k) + al) (Int.toNat (Int.tdiv ((x0 + (1 : Int)) * (↑nl : Int)) k) - Int.toNat (Int.tdiv (x0 * (↑nl : Int)) k)) ((↑(Int.toNat (Int.tdiv ((x0 + (1 : Int)) * (↑nl : Int)) k) - Int.toNat (Int.tdiv (x0 * (↑nl : Int)) k)) : Int)) ((0 : Int)) (x1)))))
 else (none))
 else (none))
 else (none))
 else (none))
 else (none)))
 else (none))
 else (some (.inr ((0 : Int), x1))) : Option (St31 ⊕ Rt31)) = some x) : T31_0 cond Kst Kret al nl ml tl vl gl k x0 x1 := by
  unfold T31_0
  exact bif_split h
   (fun c0 h => bif_split h
   (fun c1 h => bif_split h
   (fun c2 h => no_some h)
   (fun c2 h => bif_split h
   (fun c3 h => bif_split h
   (fun c4 h => bif_split h
   (fun c5 h => cond_no c2 (bif_split h
   (fun c6 h => bif_split h
   (fun c7 h => bif_split h
   (fun c8 h => cond_yes c4 (stop_at hS _ h (fun n => bif Nat.beq n 1 then 1 else n) rfl rfl rfl ⟨(rn_loose (use_lo rfl) rfl rfl rfl), ⟨(rn_int rfl), ⟨(rn_own (use_own rfl) rfl rfl), ⟨(rn_unk _), ⟨(rn_unk _), ⟨(rn_unk _), ⟨(rn_int rfl), ⟨(rn_int rfl), ⟨(rn_unk _), ⟨(rn_unk _), ⟨(rn_unk _), trivial⟩⟩⟩⟩⟩⟩⟩⟩⟩⟩⟩ rfl (entl_new (use_own rfl) rfl (Nat.le_of_eq rfl) (rcs_int (fun _ _ => rfl) (rcs_int (fun _ _ => rfl) (rcs_bool (fun _ _ => rfl) rcs_nil))) (entl_bor (use_lo rfl) rfl rfl entl_nil))))
   (fun c8 h => stop_at hS _ h (fun n => bif Nat.beq n 1 then 1 else n) rfl rfl rfl ⟨(rn_loose (use_lo rfl) rfl rfl rfl), ⟨(rn_int rfl), ⟨(rn_own (use_own rfl) rfl rfl), ⟨(rn_loose (use_lo rfl) rfl rfl rfl), ⟨(rn_int rfl), ⟨(rn_int rfl), ⟨(rn_int rfl), ⟨(rn_int rfl), ⟨(rn_loose (use_lo rfl) rfl rfl rfl), ⟨(rn_int rfl), ⟨(rn_int rfl), trivial⟩⟩⟩⟩⟩⟩⟩⟩⟩⟩⟩ rfl (entl_new (use_own rfl) rfl (Nat.le_of_eq rfl) (rcs_int (fun _ _ => rfl) (rcs_int (fun _ _ => rfl) (rcs_bool (fun _ _ => rfl) rcs_nil))) (entl_bor (use_lo rfl) rfl rfl entl_nil))))
   (fun c7 h => no_some h))
   (fun c6 h => no_some h)))
   (fun c5 h => no_some h))
   (fun c4 h => no_some h))
   (fun c3 h => no_some h)))
   (fun c1 h => no_some h))
   (fun c0 h => ret_at hR _ h (fun n => bif Nat.beq n 2 then 1 else n) rfl rfl rfl (rn_tup ⟨(rn_own (use_own rfl) rfl rfl), (rn_int rfl), trivial⟩) rfl (entl_new (use_own rfl) rfl (Nat.le_of_eq rfl) (rcs_int (fun _ _ => rfl) (rcs_int (fun _ _ => rfl) (rcs_bool (fun _ _ => rfl) rcs_nil))) (entl_bor (use_lo rfl) rfl rfl entl_nil)))
set_option maxRecDepth 100000 in
theorem b31_1 (al nl ml : Nat) (tl : Nat → Int) (vl : Nat → Int) (gl : Nat → Bool) (k : Int) (Kst : KS) (Kret : KR) (x : St31 ⊕ Rt31) (hS : HS 1 400 ((I31 al nl ml tl vl gl k)) Kst x) (hR : HR 1 400 ((V31 al nl ml tl vl gl k)) (fun r => [newL (1 + 1) ((N31 al nl ml tl vl gl k) r) ++ [(0, (false, .cols ml [.int .i64 tl, .int .i64 vl, .bool gl]))]]) Kret x) (x0 : Nat) (x1 : Nat) (x2 : Int) (x3 : Int) (x4 : Int) (x5 : Nat) (x6 : Nat) (x7 : Int) (x8 : Int) (x9 : List (Int × Int × Bool)) (h : (bif (decide (x8 < x7))
 then (bif (decide ((0 : Int) ≤ x8 ∧ x8 < (↑x6 : Int)))
 then (bif (decide (Int.toNat x8 + x5 < ml))
 then (bif (decide ((0 : Int) ≤ x2 ∧ x2 < (↑x1 : Int)))
 then (bif (decide (Int.toNat x2 + x0 < ml))
 then (bif (decide (vl (Int.toNat x8 + x5) < vl (Int.toNat x2 + x0)))
 then (bif (decide ((0 : Int) ≤ x3 ∧ x3 < (↑x1 : Int)))
 then (bif (decide (Int.toNat x3 + x0 < ml))
 then (bif (decide (vl (Int.toNat x8 + x5) > vl (Int.toNat x3 + x0)))
 then (bif (lim IntKind.i64 (x8 + (1 : Int)))
 then (some (.inl (.h1 (x0) (x1) (x8) (x8) (x4) (x5) (x6) (x7) (x8 + (1 : Int)) (x9))))
 else (none))
 else (bif (lim IntKind.i64 (x8 + (1 : Int)))
 then (some (.inl (.h1 (x0) (x1) (x8) (x3) (x4) (x5) (x6) (x7) (x8 + (1 : Int)) (x9))))
 else (none)))
 else (none))
 else (none))
 else (bif (decide ((0 : Int) ≤ x3 ∧ x3 < (↑x1 : Int)))
 then (bif (decide (Int.toNat x3 + x0 < ml))
 then (bif (decide (vl (Int.toNat x8 + x5) > vl (Int.toNat x3 + x0)))
 then (bif (lim IntKind.i64 (x8 + (1 : Int)))
 then (some (.inl (.h1 (x0) (x1) (x2) (x8) (x4) (x5) (x6) (x7) (x8 + (1 : Int)) (x9))))
 else (none))
 else (bif (lim IntKind.i64 (x8 + (1 : Int)))
 then (some (.inl (.h1 (x0) (x1) (x2) (x3) (x4) (x5) (x6) (x7) (x8 + (1 : Int)) (x9))))
 else (none)))
 else (none))
 else (none)))
 else (none))
 else (none))
 else (none))
 else (none))
 else (bif (decide ((0 : Int) ≤ Min.min x2 x3 ∧ Min.min x2 x3 < (↑x1 : Int)))
 then (bif (decide (Int.toNat (Min.min x2 x3) + x0 < ml))
 then (bif (decide (List.length x9 + 1 ≤ 1000000))
 then (bif (decide (List.length x9 ≤ List.length x9))
 then (bif (x2 != x3)
 then (bif (decide ((0 : Int) ≤ Max.max x2 x3 ∧ Max.max x2 x3 < (↑x1 : Int)))
 then (bif (decide (Int.toNat (Max.max x2 x3) + x0 < ml))
 then (bif (decide (List.length x9 + 1 + 1 ≤ 1000000))
 then (bif (decide (List.length x9 + 1 ≤ List.length x9 + 1))
 then (bif (lim IntKind.i64 (x4 + (1 : Int)))
 then (some (.inl (.h0 (x4 + (1 : Int)) (S.snoc
 (S.snoc x9
 (tl (Int.toNat (Min.min x2 x3) + x0), vl (Int.toNat (Min.min x2 x3) + x0), gl (Int.toNat (Min.min x2 x3) + x0)))
 (tl (Int.toNat (Max.max x2 x3) + x0), vl (Int.toNat (Max.max x2 x3) + x0), gl (Int.toNat (Max.max x2 x3) + x0))))))
 else (none))
 else (none))
 else (none))
 else (none))
 else (none))
 else (bif (lim IntKind.i64 (x4 + (1 : Int)))
 then (some (.inl (.h0 (x4 + (1 : Int)) (S.snoc x9
 (tl (Int.toNat (Min.min x2 x3) + x0), vl (Int.toNat (Min.min x2 x3) + x0), gl (Int.toNat (Min.min x2 x3) + x0))))))
 else (none)))
 else (none))
 else (none))
 else (none))
 else (none)) : Option (St31 ⊕ Rt31)) = some x) : T31_1 cond Kst Kret al nl ml tl vl gl k x0 x1 x2 x3 x4 x5 x6 x7 x8 x9 := by
  unfold T31_1
  exact bif_split h
   (fun c0 h => bif_split h
   (fun c1 h => bif_split h
   (fun c2 h => cond_yes c2 (cond_yes c2 (bif_split h
   (fun c3 h => bif_split h
   (fun c4 h => bif_split h
   (fun c5 h => bif_split h
   (fun c6 h => bif_split h
   (fun c7 h => bif_split h
   (fun c8 h => bif_split h
   (fun c9 h => stop_at hS _ h (fun n => bif Nat.beq n 1 then 1 else n) rfl rfl rfl ⟨(rn_loose (use_lo rfl) rfl rfl rfl), ⟨(rn_int rfl), ⟨(rn_own (use_own rfl) rfl rfl), ⟨(rn_loose (use_lo rfl) rfl rfl rfl), ⟨(rn_int rfl), ⟨(rn_int rfl), ⟨(rn_int rfl), ⟨(rn_int rfl), ⟨(rn_loose (use_lo rfl) rfl rfl rfl), ⟨(rn_int rfl), ⟨(rn_int rfl), trivial⟩⟩⟩⟩⟩⟩⟩⟩⟩⟩⟩ rfl (entl_new (use_own rfl) rfl (Nat.le_of_eq rfl) (rcs_int (fun _ _ => rfl) (rcs_int (fun _ _ => rfl) (rcs_bool (fun _ _ => rfl) rcs_nil))) (entl_bor (use_lo rfl) rfl rfl entl_nil)))
   (fun c9 h => no_some h))
   (fun c8 h => bif_split h
   (fun c9 h => stop_at hS _ h (fun n => bif Nat.beq n 1 then 1 else n) rfl rfl rfl ⟨(rn_loose (use_lo rfl) rfl rfl rfl), ⟨(rn_int rfl), ⟨(rn_own (use_own rfl) rfl rfl), ⟨(rn_loose (use_lo rfl) rfl rfl rfl), ⟨(rn_int rfl), ⟨(rn_int rfl), ⟨(rn_int rfl), ⟨(rn_int rfl), ⟨(rn_loose (use_lo rfl) rfl rfl rfl), ⟨(rn_int rfl), ⟨(rn_int rfl), trivial⟩⟩⟩⟩⟩⟩⟩⟩⟩⟩⟩ rfl (entl_new (use_own rfl) rfl (Nat.le_of_eq rfl) (rcs_int (fun _ _ => rfl) (rcs_int (fun _ _ => rfl) (rcs_bool (fun _ _ => rfl) rcs_nil))) (entl_bor (use_lo rfl) rfl rfl entl_nil)))
   (fun c9 h => no_some h)))
   (fun c7 h => no_some h))
   (fun c6 h => no_some h))
   (fun c5 h => bif_split h
   (fun c6 h => bif_split h
   (fun c7 h => bif_split h
   (fun c8 h => bif_split h
   (fun c9 h => stop_at hS _ h (fun n => bif Nat.beq n 1 then 1 else n) rfl rfl rfl ⟨(rn_loose (use_lo rfl) rfl rfl rfl), ⟨(rn_int rfl), ⟨(rn_own (use_own rfl) rfl rfl), ⟨(rn_loose (use_lo rfl) rfl rfl rfl), ⟨(rn_int rfl), ⟨(rn_int rfl), ⟨(rn_int rfl), ⟨(rn_int rfl), ⟨(rn_loose (use_lo rfl) rfl rfl rfl), ⟨(rn_int rfl), ⟨(rn_int rfl), trivial⟩⟩⟩⟩⟩⟩⟩⟩⟩⟩⟩ rfl (entl_new (use_own rfl) rfl (Nat.le_of_eq rfl) (rcs_int (fun _ _ => rfl) (rcs_int (fun _ _ => rfl) (rcs_bool (fun _ _ => rfl) rcs_nil))) (entl_bor (use_lo rfl) rfl rfl entl_nil)))
   (fun c9 h => no_some h))
   (fun c8 h => bif_split h
   (fun c9 h => stop_at hS _ h (fun n => bif Nat.beq n 1 then 1 else n) rfl rfl rfl ⟨(rn_loose (use_lo rfl) rfl rfl rfl), ⟨(rn_int rfl), ⟨(rn_own (use_own rfl) rfl rfl), ⟨(rn_loose (use_lo rfl) rfl rfl rfl), ⟨(rn_int rfl), ⟨(rn_int rfl), ⟨(rn_int rfl), ⟨(rn_int rfl), ⟨(rn_loose (use_lo rfl) rfl rfl rfl), ⟨(rn_int rfl), ⟨(rn_int rfl), trivial⟩⟩⟩⟩⟩⟩⟩⟩⟩⟩⟩ rfl (entl_new (use_own rfl) rfl (Nat.le_of_eq rfl) (rcs_int (fun _ _ => rfl) (rcs_int (fun _ _ => rfl) (rcs_bool (fun _ _ => rfl) rcs_nil))) (entl_bor (use_lo rfl) rfl rfl entl_nil)))
   (fun c9 h => no_some h)))
   (fun c7 h => no_some h))
   (fun c6 h => no_some h)))
   (fun c4 h => no_some h))
   (fun c3 h => no_some h))))
   (fun c2 h => no_some h))
   (fun c1 h => no_some h))
   (fun c0 h => bif_split h
   (fun c1 h => bif_split h
   (fun c2 h => cond_yes c2 (cond_yes c2 (bif_split h
   (fun c3 h => bif_split h
   (fun c4 h => cond_yes rfl (bif_split h
   (fun c5 h => bif_split h
   (fun c6 h => bif_split h
   (fun c7 h => cond_yes c7 (cond_yes c7 (bif_split h
   (fun c8 h => bif_split h
   (fun c9 h => cond_yes rfl (bif_split h
   (fun c10 h => stop_at hS _ h (fun n => bif Nat.beq n 1 then 5 else n) rfl rfl rfl ⟨(rn_loose (use_lo rfl) rfl rfl rfl), ⟨(rn_int rfl), ⟨(rn_own (use_own rfl) rfl (snoc_len' (snoc_len' rfl))), ⟨(rn_unk _), ⟨(rn_unk _), ⟨(rn_unk _), ⟨(rn_int rfl), ⟨(rn_int rfl), ⟨(rn_unk _), ⟨(rn_unk _), ⟨(rn_unk _), trivial⟩⟩⟩⟩⟩⟩⟩⟩⟩⟩⟩ rfl (entl_new (use_own rfl) rfl (Nat.le_of_eq (snoc_len' (snoc_len' rfl))) (rcs_int (col_snoc' (fun (t : Int × Int × Bool) => t.1) (snoc_len' rfl) (col_snoc' (fun (t : Int × Int × Bool) => t.1) rfl (fun _ _ => rfl))) (rcs_int (col_snoc' (fun (t : Int × Int × Bool) => t.2.1) (snoc_len' rfl) (col_snoc' (fun (t : Int × Int × Bool) => t.2.1) rfl (fun _ _ => rfl))) (rcs_bool (col_snoc' (fun (t : Int × Int × Bool) => t.2.2) (snoc_len' rfl) (col_snoc' (fun (t : Int × Int × Bool) => t.2.2) rfl (fun _ _ => rfl))) rcs_nil))) (entl_bor (use_lo rfl) rfl rfl entl_nil)))
   (fun c10 h => no_some h)))
   (fun c9 h => no_some h))
   (fun c8 h => no_some h))))
   (fun c7 h => no_some h))
   (fun c6 h => no_some h))
   (fun c5 h => bif_split h
   (fun c6 h => stop_at hS _ h (fun n => bif Nat.beq n 1 then 3 else n) rfl rfl rfl ⟨(rn_loose (use_lo rfl) rfl rfl rfl), ⟨(rn_int rfl), ⟨(rn_own (use_own rfl) rfl (snoc_len' rfl)), ⟨(rn_unk _), ⟨(rn_unk _), ⟨(rn_unk _), ⟨(rn_int rfl), ⟨(rn_int rfl), ⟨(rn_unk _), ⟨(rn_unk _), ⟨(rn_unk _), trivial⟩⟩⟩⟩⟩⟩⟩⟩⟩⟩⟩ rfl (entl_new (use_own rfl) rfl (Nat.le_of_eq (snoc_len' rfl)) (rcs_int (col_snoc' (fun (t : Int × Int × Bool) => t.1) rfl (fun _ _ => rfl)) (rcs_int (col_snoc' (fun (t : Int × Int × Bool) => t.2.1) rfl (fun _ _ => rfl)) (rcs_bool (col_snoc' (fun (t : Int × Int × Bool) => t.2.2) rfl (fun _ _ => rfl)) rcs_nil))) (entl_bor (use_lo rfl) rfl rfl entl_nil)))
   (fun c6 h => no_some h))))
   (fun c4 h => no_some h))
   (fun c3 h => no_some h))))
   (fun c2 h => no_some h))
   (fun c1 h => no_some h))
theorem a31 (al nl ml : Nat) (tl : Nat → Int) (vl : Nat → Int) (gl : Nat → Bool) (k : Int) {r : Rt31} (h : Goes ((q31 al nl ml tl vl gl k)) ((p31 al nl ml tl vl gl k)) r) : CallR Try.prog 31 [.loose ⟨0, 3, al, 0⟩ nl, .int .i64 k] [[(0, (false, .cols ml [.int .i64 tl, .int .i64 vl, .bool gl]))]] 1 ((V31 al nl ml tl vl gl k) r) ((fun r => [newL (1 + 1) ((N31 al nl ml tl vl gl k) r) ++ [(0, (false, .cols ml [.int .i64 tl, .int .i64 vl, .bool gl]))]]) r) 400 ∧ ∃ F, Try.prog.funcs[31]? = some F ∧ F.body.isSome = true ∧ (F.name == "runtime.NumGoroutine") = false := by
  refine dec_calls (f := 31) (lo := 1) (hi := 400) (H := [[(0, (false, .cols ml [.int .i64 tl, .int .i64 vl, .bool gl]))]]) (args := [.loose ⟨0, 3, al, 0⟩ nl, .int .i64 k]) Try.envOk Try.mixed xK_ok ((I31 al nl ml tl vl gl k)) ((V31 al nl ml tl vl gl k)) (fun r => [newL (1 + 1) ((N31 al nl ml tl vl gl k) r) ++ [(0, (false, .cols ml [.int .i64 tl, .int .i64 vl, .bool gl]))]]) (fn := mkFn Try.f31) (ts := [0, 1, 7, 9, 10, 11, 25, 26, 47, 48, 49]) (n := 400) rfl (by decide) (by simp) (names_of rfl) ?_ ?_ ?_ h
  · intro s; cases s <;> exact ⟨hd_ok _ _, by simp [I31], names_of rfl, Nat.le_of_ble_eq_true rfl⟩
  · intro Kst Kret x hS hR h
    exact Holds.eq (te31 cond Kst Kret al nl ml tl vl gl k) (be31 al nl ml tl vl gl k Kst Kret x hS hR h)
  · intro Kst Kret x hS hR s h
    cases s with
    | h0 x0 x1 => exact Holds.eq (t31_0 cond Kst Kret al nl ml tl vl gl k x0 x1) (b31_0 al nl ml tl vl gl k Kst Kret x hS hR x0 x1 h)
    | h1 x0 x1 x2 x3 x4 x5 x6 x7 x8 x9 => exact Holds.eq (t31_1 cond Kst Kret al nl ml tl vl gl k x0 x1 x2 x3 x4 x5 x6 x7 x8 x9) (b31_1 al nl ml tl vl gl k Kst Kret x hS hR x0 x1 x2 x3 x4 x5 x6 x7 x8 x9 h)
noncomputable def k31 : Con := ⟨31, [.one (.list [.int .i64, .int .i64, .bool]), .one (.plain (.int .i64))], fun (x : (Nat × Nat × Nat × (Nat → Int) × (Nat → Int) × (Nat → Bool) × Unit) × Int × Unit) => (fun (al nl ml : Nat) (tl : Nat → Int) (vl : Nat → Int) (gl : Nat → Bool) (k : Int) => decide (al + nl ≤ ml ∧ nl ≤ 1000000)) x.1.1 x.1.2.1 x.1.2.2.1 x.1.2.2.2.1 x.1.2.2.2.2.1 x.1.2.2.2.2.2.1 x.2.1, fun (x : (Nat × Nat × Nat × (Nat → Int) × (Nat → Int) × (Nat → Bool) × Unit) × Int × Unit) => (fun (al nl ml : Nat) (tl : Nat → Int) (vl : Nat → Int) (gl : Nat → Bool) (k : Int) => (V31 al nl ml tl vl gl k) (S.extR nl (fun j => tl (j + al)) (fun j => vl (j + al)) (fun j => gl (j + al)) k)) x.1.1 x.1.2.1 x.1.2.2.1 x.1.2.2.2.1 x.1.2.2.2.2.1 x.1.2.2.2.2.2.1 x.2.1, fun (x : (Nat × Nat × Nat × (Nat → Int) × (Nat → Int) × (Nat → Bool) × Unit) × Int × Unit) => (fun (al nl ml : Nat) (tl : Nat → Int) (vl : Nat → Int) (gl : Nat → Bool) (k : Int) => (N31 al nl ml tl vl gl k) (S.extR nl (fun j => tl (j + al)) (fun j => vl (j + al)) (fun j => gl (j + al)) k)) x.1.1 x.1.2.1 x.1.2.2.1 x.1.2.2.2.1 x.1.2.2.2.2.1 x.1.2.2.2.2.2.1 x.2.1⟩
set_option maxHeartbeats 2000000 in
theorem i31 (al nl ml : Nat) (tl : Nat → Int) (vl : Nat → Int) (gl : Nat → Bool) (k : Int) (hp : al + nl ≤ ml) (hn : nl ≤ 400) (p fm to : Nat) (hto : to ≤ nl) (hp2 : p ≤ 200) (A : List Row) (hA : A.length ≤ 1000) {r : Rt31} : ∀ (d i lo hi : Nat), i + d = to → fm ≤ i → fm < to → fm ≤ lo → fm ≤ hi → lo ≤ i → hi ≤ i → lo < to → hi < to → Comes (q31 al nl ml tl vl gl k) (.h0 ((p + 1 : Nat) : Int) (S.addP (fun j => (tl (j + al), vl (j + al), gl (j + al))) A (S.ext (fun j => vl (j + al)) i d lo hi))) r →
    Comes (q31 al nl ml tl vl gl k) (.h1 (fm + al) (to - fm) ((lo - fm : Nat) : Int) ((hi - fm : Nat) : Int) (p : Int) (fm + al) (to - fm) ((to - fm : Nat) : Int) ((i - fm : Nat) : Int) A) r := by
  intro d
  induction d with
  | zero =>
    intro i lo hi h1 h2 h3 h4 h5 h6 h7 h8 h9 hk
    obtain rfl : i = to := by omega
    simp only [S.ext] at hk
    apply Comes.of
    unfold S.addP at hk
    by_cases he : lo = hi
    · subst he
      simp only [if_true] at hk
      show Goes _ _ _
      unfold q31
      repeat' first
        | with_reducible refine goes_if (fun h => ?_) (fun h => ?_) <;> (try simp only [lim64, decide_eq_true_eq, decide_eq_false_iff_not, Int.toNat_natCast, toNat_pred, toNat_succ, Option.getD_some, Option.getD_none, Bool.not_eq_true', Bool.not_eq_false', Bool.and_eq_true, Bool.or_eq_true, Bool.and_eq_false_iff, Bool.or_eq_false_iff, bne_iff_ne, beq_iff_eq, bne_eq_false_iff_eq, beq_eq_false_iff_ne, ne_eq, not_and, Int.not_le, Int.not_lt, ge_iff_le, gt_iff_lt, Nat.not_lt, Nat.not_le, Bool.not_eq_true, Bool.not_eq_false, Bool.true_eq_false, Bool.false_eq_true, not_false_eq_true, not_true_eq_false, eq_self, Int.min_self, Int.max_self] at h)
        | exact goes_none.mpr (by omega)
      all_goals first | (exfalso; omega) | exact hk | (simp only [Int.min_self, Int.toNat_natCast, show lo - fm + (fm + al) = lo + al by omega]; exact hk)
    · simp only [he, if_false] at hk
      show Goes _ _ _
      unfold q31
      repeat' first
        | with_reducible refine goes_if (fun h => ?_) (fun h => ?_) <;> (try simp only [lim64, decide_eq_true_eq, decide_eq_false_iff_not, Int.toNat_natCast, toNat_pred, toNat_succ, Option.getD_some, Option.getD_none, Bool.not_eq_true', Bool.not_eq_false', Bool.and_eq_true, Bool.or_eq_true, Bool.and_eq_false_iff, Bool.or_eq_false_iff, bne_iff_ne, beq_iff_eq, bne_eq_false_iff_eq, beq_eq_false_iff_ne, ne_eq, not_and, Int.not_le, Int.not_lt, ge_iff_le, gt_iff_lt, Nat.not_lt, Nat.not_le, Bool.not_eq_true, Bool.not_eq_false, Bool.true_eq_false, Bool.false_eq_true, not_false_eq_true, not_true_eq_false, eq_self] at h)
        | exact goes_none.mpr (by omega)
      all_goals first | (exfalso; omega) | (rw [show min ((lo - fm : Nat) : Int) ((hi - fm : Nat) : Int) = ((min lo hi - fm : Nat) : Int) by omega, show max ((lo - fm : Nat) : Int) ((hi - fm : Nat) : Int) = ((max lo hi - fm : Nat) : Int) by omega]; simp only [Int.toNat_natCast, show min lo hi - fm + (fm + al) = min lo hi + al by omega, show max lo hi - fm + (fm + al) = max lo hi + al by omega]; exact hk)
  | succ d ih =>
    intro i lo hi h1 h2 h3 h4 h5 h6 h7 h8 h9 hk
    have ih := ih (i + 1) (if vl (i + al) < vl (lo + al) then i else lo) (if vl (i + al) > vl (hi + al) then i else hi) (by omega) (by omega) (by omega) (by split <;> omega) (by split <;> omega) (by split <;> omega) (by split <;> omega) (by split <;> omega) (by split <;> omega) hk
    have e1 : i - fm + (fm + al) = i + al := by omega
    have e2 : lo - fm + (fm + al) = lo + al := by omega
    have e3 : hi - fm + (fm + al) = hi + al := by omega
    have e4 : ((i - fm : Nat) : Int) + 1 = ((i + 1 - fm : Nat) : Int) := by omega
    by_cases c1 : vl (i + al) < vl (lo + al) <;> by_cases c2 : vl (i + al) > vl (hi + al) <;> simp only [c1, c2, if_true, if_false] at ih <;> (
    apply Comes.of
    show Goes _ _ _
    unfold q31
    repeat' first
      | with_reducible refine goes_if (fun h => ?_) (fun h => ?_) <;> (try simp only [lim64, decide_eq_true_eq, decide_eq_false_iff_not, Int.toNat_natCast, toNat_pred, toNat_succ, Option.getD_some, Option.getD_none, Bool.not_eq_true', Bool.not_eq_false', Bool.and_eq_true, Bool.or_eq_true, Bool.and_eq_false_iff, Bool.or_eq_false_iff, bne_iff_ne, beq_iff_eq, bne_eq_false_iff_eq, beq_eq_false_iff_ne, ne_eq, not_and, Int.not_le, Int.not_lt, ge_iff_le, gt_iff_lt, Nat.not_lt, Nat.not_le, Bool.not_eq_true, Bool.not_eq_false, Bool.true_eq_false, Bool.false_eq_true, not_false_eq_true, not_true_eq_false, eq_self, e1, e2, e3] at h)
      | exact goes_none.mpr (by omega)
    all_goals first
      | (exfalso; omega)
      | (rw [e4]; exact ih))

end Go.Ev
