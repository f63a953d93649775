/-
  The parts that the statement needs, 2 of 4.
-/
import Derived.Test.YtpnklpakehlbeaaV71
namespace Go.Ev
open Go.Proofs
open Go.IntWalk
set_option linter.unusedVariables false
set_option linter.unusedSimpArgs false
set_option maxRecDepth 100000
set_option maxHeartbeats 2000000
set_option maxHeartbeats 4000000
noncomputable def p44 (aq nq mq : Nat) (tq : Nat → ByteArray) (vq gq : Nat → Int) (de : Int) : Option (St44 ⊕ Rt44) := some (.inl (.h0 ((0 : Int)) ([(1 : Int), (2 : Int)]) ([])))
noncomputable def Te44 (test : Bool → Prop → Prop → Prop) (Kst : KS) (Kret : KR) (aq nq mq : Nat) (tq : Nat → ByteArray) (vq gq : Nat → Int) (de : Int) : Prop :=
  Kst (hd Try.f44 0) ([PV.ptr (PA.mk (1) (0) (0) (0)), PV.nils, PV.unk, PV.unk,
 PV.own (2) (1) (2), PV.int IntKind.i64 (2 : Int),
 PV.int IntKind.i64 (0 : Int), PV.unk, PV.unk, PV.unk, PV.unk, PV.unk,
 PV.unk, PV.unk]) ([[(0, false,
 Blk.cols mq [Col.str tq, Col.int IntKind.i64 vq, Col.int IntKind.i64 gq]),
 (2, true,
 Blk.cells [PV.int IntKind.i64 (1 : Int), PV.int IntKind.i64 (2 : Int)]),
 (1, true,
 Blk.cells
 [PV.loose (PA.mk (0) (3) aq (0)) nq, PV.int IntKind.i64 de])]]) (3)
theorem te44 (test : Bool → Prop → Prop → Prop) (Kst : KS) (Kret : KR) (aq nq mq : Nat) (tq : Nat → ByteArray) (vq gq : Nat → Int) (de : Int) : run test Try.env true noX true 400 ⟨44, [.cd (mkFn Try.f44).body], argT 0 [.agg [.loose ⟨0, 3, aq, 0⟩ nq, .int .i64 de]], [[], [(0, (false, .cols mq [.str tq, .int .i64 vq, .int .i64 gq]))]], 1⟩ (proj 1 [1, 3, 5, 7, 10, 11, 12, 16, 17, 18, 24, 25, 40, 41] Kst Kret) =
  Te44 test Kst Kret aq nq mq tq vq gq de := by kernel_rfl
noncomputable def T44_0 (test : Bool → Prop → Prop → Prop) (Kst : KS) (Kret : KR) (aq nq mq : Nat) (tq : Nat → ByteArray) (vq gq : Nat → Int) (de x0 : Int) (x1 : List Int) (x2 : List (Int × Int × Int)) : Prop :=
  test (decide (x0 < (2 : Int)))
 (test (decide ((0 : Int) ≤ x0 ∧ x0 < (↑(List.length x1) : Int)))
 (test (decide (Int.toNat x0 < List.length x1))
 (Kst (hd Try.f44 1) ([PV.ptr (PA.mk (1) (0) (0) (0)),
 PV.own (3) (3) (List.length x2), PV.int IntKind.i64 (S.at' x1 (Int.toNat x0)),
 PV.unk, PV.own (2) (1) (List.length x1), PV.int IntKind.i64 (2 : Int),
 PV.int IntKind.i64 x0, PV.own (4) (1) (2),
 PV.int IntKind.i64 (2 : Int), PV.int IntKind.i64 (0 : Int), PV.unk, PV.unk,
 PV.unk, PV.unk]) ([[(0, false,
 Blk.cols mq [Col.str tq, Col.int IntKind.i64 vq, Col.int IntKind.i64 gq]),
 (4, true,
 Blk.cells [PV.int IntKind.i64 (1 : Int), PV.int IntKind.i64 (2 : Int)]),
 (2, true,
 Blk.cols (List.length x1) [Col.int IntKind.i64 fun j => S.at' x1 j]),
 (3, true,
 Blk.cols (List.length x2)
 [Col.int IntKind.i64 fun j => (S.at' x2 j).1,
 Col.int IntKind.i64 fun j => (S.at' x2 j).2.1,
 Col.int IntKind.i64 fun j => (S.at' x2 j).2.2]),
 (1, true,
 Blk.cells
 [PV.loose (PA.mk (0) (3) aq (0)) nq, PV.int IntKind.i64 de])]]) (5))
 (False))
 (False))
 (Kst (hd Try.f44 3) ([PV.ptr (PA.mk (1) (0) (0) (0)),
 PV.own (3) (3) (List.length x2), PV.unk, PV.unk,
 PV.own (2) (1) (List.length x1), PV.int IntKind.i64 (2 : Int),
 PV.int IntKind.i64 x0, PV.unk, PV.unk, PV.unk, PV.unk, PV.unk,
 PV.int IntKind.i64 (↑nq : Int), PV.int IntKind.i64 (0 : Int)]) ([[(0, false,
 Blk.cols mq [Col.str tq, Col.int IntKind.i64 vq, Col.int IntKind.i64 gq]),
 (2, true,
 Blk.cols (List.length x1) [Col.int IntKind.i64 fun j => S.at' x1 j]),
 (3, true,
 Blk.cols (List.length x2)
 [Col.int IntKind.i64 fun j => (S.at' x2 j).1,
 Col.int IntKind.i64 fun j => (S.at' x2 j).2.1,
 Col.int IntKind.i64 fun j => (S.at' x2 j).2.2]),
 (1, true,
 Blk.cells
 [PV.loose (PA.mk (0) (3) aq (0)) nq, PV.int IntKind.i64 de])]]) (4))
theorem t44_0 (test : Bool → Prop → Prop → Prop) (Kst : KS) (Kret : KR) (aq nq mq : Nat) (tq : Nat → ByteArray) (vq gq : Nat → Int) (de x0 : Int) (x1 : List Int) (x2 : List (Int × Int × Int)) : run test Try.env true noX true 400 ⟨44, hd Try.f44 0, zipT [1, 3, 5, 7, 10, 11, 12, 16, 17, 18, 24, 25, 40, 41] [PV.ptr (PA.mk (1) (0) (0) (0)),
 PV.own (3) (3) (List.length x2), PV.unk, PV.unk,
 PV.own (2) (1) (List.length x1), PV.int IntKind.i64 (2 : Int),
 PV.int IntKind.i64 x0, PV.unk, PV.unk, PV.unk, PV.unk, PV.unk, PV.unk,
 PV.unk], [[(1, (true, Blk.cells [PV.loose (PA.mk (0) (3) aq (0)) nq, PV.int IntKind.i64 de])), (2, (true, Blk.cols (List.length x1) [Col.int IntKind.i64 fun j => S.at' x1 j])), (3, (true, Blk.cols (List.length x2)
 [Col.int IntKind.i64 fun j => (S.at' x2 j).1,
 Col.int IntKind.i64 fun j => (S.at' x2 j).2.1,
 Col.int IntKind.i64 fun j => (S.at' x2 j).2.2]))], [(0, (false, .cols mq [.str tq, .int .i64 vq, .int .i64 gq]))]], 4⟩ (proj 1 [1, 3, 5, 7, 10, 11, 12, 16, 17, 18, 24, 25, 40, 41] Kst Kret) =
  T44_0 test Kst Kret aq nq mq tq vq gq de x0 x1 x2 := by kernel_rfl
noncomputable def T44_1 (test : Bool → Prop → Prop → Prop) (Kst : KS) (Kret : KR) (aq nq mq : Nat) (tq : Nat → ByteArray) (vq gq : Nat → Int) (de x0 x1 x2 : Int) (x3 x4 : List Int) (x5 : List (Int × Int × Int)) : Prop :=
  test (decide (x2 < (2 : Int)))
 (test (decide ((0 : Int) ≤ x2 ∧ x2 < (↑(List.length x4) : Int)))
 (test (decide (Int.toNat x2 < List.length x4))
 (Kst (hd Try.f44 2) ([PV.ptr (PA.mk (1) (0) (0) (0)),
 PV.own (4) (3) (List.length x5), PV.int IntKind.i64 x0,
 PV.int IntKind.i64 (S.at' x4 (Int.toNat x2)), PV.own (2) (1) (List.length x3),
 PV.int IntKind.i64 (2 : Int), PV.int IntKind.i64 x1,
 PV.own (3) (1) (List.length x4), PV.int IntKind.i64 (2 : Int),
 PV.int IntKind.i64 x2, PV.int IntKind.i64 (↑nq : Int), PV.int IntKind.i64 (0 : Int),
 PV.unk, PV.unk]) ([[(0, false,
 Blk.cols mq [Col.str tq, Col.int IntKind.i64 vq, Col.int IntKind.i64 gq]),
 (3, true,
 Blk.cols (List.length x4) [Col.int IntKind.i64 fun j => S.at' x4 j]),
 (2, true,
 Blk.cols (List.length x3) [Col.int IntKind.i64 fun j => S.at' x3 j]),
 (4, true,
 Blk.cols (List.length x5)
 [Col.int IntKind.i64 fun j => (S.at' x5 j).1,
 Col.int IntKind.i64 fun j => (S.at' x5 j).2.1,
 Col.int IntKind.i64 fun j => (S.at' x5 j).2.2]),
 (1, true,
 Blk.cells
 [PV.loose (PA.mk (0) (3) aq (0)) nq, PV.int IntKind.i64 de])]]) (5))
 (False))
 (False))
 (test (lim IntKind.i64 (x1 + (1 : Int)))
 (Kst (hd Try.f44 0) ([PV.ptr (PA.mk (1) (0) (0) (0)),
 PV.own (4) (3) (List.length x5), PV.int IntKind.i64 x0, PV.unk,
 PV.own (2) (1) (List.length x3), PV.int IntKind.i64 (2 : Int),
 PV.int IntKind.i64 (x1 + (1 : Int)), PV.own (3) (1) (List.length x4),
 PV.int IntKind.i64 (2 : Int), PV.int IntKind.i64 x2, PV.unk, PV.unk, PV.unk,
 PV.unk]) ([[(0, false,
 Blk.cols mq [Col.str tq, Col.int IntKind.i64 vq, Col.int IntKind.i64 gq]),
 (3, true,
 Blk.cols (List.length x4) [Col.int IntKind.i64 fun j => S.at' x4 j]),
 (2, true,
 Blk.cols (List.length x3) [Col.int IntKind.i64 fun j => S.at' x3 j]),
 (4, true,
 Blk.cols (List.length x5)
 [Col.int IntKind.i64 fun j => (S.at' x5 j).1,
 Col.int IntKind.i64 fun j => (S.at' x5 j).2.1,
 Col.int IntKind.i64 fun j => (S.at' x5 j).2.2]),
 (1, true,
 Blk.cells
 [PV.loose (PA.mk (0) (3) aq (0)) nq, PV.int IntKind.i64 de])]]) (5))
 (False))
theorem t44_1 (test : Bool → Prop → Prop → Prop) (Kst : KS) (Kret : KR) (aq nq mq : Nat) (tq : Nat → ByteArray) (vq gq : Nat → Int) (de x0 x1 x2 : Int) (x3 x4 : List Int) (x5 : List (Int × Int × Int)) : run test Try.env true noX true 400 ⟨44, hd Try.f44 1, zipT [1, 3, 5, 7, 10, 11, 12, 16, 17, 18, 24, 25, 40, 41] [PV.ptr (PA.mk (1) (0) (0) (0)),
 PV.own (4) (3) (List.length x5), PV.int IntKind.i64 x0, PV.unk,
 PV.own (2) (1) (List.length x3), PV.int IntKind.i64 (2 : Int),
 PV.int IntKind.i64 x1, PV.own (3) (1) (List.length x4),
 PV.int IntKind.i64 (2 : Int), PV.int IntKind.i64 x2, PV.unk, PV.unk, PV.unk,
 PV.unk], [[(1, (true, Blk.cells [PV.loose (PA.mk (0) (3) aq (0)) nq, PV.int IntKind.i64 de])), (2, (true, Blk.cols (List.length x3) [Col.int IntKind.i64 fun j => S.at' x3 j])), (3, (true, Blk.cols (List.length x4) [Col.int IntKind.i64 fun j => S.at' x4 j])), (4, (true, Blk.cols (List.length x5)
 [Col.int IntKind.i64 fun j => (S.at' x5 j).1,
 Col.int IntKind.i64 fun j => (S.at' x5 j).2.1,
 Col.int IntKind.i64 fun j => (S.at' x5 j).2.2]))], [(0, (false, .cols mq [.str tq, .int .i64 vq, .int .i64 gq]))]], 5⟩ (proj 1 [1, 3, 5, 7, 10, 11, 12, 16, 17, 18, 24, 25, 40, 41] Kst Kret) =
  T44_1 test Kst Kret aq nq mq tq vq gq de x0 x1 x2 x3 x4 x5 := by kernel_rfl
noncomputable def T44_2 (test : Bool → Prop → Prop → Prop) (Kst : KS) (Kret : KR) (aq nq mq : Nat) (tq : Nat → ByteArray) (vq gq : Nat → Int) (de x0 x1 x2 x3 x4 : Int) (x5 x6 : List Int) (x7 : List (Int × Int × Int)) : Prop :=
  test (decide (x4 < (↑nq : Int)))
 (test (decide (List.length x7 + 1 ≤ 1000000))
 (test (decide (List.length x7 ≤ List.length x7))
 (test (true)
 (test (lim IntKind.i64 (x4 + (1 : Int)))
 (Kst (hd Try.f44 2) ([PV.ptr (PA.mk (1) (0) (0) (0)),
 PV.own (6) (3) (List.length x7 + 1), PV.int IntKind.i64 x0,
 PV.int IntKind.i64 x1, PV.own (2) (1) (List.length x5),
 PV.int IntKind.i64 (2 : Int), PV.int IntKind.i64 x2,
 PV.own (3) (1) (List.length x6), PV.int IntKind.i64 (2 : Int),
 PV.int IntKind.i64 x3, PV.int IntKind.i64 (↑nq : Int), PV.int IntKind.i64 (x4 + (1 : Int)),
 PV.unk, PV.unk]) ([[(0, false,
 Blk.cols mq [Col.str tq, Col.int IntKind.i64 vq, Col.int IntKind.i64 gq]),
 (3, true,
 Blk.cols (List.length x6) [Col.int IntKind.i64 fun j => S.at' x6 j]),
 (2, true,
 Blk.cols (List.length x5) [Col.int IntKind.i64 fun j => S.at' x5 j]),
 (6, true,
 Blk.cols (List.length x7 + 1)
 [Col.int IntKind.i64 fun j =>
 bif Nat.blt j (List.length x7) then (S.at' x7 j).1 else x0,
 Col.int IntKind.i64 fun j =>
 bif Nat.blt j (List.length x7) then (S.at' x7 j).2.1 else x1,
 Col.int IntKind.i64 fun j =>
 bif Nat.blt j (List.length x7) then (S.at' x7 j).2.2 else x4]),
 (1, true,
 Blk.cells
 [PV.loose (PA.mk (0) (3) aq (0)) nq, PV.int IntKind.i64 de])]]) (7))
 (False))
 (False))
 (False))
 (False))
 (test (lim IntKind.i64 (x3 + (1 : Int)))
 (Kst (hd Try.f44 1) ([PV.ptr (PA.mk (1) (0) (0) (0)),
 PV.own (4) (3) (List.length x7), PV.int IntKind.i64 x0, PV.int IntKind.i64 x1,
 PV.own (2) (1) (List.length x5), PV.int IntKind.i64 (2 : Int),
 PV.int IntKind.i64 x2, PV.own (3) (1) (List.length x6),
 PV.int IntKind.i64 (2 : Int), PV.int IntKind.i64 (x3 + (1 : Int)),
 PV.int IntKind.i64 (↑nq : Int), PV.int IntKind.i64 x4, PV.unk, PV.unk]) ([[(0, false,
 Blk.cols mq [Col.str tq, Col.int IntKind.i64 vq, Col.int IntKind.i64 gq]),
 (3, true,
 Blk.cols (List.length x6) [Col.int IntKind.i64 fun j => S.at' x6 j]),
 (2, true,
 Blk.cols (List.length x5) [Col.int IntKind.i64 fun j => S.at' x5 j]),
 (4, true,
 Blk.cols (List.length x7)
 [Col.int IntKind.i64 fun j => (S.at' x7 j).1,
 Col.int IntKind.i64 fun j => (S.at' x7 j).2.1,
 Col.int IntKind.i64 fun j => (S.at' x7 j).2.2]),
 (1, true,
 Blk.cells
 [PV.loose (PA.mk (0) (3) aq (0)) nq, PV.int IntKind.i64 de])]]) (5))
 (False))
theorem t44_2 (test : Bool → Prop → Prop → Prop) (Kst : KS) (Kret : KR) (aq nq mq : Nat) (tq : Nat → ByteArray) (vq gq : Nat → Int) (de x0 x1 x2 x3 x4 : Int) (x5 x6 : List Int) (x7 : List (Int × Int × Int)) : run test Try.env true noX true 400 ⟨44, hd Try.f44 2, zipT [1, 3, 5, 7, 10, 11, 12, 16, 17, 18, 24, 25, 40, 41] [PV.ptr (PA.mk (1) (0) (0) (0)),
 PV.own (4) (3) (List.length x7), PV.int IntKind.i64 x0, PV.int IntKind.i64 x1,
 PV.own (2) (1) (List.length x5), PV.int IntKind.i64 (2 : Int),
 PV.int IntKind.i64 x2, PV.own (3) (1) (List.length x6),
 PV.int IntKind.i64 (2 : Int), PV.int IntKind.i64 x3, PV.int IntKind.i64 (↑nq : Int),
 PV.int IntKind.i64 x4, PV.unk, PV.unk], [[(1, (true, Blk.cells [PV.loose (PA.mk (0) (3) aq (0)) nq, PV.int IntKind.i64 de])), (2, (true, Blk.cols (List.length x5) [Col.int IntKind.i64 fun j => S.at' x5 j])), (3, (true, Blk.cols (List.length x6) [Col.int IntKind.i64 fun j => S.at' x6 j])), (4, (true, Blk.cols (List.length x7)
 [Col.int IntKind.i64 fun j => (S.at' x7 j).1,
 Col.int IntKind.i64 fun j => (S.at' x7 j).2.1,
 Col.int IntKind.i64 fun j => (S.at' x7 j).2.2]))], [(0, (false, .cols mq [.str tq, .int .i64 vq, .int .i64 gq]))]], 5⟩ (proj 1 [1, 3, 5, 7, 10, 11, 12, 16, 17, 18, 24, 25, 40, 41] Kst Kret) =
  T44_2 test Kst Kret aq nq mq tq vq gq de x0 x1 x2 x3 x4 x5 x6 x7 := by kernel_rfl
noncomputable def T44_3 (test : Bool → Prop → Prop → Prop) (Kst : KS) (Kret : KR) (aq nq mq : Nat) (tq : Nat → ByteArray) (vq gq : Nat → Int) (de x0 : Int) (x1 : List (Int × Int × Int)) : Prop :=
  test (decide (x0 < (↑nq : Int)))
 (test (decide (List.length x1 + 1 ≤ 1000000))
 (test (decide (List.length x1 ≤ List.length x1))
 (test (true)
 (test (lim IntKind.i64 (x0 + (1 : Int)))
 (Kst (hd Try.f44 3) ([PV.unk, PV.own (3) (3) (List.length x1 + 1), PV.unk, PV.unk,
 PV.unk, PV.unk, PV.unk, PV.unk, PV.unk, PV.unk, PV.unk, PV.unk,
 PV.int IntKind.i64 (↑nq : Int), PV.int IntKind.i64 (x0 + (1 : Int))]) ([[(0, false,
 Blk.cols mq [Col.str tq, Col.int IntKind.i64 vq, Col.int IntKind.i64 gq]),
 (3, true,
 Blk.cols (List.length x1 + 1)
 [Col.int IntKind.i64 fun j =>
 bif Nat.blt j (List.length x1) then (S.at' x1 j).1 else (3 : Int),
 Col.int IntKind.i64 fun j =>
 bif Nat.blt j (List.length x1) then (S.at' x1 j).2.1 else (0 : Int),
 Col.int IntKind.i64 fun j =>
 bif Nat.blt j (List.length x1) then (S.at' x1 j).2.2 else x0])]]) (4))
 (False))
 (False))
 (False))
 (False))
 (test (decide (List.length x1 + 2 ≤ 1000000))
 (test (decide (List.length x1 ≤ List.length x1))
 (test (true)
 (Kret (PV.own (3) (3) (List.length x1 + 2)) ([[(0, false,
 Blk.cols mq [Col.str tq, Col.int IntKind.i64 vq, Col.int IntKind.i64 gq]),
 (3, true,
 Blk.cols (List.length x1 + 2)
 [Col.int IntKind.i64 fun j =>
 bif Nat.blt j (List.length x1) then (S.at' x1 j).1
 else bif Nat.blt (j - List.length x1) (1) then (4 : Int) else (4 : Int),
 Col.int IntKind.i64 fun j =>
 bif Nat.blt j (List.length x1) then (S.at' x1 j).2.1
 else bif Nat.blt (j - List.length x1) (1) then (1 : Int) else (2 : Int),
 Col.int IntKind.i64 fun j =>
 bif Nat.blt j (List.length x1) then (S.at' x1 j).2.2
 else bif Nat.blt (j - List.length x1) (1) then (0 : Int) else (0 : Int)])]]) (4))
 (False))
 (False))
 (False))
theorem t44_3 (test : Bool → Prop → Prop → Prop) (Kst : KS) (Kret : KR) (aq nq mq : Nat) (tq : Nat → ByteArray) (vq gq : Nat → Int) (de x0 : Int) (x1 : List (Int × Int × Int)) : run test Try.env true noX true 400 ⟨44, hd Try.f44 3, zipT [1, 3, 5, 7, 10, 11, 12, 16, 17, 18, 24, 25, 40, 41] [PV.unk, PV.own (1) (3) (List.length x1), PV.unk, PV.unk, PV.unk,
 PV.unk, PV.unk, PV.unk, PV.unk, PV.unk, PV.unk, PV.unk,
 PV.int IntKind.i64 (↑nq : Int), PV.int IntKind.i64 x0], [[(1, (true, Blk.cols (List.length x1)
 [Col.int IntKind.i64 fun j => (S.at' x1 j).1,
 Col.int IntKind.i64 fun j => (S.at' x1 j).2.1,
 Col.int IntKind.i64 fun j => (S.at' x1 j).2.2]))], [(0, (false, .cols mq [.str tq, .int .i64 vq, .int .i64 gq]))]], 2⟩ (proj 1 [1, 3, 5, 7, 10, 11, 12, 16, 17, 18, 24, 25, 40, 41] Kst Kret) =
  T44_3 test Kst Kret aq nq mq tq vq gq de x0 x1 := by kernel_rfl
theorem be44 (aq nq mq : Nat) (tq : Nat → ByteArray) (vq gq : Nat → Int) (de : Int) (Kst : KS) (Kret : KR) (x : St44 ⊕ Rt44) (hS : HS 1 400 ((I44 aq nq mq tq vq gq de)) Kst x) (hR : HR 1 400 ((V44 aq nq mq tq vq gq de)) (fun r => [newL (1 + 1) ((N44 aq nq mq tq vq gq de) r) ++ [(0, (false, .cols mq [.str tq, .int .i64 vq, .int .i64 gq]))]]) Kret x) (h : (some (.inl (.h0 ((0 : Int)) ([(1 : Int), (2 : Int)]) ([]))) : Option (St44 ⊕ Rt44)) = some x) : Te44 cond Kst Kret aq nq mq tq vq gq de := by
  unfold Te44
  exact stop_at hS _ h (fun n => bif Nat.beq n 1 then 1 else bif Nat.beq n 2 then 2 else bif Nat.beq n 3 then 399 else n) rfl rfl rfl ⟨(rn_ptr (use_own rfl) rfl rfl), ⟨(rn_own_nils rfl), ⟨(rn_unk _), ⟨(rn_unk _), ⟨(rn_own (use_own rfl) rfl rfl), ⟨(rn_int rfl), ⟨(rn_int rfl), ⟨(rn_unk _), ⟨(rn_unk _), ⟨(rn_unk _), ⟨(rn_unk _), ⟨(rn_unk _), ⟨(rn_unk _), ⟨(rn_unk _), trivial⟩⟩⟩⟩⟩⟩⟩⟩⟩⟩⟩⟩⟩⟩ rfl (entl_b (use_own rfl) rfl (by simp) (rb_cells ⟨(rn_loose (use_lo rfl) rfl rfl rfl), (rn_int rfl), trivial⟩) (entl_b (use_own rfl) rfl (by simp) (rb_lit (fun j hj i hi => (match j, hj with | 0, _ => (match i, hi with | 0, _ => ⟨_, rfl, rn_int rfl⟩ | _ + 1, h => absurd h (by simp [lenc])) | 1, _ => (match i, hi with | 0, _ => ⟨_, rfl, rn_int rfl⟩ | _ + 1, h => absurd h (by simp [lenc])) | _ + 2, h => absurd h (by simp)))) (entl_fresh (use_own rfl) (fresh_ok rfl) (entl_bor (use_lo rfl) rfl rfl entl_nil))))
theorem b44_0 (aq nq mq : Nat) (tq : Nat → ByteArray) (vq gq : Nat → Int) (de : Int) (Kst : KS) (Kret : KR) (x : St44 ⊕ Rt44) (hS : HS 1 400 ((I44 aq nq mq tq vq gq de)) Kst x) (hR : HR 1 400 ((V44 aq nq mq tq vq gq de)) (fun r => [newL (1 + 1) ((N44 aq nq mq tq vq gq de) r) ++ [(0, (false, .cols mq [.str tq, .int .i64 vq, .int .i64 gq]))]]) Kret x) (x0 : Int) (x1 : List Int) (x2 : List (Int × Int × Int)) (h : (bif (decide (x0 < (2 : Int)))
 then (bif (decide ((0 : Int) ≤ x0 ∧ x0 < (↑(List.length x1) : Int)))
 then (bif (decide (Int.toNat x0 < List.length x1))
 then (some (.inl (.h1 (S.at' x1 (Int.toNat x0)) (x0) ((0 : Int)) (x1) ([(1 : Int), (2 : Int)]) (x2))))
 else (none))
 else (none))
 else (some (.inl (.h3 ((0 : Int)) (x2)))) : Option (St44 ⊕ Rt44)) = some x) : T44_0 cond Kst Kret aq nq mq tq vq gq de x0 x1 x2 := by
  unfold T44_0
  exact bif_split h
   (fun c0 h => bif_split h
   (fun c1 h => bif_split h
   (fun c2 h => stop_at hS _ h (fun n => bif Nat.beq n 1 then 1 else bif Nat.beq n 2 then 2 else bif Nat.beq n 3 then 4 else bif Nat.beq n 4 then 3 else n) rfl rfl rfl ⟨(rn_ptr (use_own rfl) rfl rfl), ⟨(rn_own (use_own rfl) rfl rfl), ⟨(rn_int rfl), ⟨(rn_unk _), ⟨(rn_own (use_own rfl) rfl rfl), ⟨(rn_int rfl), ⟨(rn_int rfl), ⟨(rn_own (use_own rfl) rfl rfl), ⟨(rn_int rfl), ⟨(rn_int rfl), ⟨(rn_unk _), ⟨(rn_unk _), ⟨(rn_unk _), ⟨(rn_unk _), trivial⟩⟩⟩⟩⟩⟩⟩⟩⟩⟩⟩⟩⟩⟩ rfl (entl_b (use_own rfl) rfl (by simp) (rb_cells ⟨(rn_loose (use_lo rfl) rfl rfl rfl), (rn_int rfl), trivial⟩) (entl_new (use_own rfl) rfl (Nat.le_of_eq rfl) (rcs_int (fun _ _ => rfl) rcs_nil) (entl_b (use_own rfl) rfl (by simp) (rb_lit (fun j hj i hi => (match j, hj with | 0, _ => (match i, hi with | 0, _ => ⟨_, rfl, rn_int rfl⟩ | _ + 1, h => absurd h (by simp [lenc])) | 1, _ => (match i, hi with | 0, _ => ⟨_, rfl, rn_int rfl⟩ | _ + 1, h => absurd h (by simp [lenc])) | _ + 2, h => absurd h (by simp)))) (entl_new (use_own rfl) rfl (Nat.le_of_eq rfl) (rcs_int (fun _ _ => rfl) (rcs_int (fun _ _ => rfl) (rcs_int (fun _ _ => rfl) rcs_nil))) (entl_bor (use_lo rfl) rfl rfl entl_nil))))))
   (fun c2 h => no_some h))
   (fun c1 h => no_some h))
   (fun c0 h => stop_at hS _ h (fun n => bif Nat.beq n 1 then 3 else n) rfl rfl rfl ⟨(rn_unk _), ⟨(rn_own (use_own rfl) rfl rfl), ⟨(rn_unk _), ⟨(rn_unk _), ⟨(rn_unk _), ⟨(rn_unk _), ⟨(rn_unk _), ⟨(rn_unk _), ⟨(rn_unk _), ⟨(rn_unk _), ⟨(rn_unk _), ⟨(rn_unk _), ⟨(rn_int rfl), ⟨(rn_int rfl), trivial⟩⟩⟩⟩⟩⟩⟩⟩⟩⟩⟩⟩⟩⟩ rfl (entl_new (use_own rfl) rfl (Nat.le_of_eq rfl) (rcs_int (fun _ _ => rfl) (rcs_int (fun _ _ => rfl) (rcs_int (fun _ _ => rfl) rcs_nil))) (entl_bor (use_lo rfl) rfl rfl entl_nil)))
theorem b44_1 (aq nq mq : Nat) (tq : Nat → ByteArray) (vq gq : Nat → Int) (de : Int) (Kst : KS) (Kret : KR) (x : St44 ⊕ Rt44) (hS : HS 1 400 ((I44 aq nq mq tq vq gq de)) Kst x) (hR : HR 1 400 ((V44 aq nq mq tq vq gq de)) (fun r => [newL (1 + 1) ((N44 aq nq mq tq vq gq de) r) ++ [(0, (false, .cols mq [.str tq, .int .i64 vq, .int .i64 gq]))]]) Kret x) (x0 x1 x2 : Int) (x3 x4 : List Int) (x5 : List (Int × Int × Int)) (h : (bif (decide (x2 < (2 : Int)))
 then (bif (decide ((0 : Int) ≤ x2 ∧ x2 < (↑(List.length x4) : Int)))
 then (bif (decide (Int.toNat x2 < List.length x4))
 then (some (.inl (.h2 (x0) (S.at' x4 (Int.toNat x2)) (x1) (x2) ((0 : Int)) (x3) (x4) (x5))))
 else (none))
 else (none))
 else (bif (lim IntKind.i64 (x1 + (1 : Int)))
 then (some (.inl (.h0 (x1 + (1 : Int)) (x3) (x5))))
 else (none)) : Option (St44 ⊕ Rt44)) = some x) : T44_1 cond Kst Kret aq nq mq tq vq gq de x0 x1 x2 x3 x4 x5 := by
  unfold T44_1
  exact bif_split h
   (fun c0 h => bif_split h
   (fun c1 h => bif_split h
   (fun c2 h => stop_at hS _ h (fun n => bif Nat.beq n 1 then 1 else bif Nat.beq n 2 then 2 else bif Nat.beq n 3 then 3 else bif Nat.beq n 4 then 4 else n) rfl rfl rfl ⟨(rn_ptr (use_own rfl) rfl rfl), ⟨(rn_own (use_own rfl) rfl rfl), ⟨(rn_int rfl), ⟨(rn_int rfl), ⟨(rn_own (use_own rfl) rfl rfl), ⟨(rn_int rfl), ⟨(rn_int rfl), ⟨(rn_own (use_own rfl) rfl rfl), ⟨(rn_int rfl), ⟨(rn_int rfl), ⟨(rn_int rfl), ⟨(rn_int rfl), ⟨(rn_unk _), ⟨(rn_unk _), trivial⟩⟩⟩⟩⟩⟩⟩⟩⟩⟩⟩⟩⟩⟩ rfl (entl_b (use_own rfl) rfl (by simp) (rb_cells ⟨(rn_loose (use_lo rfl) rfl rfl rfl), (rn_int rfl), trivial⟩) (entl_new (use_own rfl) rfl (Nat.le_of_eq rfl) (rcs_int (fun _ _ => rfl) rcs_nil) (entl_new (use_own rfl) rfl (Nat.le_of_eq rfl) (rcs_int (fun _ _ => rfl) rcs_nil) (entl_new (use_own rfl) rfl (Nat.le_of_eq rfl) (rcs_int (fun _ _ => rfl) (rcs_int (fun _ _ => rfl) (rcs_int (fun _ _ => rfl) rcs_nil))) (entl_bor (use_lo rfl) rfl rfl entl_nil))))))
   (fun c2 h => no_some h))
   (fun c1 h => no_some h))
   (fun c0 h => bif_split h
   (fun c1 h => stop_at hS _ h (fun n => bif Nat.beq n 1 then 1 else bif Nat.beq n 2 then 2 else bif Nat.beq n 3 then 4 else n) rfl rfl rfl ⟨(rn_ptr (use_own rfl) rfl rfl), ⟨(rn_own (use_own rfl) rfl rfl), ⟨(rn_unk _), ⟨(rn_unk _), ⟨(rn_own (use_own rfl) rfl rfl), ⟨(rn_int rfl), ⟨(rn_int rfl), ⟨(rn_unk _), ⟨(rn_unk _), ⟨(rn_unk _), ⟨(rn_unk _), ⟨(rn_unk _), ⟨(rn_unk _), ⟨(rn_unk _), trivial⟩⟩⟩⟩⟩⟩⟩⟩⟩⟩⟩⟩⟩⟩ rfl (entl_b (use_own rfl) rfl (by simp) (rb_cells ⟨(rn_loose (use_lo rfl) rfl rfl rfl), (rn_int rfl), trivial⟩) (entl_new (use_own rfl) rfl (Nat.le_of_eq rfl) (rcs_int (fun _ _ => rfl) rcs_nil) (entl_new (use_own rfl) rfl (Nat.le_of_eq rfl) (rcs_int (fun _ _ => rfl) (rcs_int (fun _ _ => rfl) (rcs_int (fun _ _ => rfl) rcs_nil))) (entl_bor (use_lo rfl) rfl rfl entl_nil)))))
   (fun c1 h => no_some h))
theorem b44_2 (aq nq mq : Nat) (tq : Nat → ByteArray) (vq gq : Nat → Int) (de : Int) (Kst : KS) (Kret : KR) (x : St44 ⊕ Rt44) (hS : HS 1 400 ((I44 aq nq mq tq vq gq de)) Kst x) (hR : HR 1 400 ((V44 aq nq mq tq vq gq de)) (fun r => [newL (1 + 1) ((N44 aq nq mq tq vq gq de) r) ++ [(0, (false, .cols mq [.str tq, .int .i64 vq, .int .i64 gq]))]]) Kret x) (x0 x1 x2 x3 x4 : Int) (x5 x6 : List Int) (x7 : List (Int × Int × Int)) (h : (bif (decide (x4 < (↑nq : Int)))
 then (bif (decide (List.length x7 + 1 ≤ 1000000))
 then (bif (decide (List.length x7 ≤ List.length x7))
 then (bif (lim IntKind.i64 (x4 + (1 : Int)))
 then (some (.inl (.h2 (x0) (x1) (x2) (x3) (x4 + (1 : Int)) (x5) (x6) (S.snoc x7 (x0, x1, x4)))))
 else (none))
 else (none))
 else (none))
 else (bif (lim IntKind.i64 (x3 + (1 : Int)))
 then (some (.inl (.h1 (x0) (x2) (x3 + (1 : Int)) (x5) (x6) (x7))))
 else (none)) : Option (St44 ⊕ Rt44)) = some x) : T44_2 cond Kst Kret aq nq mq tq vq gq de x0 x1 x2 x3 x4 x5 x6 x7 := by
  unfold T44_2
  exact bif_split h
   (fun c0 h => bif_split h
   (fun c1 h => bif_split h
   (fun c2 h => cond_yes rfl (bif_split h
   (fun c3 h => stop_at hS _ h (fun n => bif Nat.beq n 1 then 1 else bif Nat.beq n 2 then 2 else bif Nat.beq n 3 then 3 else bif Nat.beq n 4 then 6 else n) rfl rfl rfl ⟨(rn_ptr (use_own rfl) rfl rfl), ⟨(rn_own (use_own rfl) rfl (snoc_len' rfl)), ⟨(rn_int rfl), ⟨(rn_int rfl), ⟨(rn_own (use_own rfl) rfl rfl), ⟨(rn_int rfl), ⟨(rn_int rfl), ⟨(rn_own (use_own rfl) rfl rfl), ⟨(rn_int rfl), ⟨(rn_int rfl), ⟨(rn_int rfl), ⟨(rn_int rfl), ⟨(rn_unk _), ⟨(rn_unk _), trivial⟩⟩⟩⟩⟩⟩⟩⟩⟩⟩⟩⟩⟩⟩ rfl (entl_b (use_own rfl) rfl (by simp) (rb_cells ⟨(rn_loose (use_lo rfl) rfl rfl rfl), (rn_int rfl), trivial⟩) (entl_new (use_own rfl) rfl (Nat.le_of_eq rfl) (rcs_int (fun _ _ => rfl) rcs_nil) (entl_new (use_own rfl) rfl (Nat.le_of_eq rfl) (rcs_int (fun _ _ => rfl) rcs_nil) (entl_new (use_own rfl) rfl (Nat.le_of_eq (snoc_len' rfl)) (rcs_int (col_snoc' (fun (t : Int × Int × Int) => t.1) rfl (fun _ _ => rfl)) (rcs_int (col_snoc' (fun (t : Int × Int × Int) => t.2.1) rfl (fun _ _ => rfl)) (rcs_int (col_snoc' (fun (t : Int × Int × Int) => t.2.2) rfl (fun _ _ => rfl)) rcs_nil))) (entl_bor (use_lo rfl) rfl rfl entl_nil))))))
   (fun c3 h => no_some h)))
   (fun c2 h => no_some h))
   (fun c1 h => no_some h))
   (fun c0 h => bif_split h
   (fun c1 h => stop_at hS _ h (fun n => bif Nat.beq n 1 then 1 else bif Nat.beq n 2 then 2 else bif Nat.beq n 3 then 3 else bif Nat.beq n 4 then 4 else n) rfl rfl rfl ⟨(rn_ptr (use_own rfl) rfl rfl), ⟨(rn_own (use_own rfl) rfl rfl), ⟨(rn_int rfl), ⟨(rn_unk _), ⟨(rn_own (use_own rfl) rfl rfl), ⟨(rn_int rfl), ⟨(rn_int rfl), ⟨(rn_own (use_own rfl) rfl rfl), ⟨(rn_int rfl), ⟨(rn_int rfl), ⟨(rn_unk _), ⟨(rn_unk _), ⟨(rn_unk _), ⟨(rn_unk _), trivial⟩⟩⟩⟩⟩⟩⟩⟩⟩⟩⟩⟩⟩⟩ rfl (entl_b (use_own rfl) rfl (by simp) (rb_cells ⟨(rn_loose (use_lo rfl) rfl rfl rfl), (rn_int rfl), trivial⟩) (entl_new (use_own rfl) rfl (Nat.le_of_eq rfl) (rcs_int (fun _ _ => rfl) rcs_nil) (entl_new (use_own rfl) rfl (Nat.le_of_eq rfl) (rcs_int (fun _ _ => rfl) rcs_nil) (entl_new (use_own rfl) rfl (Nat.le_of_eq rfl) (rcs_int (fun _ _ => rfl) (rcs_int (fun _ _ => rfl) (rcs_int (fun _ _ => rfl) rcs_nil))) (entl_bor (use_lo rfl) rfl rfl entl_nil))))))
   (fun c1 h => no_some h))
theorem b44_3 (aq nq mq : Nat) (tq : Nat → ByteArray) (vq gq : Nat → Int) (de : Int) (Kst : KS) (Kret : KR) (x : St44 ⊕ Rt44) (hS : HS 1 400 ((I44 aq nq mq tq vq gq de)) Kst x) (hR : HR 1 400 ((V44 aq nq mq tq vq gq de)) (fun r => [newL (1 + 1) ((N44 aq nq mq tq vq gq de) r) ++ [(0, (false, .cols mq [.str tq, .int .i64 vq, .int .i64 gq]))]]) Kret x) (x0 : Int) (x1 : List (Int × Int × Int)) (h : (bif (decide (x0 < (↑nq : Int)))
 then (bif (decide (List.length x1 + 1 ≤ 1000000))
 then (bif (decide (List.length x1 ≤ List.length x1))
 then (bif (lim IntKind.i64 (x0 + (1 : Int)))
 then (some (.inl (.h3 (x0 + (1 : Int)) (S.snoc x1 ((3 : Int), (0 : Int), x0)))))
 else (none))
 else (none))
 else (none))
 else (bif (decide (List.length x1 + 2 ≤ 1000000))
 then (bif (decide (List.length x1 ≤ List.length x1))
 then (some (.inr (S.mkl (List.length x1 + 2) fun j =>
 (bif Nat.blt j (List.length x1) then (S.at' x1 j).1
 else bif Nat.blt (j - List.length x1) (1) then (4 : Int) else (4 : Int),
 bif Nat.blt j (List.length x1) then (S.at' x1 j).2.1
 else bif Nat.blt (j - List.length x1) (1) then (1 : Int) else (2 : Int),
 bif Nat.blt j (List.length x1) then (S.at' x1 j).2.2
 else bif Nat.blt (j - List.length x1) (1) then (0 : Int) else (0 : Int)))))
 else (none))
 else (none)) : Option (St44 ⊕ Rt44)) = some x) : T44_3 cond Kst Kret aq nq mq tq vq gq de x0 x1 := by
  unfold T44_3
  exact bif_split h
   (fun c0 h => bif_split h
   (fun c1 h => bif_split h
   (fun c2 h => cond_yes rfl (bif_split h
   (fun c3 h => stop_at hS _ h (fun n => bif Nat.beq n 1 then 3 else n) rfl rfl rfl ⟨(rn_unk _), ⟨(rn_own (use_own rfl) rfl (snoc_len' rfl)), ⟨(rn_unk _), ⟨(rn_unk _), ⟨(rn_unk _), ⟨(rn_unk _), ⟨(rn_unk _), ⟨(rn_unk _), ⟨(rn_unk _), ⟨(rn_unk _), ⟨(rn_unk _), ⟨(rn_unk _), ⟨(rn_int rfl), ⟨(rn_int rfl), trivial⟩⟩⟩⟩⟩⟩⟩⟩⟩⟩⟩⟩⟩⟩ rfl (entl_new (use_own rfl) rfl (Nat.le_of_eq (snoc_len' rfl)) (rcs_int (col_snoc' (fun (t : Int × Int × Int) => t.1) rfl (fun _ _ => rfl)) (rcs_int (col_snoc' (fun (t : Int × Int × Int) => t.2.1) rfl (fun _ _ => rfl)) (rcs_int (col_snoc' (fun (t : Int × Int × Int) => t.2.2) rfl (fun _ _ => rfl)) rcs_nil))) (entl_bor (use_lo rfl) rfl rfl entl_nil)))
   (fun c3 h => no_some h)))
   (fun c2 h => no_some h))
   (fun c1 h => no_some h))
   (fun c0 h => bif_split h
   (fun c1 h => bif_split h
   (fun c2 h => cond_yes rfl (ret_at hR _ h (fun n => bif Nat.beq n 2 then 3 else n) rfl rfl rfl (rn_own (use_own rfl) rfl mkl_len) rfl (entl_new (use_own rfl) rfl (Nat.le_of_eq mkl_len) (rcs_int (fun _ hj => col_mkl (fun (t : Int × Int × Int) => t.1) hj) (rcs_int (fun _ hj => col_mkl (fun (t : Int × Int × Int) => t.2.1) hj) (rcs_int (fun _ hj => col_mkl (fun (t : Int × Int × Int) => t.2.2) hj) rcs_nil))) (entl_bor (use_lo rfl) rfl rfl entl_nil))))
   (fun c2 h => no_some h))
   (fun c1 h => no_some h))
theorem a44 (aq nq mq : Nat) (tq : Nat → ByteArray) (vq gq : Nat → Int) (de : Int) {r : Rt44} (h : Goes ((q44 aq nq mq tq vq gq de)) ((p44 aq nq mq tq vq gq de)) r) : CallR Try.prog 44 [.agg [.loose ⟨0, 3, aq, 0⟩ nq, .int .i64 de]] [[(0, (false, .cols mq [.str tq, .int .i64 vq, .int .i64 gq]))]] 1 ((V44 aq nq mq tq vq gq de) r) ((fun r => [newL (1 + 1) ((N44 aq nq mq tq vq gq de) r) ++ [(0, (false, .cols mq [.str tq, .int .i64 vq, .int .i64 gq]))]]) r) 400 ∧ ∃ F, Try.prog.funcs[44]? = some F ∧ F.body.isSome = true ∧ (F.name == "runtime.NumGoroutine") = false := by
  refine dec_calls (f := 44) (lo := 1) (hi := 400) (H := [[(0, (false, .cols mq [.str tq, .int .i64 vq, .int .i64 gq]))]]) (args := [.agg [.loose ⟨0, 3, aq, 0⟩ nq, .int .i64 de]]) Try.envOk Try.mixed noX_ok ((I44 aq nq mq tq vq gq de)) ((V44 aq nq mq tq vq gq de)) (fun r => [newL (1 + 1) ((N44 aq nq mq tq vq gq de) r) ++ [(0, (false, .cols mq [.str tq, .int .i64 vq, .int .i64 gq]))]]) (fn := mkFn Try.f44) (ts := [1, 3, 5, 7, 10, 11, 12, 16, 17, 18, 24, 25, 40, 41]) (n := 400) rfl (by decide) (by simp) (names_of rfl) ?_ ?_ ?_ h
  · intro s; cases s <;> exact ⟨hd_ok _ _, by simp [I44], names_of rfl, Nat.le_of_ble_eq_true rfl⟩
  · intro Kst Kret x hS hR h
    exact Holds.eq (te44 cond Kst Kret aq nq mq tq vq gq de) (be44 aq nq mq tq vq gq de Kst Kret x hS hR h)
  · intro Kst Kret x hS hR s h
    cases s with
    | h0 x0 x1 x2 => exact Holds.eq (t44_0 cond Kst Kret aq nq mq tq vq gq de x0 x1 x2) (b44_0 aq nq mq tq vq gq de Kst Kret x hS hR x0 x1 x2 h)
    | h1 x0 x1 x2 x3 x4 x5 => exact Holds.eq (t44_1 cond Kst Kret aq nq mq tq vq gq de x0 x1 x2 x3 x4 x5) (b44_1 aq nq mq tq vq gq de Kst Kret x hS hR x0 x1 x2 x3 x4 x5 h)
    | h2 x0 x1 x2 x3 x4 x5 x6 x7 => exact Holds.eq (t44_2 cond Kst Kret aq nq mq tq vq gq de x0 x1 x2 x3 x4 x5 x6 x7) (b44_2 aq nq mq tq vq gq de Kst Kret x hS hR x0 x1 x2 x3 x4 x5 x6 x7 h)
    | h3 x0 x1 => exact Holds.eq (t44_3 cond Kst Kret aq nq mq tq vq gq de x0 x1) (b44_3 aq nq mq tq vq gq de Kst Kret x hS hR x0 x1 h)
noncomputable def k44  : Con := ⟨44, [.agg [.list [.str, .int .i64, .int .i64], .plain (.int .i64)]], fun (x : ((Nat × Nat × Nat × (Nat → ByteArray) × (Nat → Int) × (Nat → Int) × Unit) × Int × Unit) × Unit) => (fun (aq nq mq : Nat) (tq : Nat → ByteArray) (vq : Nat → Int) (gq : Nat → Int) (de : Int) => decide (nq ≤ 100000)) x.1.1.1 x.1.1.2.1 x.1.1.2.2.1 x.1.1.2.2.2.1 x.1.1.2.2.2.2.1 x.1.1.2.2.2.2.2.1 x.1.2.1, fun (x : ((Nat × Nat × Nat × (Nat → ByteArray) × (Nat → Int) × (Nat → Int) × Unit) × Int × Unit) × Unit) => (fun (aq nq mq : Nat) (tq : Nat → ByteArray) (vq : Nat → Int) (gq : Nat → Int) (de : Int) => (V44 aq nq mq tq vq gq de) (S.failL nq)) x.1.1.1 x.1.1.2.1 x.1.1.2.2.1 x.1.1.2.2.2.1 x.1.1.2.2.2.2.1 x.1.1.2.2.2.2.2.1 x.1.2.1, fun (x : ((Nat × Nat × Nat × (Nat → ByteArray) × (Nat → Int) × (Nat → Int) × Unit) × Int × Unit) × Unit) => (fun (aq nq mq : Nat) (tq : Nat → ByteArray) (vq : Nat → Int) (gq : Nat → Int) (de : Int) => (N44 aq nq mq tq vq gq de) (S.failL nq)) x.1.1.1 x.1.1.2.1 x.1.1.2.2.1 x.1.1.2.2.2.1 x.1.1.2.2.2.2.1 x.1.1.2.2.2.2.2.1 x.1.2.1, fun _ _ => .dead⟩
theorem s44a (aq nq mq : Nat) (tq : Nat → ByteArray) (vq gq : Nat → Int) (de : Int) (hp : nq ≤ 100000) (k l a b : Int) (hb : lim .i64 (b + 1) = true) (U V : List Int) (R : List (Int × Int × Int)) : ∀ (c i : Nat) (L : List (Int × Int × Int)), i + c = nq → L.length ≤ 500000 + i → Comes (q44 aq nq mq tq vq gq de) (.h1 k a (b + 1) U V (S.fcl k l i c L)) R → Comes (q44 aq nq mq tq vq gq de) (.h2 k l a b (i : Int) U V L) R := by
  intro c
  induction c with
  | zero =>
    intro i L hi hL hm
    apply Comes.of
    show Goes _ _ _
    (first | rw [q44] | unfold q44)
    try simp only [hb, cond_true]
    try show Goes _ _ _
    repeat' first
      | with_reducible refine goes_if (fun h => ?_) (fun h => ?_) <;> (try simp only [SH] at h)
      | exact goes_none.mpr (by omega)
    all_goals first | (exfalso; omega) | exact hm
  | succ c ih =>
    intro i L hi hL hm
    have ih := ih (i + 1) (S.snoc L (k, l, (i : Int))) (by omega) (by rw [snoc_len]; omega) hm
    apply Comes.of
    show Goes _ _ _
    (first | rw [q44] | unfold q44)
    try simp only [hb, cond_true]
    try show Goes _ _ _
    repeat' first
      | with_reducible refine goes_if (fun h => ?_) (fun h => ?_) <;> (try simp only [SH] at h)
      | exact goes_none.mpr (by omega)
    all_goals first | (exfalso; omega) | exact ih
theorem s44b (aq nq mq : Nat) (tq : Nat → ByteArray) (vq gq : Nat → Int) (de : Int) (hp : nq ≤ 100000) (R : List (Int × Int × Int)) : ∀ (c i : Nat) (L : List (Int × Int × Int)), i + c = nq → L.length ≤ 500000 + i → S.snoc (S.snoc (S.fcl 3 0 i c L) (4, 1, 0)) (4, 2, 0) = R → Comes (q44 aq nq mq tq vq gq de) (.h3 (i : Int) L) R := by
  intro c
  induction c with
  | zero =>
    intro i L hi hL hm
    apply Comes.of
    show Goes _ _ _
    (first | rw [q44] | unfold q44)
    try simp only [snoc_two]
    try show Goes _ _ _
    repeat' first
      | with_reducible refine goes_if (fun h => ?_) (fun h => ?_) <;> (try simp only [SH] at h)
      | exact goes_none.mpr (by omega)
    all_goals first | (exfalso; omega) | exact goes_inr.mpr hm
  | succ c ih =>
    intro i L hi hL hm
    have ih := ih (i + 1) (S.snoc L (3, 0, (i : Int))) (by omega) (by rw [snoc_len]; omega) hm
    apply Comes.of
    show Goes _ _ _
    (first | rw [q44] | unfold q44)
    try simp only [snoc_two]
    try show Goes _ _ _
    repeat' first
      | with_reducible refine goes_if (fun h => ?_) (fun h => ?_) <;> (try simp only [SH] at h)
      | exact goes_none.mpr (by omega)
    all_goals first | (exfalso; omega) | exact ih
theorem s44 (aq nq mq : Nat) (tq : Nat → ByteArray) (vq gq : Nat → Int) (de : Int) (hp : nq ≤ 100000) : Goes ((q44 aq nq mq tq vq gq de)) ((p44 aq nq mq tq vq gq de)) (S.failL nq) := by
  have e : ∀ U V : List Int, ∀ k a b : Int, lim .i64 (b + 1) = true → ∀ l L R, L.length ≤ 500000 → Comes (q44 aq nq mq tq vq gq de) (.h1 k a (b + 1) U V (S.fcl k l 0 nq L)) R → Comes (q44 aq nq mq tq vq gq de) (.h2 k l a b 0 U V L) R := fun U V k a b hb l L R hL h => s44a aq nq mq tq vq gq de hp k l a b hb U V R nq 0 L (Nat.zero_add _) hL h
  unfold p44
  show Comes _ _ _
  refine Comes.next (s' := .h1 1 0 0 [1, 2] [1, 2] []) rfl (Comes.next (s' := .h2 1 1 0 0 0 [1, 2] [1, 2] []) rfl ?_)
  refine e _ _ _ _ _ rfl _ _ _ (by rw [List.length_nil]; omega) (Comes.next (s' := .h2 1 2 0 1 0 [1, 2] [1, 2] _) rfl ?_)
  refine e _ _ _ _ _ rfl _ _ _ (by simp only [fcl_len, List.length_nil]; omega) (Comes.next (s' := .h0 1 [1, 2] _) rfl ?_)
  refine Comes.next (s' := .h1 2 1 0 [1, 2] [1, 2] _) rfl (Comes.next (s' := .h2 2 1 1 0 0 [1, 2] [1, 2] _) rfl ?_)
  refine e _ _ _ _ _ rfl _ _ _ (by simp only [fcl_len, List.length_nil]; omega) (Comes.next (s' := .h2 2 2 1 1 0 [1, 2] [1, 2] _) rfl ?_)
  refine e _ _ _ _ _ rfl _ _ _ (by simp only [fcl_len, List.length_nil]; omega) (Comes.next (s' := .h0 2 [1, 2] _) rfl ?_)
  refine Comes.next (s' := .h3 0 _) rfl ?_
  exact s44b aq nq mq tq vq gq de hp _ nq 0 _ (Nat.zero_add _) (by simp only [fcl_len, List.length_nil]; omega) rfl
theorem k44_ok  : k44.ok Try.prog := by
  intro x hx
  obtain ⟨⟨⟨aq, nq, mq, tq, vq, gq, _⟩, de, _⟩, _⟩ := x
  obtain ⟨h1, h2⟩ := a44 aq nq mq tq vq gq de (s44 aq nq mq tq vq gq de (of_dec hx rfl))
  exact ⟨⟨400, (by decide : 1 + 1 + 1 ≤ 400), h1⟩, h2⟩
inductive St46 where
  | h0 (x0 : Int) (x1 : List (Int × Int × Int))
  | h1 (x0 : Int) (x1 : Int) (x2 : List (Int × Int × Int))
  | h2 (x0 : Int) (x1 : Int) (x2 : Int) (x3 : List (Int × Int × Int))
  | h3 (x0 : Int) (x1 : List (Int × Int × Int))
abbrev Rt46  := List (Int × Int × Int)
noncomputable def V46 (aq nq mq : Nat) (tq : Nat → ByteArray) (vq gq : Nat → Int) (de : Int) (r : Rt46) : PV := PV.own (2) (3) (List.length r)
noncomputable def N46 (aq nq mq : Nat) (tq : Nat → ByteArray) (vq gq : Nat → Int) (de : Int) (r : Rt46) : List Blk := [Blk.cols (List.length r)
 [Col.int IntKind.i64 fun j => (S.at' r j).1,
 Col.int IntKind.i64 fun j => (S.at' r j).2.1,
 Col.int IntKind.i64 fun j => (S.at' r j).2.2]]
noncomputable def I46 (aq nq mq : Nat) (tq : Nat → ByteArray) (vq gq : Nat → Int) (de : Int) : St46 → Hd
  | .h0 x0 x1 => ⟨hd Try.f46 0, [PV.ptr (PA.mk (1) (0) (0) (0)),
 PV.own (2) (3) (List.length x1), PV.int IntKind.i64 x0, PV.unk, PV.unk,
 PV.unk], [[(1, (true, Blk.cells [PV.loose (PA.mk (0) (3) aq (0)) nq, PV.int IntKind.i64 de])), (2, (true, Blk.cols (List.length x1)
 [Col.int IntKind.i64 fun j => (S.at' x1 j).1,
 Col.int IntKind.i64 fun j => (S.at' x1 j).2.1,
 Col.int IntKind.i64 fun j => (S.at' x1 j).2.2]))], [(0, (false, .cols mq [.str tq, .int .i64 vq, .int .i64 gq]))]], 3⟩
  | .h1 x0 x1 x2 => ⟨hd Try.f46 1, [PV.ptr (PA.mk (1) (0) (0) (0)),
 PV.own (2) (3) (List.length x2), PV.int IntKind.i64 x0, PV.int IntKind.i64 x1,
 PV.unk, PV.unk], [[(1, (true, Blk.cells [PV.loose (PA.mk (0) (3) aq (0)) nq, PV.int IntKind.i64 de])), (2, (true, Blk.cols (List.length x2)
 [Col.int IntKind.i64 fun j => (S.at' x2 j).1,
 Col.int IntKind.i64 fun j => (S.at' x2 j).2.1,
 Col.int IntKind.i64 fun j => (S.at' x2 j).2.2]))], [(0, (false, .cols mq [.str tq, .int .i64 vq, .int .i64 gq]))]], 3⟩
  | .h2 x0 x1 x2 x3 => ⟨hd Try.f46 2, [PV.ptr (PA.mk (1) (0) (0) (0)),
 PV.own (2) (3) (List.length x3), PV.int IntKind.i64 x0, PV.int IntKind.i64 x1,
 PV.int IntKind.i64 x2, PV.unk], [[(1, (true, Blk.cells [PV.loose (PA.mk (0) (3) aq (0)) nq, PV.int IntKind.i64 de])), (2, (true, Blk.cols (List.length x3)
 [Col.int IntKind.i64 fun j => (S.at' x3 j).1,
 Col.int IntKind.i64 fun j => (S.at' x3 j).2.1,
 Col.int IntKind.i64 fun j => (S.at' x3 j).2.2]))], [(0, (false, .cols mq [.str tq, .int .i64 vq, .int .i64 gq]))]], 3⟩
  | .h3 x0 x1 => ⟨hd Try.f46 3, [PV.ptr (PA.mk (1) (0) (0) (0)),
 PV.own (2) (3) (List.length x1), PV.unk, PV.unk, PV.unk,
 PV.int IntKind.i64 x0], [[(1, (true, Blk.cells [PV.loose (PA.mk (0) (3) aq (0)) nq, PV.int IntKind.i64 de])), (2, (true, Blk.cols (List.length x1)
 [Col.int IntKind.i64 fun j => (S.at' x1 j).1,
 Col.int IntKind.i64 fun j => (S.at' x1 j).2.1,
 Col.int IntKind.i64 fun j => (S.at' x1 j).2.2]))], [(0, (false, .cols mq [.str tq, .int .i64 vq, .int .i64 gq]))]], 3⟩
noncomputable def q46 (aq nq mq : Nat) (tq : Nat → ByteArray) (vq gq : Nat → Int) (de : Int) : St46 → Option (St46 ⊕ Rt46)
  | .h0 x0 x1 => bif (decide (x0 ≤ (2 : Int)))
 then (some (.inl (.h1 (x0) ((1 : Int)) (x1))))
 else (some (.inl (.h3 ((0 : Int)) (x1))))
  | .h1 x0 x1 x2 => bif (decide (x1 ≤ (2 : Int)))
 then (some (.inl (.h2 (x0) (x1) ((0 : Int)) (x2))))
 else (bif (lim IntKind.i64 (x0 + (1 : Int)))
 then (some (.inl (.h0 (x0 + (1 : Int)) (x2))))
 else (none))
  | .h2 x0 x1 x2 x3 => bif (decide (x2 < (↑nq : Int)))
 then (bif (decide (List.length x3 + 1 ≤ 1000000))
 then (bif (decide (List.length x3 ≤ List.length x3))
 then (bif (lim IntKind.i64 (x2 + (1 : Int)))
 then (some (.inl (.h2 (x0) (x1) (x2 + (1 : Int)) (S.snoc x3 (x0, x1, x2)))))
 else (none))
 else (none))
 else (none))
 else (bif (lim IntKind.i64 (x1 + (1 : Int)))
 then (some (.inl (.h1 (x0) (x1 + (1 : Int)) (x3))))
 else (none))
  | .h3 x0 x1 => bif (decide (x0 < (↑nq : Int)))
 then (bif (decide (List.length x1 + 1 ≤ 1000000))
 then (bif (decide (List.length x1 ≤ List.length x1))
 then (bif (lim IntKind.i64 (x0 + (1 : Int)))
 then (some (.inl (.h3 (x0 + (1 : Int)) (S.snoc x1 ((3 : Int), (0 : Int), x0)))))
 else (none))
 else (none))
 else (none))
 else (bif (decide (List.length x1 + 2 ≤ 1000000))
 then (bif (decide (List.length x1 ≤ List.length x1))
 then (some (.inr (S.mkl (List.length x1 + 2) fun j =>
 (bif Nat.blt j (List.length x1) then (S.at' x1 j).1
 else bif Nat.blt (j - List.length x1) (1) then (4 : Int) else (4 : Int),
 bif Nat.blt j (List.length x1) then (S.at' x1 j).2.1
 else bif Nat.blt (j - List.length x1) (1) then (1 : Int) else (2 : Int),
 bif Nat.blt j (List.length x1) then (S.at' x1 j).2.2
 else bif Nat.blt (j - List.length x1) (1) then (0 : Int) else (0 : Int)))))
 else (none))
 else (none))
noncomputable def p46 (aq nq mq : Nat) (tq : Nat → ByteArray) (vq gq : Nat → Int) (de : Int) : Option (St46 ⊕ Rt46) := some (.inl (.h0 ((1 : Int)) ([])))
noncomputable def Te46 (test : Bool → Prop → Prop → Prop) (Kst : KS) (Kret : KR) (aq nq mq : Nat) (tq : Nat → ByteArray) (vq gq : Nat → Int) (de : Int) : Prop :=
  Kst (hd Try.f46 0) ([PV.ptr (PA.mk (1) (0) (0) (0)), PV.nils,
 PV.int IntKind.i64 (1 : Int), PV.unk, PV.unk, PV.unk]) ([[(0, false,
 Blk.cols mq [Col.str tq, Col.int IntKind.i64 vq, Col.int IntKind.i64 gq]),
 (1, true,
 Blk.cells
 [PV.loose (PA.mk (0) (3) aq (0)) nq, PV.int IntKind.i64 de])]]) (2)
theorem te46 (test : Bool → Prop → Prop → Prop) (Kst : KS) (Kret : KR) (aq nq mq : Nat) (tq : Nat → ByteArray) (vq gq : Nat → Int) (de : Int) : run test Try.env true noX true 400 ⟨46, [.cd (mkFn Try.f46).body], argT 0 [.agg [.loose ⟨0, 3, aq, 0⟩ nq, .int .i64 de]], [[], [(0, (false, .cols mq [.str tq, .int .i64 vq, .int .i64 gq]))]], 1⟩ (proj 1 [1, 3, 4, 5, 6, 7] Kst Kret) =
  Te46 test Kst Kret aq nq mq tq vq gq de := by kernel_rfl
noncomputable def T46_0 (test : Bool → Prop → Prop → Prop) (Kst : KS) (Kret : KR) (aq nq mq : Nat) (tq : Nat → ByteArray) (vq gq : Nat → Int) (de x0 : Int) (x1 : List (Int × Int × Int)) : Prop :=
  test (decide (x0 ≤ (2 : Int)))
 (Kst (hd Try.f46 1) ([PV.ptr (PA.mk (1) (0) (0) (0)),
 PV.own (2) (3) (List.length x1), PV.int IntKind.i64 x0,
 PV.int IntKind.i64 (1 : Int), PV.unk, PV.unk]) ([[(0, false,
 Blk.cols mq [Col.str tq, Col.int IntKind.i64 vq, Col.int IntKind.i64 gq]),
 (2, true,
 Blk.cols (List.length x1)
 [Col.int IntKind.i64 fun j => (S.at' x1 j).1,
 Col.int IntKind.i64 fun j => (S.at' x1 j).2.1,
 Col.int IntKind.i64 fun j => (S.at' x1 j).2.2]),
 (1, true,
 Blk.cells
 [PV.loose (PA.mk (0) (3) aq (0)) nq, PV.int IntKind.i64 de])]]) (3))
 (Kst (hd Try.f46 3) ([PV.ptr (PA.mk (1) (0) (0) (0)),
 PV.own (2) (3) (List.length x1), PV.int IntKind.i64 x0, PV.unk, PV.unk,
 PV.int IntKind.i64 (0 : Int)]) ([[(0, false,
 Blk.cols mq [Col.str tq, Col.int IntKind.i64 vq, Col.int IntKind.i64 gq]),
 (2, true,
 Blk.cols (List.length x1)
 [Col.int IntKind.i64 fun j => (S.at' x1 j).1,
 Col.int IntKind.i64 fun j => (S.at' x1 j).2.1,
 Col.int IntKind.i64 fun j => (S.at' x1 j).2.2]),
 (1, true,
 Blk.cells
 [PV.loose (PA.mk (0) (3) aq (0)) nq, PV.int IntKind.i64 de])]]) (3))
theorem t46_0 (test : Bool → Prop → Prop → Prop) (Kst : KS) (Kret : KR) (aq nq mq : Nat) (tq : Nat → ByteArray) (vq gq : Nat → Int) (de x0 : Int) (x1 : List (Int × Int × Int)) : run test Try.env true noX true 400 ⟨46, hd Try.f46 0, zipT [1, 3, 4, 5, 6, 7] [PV.ptr (PA.mk (1) (0) (0) (0)),
 PV.own (2) (3) (List.length x1), PV.int IntKind.i64 x0, PV.unk, PV.unk,
 PV.unk], [[(1, (true, Blk.cells [PV.loose (PA.mk (0) (3) aq (0)) nq, PV.int IntKind.i64 de])), (2, (true, Blk.cols (List.length x1)
 [Col.int IntKind.i64 fun j => (S.at' x1 j).1,
 Col.int IntKind.i64 fun j => (S.at' x1 j).2.1,
 Col.int IntKind.i64 fun j => (S.at' x1 j).2.2]))], [(0, (false, .cols mq [.str tq, .int .i64 vq, .int .i64 gq]))]], 3⟩ (proj 1 [1, 3, 4, 5, 6, 7] Kst Kret) =
  T46_0 test Kst Kret aq nq mq tq vq gq de x0 x1 := by kernel_rfl
noncomputable def T46_1 (test : Bool → Prop → Prop → Prop) (Kst : KS) (Kret : KR) (aq nq mq : Nat) (tq : Nat → ByteArray) (vq gq : Nat → Int) (de x0 x1 : Int) (x2 : List (Int × Int × Int)) : Prop :=
  test (decide (x1 ≤ (2 : Int)))
 (Kst (hd Try.f46 2) ([PV.ptr (PA.mk (1) (0) (0) (0)),
 PV.own (2) (3) (List.length x2), PV.int IntKind.i64 x0, PV.int IntKind.i64 x1,
 PV.int IntKind.i64 (0 : Int), PV.unk]) ([[(0, false,
 Blk.cols mq [Col.str tq, Col.int IntKind.i64 vq, Col.int IntKind.i64 gq]),
 (2, true,
 Blk.cols (List.length x2)
 [Col.int IntKind.i64 fun j => (S.at' x2 j).1,
 Col.int IntKind.i64 fun j => (S.at' x2 j).2.1,
 Col.int IntKind.i64 fun j => (S.at' x2 j).2.2]),
 (1, true,
 Blk.cells
 [PV.loose (PA.mk (0) (3) aq (0)) nq, PV.int IntKind.i64 de])]]) (3))
 (test (lim IntKind.i64 (x0 + (1 : Int)))
 (Kst (hd Try.f46 0) ([PV.ptr (PA.mk (1) (0) (0) (0)),
 PV.own (2) (3) (List.length x2), PV.int IntKind.i64 (x0 + (1 : Int)),
 PV.int IntKind.i64 x1, PV.unk, PV.unk]) ([[(0, false,
 Blk.cols mq [Col.str tq, Col.int IntKind.i64 vq, Col.int IntKind.i64 gq]),
 (2, true,
 Blk.cols (List.length x2)
 [Col.int IntKind.i64 fun j => (S.at' x2 j).1,
 Col.int IntKind.i64 fun j => (S.at' x2 j).2.1,
 Col.int IntKind.i64 fun j => (S.at' x2 j).2.2]),
 (1, true,
 Blk.cells
 [PV.loose (PA.mk (0) (3) aq (0)) nq, PV.int IntKind.i64 de])]]) (3))
 (False))
theorem t46_1 (test : Bool → Prop → Prop → Prop) (Kst : KS) (Kret : KR) (aq nq mq : Nat) (tq : Nat → ByteArray) (vq gq : Nat → Int) (de x0 x1 : Int) (x2 : List (Int × Int × Int)) : run test Try.env true noX true 400 ⟨46, hd Try.f46 1, zipT [1, 3, 4, 5, 6, 7] [PV.ptr (PA.mk (1) (0) (0) (0)),
 PV.own (2) (3) (List.length x2), PV.int IntKind.i64 x0, PV.int IntKind.i64 x1,
 PV.unk, PV.unk], [[(1, (true, Blk.cells [PV.loose (PA.mk (0) (3) aq (0)) nq, PV.int IntKind.i64 de])), (2, (true, Blk.cols (List.length x2)
 [Col.int IntKind.i64 fun j => (S.at' x2 j).1,
 Col.int IntKind.i64 fun j => (S.at' x2 j).2.1,
 Col.int IntKind.i64 fun j => (S.at' x2 j).2.2]))], [(0, (false, .cols mq [.str tq, .int .i64 vq, .int .i64 gq]))]], 3⟩ (proj 1 [1, 3, 4, 5, 6, 7] Kst Kret) =
  T46_1 test Kst Kret aq nq mq tq vq gq de x0 x1 x2 := by kernel_rfl
noncomputable def T46_2 (test : Bool → Prop → Prop → Prop) (Kst : KS) (Kret : KR) (aq nq mq : Nat) (tq : Nat → ByteArray) (vq gq : Nat → Int) (de x0 x1 x2 : Int) (x3 : List (Int × Int × Int)) : Prop :=
  test (decide (x2 < (↑nq : Int)))
 (test (decide (List.length x3 + 1 ≤ 1000000))
 (test (decide (List.length x3 ≤ List.length x3))
 (test (true)
 (test (lim IntKind.i64 (x2 + (1 : Int)))
 (Kst (hd Try.f46 2) ([PV.ptr (PA.mk (1) (0) (0) (0)),
 PV.own (4) (3) (List.length x3 + 1), PV.int IntKind.i64 x0,
 PV.int IntKind.i64 x1, PV.int IntKind.i64 (x2 + (1 : Int)), PV.unk]) ([[(0, false,
 Blk.cols mq [Col.str tq, Col.int IntKind.i64 vq, Col.int IntKind.i64 gq]),
 (4, true,
 Blk.cols (List.length x3 + 1)
 [Col.int IntKind.i64 fun j =>
 bif Nat.blt j (List.length x3) then (S.at' x3 j).1 else x0,
 Col.int IntKind.i64 fun j =>
 bif Nat.blt j (List.length x3) then (S.at' x3 j).2.1 else x1,
 Col.int IntKind.i64 fun j =>
 bif Nat.blt j (List.length x3) then (S.at' x3 j).2.2 else x2]),
 (1, true,
 Blk.cells
 [PV.loose (PA.mk (0) (3) aq (0)) nq, PV.int IntKind.i64 de])]]) (5))
 (False))
 (False))
 (False))
 (False))
 (test (lim IntKind.i64 (x1 + (1 : Int)))
 (Kst (hd Try.f46 1) ([PV.ptr (PA.mk (1) (0) (0) (0)),
 PV.own (2) (3) (List.length x3), PV.int IntKind.i64 x0,
 PV.int IntKind.i64 (x1 + (1 : Int)), PV.int IntKind.i64 x2, PV.unk]) ([[(0, false,
 Blk.cols mq [Col.str tq, Col.int IntKind.i64 vq, Col.int IntKind.i64 gq]),
 (2, true,
 Blk.cols (List.length x3)
 [Col.int IntKind.i64 fun j => (S.at' x3 j).1,
 Col.int IntKind.i64 fun j => (S.at' x3 j).2.1,
 Col.int IntKind.i64 fun j => (S.at' x3 j).2.2]),
 (1, true,
 Blk.cells
 [PV.loose (PA.mk (0) (3) aq (0)) nq, PV.int IntKind.i64 de])]]) (3))
 (False))
theorem t46_2 (test : Bool → Prop → Prop → Prop) (Kst : KS) (Kret : KR) (aq nq mq : Nat) (tq : Nat → ByteArray) (vq gq : Nat → Int) (de x0 x1 x2 : Int) (x3 : List (Int × Int × Int)) : run test Try.env true noX true 400 ⟨46, hd Try.f46 2, zipT [1, 3, 4, 5, 6, 7] [PV.ptr (PA.mk (1) (0) (0) (0)),
 PV.own (2) (3) (List.length x3), PV.int IntKind.i64 x0, PV.int IntKind.i64 x1,
 PV.int IntKind.i64 x2, PV.unk], [[(1, (true, Blk.cells [PV.loose (PA.mk (0) (3) aq (0)) nq, PV.int IntKind.i64 de])), (2, (true, Blk.cols (List.length x3)
 [Col.int IntKind.i64 fun j => (S.at' x3 j).1,
 Col.int IntKind.i64 fun j => (S.at' x3 j).2.1,
 Col.int IntKind.i64 fun j => (S.at' x3 j).2.2]))], [(0, (false, .cols mq [.str tq, .int .i64 vq, .int .i64 gq]))]], 3⟩ (proj 1 [1, 3, 4, 5, 6, 7] Kst Kret) =
  T46_2 test Kst Kret aq nq mq tq vq gq de x0 x1 x2 x3 := by kernel_rfl
noncomputable def T46_3 (test : Bool → Prop → Prop → Prop) (Kst : KS) (Kret : KR) (aq nq mq : Nat) (tq : Nat → ByteArray) (vq gq : Nat → Int) (de x0 : Int) (x1 : List (Int × Int × Int)) : Prop :=
  test (decide (x0 < (↑nq : Int)))
 (test (decide (List.length x1 + 1 ≤ 1000000))
 (test (decide (List.length x1 ≤ List.length x1))
 (test (true)
 (test (lim IntKind.i64 (x0 + (1 : Int)))
 (Kst (hd Try.f46 3) ([PV.ptr (PA.mk (1) (0) (0) (0)),
 PV.own (4) (3) (List.length x1 + 1), PV.unk, PV.unk, PV.unk,
 PV.int IntKind.i64 (x0 + (1 : Int))]) ([[(0, false,
 Blk.cols mq [Col.str tq, Col.int IntKind.i64 vq, Col.int IntKind.i64 gq]),
 (4, true,
 Blk.cols (List.length x1 + 1)
 [Col.int IntKind.i64 fun j =>
 bif Nat.blt j (List.length x1) then (S.at' x1 j).1 else (3 : Int),
 Col.int IntKind.i64 fun j =>
 bif Nat.blt j (List.length x1) then (S.at' x1 j).2.1 else (0 : Int),
 Col.int IntKind.i64 fun j =>
 bif Nat.blt j (List.length x1) then (S.at' x1 j).2.2 else x0]),
 (1, true,
 Blk.cells
 [PV.loose (PA.mk (0) (3) aq (0)) nq, PV.int IntKind.i64 de])]]) (5))
 (False))
 (False))
 (False))
 (False))
 (test (decide (List.length x1 + 2 ≤ 1000000))
 (test (decide (List.length x1 ≤ List.length x1))
 (test (true)
 (Kret (PV.own (4) (3) (List.length x1 + 2)) ([[(0, false,
 Blk.cols mq [Col.str tq, Col.int IntKind.i64 vq, Col.int IntKind.i64 gq]),
 (4, true,
 Blk.cols (List.length x1 + 2)
 [Col.int IntKind.i64 fun j =>
 bif Nat.blt j (List.length x1) then (S.at' x1 j).1
 else bif Nat.blt (j - List.length x1) (1) then (4 : Int) else (4 : Int),
 Col.int IntKind.i64 fun j =>
 bif Nat.blt j (List.length x1) then (S.at' x1 j).2.1
 else bif Nat.blt (j - List.length x1) (1) then (1 : Int) else (2 : Int),
 Col.int IntKind.i64 fun j =>
 bif Nat.blt j (List.length x1) then (S.at' x1 j).2.2
 else bif Nat.blt (j - List.length x1) (1) then (0 : Int) else (0 : Int)])]]) (5))
 (False))
 (False))
 (False))
theorem t46_3 (test : Bool → Prop → Prop → Prop) (Kst : KS) (Kret : KR) (aq nq mq : Nat) (tq : Nat → ByteArray) (vq gq : Nat → Int) (de x0 : Int) (x1 : List (Int × Int × Int)) : run test Try.env true noX true 400 ⟨46, hd Try.f46 3, zipT [1, 3, 4, 5, 6, 7] [PV.ptr (PA.mk (1) (0) (0) (0)),
 PV.own (2) (3) (List.length x1), PV.unk, PV.unk, PV.unk,
 PV.int IntKind.i64 x0], [[(1, (true, Blk.cells [PV.loose (PA.mk (0) (3) aq (0)) nq, PV.int IntKind.i64 de])), (2, (true, Blk.cols (List.length x1)
 [Col.int IntKind.i64 fun j => (S.at' x1 j).1,
 Col.int IntKind.i64 fun j => (S.at' x1 j).2.1,
 Col.int IntKind.i64 fun j => (S.at' x1 j).2.2]))], [(0, (false, .cols mq [.str tq, .int .i64 vq, .int .i64 gq]))]], 3⟩ (proj 1 [1, 3, 4, 5, 6, 7] Kst Kret) =
  T46_3 test Kst Kret aq nq mq tq vq gq de x0 x1 := by kernel_rfl
theorem be46 (aq nq mq : Nat) (tq : Nat → ByteArray) (vq gq : Nat → Int) (de : Int) (Kst : KS) (Kret : KR) (x : St46 ⊕ Rt46) (hS : HS 1 400 ((I46 aq nq mq tq vq gq de)) Kst x) (hR : HR 1 400 ((V46 aq nq mq tq vq gq de)) (fun r => [newL (1 + 1) ((N46 aq nq mq tq vq gq de) r) ++ [(0, (false, .cols mq [.str tq, .int .i64 vq, .int .i64 gq]))]]) Kret x) (h : (some (.inl (.h0 ((1 : Int)) ([]))) : Option (St46 ⊕ Rt46)) = some x) : Te46 cond Kst Kret aq nq mq tq vq gq de := by
  unfold Te46
  exact stop_at hS _ h (fun n => bif Nat.beq n 1 then 1 else bif Nat.beq n 2 then 399 else n) rfl rfl rfl ⟨(rn_ptr (use_own rfl) rfl rfl), ⟨(rn_own_nils rfl), ⟨(rn_int rfl), ⟨(rn_unk _), ⟨(rn_unk _), ⟨(rn_unk _), trivial⟩⟩⟩⟩⟩⟩ rfl (entl_b (use_own rfl) rfl (by simp) (rb_cells ⟨(rn_loose (use_lo rfl) rfl rfl rfl), (rn_int rfl), trivial⟩) (entl_fresh (use_own rfl) (fresh_ok rfl) (entl_bor (use_lo rfl) rfl rfl entl_nil)))
theorem b46_0 (aq nq mq : Nat) (tq : Nat → ByteArray) (vq gq : Nat → Int) (de : Int) (Kst : KS) (Kret : KR) (x : St46 ⊕ Rt46) (hS : HS 1 400 ((I46 aq nq mq tq vq gq de)) Kst x) (hR : HR 1 400 ((V46 aq nq mq tq vq gq de)) (fun r => [newL (1 + 1) ((N46 aq nq mq tq vq gq de) r) ++ [(0, (false, .cols mq [.str tq, .int .i64 vq, .int .i64 gq]))]]) Kret x) (x0 : Int) (x1 : List (Int × Int × Int)) (h : (bif (decide (x0 ≤ (2 : Int)))
 then (some (.inl (.h1 (x0) ((1 : Int)) (x1))))
 else (some (.inl (.h3 ((0 : Int)) (x1)))) : Option (St46 ⊕ Rt46)) = some x) : T46_0 cond Kst Kret aq nq mq tq vq gq de x0 x1 := by
  unfold T46_0
  exact bif_split h
   (fun c0 h => stop_at hS _ h (fun n => bif Nat.beq n 1 then 1 else bif Nat.beq n 2 then 2 else n) rfl rfl rfl ⟨(rn_ptr (use_own rfl) rfl rfl), ⟨(rn_own (use_own rfl) rfl rfl), ⟨(rn_int rfl), ⟨(rn_int rfl), ⟨(rn_unk _), ⟨(rn_unk _), trivial⟩⟩⟩⟩⟩⟩ rfl (entl_b (use_own rfl) rfl (by simp) (rb_cells ⟨(rn_loose (use_lo rfl) rfl rfl rfl), (rn_int rfl), trivial⟩) (entl_new (use_own rfl) rfl (Nat.le_of_eq rfl) (rcs_int (fun _ _ => rfl) (rcs_int (fun _ _ => rfl) (rcs_int (fun _ _ => rfl) rcs_nil))) (entl_bor (use_lo rfl) rfl rfl entl_nil))))
   (fun c0 h => stop_at hS _ h (fun n => bif Nat.beq n 1 then 1 else bif Nat.beq n 2 then 2 else n) rfl rfl rfl ⟨(rn_ptr (use_own rfl) rfl rfl), ⟨(rn_own (use_own rfl) rfl rfl), ⟨(rn_unk _), ⟨(rn_unk _), ⟨(rn_unk _), ⟨(rn_int rfl), trivial⟩⟩⟩⟩⟩⟩ rfl (entl_b (use_own rfl) rfl (by simp) (rb_cells ⟨(rn_loose (use_lo rfl) rfl rfl rfl), (rn_int rfl), trivial⟩) (entl_new (use_own rfl) rfl (Nat.le_of_eq rfl) (rcs_int (fun _ _ => rfl) (rcs_int (fun _ _ => rfl) (rcs_int (fun _ _ => rfl) rcs_nil))) (entl_bor (use_lo rfl) rfl rfl entl_nil))))
theorem b46_1 (aq nq mq : Nat) (tq : Nat → ByteArray) (vq gq : Nat → Int) (de : Int) (Kst : KS) (Kret : KR) (x : St46 ⊕ Rt46) (hS : HS 1 400 ((I46 aq nq mq tq vq gq de)) Kst x) (hR : HR 1 400 ((V46 aq nq mq tq vq gq de)) (fun r => [newL (1 + 1) ((N46 aq nq mq tq vq gq de) r) ++ [(0, (false, .cols mq [.str tq, .int .i64 vq, .int .i64 gq]))]]) Kret x) (x0 x1 : Int) (x2 : List (Int × Int × Int)) (h : (bif (decide (x1 ≤ (2 : Int)))
 then (some (.inl (.h2 (x0) (x1) ((0 : Int)) (x2))))
 else (bif (lim IntKind.i64 (x0 + (1 : Int)))
 then (some (.inl (.h0 (x0 + (1 : Int)) (x2))))
 else (none)) : Option (St46 ⊕ Rt46)) = some x) : T46_1 cond Kst Kret aq nq mq tq vq gq de x0 x1 x2 := by
  unfold T46_1
  exact bif_split h
   (fun c0 h => stop_at hS _ h (fun n => bif Nat.beq n 1 then 1 else bif Nat.beq n 2 then 2 else n) rfl rfl rfl ⟨(rn_ptr (use_own rfl) rfl rfl), ⟨(rn_own (use_own rfl) rfl rfl), ⟨(rn_int rfl), ⟨(rn_int rfl), ⟨(rn_int rfl), ⟨(rn_unk _), trivial⟩⟩⟩⟩⟩⟩ rfl (entl_b (use_own rfl) rfl (by simp) (rb_cells ⟨(rn_loose (use_lo rfl) rfl rfl rfl), (rn_int rfl), trivial⟩) (entl_new (use_own rfl) rfl (Nat.le_of_eq rfl) (rcs_int (fun _ _ => rfl) (rcs_int (fun _ _ => rfl) (rcs_int (fun _ _ => rfl) rcs_nil))) (entl_bor (use_lo rfl) rfl rfl entl_nil))))
   (fun c0 h => bif_split h
   (fun c1 h => stop_at hS _ h (fun n => bif Nat.beq n 1 then 1 else bif Nat.beq n 2 then 2 else n) rfl rfl rfl ⟨(rn_ptr (use_own rfl) rfl rfl), ⟨(rn_own (use_own rfl) rfl rfl), ⟨(rn_int rfl), ⟨(rn_unk _), ⟨(rn_unk _), ⟨(rn_unk _), trivial⟩⟩⟩⟩⟩⟩ rfl (entl_b (use_own rfl) rfl (by simp) (rb_cells ⟨(rn_loose (use_lo rfl) rfl rfl rfl), (rn_int rfl), trivial⟩) (entl_new (use_own rfl) rfl (Nat.le_of_eq rfl) (rcs_int (fun _ _ => rfl) (rcs_int (fun _ _ => rfl) (rcs_int (fun _ _ => rfl) rcs_nil))) (entl_bor (use_lo rfl) rfl rfl entl_nil))))
   (fun c1 h => no_some h))
theorem b46_2 (aq nq mq : Nat) (tq : Nat → ByteArray) (vq gq : Nat → Int) (de : Int) (Kst : KS) (Kret : KR) (x : St46 ⊕ Rt46) (hS : HS 1 400 ((I46 aq nq mq tq vq gq de)) Kst x) (hR : HR 1 400 ((V46 aq nq mq tq vq gq de)) (fun r => [newL (1 + 1) ((N46 aq nq mq tq vq gq de) r) ++ [(0, (false, .cols mq [.str tq, .int .i64 vq, .int .i64 gq]))]]) Kret x) (x0 x1 x2 : Int) (x3 : List (Int × Int × Int)) (h : (bif (decide (x2 < (↑nq : Int)))
 then (bif (decide (List.length x3 + 1 ≤ 1000000))
 then (bif (decide (List.length x3 ≤ List.length x3))
 then (bif (lim IntKind.i64 (x2 + (1 : Int)))
 then (some (.inl (.h2 (x0) (x1) (x2 + (1 : Int)) (S.snoc x3 (x0, x1, x2)))))
 else (none))
 else (none))
 else (none))
 else (bif (lim IntKind.i64 (x1 + (1 : Int)))
 then (some (.inl (.h1 (x0) (x1 + (1 : Int)) (x3))))
 else (none)) : Option (St46 ⊕ Rt46)) = some x) : T46_2 cond Kst Kret aq nq mq tq vq gq de x0 x1 x2 x3 := by
  unfold T46_2
  exact bif_split h
   (fun c0 h => bif_split h
   (fun c1 h => bif_split h
   (fun c2 h => cond_yes rfl (bif_split h
   (fun c3 h => stop_at hS _ h (fun n => bif Nat.beq n 1 then 1 else bif Nat.beq n 2 then 4 else n) rfl rfl rfl ⟨(rn_ptr (use_own rfl) rfl rfl), ⟨(rn_own (use_own rfl) rfl (snoc_len' rfl)), ⟨(rn_int rfl), ⟨(rn_int rfl), ⟨(rn_int rfl), ⟨(rn_unk _), trivial⟩⟩⟩⟩⟩⟩ rfl (entl_b (use_own rfl) rfl (by simp) (rb_cells ⟨(rn_loose (use_lo rfl) rfl rfl rfl), (rn_int rfl), trivial⟩) (entl_new (use_own rfl) rfl (Nat.le_of_eq (snoc_len' rfl)) (rcs_int (col_snoc' (fun (t : Int × Int × Int) => t.1) rfl (fun _ _ => rfl)) (rcs_int (col_snoc' (fun (t : Int × Int × Int) => t.2.1) rfl (fun _ _ => rfl)) (rcs_int (col_snoc' (fun (t : Int × Int × Int) => t.2.2) rfl (fun _ _ => rfl)) rcs_nil))) (entl_bor (use_lo rfl) rfl rfl entl_nil))))
   (fun c3 h => no_some h)))
   (fun c2 h => no_some h))
   (fun c1 h => no_some h))
   (fun c0 h => bif_split h
   (fun c1 h => stop_at hS _ h (fun n => bif Nat.beq n 1 then 1 else bif Nat.beq n 2 then 2 else n) rfl rfl rfl ⟨(rn_ptr (use_own rfl) rfl rfl), ⟨(rn_own (use_own rfl) rfl rfl), ⟨(rn_int rfl), ⟨(rn_int rfl), ⟨(rn_unk _), ⟨(rn_unk _), trivial⟩⟩⟩⟩⟩⟩ rfl (entl_b (use_own rfl) rfl (by simp) (rb_cells ⟨(rn_loose (use_lo rfl) rfl rfl rfl), (rn_int rfl), trivial⟩) (entl_new (use_own rfl) rfl (Nat.le_of_eq rfl) (rcs_int (fun _ _ => rfl) (rcs_int (fun _ _ => rfl) (rcs_int (fun _ _ => rfl) rcs_nil))) (entl_bor (use_lo rfl) rfl rfl entl_nil))))
   (fun c1 h => no_some h))
theorem b46_3 (aq nq mq : Nat) (tq : Nat → ByteArray) (vq gq : Nat → Int) (de : Int) (Kst : KS) (Kret : KR) (x : St46 ⊕ Rt46) (hS : HS 1 400 ((I46 aq nq mq tq vq gq de)) Kst x) (hR : HR 1 400 ((V46 aq nq mq tq vq gq de)) (fun r => [newL (1 + 1) ((N46 aq nq mq tq vq gq de) r) ++ [(0, (false, .cols mq [.str tq, .int .i64 vq, .int .i64 gq]))]]) Kret x) (x0 : Int) (x1 : List (Int × Int × Int)) (h : (bif (decide (x0 < (↑nq : Int)))
 then (bif (decide (List.length x1 + 1 ≤ 1000000))
 then (bif (decide (List.length x1 ≤ List.length x1))
 then (bif (lim IntKind.i64 (x0 + (1 : Int)))
 then (some (.inl (.h3 (x0 + (1 : Int)) (S.snoc x1 ((3 : Int), (0 : Int), x0)))))
 else (none))
 else (none))
 else (none))
 else (bif (decide (List.length x1 + 2 ≤ 1000000))
 then (bif (decide (List.length x1 ≤ List.length x1))
 then (some (.inr (S.mkl (List.length x1 + 2) fun j =>
 (bif Nat.blt j (List.length x1) then (S.at' x1 j).1
 else bif Nat.blt (j - List.length x1) (1) then (4 : Int) else (4 : Int),
 bif Nat.blt j (List.length x1) then (S.at' x1 j).2.1
 else bif Nat.blt (j - List.length x1) (1) then (1 : Int) else (2 : Int),
 bif Nat.blt j (List.length x1) then (S.at' x1 j).2.2
 else bif Nat.blt (j - List.length x1) (1) then (0 : Int) else (0 : Int)))))
 else (none))
 else (none)) : Option (St46 ⊕ Rt46)) = some x) : T46_3 cond Kst Kret aq nq mq tq vq gq de x0 x1 := by
  unfold T46_3
  exact bif_split h
   (fun c0 h => bif_split h
   (fun c1 h => bif_split h
   (fun c2 h => cond_yes rfl (bif_split h
   (fun c3 h => stop_at hS _ h (fun n => bif Nat.beq n 1 then 1 else bif Nat.beq n 2 then 4 else n) rfl rfl rfl ⟨(rn_ptr (use_own rfl) rfl rfl), ⟨(rn_own (use_own rfl) rfl (snoc_len' rfl)), ⟨(rn_unk _), ⟨(rn_unk _), ⟨(rn_unk _), ⟨(rn_int rfl), trivial⟩⟩⟩⟩⟩⟩ rfl (entl_b (use_own rfl) rfl (by simp) (rb_cells ⟨(rn_loose (use_lo rfl) rfl rfl rfl), (rn_int rfl), trivial⟩) (entl_new (use_own rfl) rfl (Nat.le_of_eq (snoc_len' rfl)) (rcs_int (col_snoc' (fun (t : Int × Int × Int) => t.1) rfl (fun _ _ => rfl)) (rcs_int (col_snoc' (fun (t : Int × Int × Int) => t.2.1) rfl (fun _ _ => rfl)) (rcs_int (col_snoc' (fun (t : Int × Int × Int) => t.2.2) rfl (fun _ _ => rfl)) rcs_nil))) (entl_bor (use_lo rfl) rfl rfl entl_nil))))
   (fun c3 h => no_some h)))
   (fun c2 h => no_some h))
   (fun c1 h => no_some h))
   (fun c0 h => bif_split h
   (fun c1 h => bif_split h
   (fun c2 h => cond_yes rfl (ret_at hR _ h (fun n => bif Nat.beq n 2 then 4 else n) rfl rfl rfl (rn_own (use_own rfl) rfl mkl_len) rfl (entl_new (use_own rfl) rfl (Nat.le_of_eq mkl_len) (rcs_int (fun _ hj => col_mkl (fun (t : Int × Int × Int) => t.1) hj) (rcs_int (fun _ hj => col_mkl (fun (t : Int × Int × Int) => t.2.1) hj) (rcs_int (fun _ hj => col_mkl (fun (t : Int × Int × Int) => t.2.2) hj) rcs_nil))) (entl_bor (use_lo rfl) rfl rfl entl_nil))))
   (fun c2 h => no_some h))
   (fun c1 h => no_some h))
theorem a46 (aq nq mq : Nat) (tq : Nat → ByteArray) (vq gq : Nat → Int) (de : Int) {r : Rt46} (h : Goes ((q46 aq nq mq tq vq gq de)) ((p46 aq nq mq tq vq gq de)) r) : CallR Try.prog 46 [.agg [.loose ⟨0, 3, aq, 0⟩ nq, .int .i64 de]] [[(0, (false, .cols mq [.str tq, .int .i64 vq, .int .i64 gq]))]] 1 ((V46 aq nq mq tq vq gq de) r) ((fun r => [newL (1 + 1) ((N46 aq nq mq tq vq gq de) r) ++ [(0, (false, .cols mq [.str tq, .int .i64 vq, .int .i64 gq]))]]) r) 400 ∧ ∃ F, Try.prog.funcs[46]? = some F ∧ F.body.isSome = true ∧ (F.name == "runtime.NumGoroutine") = false := by
  refine dec_calls (f := 46) (lo := 1) (hi := 400) (H := [[(0, (false, .cols mq [.str tq, .int .i64 vq, .int .i64 gq]))]]) (args := [.agg [.loose ⟨0, 3, aq, 0⟩ nq, .int .i64 de]]) Try.envOk Try.mixed noX_ok ((I46 aq nq mq tq vq gq de)) ((V46 aq nq mq tq vq gq de)) (fun r => [newL (1 + 1) ((N46 aq nq mq tq vq gq de) r) ++ [(0, (false, .cols mq [.str tq, .int .i64 vq, .int .i64 gq]))]]) (fn := mkFn Try.f46) (ts := [1, 3, 4, 5, 6, 7]) (n := 400) rfl (by decide) (by simp) (names_of rfl) ?_ ?_ ?_ h
  · intro s; cases s <;> exact ⟨hd_ok _ _, by simp [I46], names_of rfl, Nat.le_of_ble_eq_true rfl⟩
  · intro Kst Kret x hS hR h
    exact Holds.eq (te46 cond Kst Kret aq nq mq tq vq gq de) (be46 aq nq mq tq vq gq de Kst Kret x hS hR h)
  · intro Kst Kret x hS hR s h
    cases s with
    | h0 x0 x1 => exact Holds.eq (t46_0 cond Kst Kret aq nq mq tq vq gq de x0 x1) (b46_0 aq nq mq tq vq gq de Kst Kret x hS hR x0 x1 h)
    | h1 x0 x1 x2 => exact Holds.eq (t46_1 cond Kst Kret aq nq mq tq vq gq de x0 x1 x2) (b46_1 aq nq mq tq vq gq de Kst Kret x hS hR x0 x1 x2 h)
    | h2 x0 x1 x2 x3 => exact Holds.eq (t46_2 cond Kst Kret aq nq mq tq vq gq de x0 x1 x2 x3) (b46_2 aq nq mq tq vq gq de Kst Kret x hS hR x0 x1 x2 x3 h)
    | h3 x0 x1 => exact Holds.eq (t46_3 cond Kst Kret aq nq mq tq vq gq de x0 x1) (b46_3 aq nq mq tq vq gq de Kst Kret x hS hR x0 x1 h)
noncomputable def k46  : Con := ⟨46, [.agg [.list [.str, .int .i64, .int .i64], .plain (.int .i64)]], fun (x : ((Nat × Nat × Nat × (Nat → ByteArray) × (Nat → Int) × (Nat → Int) × Unit) × Int × Unit) × Unit) => (fun (aq nq mq : Nat) (tq : Nat → ByteArray) (vq : Nat → Int) (gq : Nat → Int) (de : Int) => decide (nq ≤ 100000)) x.1.1.1 x.1.1.2.1 x.1.1.2.2.1 x.1.1.2.2.2.1 x.1.1.2.2.2.2.1 x.1.1.2.2.2.2.2.1 x.1.2.1, fun (x : ((Nat × Nat × Nat × (Nat → ByteArray) × (Nat → Int) × (Nat → Int) × Unit) × Int × Unit) × Unit) => (fun (aq nq mq : Nat) (tq : Nat → ByteArray) (vq : Nat → Int) (gq : Nat → Int) (de : Int) => (V46 aq nq mq tq vq gq de) (S.failL nq)) x.1.1.1 x.1.1.2.1 x.1.1.2.2.1 x.1.1.2.2.2.1 x.1.1.2.2.2.2.1 x.1.1.2.2.2.2.2.1 x.1.2.1, fun (x : ((Nat × Nat × Nat × (Nat → ByteArray) × (Nat → Int) × (Nat → Int) × Unit) × Int × Unit) × Unit) => (fun (aq nq mq : Nat) (tq : Nat → ByteArray) (vq : Nat → Int) (gq : Nat → Int) (de : Int) => (N46 aq nq mq tq vq gq de) (S.failL nq)) x.1.1.1 x.1.1.2.1 x.1.1.2.2.1 x.1.1.2.2.2.1 x.1.1.2.2.2.2.1 x.1.1.2.2.2.2.2.1 x.1.2.1, fun _ _ => .dead⟩
theorem s46a (aq nq mq : Nat) (tq : Nat → ByteArray) (vq gq : Nat → Int) (de : Int) (hp : nq ≤ 100000) (k l : Int) (hb : lim .i64 (l + 1) = true) (R : List (Int × Int × Int)) : ∀ (c i : Nat) (L : List (Int × Int × Int)), i + c = nq → L.length ≤ 500000 + i → Comes (q46 aq nq mq tq vq gq de) (.h1 k (l + 1) (S.fcl k l i c L)) R → Comes (q46 aq nq mq tq vq gq de) (.h2 k l (i : Int) L) R := by
  intro c
  induction c with
  | zero =>
    intro i L hi hL hm
    apply Comes.of
    show Goes _ _ _
    (first | rw [q46] | unfold q46)
    try simp only [hb, cond_true]
    try show Goes _ _ _
    repeat' first
      | with_reducible refine goes_if (fun h => ?_) (fun h => ?_) <;> (try simp only [SH] at h)
      | exact goes_none.mpr (by omega)
    all_goals first | (exfalso; omega) | exact hm
  | succ c ih =>
    intro i L hi hL hm
    have ih := ih (i + 1) (S.snoc L (k, l, (i : Int))) (by omega) (by rw [snoc_len]; omega) hm
    apply Comes.of
    show Goes _ _ _
    (first | rw [q46] | unfold q46)
    try simp only [hb, cond_true]
    try show Goes _ _ _
    repeat' first
      | with_reducible refine goes_if (fun h => ?_) (fun h => ?_) <;> (try simp only [SH] at h)
      | exact goes_none.mpr (by omega)
    all_goals first | (exfalso; omega) | exact ih
theorem s46b (aq nq mq : Nat) (tq : Nat → ByteArray) (vq gq : Nat → Int) (de : Int) (hp : nq ≤ 100000) (R : List (Int × Int × Int)) : ∀ (c i : Nat) (L : List (Int × Int × Int)), i + c = nq → L.length ≤ 500000 + i → S.snoc (S.snoc (S.fcl 3 0 i c L) (4, 1, 0)) (4, 2, 0) = R → Comes (q46 aq nq mq tq vq gq de) (.h3 (i : Int) L) R := by
  intro c
  induction c with
  | zero =>
    intro i L hi hL hm
    apply Comes.of
    show Goes _ _ _
    (first | rw [q46] | unfold q46)
    try simp only [snoc_two]
    try show Goes _ _ _
    repeat' first
      | with_reducible refine goes_if (fun h => ?_) (fun h => ?_) <;> (try simp only [SH] at h)
      | exact goes_none.mpr (by omega)
    all_goals first | (exfalso; omega) | exact goes_inr.mpr hm
  | succ c ih =>
    intro i L hi hL hm
    have ih := ih (i + 1) (S.snoc L (3, 0, (i : Int))) (by omega) (by rw [snoc_len]; omega) hm
    apply Comes.of
    show Goes _ _ _
    (first | rw [q46] | unfold q46)
    try simp only [snoc_two]
    try show Goes _ _ _
    repeat' first
      | with_reducible refine goes_if (fun h => ?_) (fun h => ?_) <;> (try simp only [SH] at h)
      | exact goes_none.mpr (by omega)
    all_goals first | (exfalso; omega) | exact ih
theorem s46 (aq nq mq : Nat) (tq : Nat → ByteArray) (vq gq : Nat → Int) (de : Int) (hp : nq ≤ 100000) : Goes ((q46 aq nq mq tq vq gq de)) ((p46 aq nq mq tq vq gq de)) (S.failL nq) := by
  have e : ∀ k l : Int, lim .i64 (l + 1) = true → ∀ L R, L.length ≤ 500000 → Comes (q46 aq nq mq tq vq gq de) (.h1 k (l + 1) (S.fcl k l 0 nq L)) R → Comes (q46 aq nq mq tq vq gq de) (.h2 k l 0 L) R := fun k l hb L R hL h => s46a aq nq mq tq vq gq de hp k l hb R nq 0 L (Nat.zero_add _) hL h
  unfold p46
  show Comes _ _ _
  refine Comes.next (s' := .h1 1 1 []) rfl (Comes.next (s' := .h2 1 1 0 []) rfl ?_)
  refine e _ _ rfl _ _ (by rw [List.length_nil]; omega) (Comes.next (s' := .h2 1 2 0 _) rfl ?_)
  refine e _ _ rfl _ _ (by simp only [fcl_len, List.length_nil]; omega) (Comes.next (s' := .h0 2 _) rfl ?_)
  refine Comes.next (s' := .h1 2 1 _) rfl (Comes.next (s' := .h2 2 1 0 _) rfl ?_)
  refine e _ _ rfl _ _ (by simp only [fcl_len, List.length_nil]; omega) (Comes.next (s' := .h2 2 2 0 _) rfl ?_)
  refine e _ _ rfl _ _ (by simp only [fcl_len, List.length_nil]; omega) (Comes.next (s' := .h0 3 _) rfl ?_)
  refine Comes.next (s' := .h3 0 _) rfl ?_
  exact s46b aq nq mq tq vq gq de hp _ nq 0 _ (Nat.zero_add _) (by simp only [fcl_len, List.length_nil]; omega) rfl
theorem k46_ok  : k46.ok Try.prog := by
  intro x hx
  obtain ⟨⟨⟨aq, nq, mq, tq, vq, gq, _⟩, de, _⟩, _⟩ := x
  obtain ⟨h1, h2⟩ := a46 aq nq mq tq vq gq de (s46 aq nq mq tq vq gq de (of_dec hx rfl))
  exact ⟨⟨400, (by decide : 1 + 1 + 1 ≤ 400), h1⟩, h2⟩
inductive St77 where
  | h0 (x0 : Int)
abbrev Rt77  := Bool
noncomputable def V77 (al nl ml : Nat) (tl vl gl : Nat → Int) (k1 k2 k3 : Int) (r : Rt77) : PV := PV.bool r
noncomputable def N77 (al nl ml : Nat) (tl vl gl : Nat → Int) (k1 k2 k3 : Int) (r : Rt77) : List Blk := []
noncomputable def I77 (al nl ml : Nat) (tl vl gl : Nat → Int) (k1 k2 k3 : Int) : St77 → Hd
  | .h0 x0 => ⟨hd Try.f77 0, [PV.loose (PA.mk (0) (3) al (0)) nl,
 PV.ptr (PA.mk (1) (0) (0) (0)), PV.int IntKind.i64 x0], [[(1, (true, Blk.cells [PV.int IntKind.i64 k1, PV.int IntKind.i64 k2, PV.int IntKind.i64 k3]))], [(0, (false, .cols ml [.int .i64 tl, .int .i64 vl, .int .i64 gl]))]], 2⟩
noncomputable def q77 (al nl ml : Nat) (tl vl gl : Nat → Int) (k1 k2 k3 : Int) : St77 → Option (St77 ⊕ Rt77)
  | .h0 x0 => bif (decide (x0 < (↑nl : Int)))
 then (bif (decide ((0 : Int) ≤ x0 ∧ x0 < (↑nl : Int)))
 then (bif (decide (Int.toNat x0 + al < ml))
 then (bif (tl (Int.toNat x0 + al) == k1 && (vl (Int.toNat x0 + al) == k2 && (gl (Int.toNat x0 + al) == k3 && true)))
 then (some (.inr (true)))
 else (bif (lim IntKind.i64 (x0 + (1 : Int)))
 then (some (.inl (.h0 (x0 + (1 : Int)))))
 else (none)))
 else (none))
 else (none))
 else (some (.inr (false)))
noncomputable def p77 (al nl ml : Nat) (tl vl gl : Nat → Int) (k1 k2 k3 : Int) : Option (St77 ⊕ Rt77) := some (.inl (.h0 ((0 : Int))))
noncomputable def Te77 (test : Bool → Prop → Prop → Prop) (Kst : KS) (Kret : KR) (al nl ml : Nat) (tl vl gl : Nat → Int) (k1 k2 k3 : Int) : Prop :=
  Kst (hd Try.f77 0) ([PV.loose (PA.mk (0) (3) al (0)) nl,
 PV.ptr (PA.mk (1) (0) (0) (0)), PV.int IntKind.i64 (0 : Int)]) ([[(0, false,
 Blk.cols ml
 [Col.int IntKind.i64 tl, Col.int IntKind.i64 vl, Col.int IntKind.i64 gl]),
 (1, true,
 Blk.cells
 [PV.int IntKind.i64 k1, PV.int IntKind.i64 k2, PV.int IntKind.i64 k3])]]) (2)
theorem te77 (test : Bool → Prop → Prop → Prop) (Kst : KS) (Kret : KR) (al nl ml : Nat) (tl vl gl : Nat → Int) (k1 k2 k3 : Int) : run test Try.env true noX true 400 ⟨77, [.cd (mkFn Try.f77).body], argT 0 [.loose ⟨0, 3, al, 0⟩ nl, .agg [.int .i64 k1, .int .i64 k2, .int .i64 k3]], [[], [(0, (false, .cols ml [.int .i64 tl, .int .i64 vl, .int .i64 gl]))]], 1⟩ (proj 1 [0, 3, 5] Kst Kret) =
  Te77 test Kst Kret al nl ml tl vl gl k1 k2 k3 := by kernel_rfl
noncomputable def T77_0 (test : Bool → Prop → Prop → Prop) (Kst : KS) (Kret : KR) (al nl ml : Nat) (tl vl gl : Nat → Int) (k1 k2 k3 x0 : Int) : Prop :=
  test (decide (x0 < (↑nl : Int)))
 (test (decide ((0 : Int) ≤ x0 ∧ x0 < (↑nl : Int)))
 (test (decide (Int.toNat x0 + al < ml))
 (test (decide (Int.toNat x0 + al < ml))
 (test (decide (Int.toNat x0 + al < ml))
 (test (tl (Int.toNat x0 + al) == k1 && (vl (Int.toNat x0 + al) == k2 && (gl (Int.toNat x0 + al) == k3 && true)))
 (Kret (PV.tf true) ([[(0, false,
 Blk.cols ml
 [Col.int IntKind.i64 tl, Col.int IntKind.i64 vl, Col.int IntKind.i64 gl])]]) (2))
 (test (lim IntKind.i64 (x0 + (1 : Int)))
 (Kst (hd Try.f77 0) ([PV.loose (PA.mk (0) (3) al (0)) nl,
 PV.ptr (PA.mk (1) (0) (0) (0)),
 PV.int IntKind.i64 (x0 + (1 : Int))]) ([[(0, false,
 Blk.cols ml
 [Col.int IntKind.i64 tl, Col.int IntKind.i64 vl, Col.int IntKind.i64 gl]),
 (1, true,
 Blk.cells
 [PV.int IntKind.i64 k1, PV.int IntKind.i64 k2, PV.int IntKind.i64 k3])]]) (2))
 (False)))
 (False))
 (False))
 (False))
 (False))
 (Kret (PV.tf false) ([[(0, false,
 Blk.cols ml
 [Col.int IntKind.i64 tl, Col.int IntKind.i64 vl, Col.int IntKind.i64 gl])]]) (2))
theorem t77_0 (test : Bool → Prop → Prop → Prop) (Kst : KS) (Kret : KR) (al nl ml : Nat) (tl vl gl : Nat → Int) (k1 k2 k3 x0 : Int) : run test Try.env true noX true 400 ⟨77, hd Try.f77 0, zipT [0, 3, 5] [PV.loose (PA.mk (0) (3) al (0)) nl,
 PV.ptr (PA.mk (1) (0) (0) (0)), PV.int IntKind.i64 x0], [[(1, (true, Blk.cells [PV.int IntKind.i64 k1, PV.int IntKind.i64 k2, PV.int IntKind.i64 k3]))], [(0, (false, .cols ml [.int .i64 tl, .int .i64 vl, .int .i64 gl]))]], 2⟩ (proj 1 [0, 3, 5] Kst Kret) =
  T77_0 test Kst Kret al nl ml tl vl gl k1 k2 k3 x0 := by kernel_rfl
theorem be77 (al nl ml : Nat) (tl vl gl : Nat → Int) (k1 k2 k3 : Int) (Kst : KS) (Kret : KR) (x : St77 ⊕ Rt77) (hS : HS 1 400 ((I77 al nl ml tl vl gl k1 k2 k3)) Kst x) (hR : HR 1 400 ((V77 al nl ml tl vl gl k1 k2 k3)) (fun r => [newL (1 + 1) ((N77 al nl ml tl vl gl k1 k2 k3) r) ++ [(0, (false, .cols ml [.int .i64 tl, .int .i64 vl, .int .i64 gl]))]]) Kret x) (h : (some (.inl (.h0 ((0 : Int)))) : Option (St77 ⊕ Rt77)) = some x) : Te77 cond Kst Kret al nl ml tl vl gl k1 k2 k3 := by
  unfold Te77
  exact stop_at hS _ h (fun n => bif Nat.beq n 1 then 1 else n) rfl rfl rfl ⟨(rn_loose (use_lo rfl) rfl rfl rfl), ⟨(rn_ptr (use_own rfl) rfl rfl), ⟨(rn_int rfl), trivial⟩⟩⟩ rfl (entl_b (use_own rfl) rfl (by simp) (rb_cells ⟨(rn_int rfl), (rn_int rfl), (rn_int rfl), trivial⟩) (entl_bor (use_lo rfl) rfl rfl entl_nil))
theorem b77_0 (al nl ml : Nat) (tl vl gl : Nat → Int) (k1 k2 k3 : Int) (Kst : KS) (Kret : KR) (x : St77 ⊕ Rt77) (hS : HS 1 400 ((I77 al nl ml tl vl gl k1 k2 k3)) Kst x) (hR : HR 1 400 ((V77 al nl ml tl vl gl k1 k2 k3)) (fun r => [newL (1 + 1) ((N77 al nl ml tl vl gl k1 k2 k3) r) ++ [(0, (false, .cols ml [.int .i64 tl, .int .i64 vl, .int .i64 gl]))]]) Kret x) (x0 : Int) (h : (bif (decide (x0 < (↑nl : Int)))
 then (bif (decide ((0 : Int) ≤ x0 ∧ x0 < (↑nl : Int)))
 then (bif (decide (Int.toNat x0 + al < ml))
 then (bif (tl (Int.toNat x0 + al) == k1 && (vl (Int.toNat x0 + al) == k2 && (gl (Int.toNat x0 + al) == k3 && true)))
 then (some (.inr (true)))
 else (bif (lim IntKind.i64 (x0 + (1 : Int)))
 then (some (.inl (.h0 (x0 + (1 : Int)))))
 else (none)))
 else (none))
 else (none))
 else (some (.inr (false))) : Option (St77 ⊕ Rt77)) = some x) : T77_0 cond Kst Kret al nl ml tl vl gl k1 k2 k3 x0 := by
  unfold T77_0
  exact bif_split h
   (fun c0 h => bif_split h
   (fun c1 h => bif_split h
   (fun c2 h => cond_yes c2 (cond_yes c2 (bif_split h
   (fun c3 h => ret_at hR _ h (fun n => n) rfl rfl rfl (rn_bool_tf rfl) rfl (entl_bor (use_lo rfl) rfl rfl entl_nil))
   (fun c3 h => bif_split h
   (fun c4 h => stop_at hS _ h (fun n => bif Nat.beq n 1 then 1 else n) rfl rfl rfl ⟨(rn_loose (use_lo rfl) rfl rfl rfl), ⟨(rn_ptr (use_own rfl) rfl rfl), ⟨(rn_int rfl), trivial⟩⟩⟩ rfl (entl_b (use_own rfl) rfl (by simp) (rb_cells ⟨(rn_int rfl), (rn_int rfl), (rn_int rfl), trivial⟩) (entl_bor (use_lo rfl) rfl rfl entl_nil)))
   (fun c4 h => no_some h)))))
   (fun c2 h => no_some h))
   (fun c1 h => no_some h))
   (fun c0 h => ret_at hR _ h (fun n => n) rfl rfl rfl (rn_bool_tf rfl) rfl (entl_bor (use_lo rfl) rfl rfl entl_nil))
theorem a77 (al nl ml : Nat) (tl vl gl : Nat → Int) (k1 k2 k3 : Int) {r : Rt77} (h : Goes ((q77 al nl ml tl vl gl k1 k2 k3)) ((p77 al nl ml tl vl gl k1 k2 k3)) r) : CallR Try.prog 77 [.loose ⟨0, 3, al, 0⟩ nl, .agg [.int .i64 k1, .int .i64 k2, .int .i64 k3]] [[(0, (false, .cols ml [.int .i64 tl, .int .i64 vl, .int .i64 gl]))]] 1 ((V77 al nl ml tl vl gl k1 k2 k3) r) ((fun r => [newL (1 + 1) ((N77 al nl ml tl vl gl k1 k2 k3) r) ++ [(0, (false, .cols ml [.int .i64 tl, .int .i64 vl, .int .i64 gl]))]]) r) 400 ∧ ∃ F, Try.prog.funcs[77]? = some F ∧ F.body.isSome = true ∧ (F.name == "runtime.NumGoroutine") = false := by
  refine dec_calls (f := 77) (lo := 1) (hi := 400) (H := [[(0, (false, .cols ml [.int .i64 tl, .int .i64 vl, .int .i64 gl]))]]) (args := [.loose ⟨0, 3, al, 0⟩ nl, .agg [.int .i64 k1, .int .i64 k2, .int .i64 k3]]) Try.envOk Try.mixed noX_ok ((I77 al nl ml tl vl gl k1 k2 k3)) ((V77 al nl ml tl vl gl k1 k2 k3)) (fun r => [newL (1 + 1) ((N77 al nl ml tl vl gl k1 k2 k3) r) ++ [(0, (false, .cols ml [.int .i64 tl, .int .i64 vl, .int .i64 gl]))]]) (fn := mkFn Try.f77) (ts := [0, 3, 5]) (n := 400) rfl (by decide) (by simp) (names_of rfl) ?_ ?_ ?_ h
  · intro s; cases s <;> exact ⟨hd_ok _ _, by simp [I77], names_of rfl, Nat.le_of_ble_eq_true rfl⟩
  · intro Kst Kret x hS hR h
    exact Holds.eq (te77 cond Kst Kret al nl ml tl vl gl k1 k2 k3) (be77 al nl ml tl vl gl k1 k2 k3 Kst Kret x hS hR h)
  · intro Kst Kret x hS hR s h
    cases s with
    | h0 x0 => exact Holds.eq (t77_0 cond Kst Kret al nl ml tl vl gl k1 k2 k3 x0) (b77_0 al nl ml tl vl gl k1 k2 k3 Kst Kret x hS hR x0 h)
noncomputable def k77  : Con := ⟨77, [.one (.list [.int .i64, .int .i64, .int .i64]), .agg [.plain (.int .i64), .plain (.int .i64), .plain (.int .i64)]], fun (x : (Nat × Nat × Nat × (Nat → Int) × (Nat → Int) × (Nat → Int) × Unit) × (Int × Int × Int × Unit) × Unit) => (fun (al nl ml : Nat) (tl : Nat → Int) (vl : Nat → Int) (gl : Nat → Int) (k1 : Int) (k2 : Int) (k3 : Int) => decide (al + nl ≤ ml ∧ nl ≤ 1000000)) x.1.1 x.1.2.1 x.1.2.2.1 x.1.2.2.2.1 x.1.2.2.2.2.1 x.1.2.2.2.2.2.1 x.2.1.1 x.2.1.2.1 x.2.1.2.2.1, fun (x : (Nat × Nat × Nat × (Nat → Int) × (Nat → Int) × (Nat → Int) × Unit) × (Int × Int × Int × Unit) × Unit) => (fun (al nl ml : Nat) (tl : Nat → Int) (vl : Nat → Int) (gl : Nat → Int) (k1 : Int) (k2 : Int) (k3 : Int) => (V77 al nl ml tl vl gl k1 k2 k3) (S.any (fun j => decide (tl (j + al) = k1) && decide (vl (j + al) = k2) && decide (gl (j + al) = k3)) nl)) x.1.1 x.1.2.1 x.1.2.2.1 x.1.2.2.2.1 x.1.2.2.2.2.1 x.1.2.2.2.2.2.1 x.2.1.1 x.2.1.2.1 x.2.1.2.2.1, fun (x : (Nat × Nat × Nat × (Nat → Int) × (Nat → Int) × (Nat → Int) × Unit) × (Int × Int × Int × Unit) × Unit) => (fun (al nl ml : Nat) (tl : Nat → Int) (vl : Nat → Int) (gl : Nat → Int) (k1 : Int) (k2 : Int) (k3 : Int) => (N77 al nl ml tl vl gl k1 k2 k3) (S.any (fun j => decide (tl (j + al) = k1) && decide (vl (j + al) = k2) && decide (gl (j + al) = k3)) nl)) x.1.1 x.1.2.1 x.1.2.2.1 x.1.2.2.2.1 x.1.2.2.2.2.1 x.1.2.2.2.2.2.1 x.2.1.1 x.2.1.2.1 x.2.1.2.2.1, fun _ _ => .dead⟩
theorem s77' (al nl ml : Nat) (tl vl gl : Nat → Int) (k1 k2 k3 : Int) (hp : al + nl ≤ ml ∧ nl ≤ 1000000) : ∀ k i : Nat, i + k = nl → (∀ j, j < i → (fun j => decide (tl (j + al) = k1) && decide (vl (j + al) = k2) && decide (gl (j + al) = k3)) j = false) → Comes (q77 al nl ml tl vl gl k1 k2 k3) (.h0 (i : Int)) (S.any (fun j => decide (tl (j + al) = k1) && decide (vl (j + al) = k2) && decide (gl (j + al) = k3)) nl) := by
  obtain ⟨hp1, hp2⟩ := hp
  intro k
  induction k with
  | zero =>
    intro i hi hj
    obtain rfl : nl = i := by omega
    rw [any_no.mpr hj]
    apply Comes.of
    show Goes _ _ _
    (first | rw [q77] | unfold q77)
    repeat' first
      | with_reducible refine goes_if (fun h => ?_) (fun h => ?_) <;> (try simp only [SH] at h)
      | exact goes_none.mpr (by omega)
    all_goals first | (exfalso; omega) | exact goes_inr.mpr rfl
  | succ k ih =>
    intro i hi hj
    by_cases hc : (fun j => decide (tl (j + al) = k1) && decide (vl (j + al) = k2) && decide (gl (j + al) = k3)) i = true
    · rw [any_iff.mpr ⟨i, by omega, hc⟩]
      simp only [Bool.and_eq_true, decide_eq_true_eq] at hc
      apply Comes.of
      show Goes _ _ _
      (first | rw [q77] | unfold q77)
      try simp only [Int.toNat_natCast, hc.1.1, hc.1.2, hc.2, BEq.rfl, Bool.and_self, Bool.and_true]
      try show Goes _ _ _
      repeat' first
        | with_reducible refine goes_if (fun h => ?_) (fun h => ?_) <;> (try simp only [SH] at h)
        | exact goes_none.mpr (by omega)
      all_goals first | (exfalso; omega) | exact goes_inr.mpr rfl | (exfalso; simp_all; done)
    · rw [Bool.not_eq_true] at hc
      have ih := ih (i + 1) (by omega) (fun j hlt => by
        rcases Nat.lt_or_eq_of_le (Nat.le_of_lt_succ hlt) with h2 | h2
        · exact hj j h2
        · subst h2; exact hc)
      apply Comes.of
      show Goes _ _ _
      (first | rw [q77] | unfold q77)
      repeat' first
        | with_reducible refine goes_if (fun h => ?_) (fun h => ?_) <;> (try simp only [SH] at h)
        | exact goes_none.mpr (by omega)
      all_goals first | (exfalso; omega) | exact ih | (exfalso; simp_all; done)
theorem s77 (al nl ml : Nat) (tl vl gl : Nat → Int) (k1 k2 k3 : Int) (hp : al + nl ≤ ml ∧ nl ≤ 1000000) : Goes ((q77 al nl ml tl vl gl k1 k2 k3)) ((p77 al nl ml tl vl gl k1 k2 k3)) (S.any (fun j => decide (tl (j + al) = k1) && decide (vl (j + al) = k2) && decide (gl (j + al) = k3)) nl) := by
  exact s77' al nl ml tl vl gl k1 k2 k3 hp nl 0 (Nat.zero_add _) (fun j hj => absurd hj (Nat.not_lt_zero j))
theorem k77_ok  : k77.ok Try.prog := by
  intro x hx
  obtain ⟨⟨al, nl, ml, tl, vl, gl, _⟩, ⟨k1, k2, k3, _⟩, _⟩ := x
  obtain ⟨h1, h2⟩ := a77 al nl ml tl vl gl k1 k2 k3 (s77 al nl ml tl vl gl k1 k2 k3 (of_dec hx rfl))
  exact ⟨⟨400, (by decide : 1 + 1 + 0 ≤ 400), h1⟩, h2⟩
noncomputable def xU (test : Bool → Prop → Prop → Prop) : Ext := consX test [k44, k46, k77, k76]
theorem xU_ok  : ExtOk Try.prog (xU cond) := consX_ok ⟨k44_ok, k46_ok, k77_ok, k76_ok, trivial⟩
inductive St54 where
  | h0 (x0 : Int)
abbrev Rt54  := Bool
noncomputable def V54 (lp : Int) (ao no mo : Nat) (to : Nat → Bool) (al nl ml : Nat) (tl vl gl : Nat → Int) (r : Rt54) : PV := PV.bool r
noncomputable def N54 (lp : Int) (ao no mo : Nat) (to : Nat → Bool) (al nl ml : Nat) (tl vl gl : Nat → Int) (r : Rt54) : List Blk := []
noncomputable def I54 (lp : Int) (ao no mo : Nat) (to : Nat → Bool) (al nl ml : Nat) (tl vl gl : Nat → Int) : St54 → Hd
  | .h0 x0 => ⟨hd Try.f54 0, [PV.int IntKind.i64 lp,
 PV.fn (Go.Fn.func (75)) [] [PV.ptr (PA.mk (2) (0) (0) (0))],
 PV.loose (PA.mk (0) (1) ao (0)) no, PV.int IntKind.i64 (↑no : Int),
 PV.int IntKind.i64 x0], [[(2, (true, Blk.cells [PV.loose (PA.mk (1) (3) al (0)) nl]))], [(0, (false, .cols mo [.bool to])), (1, (false, .cols ml [.int .i64 tl, .int .i64 vl, .int .i64 gl]))]], 3⟩
noncomputable def q54 (lp : Int) (ao no mo : Nat) (to : Nat → Bool) (al nl ml : Nat) (tl vl gl : Nat → Int) : St54 → Option (St54 ⊕ Rt54)
  | .h0 x0 => bif (decide (x0 < (↑no : Int)))
 then (bif (decide ((0 : Int) ≤ x0 ∧ x0 < (↑no : Int)))
 then (bif (decide (Int.toNat x0 + ao < mo))
 then (bif (to (Int.toNat x0 + ao))
 then (bif (decide (al + nl ≤ ml ∧ nl ≤ 1000000))
 then (bif (S.any
 (fun j =>
 decide (tl (j + al) = (2 : Int)) && decide (vl (j + al) = lp) &&
 decide (gl (j + al) = x0))
 nl)
 then (some (.inr (true)))
 else (bif (S.any
 (fun j =>
 decide (tl (j + al) = (3 : Int)) && decide (vl (j + al) = (0 : Int)) &&
 decide (gl (j + al) = x0))
 nl)
 then (some (.inr (true)))
 else (bif (lim IntKind.i64 (x0 + (1 : Int)))
 then (some (.inl (.h0 (x0 + (1 : Int)))))
 else (none))))
 else (none))
 else (bif (decide (al + nl ≤ ml ∧ nl ≤ 1000000))
 then (bif (S.any
 (fun j =>
 decide (tl (j + al) = (2 : Int)) && decide (vl (j + al) = lp) &&
 decide (gl (j + al) = x0))
 nl)
 then (some (.inr (true)))
 else (bif (S.any
 (fun j =>
 decide (tl (j + al) = (3 : Int)) && decide (vl (j + al) = (0 : Int)) &&
 decide (gl (j + al) = x0))
 nl)
 then (some (.inr (true)))
 else (bif (S.any
 (fun j =>
 decide (tl (j + al) = (1 : Int)) && decide (vl (j + al) = lp) &&
 decide (gl (j + al) = x0))
 nl)
 then (bif (lim IntKind.i64 (x0 + (1 : Int)))
 then (some (.inl (.h0 (x0 + (1 : Int)))))
 else (none))
 else (some (.inr (true))))))
 else (none)))
 else (none))
 else (none))
 else (some (.inr (false)))
noncomputable def p54 (lp : Int) (ao no mo : Nat) (to : Nat → Bool) (al nl ml : Nat) (tl vl gl : Nat → Int) : Option (St54 ⊕ Rt54) := bif (decide (al + nl ≤ ml ∧ nl ≤ 1000000))
 then (bif (S.any
 (fun j =>
 decide (tl (j + al) = (4 : Int)) && decide (vl (j + al) = lp) &&
 decide (gl (j + al) = (0 : Int)))
 nl)
 then (some (.inr (false)))
 else (some (.inl (.h0 ((0 : Int))))))
 else (none)
noncomputable def Te54 (test : Bool → Prop → Prop → Prop) (Kst : KS) (Kret : KR) (lp : Int) (ao no mo : Nat) (to : Nat → Bool) (al nl ml : Nat) (tl vl gl : Nat → Int) : Prop :=
  test (decide (al + nl ≤ ml ∧ nl ≤ 1000000))
 (test (S.any
 (fun j =>
 decide (tl (j + al) = (4 : Int)) && decide (vl (j + al) = lp) &&
 decide (gl (j + al) = (0 : Int)))
 nl)
 (Kret (PV.tf false) ([[(1, false,
 Blk.cols ml
 [Col.int IntKind.i64 tl, Col.int IntKind.i64 vl, Col.int IntKind.i64 gl]),
 (0, false, Blk.cols mo [Col.bool to])]]) (5))
 (Kst (hd Try.f54 0) ([PV.int IntKind.i64 lp,
 PV.fn (Go.Fn.func (75)) [] [PV.ptr (PA.mk (2) (0) (0) (0))],
 PV.loose (PA.mk (0) (1) ao (0)) no, PV.int IntKind.i64 (↑no : Int),
 PV.int IntKind.i64 (0 : Int)]) ([[(1, false,
 Blk.cols ml
 [Col.int IntKind.i64 tl, Col.int IntKind.i64 vl, Col.int IntKind.i64 gl]),
 (0, false, Blk.cols mo [Col.bool to]),
 (2, true, Blk.cells [PV.loose (PA.mk (1) (3) al (0)) nl])]]) (5)))
 (False)
theorem te54 (test : Bool → Prop → Prop → Prop) (Kst : KS) (Kret : KR) (lp : Int) (ao no mo : Nat) (to : Nat → Bool) (al nl ml : Nat) (tl vl gl : Nat → Int) : run test Try.env true (xU test) true 400 ⟨54, [.cd (mkFn Try.f54).body], argT 0 [.int .i64 lp, .loose ⟨0, 1, ao, 0⟩ no, .loose ⟨1, 3, al, 0⟩ nl], [[], [(0, (false, .cols mo [.bool to])), (1, (false, .cols ml [.int .i64 tl, .int .i64 vl, .int .i64 gl]))]], 2⟩ (proj 2 [0, 7, 15, 16, 17] Kst Kret) =
  Te54 test Kst Kret lp ao no mo to al nl ml tl vl gl := by kernel_rfl
noncomputable def T54_0 (test : Bool → Prop → Prop → Prop) (Kst : KS) (Kret : KR) (lp : Int) (ao no mo : Nat) (to : Nat → Bool) (al nl ml : Nat) (tl vl gl : Nat → Int) (x0 : Int) : Prop :=
  test (decide (x0 < (↑no : Int)))
 (test (decide ((0 : Int) ≤ x0 ∧ x0 < (↑no : Int)))
 (test (decide (Int.toNat x0 + ao < mo))
 (test (to (Int.toNat x0 + ao))
 (test (decide (al + nl ≤ ml ∧ nl ≤ 1000000))
 (test (S.any
 (fun j =>
 decide (tl (j + al) = (2 : Int)) && decide (vl (j + al) = lp) &&
 decide (gl (j + al) = x0))
 nl)
 (Kret (PV.tf true) ([[(1, false,
 Blk.cols ml
 [Col.int IntKind.i64 tl, Col.int IntKind.i64 vl, Col.int IntKind.i64 gl]),
 (0, false, Blk.cols mo [Col.bool to])]]) (5))
 (test (decide (al + nl ≤ ml ∧ nl ≤ 1000000))
 (test (S.any
 (fun j =>
 decide (tl (j + al) = (3 : Int)) && decide (vl (j + al) = (0 : Int)) &&
 decide (gl (j + al) = x0))
 nl)
 (Kret (PV.tf true) ([[(1, false,
 Blk.cols ml
 [Col.int IntKind.i64 tl, Col.int IntKind.i64 vl, Col.int IntKind.i64 gl]),
 (0, false, Blk.cols mo [Col.bool to])]]) (7))
 (test (lim IntKind.i64 (x0 + (1 : Int)))
 (Kst (hd Try.f54 0) ([PV.int IntKind.i64 lp,
 PV.fn (Go.Fn.func (75)) [] [PV.ptr (PA.mk (2) (0) (0) (0))],
 PV.loose (PA.mk (0) (1) ao (0)) no, PV.int IntKind.i64 (↑no : Int),
 PV.int IntKind.i64 (x0 + (1 : Int))]) ([[(1, false,
 Blk.cols ml
 [Col.int IntKind.i64 tl, Col.int IntKind.i64 vl, Col.int IntKind.i64 gl]),
 (0, false, Blk.cols mo [Col.bool to]),
 (2, true, Blk.cells [PV.loose (PA.mk (1) (3) al (0)) nl])]]) (7))
 (False)))
 (False)))
 (False))
 (test (decide (al + nl ≤ ml ∧ nl ≤ 1000000))
 (test (S.any
 (fun j =>
 decide (tl (j + al) = (2 : Int)) && decide (vl (j + al) = lp) &&
 decide (gl (j + al) = x0))
 nl)
 (Kret (PV.tf true) ([[(1, false,
 Blk.cols ml
 [Col.int IntKind.i64 tl, Col.int IntKind.i64 vl, Col.int IntKind.i64 gl]),
 (0, false, Blk.cols mo [Col.bool to])]]) (5))
 (test (decide (al + nl ≤ ml ∧ nl ≤ 1000000))
 (test (S.any
 (fun j =>
 decide (tl (j + al) = (3 : Int)) && decide (vl (j + al) = (0 : Int)) &&
 decide (gl (j + al) = x0))
 nl)
 (Kret (PV.tf true) ([[(1, false,
 Blk.cols ml
 [Col.int IntKind.i64 tl, Col.int IntKind.i64 vl, Col.int IntKind.i64 gl]),
 (0, false, Blk.cols mo [Col.bool to])]]) (7))
 (test (decide (al + nl ≤ ml ∧ nl ≤ 1000000))
 (test (S.any
 (fun j =>
 decide (tl (j + al) = (1 : Int)) && decide (vl (j + al) = lp) &&
 decide (gl (j + al) = x0))
 nl)
 (test (lim IntKind.i64 (x0 + (1 : Int)))
 (Kst (hd Try.f54 0) ([PV.int IntKind.i64 lp,
 PV.fn (Go.Fn.func (75)) [] [PV.ptr (PA.mk (2) (0) (0) (0))],
 PV.loose (PA.mk (0) (1) ao (0)) no, PV.int IntKind.i64 (↑no : Int),
 PV.int IntKind.i64 (x0 + (1 : Int))]) ([[(1, false,
 Blk.cols ml
 [Col.int IntKind.i64 tl, Col.int IntKind.i64 vl, Col.int IntKind.i64 gl]),
 (0, false, Blk.cols mo [Col.bool to]),
 (2, true, Blk.cells [PV.loose (PA.mk (1) (3) al (0)) nl])]]) (9))
 (False))
 (Kret (PV.tf true) ([[(1, false,
 Blk.cols ml
 [Col.int IntKind.i64 tl, Col.int IntKind.i64 vl, Col.int IntKind.i64 gl]),
 (0, false, Blk.cols mo [Col.bool to])]]) (9)))
 (False)))
 (False)))
 (False)))
 (False))
 (False))
 (Kret (PV.tf false) ([[(1, false,
 Blk.cols ml
 [Col.int IntKind.i64 tl, Col.int IntKind.i64 vl, Col.int IntKind.i64 gl]),
 (0, false, Blk.cols mo [Col.bool to])]]) (3))
theorem t54_0 (test : Bool → Prop → Prop → Prop) (Kst : KS) (Kret : KR) (lp : Int) (ao no mo : Nat) (to : Nat → Bool) (al nl ml : Nat) (tl vl gl : Nat → Int) (x0 : Int) : run test Try.env true (xU test) true 400 ⟨54, hd Try.f54 0, zipT [0, 7, 15, 16, 17] [PV.int IntKind.i64 lp,
 PV.fn (Go.Fn.func (75)) [] [PV.ptr (PA.mk (2) (0) (0) (0))],
 PV.loose (PA.mk (0) (1) ao (0)) no, PV.int IntKind.i64 (↑no : Int),
 PV.int IntKind.i64 x0], [[(2, (true, Blk.cells [PV.loose (PA.mk (1) (3) al (0)) nl]))], [(0, (false, .cols mo [.bool to])), (1, (false, .cols ml [.int .i64 tl, .int .i64 vl, .int .i64 gl]))]], 3⟩ (proj 2 [0, 7, 15, 16, 17] Kst Kret) =
  T54_0 test Kst Kret lp ao no mo to al nl ml tl vl gl x0 := by kernel_rfl
theorem be54 (lp : Int) (ao no mo : Nat) (to : Nat → Bool) (al nl ml : Nat) (tl vl gl : Nat → Int) (Kst : KS) (Kret : KR) (x : St54 ⊕ Rt54) (hS : HS 2 400 ((I54 lp ao no mo to al nl ml tl vl gl)) Kst x) (hR : HR 2 400 ((V54 lp ao no mo to al nl ml tl vl gl)) (fun r => [newL (2 + 1) ((N54 lp ao no mo to al nl ml tl vl gl) r) ++ [(0, (false, .cols mo [.bool to])), (1, (false, .cols ml [.int .i64 tl, .int .i64 vl, .int .i64 gl]))]]) Kret x) (h : p54 lp ao no mo to al nl ml tl vl gl = some x) : Te54 cond Kst Kret lp ao no mo to al nl ml tl vl gl := by
  unfold Te54
  unfold p54 at h
  refine bif_split h
   (fun c0 h => bif_split h
   (fun c1 h => ret_at hR _ h (fun n => n) rfl rfl rfl (rn_bool_tf rfl) rfl (entl_bor (use_lo rfl) rfl rfl (entl_bor (use_lo rfl) rfl rfl entl_nil)))
   (fun c1 h => stop_at hS _ h (fun n => bif Nat.beq n 2 then 2 else n) rfl rfl rfl ⟨(rn_int rfl), ⟨(rn_fn trivial ⟨(rn_ptr (use_own rfl) rfl rfl), trivial⟩), ⟨(rn_loose (use_lo rfl) rfl rfl rfl), ⟨(rn_int rfl), ⟨(rn_int rfl), trivial⟩⟩⟩⟩⟩ rfl (entl_b (use_own rfl) rfl (by simp) (rb_cells ⟨(rn_loose (use_lo rfl) rfl rfl rfl), trivial⟩) (entl_bor (use_lo rfl) rfl rfl (entl_bor (use_lo rfl) rfl rfl entl_nil)))))
   (fun c0 h => no_some h)
theorem b54_0 (lp : Int) (ao no mo : Nat) (to : Nat → Bool) (al nl ml : Nat) (tl vl gl : Nat → Int) (Kst : KS) (Kret : KR) (x : St54 ⊕ Rt54) (hS : HS 2 400 ((I54 lp ao no mo to al nl ml tl vl gl)) Kst x) (hR : HR 2 400 ((V54 lp ao no mo to al nl ml tl vl gl)) (fun r => [newL (2 + 1) ((N54 lp ao no mo to al nl ml tl vl gl) r) ++ [(0, (false, .cols mo [.bool to])), (1, (false, .cols ml [.int .i64 tl, .int .i64 vl, .int .i64 gl]))]]) Kret x) (x0 : Int) (h : (bif (decide (x0 < (↑no : Int)))
 then (bif (decide ((0 : Int) ≤ x0 ∧ x0 < (↑no : Int)))
 then (bif (decide (Int.toNat x0 + ao < mo))
 then (bif (to (Int.toNat x0 + ao))
 then (bif (decide (al + nl ≤ ml ∧ nl ≤ 1000000))
 then (bif (S.any
 (fun j =>
 decide (tl (j + al) = (2 : Int)) && decide (vl (j + al) = lp) &&
 decide (gl (j + al) = x0))
 nl)
 then (some (.inr (true)))
 else (bif (S.any
 (fun j =>
 decide (tl (j + al) = (3 : Int)) && decide (vl (j + al) = (0 : Int)) &&
 decide (gl (j + al) = x0))
 nl)
 then (some (.inr (true)))
 else (bif (lim IntKind.i64 (x0 + (1 : Int)))
 then (some (.inl (.h0 (x0 + (1 : Int)))))
 else (none))))
 else (none))
 else (bif (decide (al + nl ≤ ml ∧ nl ≤ 1000000))
 then (bif (S.any
 (fun j =>
 decide (tl (j + al) = (2 : Int)) && decide (vl (j + al) = lp) &&
 decide (gl (j + al) = x0))
 nl)
 then (some (.inr (true)))
 else (bif (S.any
 (fun j =>
 decide (tl (j + al) = (3 : Int)) && decide (vl (j + al) = (0 : Int)) &&
 decide (gl (j + al) = x0))
 nl)
 then (some (.inr (true)))
 else (bif (S.any
 (fun j =>
 decide (tl (j + al) = (1 : Int)) && decide (vl (j + al) = lp) &&
 decide (gl (j + al) = x0))
 nl)
 then (bif (lim IntKind.i64 (x0 + (1 : Int)))
 then (some (.inl (.h0 (x0 + (1 : Int)))))
 else (none))
 else (some (.inr (true))))))
 else (none)))
 else (none))
 else (none))
 else (some (.inr (false))) : Option (St54 ⊕ Rt54)) = some x) : T54_0 cond Kst Kret lp ao no mo to al nl ml tl vl gl x0 := by
  unfold T54_0
  refine bif_split h
   (fun c0 h => bif_split h
   (fun c1 h => bif_split h
   (fun c2 h => bif_split h
   (fun c3 h => bif_split h
   (fun c4 h => bif_split h
   (fun c5 h => ?_)
   (fun c5 h => cond_yes c4 (bif_split h
   (fun c6 h => ?_)
   (fun c6 h => bif_split h
   (fun c7 h => ?_)
   (fun c7 h => ?_)))))
   (fun c4 h => ?_))
   (fun c3 h => bif_split h
   (fun c4 h => bif_split h
   (fun c5 h => ?_)
   (fun c5 h => cond_yes c4 (bif_split h
   (fun c6 h => ?_)
   (fun c6 h => cond_yes c4 (bif_split h
   (fun c7 h => bif_split h
   (fun c8 h => ?_)
   (fun c8 h => ?_))
   (fun c7 h => ?_))))))
   (fun c4 h => ?_)))
   (fun c2 h => ?_))
   (fun c1 h => ?_))
   (fun c0 h => ?_)
  all_goals first
    | exact ret_at hR _ h (fun n => n) rfl rfl rfl (rn_bool_tf rfl) rfl (entl_bor (use_lo rfl) rfl rfl (entl_bor (use_lo rfl) rfl rfl entl_nil))
    | exact no_some h
    | exact stop_at hS _ h (fun n => bif Nat.beq n 2 then 2 else n) rfl rfl rfl ⟨(rn_int rfl), ⟨(rn_fn trivial ⟨(rn_ptr (use_own rfl) rfl rfl), trivial⟩), ⟨(rn_loose (use_lo rfl) rfl rfl rfl), ⟨(rn_int rfl), ⟨(rn_int rfl), trivial⟩⟩⟩⟩⟩ rfl (entl_b (use_own rfl) rfl (by simp) (rb_cells ⟨(rn_loose (use_lo rfl) rfl rfl rfl), trivial⟩) (entl_bor (use_lo rfl) rfl rfl (entl_bor (use_lo rfl) rfl rfl entl_nil)))
theorem a54 (lp : Int) (ao no mo : Nat) (to : Nat → Bool) (al nl ml : Nat) (tl vl gl : Nat → Int) {r : Rt54} (h : Goes ((q54 lp ao no mo to al nl ml tl vl gl)) ((p54 lp ao no mo to al nl ml tl vl gl)) r) : CallR Try.prog 54 [.int .i64 lp, .loose ⟨0, 1, ao, 0⟩ no, .loose ⟨1, 3, al, 0⟩ nl] [[(0, (false, .cols mo [.bool to])), (1, (false, .cols ml [.int .i64 tl, .int .i64 vl, .int .i64 gl]))]] 2 ((V54 lp ao no mo to al nl ml tl vl gl) r) ((fun r => [newL (2 + 1) ((N54 lp ao no mo to al nl ml tl vl gl) r) ++ [(0, (false, .cols mo [.bool to])), (1, (false, .cols ml [.int .i64 tl, .int .i64 vl, .int .i64 gl]))]]) r) 400 ∧ ∃ F, Try.prog.funcs[54]? = some F ∧ F.body.isSome = true ∧ (F.name == "runtime.NumGoroutine") = false := by
  refine dec_calls (f := 54) (lo := 2) (hi := 400) (H := [[(0, (false, .cols mo [.bool to])), (1, (false, .cols ml [.int .i64 tl, .int .i64 vl, .int .i64 gl]))]]) (args := [.int .i64 lp, .loose ⟨0, 1, ao, 0⟩ no, .loose ⟨1, 3, al, 0⟩ nl]) Try.envOk Try.mixed xU_ok ((I54 lp ao no mo to al nl ml tl vl gl)) ((V54 lp ao no mo to al nl ml tl vl gl)) (fun r => [newL (2 + 1) ((N54 lp ao no mo to al nl ml tl vl gl) r) ++ [(0, (false, .cols mo [.bool to])), (1, (false, .cols ml [.int .i64 tl, .int .i64 vl, .int .i64 gl]))]]) (fn := mkFn Try.f54) (ts := [0, 7, 15, 16, 17]) (n := 400) rfl (by decide) (by simp) (names_of rfl) ?_ ?_ ?_ h
  · intro s; cases s <;> exact ⟨hd_ok _ _, by simp [I54], names_of rfl, Nat.le_of_ble_eq_true rfl⟩
  · intro Kst Kret x hS hR h
    exact Holds.eq (te54 cond Kst Kret lp ao no mo to al nl ml tl vl gl) (be54 lp ao no mo to al nl ml tl vl gl Kst Kret x hS hR h)
  · intro Kst Kret x hS hR s h
    cases s with
    | h0 x0 => exact Holds.eq (t54_0 cond Kst Kret lp ao no mo to al nl ml tl vl gl x0) (b54_0 lp ao no mo to al nl ml tl vl gl Kst Kret x hS hR x0 h)
noncomputable def k54  : Con := ⟨54, [.one (.plain (.int .i64)), .one (.list [.bool]), .one (.list [.int .i64, .int .i64, .int .i64])], fun (x : Int × (Nat × Nat × Nat × (Nat → Bool) × Unit) × (Nat × Nat × Nat × (Nat → Int) × (Nat → Int) × (Nat → Int) × Unit) × Unit) => (fun (lp : Int) (ao no mo : Nat) (to : Nat → Bool) (al nl ml : Nat) (tl : Nat → Int) (vl : Nat → Int) (gl : Nat → Int) => decide (al + nl ≤ ml ∧ nl ≤ 1000000 ∧ ao + no ≤ mo ∧ no ≤ 1000000)) x.1 x.2.1.1 x.2.1.2.1 x.2.1.2.2.1 x.2.1.2.2.2.1 x.2.2.1.1 x.2.2.1.2.1 x.2.2.1.2.2.1 x.2.2.1.2.2.2.1 x.2.2.1.2.2.2.2.1 x.2.2.1.2.2.2.2.2.1, fun (x : Int × (Nat × Nat × Nat × (Nat → Bool) × Unit) × (Nat × Nat × Nat × (Nat → Int) × (Nat → Int) × (Nat → Int) × Unit) × Unit) => (fun (lp : Int) (ao no mo : Nat) (to : Nat → Bool) (al nl ml : Nat) (tl : Nat → Int) (vl : Nat → Int) (gl : Nat → Int) => (V54 lp ao no mo to al nl ml tl vl gl) (S.opnB lp no (fun j => to (j + ao)) nl (fun j => tl (j + al)) (fun j => vl (j + al)) (fun j => gl (j + al)))) x.1 x.2.1.1 x.2.1.2.1 x.2.1.2.2.1 x.2.1.2.2.2.1 x.2.2.1.1 x.2.2.1.2.1 x.2.2.1.2.2.1 x.2.2.1.2.2.2.1 x.2.2.1.2.2.2.2.1 x.2.2.1.2.2.2.2.2.1, fun (x : Int × (Nat × Nat × Nat × (Nat → Bool) × Unit) × (Nat × Nat × Nat × (Nat → Int) × (Nat → Int) × (Nat → Int) × Unit) × Unit) => (fun (lp : Int) (ao no mo : Nat) (to : Nat → Bool) (al nl ml : Nat) (tl : Nat → Int) (vl : Nat → Int) (gl : Nat → Int) => (N54 lp ao no mo to al nl ml tl vl gl) (S.opnB lp no (fun j => to (j + ao)) nl (fun j => tl (j + al)) (fun j => vl (j + al)) (fun j => gl (j + al)))) x.1 x.2.1.1 x.2.1.2.1 x.2.1.2.2.1 x.2.1.2.2.2.1 x.2.2.1.1 x.2.2.1.2.1 x.2.2.1.2.2.1 x.2.2.1.2.2.2.1 x.2.2.1.2.2.2.2.1 x.2.2.1.2.2.2.2.2.1, fun _ _ => .dead⟩
theorem s54' (lp : Int) (ao no mo : Nat) (to : Nat → Bool) (al nl ml : Nat) (tl vl gl : Nat → Int) (hp : al + nl ≤ ml ∧ nl ≤ 1000000 ∧ ao + no ≤ mo ∧ no ≤ 1000000) : ∀ k i : Nat, i + k = no → (∀ j, j < i → S.opP lp (fun j => to (j + ao)) nl (fun j => tl (j + al)) (fun j => vl (j + al)) (fun j => gl (j + al)) j = false) → Comes (q54 lp ao no mo to al nl ml tl vl gl) (.h0 (i : Int)) (S.any (S.opP lp (fun j => to (j + ao)) nl (fun j => tl (j + al)) (fun j => vl (j + al)) (fun j => gl (j + al))) no) := by
  obtain ⟨hp1, hp2, hp3, hp4⟩ := hp
  intro k
  induction k with
  | zero =>
    intro i hi hj
    obtain rfl : no = i := by omega
    rw [any_no.mpr hj]
    apply Comes.of
    show Goes _ _ _
    (first | rw [q54] | unfold q54)
    repeat' first
      | with_reducible refine goes_if (fun h => ?_) (fun h => ?_) <;> (try simp only [SH] at h)
      | exact goes_none.mpr (by omega)
    all_goals first | (exfalso; omega) | exact goes_inr.mpr rfl
  | succ k ih =>
    intro i hi hj
    have ih : S.opP lp (fun j => to (j + ao)) nl (fun j => tl (j + al)) (fun j => vl (j + al)) (fun j => gl (j + al)) i = false → _ := fun hc => ih (i + 1) (by omega) (fun j hlt => by
        rcases Nat.lt_or_eq_of_le (Nat.le_of_lt_succ hlt) with h2 | h2
        · exact hj j h2
        · subst h2; exact hc)
    have ht : S.opP lp (fun j => to (j + ao)) nl (fun j => tl (j + al)) (fun j => vl (j + al)) (fun j => gl (j + al)) i = true → S.any (S.opP lp (fun j => to (j + ao)) nl (fun j => tl (j + al)) (fun j => vl (j + al)) (fun j => gl (j + al))) no = true := fun h => any_iff.mpr ⟨i, by omega, h⟩
    have hP : S.opP lp (fun j => to (j + ao)) nl (fun j => tl (j + al)) (fun j => vl (j + al)) (fun j => gl (j + al)) i = (S.any (fun j => decide (tl (j + al) = 2) && decide (vl (j + al) = lp) && decide (gl (j + al) = (i : Int))) nl || S.any (fun j => decide (tl (j + al) = 3) && decide (vl (j + al) = 0) && decide (gl (j + al) = (i : Int))) nl || (!to (i + ao) && !S.any (fun j => decide (tl (j + al) = 1) && decide (vl (j + al) = lp) && decide (gl (j + al) = (i : Int))) nl)) := rfl
    apply Comes.of
    show Goes _ _ _
    rw [q54]
    simp only [Int.toNat_natCast]
    generalize S.any (fun j => decide (tl (j + al) = 2) && decide (vl (j + al) = lp) && decide (gl (j + al) = (i : Int))) nl = A at *
    generalize S.any (fun j => decide (tl (j + al) = 3) && decide (vl (j + al) = 0) && decide (gl (j + al) = (i : Int))) nl = B at *
    generalize S.any (fun j => decide (tl (j + al) = 1) && decide (vl (j + al) = lp) && decide (gl (j + al) = (i : Int))) nl = C at *
    generalize to (i + ao) = o at *
    show Goes _ _ _
    cases A <;> cases B <;> cases C <;> cases o
    all_goals
     repeat' first
      | with_reducible refine goes_if (fun h => ?_) (fun h => ?_) <;> (try simp only [SH] at h)
      | exact goes_none.mpr (by omega)
     all_goals first | (exfalso; omega) | exact ih hP | exact goes_inr.mpr (ht hP).symm
theorem s54 (lp : Int) (ao no mo : Nat) (to : Nat → Bool) (al nl ml : Nat) (tl vl gl : Nat → Int) (hp : al + nl ≤ ml ∧ nl ≤ 1000000 ∧ ao + no ≤ mo ∧ no ≤ 1000000) : Goes ((q54 lp ao no mo to al nl ml tl vl gl)) ((p54 lp ao no mo to al nl ml tl vl gl)) (S.opnB lp no (fun j => to (j + ao)) nl (fun j => tl (j + al)) (fun j => vl (j + al)) (fun j => gl (j + al))) := by
  have hm := s54' lp ao no mo to al nl ml tl vl gl hp no 0 (Nat.zero_add _) (fun j hj => absurd hj (Nat.not_lt_zero j))
  have e : S.opnB lp no (fun j => to (j + ao)) nl (fun j => tl (j + al)) (fun j => vl (j + al)) (fun j => gl (j + al)) = (!S.any (fun j => decide (tl (j + al) = 4) && decide (vl (j + al) = lp) && decide (gl (j + al) = (0 : Int))) nl && S.any (S.opP lp (fun j => to (j + ao)) nl (fun j => tl (j + al)) (fun j => vl (j + al)) (fun j => gl (j + al))) no) := rfl
  rw [e]
  obtain ⟨hp1, hp2, hp3, hp4⟩ := hp
  unfold p54
  generalize S.any (fun j => decide (tl (j + al) = 4) && decide (vl (j + al) = lp) && decide (gl (j + al) = (0 : Int))) nl = A at *
  show Goes _ _ _
  cases A
  all_goals
   repeat' first
    | with_reducible refine goes_if (fun h => ?_) (fun h => ?_) <;> (try simp only [SH] at h)
    | exact goes_none.mpr (by omega)
   all_goals first | (exfalso; omega) | exact hm | exact goes_inr.mpr rfl
theorem k54_ok  : k54.ok Try.prog := by
  intro x hx
  obtain ⟨lp, ⟨ao, no, mo, to, _⟩, ⟨al, nl, ml, tl, vl, gl, _⟩, _⟩ := x
  obtain ⟨h1, h2⟩ := a54 lp ao no mo to al nl ml tl vl gl (s54 lp ao no mo to al nl ml tl vl gl (of_dec hx rfl))
  exact ⟨⟨400, (by decide : 2 + 1 + 0 ≤ 400), h1⟩, h2⟩
inductive St56 where
  | h0 (x0 : Int)
abbrev Rt56  := Bool
noncomputable def V56 (aq nq mq : Nat) (tq : Nat → ByteArray) (vq gq : Nat → Int) (de : Int) (ao no mo : Nat) (to : Nat → Bool) (al nl ml : Nat) (tl vl gl : Nat → Int) (lp : Int) (r : Rt56) : PV := PV.bool r
noncomputable def N56 (aq nq mq : Nat) (tq : Nat → ByteArray) (vq gq : Nat → Int) (de : Int) (ao no mo : Nat) (to : Nat → Bool) (al nl ml : Nat) (tl vl gl : Nat → Int) (lp : Int) (r : Rt56) : List Blk := []
noncomputable def I56 (aq nq mq : Nat) (tq : Nat → ByteArray) (vq gq : Nat → Int) (de : Int) (ao no mo : Nat) (to : Nat → Bool) (al nl ml : Nat) (tl vl gl : Nat → Int) (lp : Int) : St56 → Hd
  | .h0 x0 => ⟨hd Try.f56 0, [PV.loose (PA.mk (1) (1) ao (0)) no,
 PV.loose (PA.mk (2) (3) al (0)) nl, PV.int IntKind.i64 lp,
 PV.ptr (PA.mk (3) (0) (0) (0)), PV.int IntKind.i64 x0], [[(3, (true, Blk.cells [PV.loose (PA.mk (0) (3) aq (0)) nq, PV.int IntKind.i64 de]))], [(0, (false, .cols mq [.str tq, .int .i64 vq, .int .i64 gq])), (1, (false, .cols mo [.bool to])), (2, (false, .cols ml [.int .i64 tl, .int .i64 vl, .int .i64 gl]))]], 4⟩
noncomputable def q56 (aq nq mq : Nat) (tq : Nat → ByteArray) (vq gq : Nat → Int) (de : Int) (ao no mo : Nat) (to : Nat → Bool) (al nl ml : Nat) (tl vl gl : Nat → Int) (lp : Int) : St56 → Option (St56 ⊕ Rt56)
  | .h0 x0 => bif (decide (x0 < (↑nq : Int)))
 then (bif (decide (al + nl ≤ ml ∧ nl ≤ 1000000))
 then (bif (S.any
 (fun j =>
 decide (tl (j + al) = (2 : Int)) && decide (vl (j + al) = lp) &&
 decide (gl (j + al) = x0))
 nl)
 then (some (.inr (true)))
 else (bif (S.any
 (fun j =>
 decide (tl (j + al) = (3 : Int)) && decide (vl (j + al) = (0 : Int)) &&
 decide (gl (j + al) = x0))
 nl)
 then (some (.inr (true)))
 else (bif (decide ((0 : Int) ≤ x0 ∧ x0 < (↑no : Int)))
 then (bif (decide (Int.toNat x0 + ao < mo))
 then (bif (to (Int.toNat x0 + ao))
 then (bif (lim IntKind.i64 (x0 + (1 : Int)))
 then (some (.inl (.h0 (x0 + (1 : Int)))))
 else (none))
 else (bif (S.any
 (fun j =>
 decide (tl (j + al) = (1 : Int)) && decide (vl (j + al) = lp) &&
 decide (gl (j + al) = x0))
 nl)
 then (bif (lim IntKind.i64 (x0 + (1 : Int)))
 then (some (.inl (.h0 (x0 + (1 : Int)))))
 else (none))
 else (some (.inr (true)))))
 else (none))
 else (none))))
 else (none))
 else (some (.inr (false)))
noncomputable def p56 (aq nq mq : Nat) (tq : Nat → ByteArray) (vq gq : Nat → Int) (de : Int) (ao no mo : Nat) (to : Nat → Bool) (al nl ml : Nat) (tl vl gl : Nat → Int) (lp : Int) : Option (St56 ⊕ Rt56) := bif (decide (al + nl ≤ ml ∧ nl ≤ 1000000))
 then (bif (S.any
 (fun j =>
 decide (tl (j + al) = (4 : Int)) && decide (vl (j + al) = lp) &&
 decide (gl (j + al) = (0 : Int)))
 nl)
 then (some (.inr (false)))
 else (some (.inl (.h0 ((0 : Int))))))
 else (none)
noncomputable def Te56 (test : Bool → Prop → Prop → Prop) (Kst : KS) (Kret : KR) (aq nq mq : Nat) (tq : Nat → ByteArray) (vq gq : Nat → Int) (de : Int) (ao no mo : Nat) (to : Nat → Bool) (al nl ml : Nat) (tl vl gl : Nat → Int) (lp : Int) : Prop :=
  test (decide (al + nl ≤ ml ∧ nl ≤ 1000000))
 (test (S.any
 (fun j =>
 decide (tl (j + al) = (4 : Int)) && decide (vl (j + al) = lp) &&
 decide (gl (j + al) = (0 : Int)))
 nl)
 (Kret (PV.tf false) ([[(2, false,
 Blk.cols ml
 [Col.int IntKind.i64 tl, Col.int IntKind.i64 vl, Col.int IntKind.i64 gl]),
 (1, false, Blk.cols mo [Col.bool to]),
 (0, false,
 Blk.cols mq [Col.str tq, Col.int IntKind.i64 vq, Col.int IntKind.i64 gq])]]) (5))
 (Kst (hd Try.f56 0) ([PV.loose (PA.mk (1) (1) ao (0)) no,
 PV.loose (PA.mk (2) (3) al (0)) nl, PV.int IntKind.i64 lp,
 PV.ptr (PA.mk (3) (0) (0) (0)), PV.int IntKind.i64 (0 : Int)]) ([[(2, false,
 Blk.cols ml
 [Col.int IntKind.i64 tl, Col.int IntKind.i64 vl, Col.int IntKind.i64 gl]),
 (1, false, Blk.cols mo [Col.bool to]),
 (0, false,
 Blk.cols mq [Col.str tq, Col.int IntKind.i64 vq, Col.int IntKind.i64 gq]),
 (3, true,
 Blk.cells
 [PV.loose (PA.mk (0) (3) aq (0)) nq, PV.int IntKind.i64 de])]]) (5)))
 (False)
theorem te56 (test : Bool → Prop → Prop → Prop) (Kst : KS) (Kret : KR) (aq nq mq : Nat) (tq : Nat → ByteArray) (vq gq : Nat → Int) (de : Int) (ao no mo : Nat) (to : Nat → Bool) (al nl ml : Nat) (tl vl gl : Nat → Int) (lp : Int) : run test Try.env true (xU test) true 400 ⟨56, [.cd (mkFn Try.f56).body], argT 0 [.agg [.loose ⟨0, 3, aq, 0⟩ nq, .int .i64 de], .loose ⟨1, 1, ao, 0⟩ no, .loose ⟨2, 3, al, 0⟩ nl, .int .i64 lp], [[], [(0, (false, .cols mq [.str tq, .int .i64 vq, .int .i64 gq])), (1, (false, .cols mo [.bool to])), (2, (false, .cols ml [.int .i64 tl, .int .i64 vl, .int .i64 gl]))]], 3⟩ (proj 3 [1, 2, 3, 4, 9] Kst Kret) =
  Te56 test Kst Kret aq nq mq tq vq gq de ao no mo to al nl ml tl vl gl lp := by kernel_rfl
noncomputable def T56_0 (test : Bool → Prop → Prop → Prop) (Kst : KS) (Kret : KR) (aq nq mq : Nat) (tq : Nat → ByteArray) (vq gq : Nat → Int) (de : Int) (ao no mo : Nat) (to : Nat → Bool) (al nl ml : Nat) (tl vl gl : Nat → Int) (lp x0 : Int) : Prop :=
  test (decide (x0 < (↑nq : Int)))
 (test (decide (al + nl ≤ ml ∧ nl ≤ 1000000))
 (test (S.any
 (fun j =>
 decide (tl (j + al) = (2 : Int)) && decide (vl (j + al) = lp) &&
 decide (gl (j + al) = x0))
 nl)
 (Kret (PV.tf true) ([[(2, false,
 Blk.cols ml
 [Col.int IntKind.i64 tl, Col.int IntKind.i64 vl, Col.int IntKind.i64 gl]),
 (1, false, Blk.cols mo [Col.bool to]),
 (0, false,
 Blk.cols mq [Col.str tq, Col.int IntKind.i64 vq, Col.int IntKind.i64 gq])]]) (5))
 (test (decide (al + nl ≤ ml ∧ nl ≤ 1000000))
 (test (S.any
 (fun j =>
 decide (tl (j + al) = (3 : Int)) && decide (vl (j + al) = (0 : Int)) &&
 decide (gl (j + al) = x0))
 nl)
 (Kret (PV.tf true) ([[(2, false,
 Blk.cols ml
 [Col.int IntKind.i64 tl, Col.int IntKind.i64 vl, Col.int IntKind.i64 gl]),
 (1, false, Blk.cols mo [Col.bool to]),
 (0, false,
 Blk.cols mq [Col.str tq, Col.int IntKind.i64 vq, Col.int IntKind.i64 gq])]]) (6))
 (test (decide ((0 : Int) ≤ x0 ∧ x0 < (↑no : Int)))
 (test (decide (Int.toNat x0 + ao < mo))
 (test (to (Int.toNat x0 + ao))
 (test (lim IntKind.i64 (x0 + (1 : Int)))
 (Kst (hd Try.f56 0) ([PV.loose (PA.mk (1) (1) ao (0)) no,
 PV.loose (PA.mk (2) (3) al (0)) nl, PV.int IntKind.i64 lp,
 PV.ptr (PA.mk (3) (0) (0) (0)),
 PV.int IntKind.i64 (x0 + (1 : Int))]) ([[(2, false,
 Blk.cols ml
 [Col.int IntKind.i64 tl, Col.int IntKind.i64 vl, Col.int IntKind.i64 gl]),
 (1, false, Blk.cols mo [Col.bool to]),
 (0, false,
 Blk.cols mq [Col.str tq, Col.int IntKind.i64 vq, Col.int IntKind.i64 gq]),
 (3, true,
 Blk.cells
 [PV.loose (PA.mk (0) (3) aq (0)) nq, PV.int IntKind.i64 de])]]) (6))
 (False))
 (test (decide (al + nl ≤ ml ∧ nl ≤ 1000000))
 (test (S.any
 (fun j =>
 decide (tl (j + al) = (1 : Int)) && decide (vl (j + al) = lp) &&
 decide (gl (j + al) = x0))
 nl)
 (test (lim IntKind.i64 (x0 + (1 : Int)))
 (Kst (hd Try.f56 0) ([PV.loose (PA.mk (1) (1) ao (0)) no,
 PV.loose (PA.mk (2) (3) al (0)) nl, PV.int IntKind.i64 lp,
 PV.ptr (PA.mk (3) (0) (0) (0)),
 PV.int IntKind.i64 (x0 + (1 : Int))]) ([[(2, false,
 Blk.cols ml
 [Col.int IntKind.i64 tl, Col.int IntKind.i64 vl, Col.int IntKind.i64 gl]),
 (1, false, Blk.cols mo [Col.bool to]),
 (0, false,
 Blk.cols mq [Col.str tq, Col.int IntKind.i64 vq, Col.int IntKind.i64 gq]),
 (3, true,
 Blk.cells
 [PV.loose (PA.mk (0) (3) aq (0)) nq, PV.int IntKind.i64 de])]]) (7))
 (False))
 (Kret (PV.tf true) ([[(2, false,
 Blk.cols ml
 [Col.int IntKind.i64 tl, Col.int IntKind.i64 vl, Col.int IntKind.i64 gl]),
 (1, false, Blk.cols mo [Col.bool to]),
 (0, false,
 Blk.cols mq [Col.str tq, Col.int IntKind.i64 vq, Col.int IntKind.i64 gq])]]) (7)))
 (False)))
 (False))
 (False)))
 (False)))
 (False))
 (Kret (PV.tf false) ([[(2, false,
 Blk.cols ml
 [Col.int IntKind.i64 tl, Col.int IntKind.i64 vl, Col.int IntKind.i64 gl]),
 (1, false, Blk.cols mo [Col.bool to]),
 (0, false,
 Blk.cols mq [Col.str tq, Col.int IntKind.i64 vq, Col.int IntKind.i64 gq])]]) (4))
theorem t56_0 (test : Bool → Prop → Prop → Prop) (Kst : KS) (Kret : KR) (aq nq mq : Nat) (tq : Nat → ByteArray) (vq gq : Nat → Int) (de : Int) (ao no mo : Nat) (to : Nat → Bool) (al nl ml : Nat) (tl vl gl : Nat → Int) (lp x0 : Int) : run test Try.env true (xU test) true 400 ⟨56, hd Try.f56 0, zipT [1, 2, 3, 4, 9] [PV.loose (PA.mk (1) (1) ao (0)) no,
 PV.loose (PA.mk (2) (3) al (0)) nl, PV.int IntKind.i64 lp,
 PV.ptr (PA.mk (3) (0) (0) (0)), PV.int IntKind.i64 x0], [[(3, (true, Blk.cells [PV.loose (PA.mk (0) (3) aq (0)) nq, PV.int IntKind.i64 de]))], [(0, (false, .cols mq [.str tq, .int .i64 vq, .int .i64 gq])), (1, (false, .cols mo [.bool to])), (2, (false, .cols ml [.int .i64 tl, .int .i64 vl, .int .i64 gl]))]], 4⟩ (proj 3 [1, 2, 3, 4, 9] Kst Kret) =
  T56_0 test Kst Kret aq nq mq tq vq gq de ao no mo to al nl ml tl vl gl lp x0 := by kernel_rfl
theorem be56 (aq nq mq : Nat) (tq : Nat → ByteArray) (vq gq : Nat → Int) (de : Int) (ao no mo : Nat) (to : Nat → Bool) (al nl ml : Nat) (tl vl gl : Nat → Int) (lp : Int) (Kst : KS) (Kret : KR) (x : St56 ⊕ Rt56) (hS : HS 3 400 ((I56 aq nq mq tq vq gq de ao no mo to al nl ml tl vl gl lp)) Kst x) (hR : HR 3 400 ((V56 aq nq mq tq vq gq de ao no mo to al nl ml tl vl gl lp)) (fun r => [newL (3 + 1) ((N56 aq nq mq tq vq gq de ao no mo to al nl ml tl vl gl lp) r) ++ [(0, (false, .cols mq [.str tq, .int .i64 vq, .int .i64 gq])), (1, (false, .cols mo [.bool to])), (2, (false, .cols ml [.int .i64 tl, .int .i64 vl, .int .i64 gl]))]]) Kret x) (h : p56 aq nq mq tq vq gq de ao no mo to al nl ml tl vl gl lp = some x) : Te56 cond Kst Kret aq nq mq tq vq gq de ao no mo to al nl ml tl vl gl lp := by
  unfold Te56
  unfold p56 at h
  refine bif_split h
   (fun c0 h => bif_split h
   (fun c1 h => ret_at hR _ h (fun n => n) rfl rfl rfl (rn_bool_tf rfl) rfl (entl_bor (use_lo rfl) rfl rfl (entl_bor (use_lo rfl) rfl rfl (entl_bor (use_lo rfl) rfl rfl entl_nil))))
   (fun c1 h => stop_at hS _ h (fun n => bif Nat.beq n 3 then 3 else n) rfl rfl rfl ⟨(rn_loose (use_lo rfl) rfl rfl rfl), ⟨(rn_loose (use_lo rfl) rfl rfl rfl), ⟨(rn_int rfl), ⟨(rn_ptr (use_own rfl) rfl rfl), ⟨(rn_int rfl), trivial⟩⟩⟩⟩⟩ rfl (entl_b (use_own rfl) rfl (by simp) (rb_cells ⟨(rn_loose (use_lo rfl) rfl rfl rfl), (rn_int rfl), trivial⟩) (entl_bor (use_lo rfl) rfl rfl (entl_bor (use_lo rfl) rfl rfl (entl_bor (use_lo rfl) rfl rfl entl_nil))))))
   (fun c0 h => no_some h)
theorem b56_0 (aq nq mq : Nat) (tq : Nat → ByteArray) (vq gq : Nat → Int) (de : Int) (ao no mo : Nat) (to : Nat → Bool) (al nl ml : Nat) (tl vl gl : Nat → Int) (lp : Int) (Kst : KS) (Kret : KR) (x : St56 ⊕ Rt56) (hS : HS 3 400 ((I56 aq nq mq tq vq gq de ao no mo to al nl ml tl vl gl lp)) Kst x) (hR : HR 3 400 ((V56 aq nq mq tq vq gq de ao no mo to al nl ml tl vl gl lp)) (fun r => [newL (3 + 1) ((N56 aq nq mq tq vq gq de ao no mo to al nl ml tl vl gl lp) r) ++ [(0, (false, .cols mq [.str tq, .int .i64 vq, .int .i64 gq])), (1, (false, .cols mo [.bool to])), (2, (false, .cols ml [.int .i64 tl, .int .i64 vl, .int .i64 gl]))]]) Kret x) (x0 : Int) (h : (bif (decide (x0 < (↑nq : Int)))
 then (bif (decide (al + nl ≤ ml ∧ nl ≤ 1000000))
 then (bif (S.any
 (fun j =>
 decide (tl (j + al) = (2 : Int)) && decide (vl (j + al) = lp) &&
 decide (gl (j + al) = x0))
 nl)
 then (some (.inr (true)))
 else (bif (S.any
 (fun j =>
 decide (tl (j + al) = (3 : Int)) && decide (vl (j + al) = (0 : Int)) &&
 decide (gl (j + al) = x0))
 nl)
 then (some (.inr (true)))
 else (bif (decide ((0 : Int) ≤ x0 ∧ x0 < (↑no : Int)))
 then (bif (decide (Int.toNat x0 + ao < mo))
 then (bif (to (Int.toNat x0 + ao))
 then (bif (lim IntKind.i64 (x0 + (1 : Int)))
 then (some (.inl (.h0 (x0 + (1 : Int)))))
 else (none))
 else (bif (S.any
 (fun j =>
 decide (tl (j + al) = (1 : Int)) && decide (vl (j + al) = lp) &&
 decide (gl (j + al) = x0))
 nl)
 then (bif (lim IntKind.i64 (x0 + (1 : Int)))
 then (some (.inl (.h0 (x0 + (1 : Int)))))
 else (none))
 else (some (.inr (true)))))
 else (none))
 else (none))))
 else (none))
 else (some (.inr (false))) : Option (St56 ⊕ Rt56)) = some x) : T56_0 cond Kst Kret aq nq mq tq vq gq de ao no mo to al nl ml tl vl gl lp x0 := by
  unfold T56_0
  refine bif_split h
   (fun c0 h => bif_split h
   (fun c1 h => bif_split h
   (fun c2 h => ?_)
   (fun c2 h => cond_yes c1 (bif_split h
   (fun c3 h => ?_)
   (fun c3 h => bif_split h
   (fun c4 h => bif_split h
   (fun c5 h => bif_split h
   (fun c6 h => bif_split h
   (fun c7 h => ?_)
   (fun c7 h => ?_))
   (fun c6 h => cond_yes c1 (bif_split h
   (fun c7 h => bif_split h
   (fun c8 h => ?_)
   (fun c8 h => ?_))
   (fun c7 h => ?_))))
   (fun c5 h => ?_))
   (fun c4 h => ?_)))))
   (fun c1 h => ?_))
   (fun c0 h => ?_)
  all_goals first
    | exact no_some h
    | exact ret_at hR _ h (fun n => n) rfl rfl rfl (rn_bool_tf rfl) rfl (entl_bor (use_lo rfl) rfl rfl (entl_bor (use_lo rfl) rfl rfl (entl_bor (use_lo rfl) rfl rfl entl_nil)))
    | exact stop_at hS _ h (fun n => bif Nat.beq n 3 then 3 else n) rfl rfl rfl ⟨(rn_loose (use_lo rfl) rfl rfl rfl), ⟨(rn_loose (use_lo rfl) rfl rfl rfl), ⟨(rn_int rfl), ⟨(rn_ptr (use_own rfl) rfl rfl), ⟨(rn_int rfl), trivial⟩⟩⟩⟩⟩ rfl (entl_b (use_own rfl) rfl (by simp) (rb_cells ⟨(rn_loose (use_lo rfl) rfl rfl rfl), (rn_int rfl), trivial⟩) (entl_bor (use_lo rfl) rfl rfl (entl_bor (use_lo rfl) rfl rfl (entl_bor (use_lo rfl) rfl rfl entl_nil))))
theorem a56 (aq nq mq : Nat) (tq : Nat → ByteArray) (vq gq : Nat → Int) (de : Int) (ao no mo : Nat) (to : Nat → Bool) (al nl ml : Nat) (tl vl gl : Nat → Int) (lp : Int) {r : Rt56} (h : Goes ((q56 aq nq mq tq vq gq de ao no mo to al nl ml tl vl gl lp)) ((p56 aq nq mq tq vq gq de ao no mo to al nl ml tl vl gl lp)) r) : CallR Try.prog 56 [.agg [.loose ⟨0, 3, aq, 0⟩ nq, .int .i64 de], .loose ⟨1, 1, ao, 0⟩ no, .loose ⟨2, 3, al, 0⟩ nl, .int .i64 lp] [[(0, (false, .cols mq [.str tq, .int .i64 vq, .int .i64 gq])), (1, (false, .cols mo [.bool to])), (2, (false, .cols ml [.int .i64 tl, .int .i64 vl, .int .i64 gl]))]] 3 ((V56 aq nq mq tq vq gq de ao no mo to al nl ml tl vl gl lp) r) ((fun r => [newL (3 + 1) ((N56 aq nq mq tq vq gq de ao no mo to al nl ml tl vl gl lp) r) ++ [(0, (false, .cols mq [.str tq, .int .i64 vq, .int .i64 gq])), (1, (false, .cols mo [.bool to])), (2, (false, .cols ml [.int .i64 tl, .int .i64 vl, .int .i64 gl]))]]) r) 400 ∧ ∃ F, Try.prog.funcs[56]? = some F ∧ F.body.isSome = true ∧ (F.name == "runtime.NumGoroutine") = false := by
  refine dec_calls (f := 56) (lo := 3) (hi := 400) (H := [[(0, (false, .cols mq [.str tq, .int .i64 vq, .int .i64 gq])), (1, (false, .cols mo [.bool to])), (2, (false, .cols ml [.int .i64 tl, .int .i64 vl, .int .i64 gl]))]]) (args := [.agg [.loose ⟨0, 3, aq, 0⟩ nq, .int .i64 de], .loose ⟨1, 1, ao, 0⟩ no, .loose ⟨2, 3, al, 0⟩ nl, .int .i64 lp]) Try.envOk Try.mixed xU_ok ((I56 aq nq mq tq vq gq de ao no mo to al nl ml tl vl gl lp)) ((V56 aq nq mq tq vq gq de ao no mo to al nl ml tl vl gl lp)) (fun r => [newL (3 + 1) ((N56 aq nq mq tq vq gq de ao no mo to al nl ml tl vl gl lp) r) ++ [(0, (false, .cols mq [.str tq, .int .i64 vq, .int .i64 gq])), (1, (false, .cols mo [.bool to])), (2, (false, .cols ml [.int .i64 tl, .int .i64 vl, .int .i64 gl]))]]) (fn := mkFn Try.f56) (ts := [1, 2, 3, 4, 9]) (n := 400) rfl (by decide) (by simp) (names_of rfl) ?_ ?_ ?_ h
  · intro s; cases s <;> exact ⟨hd_ok _ _, by simp [I56], names_of rfl, Nat.le_of_ble_eq_true rfl⟩
  · intro Kst Kret x hS hR h
    exact Holds.eq (te56 cond Kst Kret aq nq mq tq vq gq de ao no mo to al nl ml tl vl gl lp) (be56 aq nq mq tq vq gq de ao no mo to al nl ml tl vl gl lp Kst Kret x hS hR h)
  · intro Kst Kret x hS hR s h
    cases s with
    | h0 x0 => exact Holds.eq (t56_0 cond Kst Kret aq nq mq tq vq gq de ao no mo to al nl ml tl vl gl lp x0) (b56_0 aq nq mq tq vq gq de ao no mo to al nl ml tl vl gl lp Kst Kret x hS hR x0 h)
noncomputable def k56  : Con := ⟨56, [.agg [.list [.str, .int .i64, .int .i64], .plain (.int .i64)], .one (.list [.bool]), .one (.list [.int .i64, .int .i64, .int .i64]), .one (.plain (.int .i64))], fun (x : ((Nat × Nat × Nat × (Nat → ByteArray) × (Nat → Int) × (Nat → Int) × Unit) × Int × Unit) × (Nat × Nat × Nat × (Nat → Bool) × Unit) × (Nat × Nat × Nat × (Nat → Int) × (Nat → Int) × (Nat → Int) × Unit) × Int × Unit) => (fun (aq nq mq : Nat) (tq : Nat → ByteArray) (vq : Nat → Int) (gq : Nat → Int) (de : Int) (ao no mo : Nat) (to : Nat → Bool) (al nl ml : Nat) (tl : Nat → Int) (vl : Nat → Int) (gl : Nat → Int) (lp : Int) => decide (al + nl ≤ ml ∧ nl ≤ 1000000 ∧ ao + no ≤ mo ∧ no ≤ 1000000 ∧ nq ≤ no)) x.1.1.1 x.1.1.2.1 x.1.1.2.2.1 x.1.1.2.2.2.1 x.1.1.2.2.2.2.1 x.1.1.2.2.2.2.2.1 x.1.2.1 x.2.1.1 x.2.1.2.1 x.2.1.2.2.1 x.2.1.2.2.2.1 x.2.2.1.1 x.2.2.1.2.1 x.2.2.1.2.2.1 x.2.2.1.2.2.2.1 x.2.2.1.2.2.2.2.1 x.2.2.1.2.2.2.2.2.1 x.2.2.2.1, fun (x : ((Nat × Nat × Nat × (Nat → ByteArray) × (Nat → Int) × (Nat → Int) × Unit) × Int × Unit) × (Nat × Nat × Nat × (Nat → Bool) × Unit) × (Nat × Nat × Nat × (Nat → Int) × (Nat → Int) × (Nat → Int) × Unit) × Int × Unit) => (fun (aq nq mq : Nat) (tq : Nat → ByteArray) (vq : Nat → Int) (gq : Nat → Int) (de : Int) (ao no mo : Nat) (to : Nat → Bool) (al nl ml : Nat) (tl : Nat → Int) (vl : Nat → Int) (gl : Nat → Int) (lp : Int) => (V56 aq nq mq tq vq gq de ao no mo to al nl ml tl vl gl lp) (S.opnB lp nq (fun j => to (j + ao)) nl (fun j => tl (j + al)) (fun j => vl (j + al)) (fun j => gl (j + al)))) x.1.1.1 x.1.1.2.1 x.1.1.2.2.1 x.1.1.2.2.2.1 x.1.1.2.2.2.2.1 x.1.1.2.2.2.2.2.1 x.1.2.1 x.2.1.1 x.2.1.2.1 x.2.1.2.2.1 x.2.1.2.2.2.1 x.2.2.1.1 x.2.2.1.2.1 x.2.2.1.2.2.1 x.2.2.1.2.2.2.1 x.2.2.1.2.2.2.2.1 x.2.2.1.2.2.2.2.2.1 x.2.2.2.1, fun (x : ((Nat × Nat × Nat × (Nat → ByteArray) × (Nat → Int) × (Nat → Int) × Unit) × Int × Unit) × (Nat × Nat × Nat × (Nat → Bool) × Unit) × (Nat × Nat × Nat × (Nat → Int) × (Nat → Int) × (Nat → Int) × Unit) × Int × Unit) => (fun (aq nq mq : Nat) (tq : Nat → ByteArray) (vq : Nat → Int) (gq : Nat → Int) (de : Int) (ao no mo : Nat) (to : Nat → Bool) (al nl ml : Nat) (tl : Nat → Int) (vl : Nat → Int) (gl : Nat → Int) (lp : Int) => (N56 aq nq mq tq vq gq de ao no mo to al nl ml tl vl gl lp) (S.opnB lp nq (fun j => to (j + ao)) nl (fun j => tl (j + al)) (fun j => vl (j + al)) (fun j => gl (j + al)))) x.1.1.1 x.1.1.2.1 x.1.1.2.2.1 x.1.1.2.2.2.1 x.1.1.2.2.2.2.1 x.1.1.2.2.2.2.2.1 x.1.2.1 x.2.1.1 x.2.1.2.1 x.2.1.2.2.1 x.2.1.2.2.2.1 x.2.2.1.1 x.2.2.1.2.1 x.2.2.1.2.2.1 x.2.2.1.2.2.2.1 x.2.2.1.2.2.2.2.1 x.2.2.1.2.2.2.2.2.1 x.2.2.2.1, fun _ _ => .dead⟩
theorem s56' (aq nq mq : Nat) (tq : Nat → ByteArray) (vq gq : Nat → Int) (de : Int) (ao no mo : Nat) (to : Nat → Bool) (al nl ml : Nat) (tl vl gl : Nat → Int) (lp : Int) (hp : al + nl ≤ ml ∧ nl ≤ 1000000 ∧ ao + no ≤ mo ∧ no ≤ 1000000 ∧ nq ≤ no) : ∀ k i : Nat, i + k = nq → (∀ j, j < i → S.opP lp (fun j => to (j + ao)) nl (fun j => tl (j + al)) (fun j => vl (j + al)) (fun j => gl (j + al)) j = false) → Comes (q56 aq nq mq tq vq gq de ao no mo to al nl ml tl vl gl lp) (.h0 (i : Int)) (S.any (S.opP lp (fun j => to (j + ao)) nl (fun j => tl (j + al)) (fun j => vl (j + al)) (fun j => gl (j + al))) nq) := by
  obtain ⟨hp1, hp2, hp3, hp4, hp5⟩ := hp
  intro k
  induction k with
  | zero =>
    intro i hi hj
    obtain rfl : nq = i := by omega
    rw [any_no.mpr hj]
    apply Comes.of
    show Goes _ _ _
    (first | rw [q56] | unfold q56)
    repeat' first
      | with_reducible refine goes_if (fun h => ?_) (fun h => ?_) <;> (try simp only [SH] at h)
      | exact goes_none.mpr (by omega)
    all_goals first | (exfalso; omega) | exact goes_inr.mpr rfl
  | succ k ih =>
    intro i hi hj
    have ih : S.opP lp (fun j => to (j + ao)) nl (fun j => tl (j + al)) (fun j => vl (j + al)) (fun j => gl (j + al)) i = false → _ := fun hc => ih (i + 1) (by omega) (fun j hlt => by
        rcases Nat.lt_or_eq_of_le (Nat.le_of_lt_succ hlt) with h2 | h2
        · exact hj j h2
        · subst h2; exact hc)
    have ht : S.opP lp (fun j => to (j + ao)) nl (fun j => tl (j + al)) (fun j => vl (j + al)) (fun j => gl (j + al)) i = true → S.any (S.opP lp (fun j => to (j + ao)) nl (fun j => tl (j + al)) (fun j => vl (j + al)) (fun j => gl (j + al))) nq = true := fun h => any_iff.mpr ⟨i, by omega, h⟩
    have hP : S.opP lp (fun j => to (j + ao)) nl (fun j => tl (j + al)) (fun j => vl (j + al)) (fun j => gl (j + al)) i = (S.any (fun j => decide (tl (j + al) = 2) && decide (vl (j + al) = lp) && decide (gl (j + al) = (i : Int))) nl || S.any (fun j => decide (tl (j + al) = 3) && decide (vl (j + al) = 0) && decide (gl (j + al) = (i : Int))) nl || (!to (i + ao) && !S.any (fun j => decide (tl (j + al) = 1) && decide (vl (j + al) = lp) && decide (gl (j + al) = (i : Int))) nl)) := rfl
    apply Comes.of
    show Goes _ _ _
    rw [q56]
    simp only [Int.toNat_natCast]
    generalize S.any (fun j => decide (tl (j + al) = 2) && decide (vl (j + al) = lp) && decide (gl (j + al) = (i : Int))) nl = A at *
    generalize S.any (fun j => decide (tl (j + al) = 3) && decide (vl (j + al) = 0) && decide (gl (j + al) = (i : Int))) nl = B at *
    generalize S.any (fun j => decide (tl (j + al) = 1) && decide (vl (j + al) = lp) && decide (gl (j + al) = (i : Int))) nl = C at *
    generalize to (i + ao) = o at *
    show Goes _ _ _
    cases A <;> cases B <;> cases C <;> cases o
    all_goals
     repeat' first
      | with_reducible refine goes_if (fun h => ?_) (fun h => ?_) <;> (try simp only [SH] at h)
      | exact goes_none.mpr (by omega)
     all_goals first | (exfalso; omega) | exact ih hP | exact goes_inr.mpr (ht hP).symm
theorem s56 (aq nq mq : Nat) (tq : Nat → ByteArray) (vq gq : Nat → Int) (de : Int) (ao no mo : Nat) (to : Nat → Bool) (al nl ml : Nat) (tl vl gl : Nat → Int) (lp : Int) (hp : al + nl ≤ ml ∧ nl ≤ 1000000 ∧ ao + no ≤ mo ∧ no ≤ 1000000 ∧ nq ≤ no) : Goes ((q56 aq nq mq tq vq gq de ao no mo to al nl ml tl vl gl lp)) ((p56 aq nq mq tq vq gq de ao no mo to al nl ml tl vl gl lp)) (S.opnB lp nq (fun j => to (j + ao)) nl (fun j => tl (j + al)) (fun j => vl (j + al)) (fun j => gl (j + al))) := by
  have hm := s56' aq nq mq tq vq gq de ao no mo to al nl ml tl vl gl lp hp nq 0 (Nat.zero_add _) (fun j hj => absurd hj (Nat.not_lt_zero j))
  have e : S.opnB lp nq (fun j => to (j + ao)) nl (fun j => tl (j + al)) (fun j => vl (j + al)) (fun j => gl (j + al)) = (!S.any (fun j => decide (tl (j + al) = 4) && decide (vl (j + al) = lp) && decide (gl (j + al) = (0 : Int))) nl && S.any (S.opP lp (fun j => to (j + ao)) nl (fun j => tl (j + al)) (fun j => vl (j + al)) (fun j => gl (j + al))) nq) := rfl
  rw [e]
  obtain ⟨hp1, hp2, hp3, hp4, hp5⟩ := hp
  unfold p56
  generalize S.any (fun j => decide (tl (j + al) = 4) && decide (vl (j + al) = lp) && decide (gl (j + al) = (0 : Int))) nl = A at *
  show Goes _ _ _
  cases A
  all_goals
   repeat' first
    | with_reducible refine goes_if (fun h => ?_) (fun h => ?_) <;> (try simp only [SH] at h)
    | exact goes_none.mpr (by omega)
   all_goals first | (exfalso; omega) | exact hm | exact goes_inr.mpr rfl
theorem k56_ok  : k56.ok Try.prog := by
  intro x hx
  obtain ⟨⟨⟨aq, nq, mq, tq, vq, gq, _⟩, de, _⟩, ⟨ao, no, mo, to, _⟩, ⟨al, nl, ml, tl, vl, gl, _⟩, lp, _⟩ := x
  obtain ⟨h1, h2⟩ := a56 aq nq mq tq vq gq de ao no mo to al nl ml tl vl gl lp (s56 aq nq mq tq vq gq de ao no mo to al nl ml tl vl gl lp (of_dec hx rfl))
  exact ⟨⟨400, (by decide : 3 + 1 + 0 ≤ 400), h1⟩, h2⟩
abbrev St53  := Empty
abbrev Rt53  := Int
noncomputable def V53 (aq nq mq : Nat) (tq : Nat → ByteArray) (vq gq : Nat → Int) (de k1 k2 k3 : Int) (r : Rt53) : PV := PV.int IntKind.i64 r
noncomputable def N53 (aq nq mq : Nat) (tq : Nat → ByteArray) (vq gq : Nat → Int) (de k1 k2 k3 : Int) (r : Rt53) : List Blk := []
noncomputable def I53 (aq nq mq : Nat) (tq : Nat → ByteArray) (vq gq : Nat → Int) (de k1 k2 k3 : Int) : St53 → Hd := fun s => s.elim
noncomputable def q53 (aq nq mq : Nat) (tq : Nat → ByteArray) (vq gq : Nat → Int) (de k1 k2 k3 : Int) : St53 → Option (St53 ⊕ Rt53) := fun s => s.elim
noncomputable def p53 (aq nq mq : Nat) (tq : Nat → ByteArray) (vq gq : Nat → Int) (de k1 k2 k3 : Int) : Option (St53 ⊕ Rt53) := bif (decide (k2 ≥ (1 : Int)))
 then (bif (decide (k2 ≤ (2 : Int)))
 then (bif (k1 == (0 : Int))
 then (bif (k2 == (0 : Int))
 then (bif (k3 == (0 : Int))
 then (some (.inr ((0 : Int))))
 else (some (.inr ((1 : Int)))))
 else (some (.inr ((1 : Int)))))
 else (bif (k1 == (1 : Int))
 then (bif (lim IntKind.i64 ((↑nq : Int) - (1 : Int)))
 then (bif (decide (k3 ≥ (0 : Int)))
 then (bif (decide (k3 ≤ (↑nq : Int) - (1 : Int)))
 then (some (.inr ((0 : Int))))
 else (some (.inr ((1 : Int)))))
 else (some (.inr ((1 : Int)))))
 else (none))
 else (bif (k1 == (2 : Int))
 then (bif (lim IntKind.i64 ((↑nq : Int) - (1 : Int)))
 then (bif (decide (k3 ≥ (0 : Int)))
 then (bif (decide (k3 ≤ (↑nq : Int) - (1 : Int)))
 then (some (.inr ((0 : Int))))
 else (some (.inr ((1 : Int)))))
 else (some (.inr ((1 : Int)))))
 else (none))
 else (bif (k1 == (3 : Int))
 then (bif (k2 == (0 : Int))
 then (bif (lim IntKind.i64 ((↑nq : Int) - (1 : Int)))
 then (bif (decide (k3 ≥ (0 : Int)))
 then (bif (decide (k3 ≤ (↑nq : Int) - (1 : Int)))
 then (some (.inr ((0 : Int))))
 else (some (.inr ((1 : Int)))))
 else (some (.inr ((1 : Int)))))
 else (none))
 else (some (.inr ((1 : Int)))))
 else (bif (k1 == (4 : Int))
 then (bif (k3 == (0 : Int))
 then (some (.inr ((0 : Int))))
 else (some (.inr ((1 : Int)))))
 else (some (.inr ((1 : Int)))))))))
 else (bif (k1 == (0 : Int))
 then (bif (k2 == (0 : Int))
 then (bif (k3 == (0 : Int))
 then (some (.inr ((0 : Int))))
 else (some (.inr ((1 : Int)))))
 else (some (.inr ((1 : Int)))))
 else (bif (k1 == (1 : Int))
 then (some (.inr ((1 : Int))))
 else (bif (k1 == (2 : Int))
 then (some (.inr ((1 : Int))))
 else (bif (k1 == (3 : Int))
 then (bif (k2 == (0 : Int))
 then (bif (lim IntKind.i64 ((↑nq : Int) - (1 : Int)))
 then (bif (decide (k3 ≥ (0 : Int)))
 then (bif (decide (k3 ≤ (↑nq : Int) - (1 : Int)))
 then (some (.inr ((0 : Int))))
 else (some (.inr ((1 : Int)))))
 else (some (.inr ((1 : Int)))))
 else (none))
 else (some (.inr ((1 : Int)))))
 else (bif (k1 == (4 : Int))
 then (some (.inr ((1 : Int))))
 else (some (.inr ((1 : Int))))))))))
 else (bif (k1 == (0 : Int))
 then (bif (k2 == (0 : Int))
 then (bif (k3 == (0 : Int))
 then (some (.inr ((0 : Int))))
 else (some (.inr ((1 : Int)))))
 else (some (.inr ((1 : Int)))))
 else (bif (k1 == (1 : Int))
 then (some (.inr ((1 : Int))))
 else (bif (k1 == (2 : Int))
 then (some (.inr ((1 : Int))))
 else (bif (k1 == (3 : Int))
 then (bif (k2 == (0 : Int))
 then (bif (lim IntKind.i64 ((↑nq : Int) - (1 : Int)))
 then (bif (decide (k3 ≥ (0 : Int)))
 then (bif (decide (k3 ≤ (↑nq : Int) - (1 : Int)))
 then (some (.inr ((0 : Int))))
 else (some (.inr ((1 : Int)))))
 else (some (.inr ((1 : Int)))))
 else (none))
 else (some (.inr ((1 : Int)))))
 else (bif (k1 == (4 : Int))
 then (some (.inr ((1 : Int))))
 else (some (.inr ((1 : Int)))))))))
noncomputable def Te53 (test : Bool → Prop → Prop → Prop) (Kst : KS) (Kret : KR) (aq nq mq : Nat) (tq : Nat → ByteArray) (vq gq : Nat → Int) (de k1 k2 k3 : Int) : Prop :=
  test (decide (k2 ≥ (1 : Int)))
 (test (decide (k2 ≤ (2 : Int)))
 (test (k1 == (0 : Int))
 (test (k2 == (0 : Int))
 (test (k3 == (0 : Int))
 (Kret (PV.int IntKind.i64 (0 : Int)) ([[(0, false,
 Blk.cols mq [Col.str tq, Col.int IntKind.i64 vq, Col.int IntKind.i64 gq])]]) (3))
 (Kret (PV.int IntKind.i64 (1 : Int)) ([[(0, false,
 Blk.cols mq [Col.str tq, Col.int IntKind.i64 vq, Col.int IntKind.i64 gq])]]) (3)))
 (Kret (PV.int IntKind.i64 (1 : Int)) ([[(0, false,
 Blk.cols mq [Col.str tq, Col.int IntKind.i64 vq, Col.int IntKind.i64 gq])]]) (3)))
 (test (k1 == (1 : Int))
 (test (lim IntKind.i64 ((↑nq : Int) - (1 : Int)))
 (test (decide (k3 ≥ (0 : Int)))
 (test (decide (k3 ≤ (↑nq : Int) - (1 : Int)))
 (Kret (PV.int IntKind.i64 (0 : Int)) ([[(0, false,
 Blk.cols mq [Col.str tq, Col.int IntKind.i64 vq, Col.int IntKind.i64 gq])]]) (4))
 (Kret (PV.int IntKind.i64 (1 : Int)) ([[(0, false,
 Blk.cols mq [Col.str tq, Col.int IntKind.i64 vq, Col.int IntKind.i64 gq])]]) (4)))
 (Kret (PV.int IntKind.i64 (1 : Int)) ([[(0, false,
 Blk.cols mq [Col.str tq, Col.int IntKind.i64 vq, Col.int IntKind.i64 gq])]]) (4)))
 (False))
 (test (k1 == (2 : Int))
 (test (lim IntKind.i64 ((↑nq : Int) - (1 : Int)))
 (test (decide (k3 ≥ (0 : Int)))
 (test (decide (k3 ≤ (↑nq : Int) - (1 : Int)))
 (Kret (PV.int IntKind.i64 (0 : Int)) ([[(0, false,
 Blk.cols mq [Col.str tq, Col.int IntKind.i64 vq, Col.int IntKind.i64 gq])]]) (4))
 (Kret (PV.int IntKind.i64 (1 : Int)) ([[(0, false,
 Blk.cols mq [Col.str tq, Col.int IntKind.i64 vq, Col.int IntKind.i64 gq])]]) (4)))
 (Kret (PV.int IntKind.i64 (1 : Int)) ([[(0, false,
 Blk.cols mq [Col.str tq, Col.int IntKind.i64 vq, Col.int IntKind.i64 gq])]]) (4)))
 (False))
 (test (k1 == (3 : Int))
 (test (k2 == (0 : Int))
 (test (lim IntKind.i64 ((↑nq : Int) - (1 : Int)))
 (test (decide (k3 ≥ (0 : Int)))
 (test (decide (k3 ≤ (↑nq : Int) - (1 : Int)))
 (Kret (PV.int IntKind.i64 (0 : Int)) ([[(0, false,
 Blk.cols mq [Col.str tq, Col.int IntKind.i64 vq, Col.int IntKind.i64 gq])]]) (4))
 (Kret (PV.int IntKind.i64 (1 : Int)) ([[(0, false,
 Blk.cols mq [Col.str tq, Col.int IntKind.i64 vq, Col.int IntKind.i64 gq])]]) (4)))
 (Kret (PV.int IntKind.i64 (1 : Int)) ([[(0, false,
 Blk.cols mq [Col.str tq, Col.int IntKind.i64 vq, Col.int IntKind.i64 gq])]]) (4)))
 (False))
 (Kret (PV.int IntKind.i64 (1 : Int)) ([[(0, false,
 Blk.cols mq [Col.str tq, Col.int IntKind.i64 vq, Col.int IntKind.i64 gq])]]) (3)))
 (test (k1 == (4 : Int))
 (test (k3 == (0 : Int))
 (Kret (PV.int IntKind.i64 (0 : Int)) ([[(0, false,
 Blk.cols mq [Col.str tq, Col.int IntKind.i64 vq, Col.int IntKind.i64 gq])]]) (3))
 (Kret (PV.int IntKind.i64 (1 : Int)) ([[(0, false,
 Blk.cols mq [Col.str tq, Col.int IntKind.i64 vq, Col.int IntKind.i64 gq])]]) (3)))
 (Kret (PV.int IntKind.i64 (1 : Int)) ([[(0, false,
 Blk.cols mq [Col.str tq, Col.int IntKind.i64 vq, Col.int IntKind.i64 gq])]]) (3)))))))
 (test (k1 == (0 : Int))
 (test (k2 == (0 : Int))
 (test (k3 == (0 : Int))
 (Kret (PV.int IntKind.i64 (0 : Int)) ([[(0, false,
 Blk.cols mq [Col.str tq, Col.int IntKind.i64 vq, Col.int IntKind.i64 gq])]]) (3))
 (Kret (PV.int IntKind.i64 (1 : Int)) ([[(0, false,
 Blk.cols mq [Col.str tq, Col.int IntKind.i64 vq, Col.int IntKind.i64 gq])]]) (3)))
 (Kret (PV.int IntKind.i64 (1 : Int)) ([[(0, false,
 Blk.cols mq [Col.str tq, Col.int IntKind.i64 vq, Col.int IntKind.i64 gq])]]) (3)))
 (test (k1 == (1 : Int))
 (Kret (PV.int IntKind.i64 (1 : Int)) ([[(0, false,
 Blk.cols mq [Col.str tq, Col.int IntKind.i64 vq, Col.int IntKind.i64 gq])]]) (3))
 (test (k1 == (2 : Int))
 (Kret (PV.int IntKind.i64 (1 : Int)) ([[(0, false,
 Blk.cols mq [Col.str tq, Col.int IntKind.i64 vq, Col.int IntKind.i64 gq])]]) (3))
 (test (k1 == (3 : Int))
 (test (k2 == (0 : Int))
 (test (lim IntKind.i64 ((↑nq : Int) - (1 : Int)))
 (test (decide (k3 ≥ (0 : Int)))
 (test (decide (k3 ≤ (↑nq : Int) - (1 : Int)))
 (Kret (PV.int IntKind.i64 (0 : Int)) ([[(0, false,
 Blk.cols mq [Col.str tq, Col.int IntKind.i64 vq, Col.int IntKind.i64 gq])]]) (4))
 (Kret (PV.int IntKind.i64 (1 : Int)) ([[(0, false,
 Blk.cols mq [Col.str tq, Col.int IntKind.i64 vq, Col.int IntKind.i64 gq])]]) (4)))
 (Kret (PV.int IntKind.i64 (1 : Int)) ([[(0, false,
 Blk.cols mq [Col.str tq, Col.int IntKind.i64 vq, Col.int IntKind.i64 gq])]]) (4)))
 (False))
 (Kret (PV.int IntKind.i64 (1 : Int)) ([[(0, false,
 Blk.cols mq [Col.str tq, Col.int IntKind.i64 vq, Col.int IntKind.i64 gq])]]) (3)))
 (test (k1 == (4 : Int))
 (Kret (PV.int IntKind.i64 (1 : Int)) ([[(0, false,
 Blk.cols mq [Col.str tq, Col.int IntKind.i64 vq, Col.int IntKind.i64 gq])]]) (3))
 (Kret (PV.int IntKind.i64 (1 : Int)) ([[(0, false,
 Blk.cols mq [Col.str tq, Col.int IntKind.i64 vq, Col.int IntKind.i64 gq])]]) (3))))))))
 (test (k1 == (0 : Int))
 (test (k2 == (0 : Int))
 (test (k3 == (0 : Int))
 (Kret (PV.int IntKind.i64 (0 : Int)) ([[(0, false,
 Blk.cols mq [Col.str tq, Col.int IntKind.i64 vq, Col.int IntKind.i64 gq])]]) (3))
 (Kret (PV.int IntKind.i64 (1 : Int)) ([[(0, false,
 Blk.cols mq [Col.str tq, Col.int IntKind.i64 vq, Col.int IntKind.i64 gq])]]) (3)))
 (Kret (PV.int IntKind.i64 (1 : Int)) ([[(0, false,
 Blk.cols mq [Col.str tq, Col.int IntKind.i64 vq, Col.int IntKind.i64 gq])]]) (3)))
 (test (k1 == (1 : Int))
 (Kret (PV.int IntKind.i64 (1 : Int)) ([[(0, false,
 Blk.cols mq [Col.str tq, Col.int IntKind.i64 vq, Col.int IntKind.i64 gq])]]) (3))
 (test (k1 == (2 : Int))
 (Kret (PV.int IntKind.i64 (1 : Int)) ([[(0, false,
 Blk.cols mq [Col.str tq, Col.int IntKind.i64 vq, Col.int IntKind.i64 gq])]]) (3))
 (test (k1 == (3 : Int))
 (test (k2 == (0 : Int))
 (test (lim IntKind.i64 ((↑nq : Int) - (1 : Int)))
 (test (decide (k3 ≥ (0 : Int)))
 (test (decide (k3 ≤ (↑nq : Int) - (1 : Int)))
 (Kret (PV.int IntKind.i64 (0 : Int)) ([[(0, false,
 Blk.cols mq [Col.str tq, Col.int IntKind.i64 vq, Col.int IntKind.i64 gq])]]) (4))
 (Kret (PV.int IntKind.i64 (1 : Int)) ([[(0, false,
 Blk.cols mq [Col.str tq, Col.int IntKind.i64 vq, Col.int IntKind.i64 gq])]]) (4)))
 (Kret (PV.int IntKind.i64 (1 : Int)) ([[(0, false,
 Blk.cols mq [Col.str tq, Col.int IntKind.i64 vq, Col.int IntKind.i64 gq])]]) (4)))
 (False))
 (Kret (PV.int IntKind.i64 (1 : Int)) ([[(0, false,
 Blk.cols mq [Col.str tq, Col.int IntKind.i64 vq, Col.int IntKind.i64 gq])]]) (3)))
 (test (k1 == (4 : Int))
 (Kret (PV.int IntKind.i64 (1 : Int)) ([[(0, false,
 Blk.cols mq [Col.str tq, Col.int IntKind.i64 vq, Col.int IntKind.i64 gq])]]) (3))
 (Kret (PV.int IntKind.i64 (1 : Int)) ([[(0, false,
 Blk.cols mq [Col.str tq, Col.int IntKind.i64 vq, Col.int IntKind.i64 gq])]]) (3)))))))
theorem te53 (test : Bool → Prop → Prop → Prop) (Kst : KS) (Kret : KR) (aq nq mq : Nat) (tq : Nat → ByteArray) (vq gq : Nat → Int) (de k1 k2 k3 : Int) : run test Try.env true noX true 400 ⟨53, [.cd (mkFn Try.f53).body], argT 0 [.agg [.loose ⟨0, 3, aq, 0⟩ nq, .int .i64 de], .agg [.int .i64 k1, .int .i64 k2, .int .i64 k3]], [[], [(0, (false, .cols mq [.str tq, .int .i64 vq, .int .i64 gq]))]], 1⟩ (proj 1 [] Kst Kret) =
  Te53 test Kst Kret aq nq mq tq vq gq de k1 k2 k3 := by kernel_rfl
theorem be53 (aq nq mq : Nat) (tq : Nat → ByteArray) (vq gq : Nat → Int) (de k1 k2 k3 : Int) (Kst : KS) (Kret : KR) (x : St53 ⊕ Rt53) (hS : HS 1 400 ((I53 aq nq mq tq vq gq de k1 k2 k3)) Kst x) (hR : HR 1 400 ((V53 aq nq mq tq vq gq de k1 k2 k3)) (fun r => [newL (1 + 1) ((N53 aq nq mq tq vq gq de k1 k2 k3) r) ++ [(0, (false, .cols mq [.str tq, .int .i64 vq, .int .i64 gq]))]]) Kret x) (h : p53 aq nq mq tq vq gq de k1 k2 k3 = some x) : Te53 cond Kst Kret aq nq mq tq vq gq de k1 k2 k3 := by
  unfold Te53
  unfold p53 at h
  refine bif_split h
   (fun c0 h => bif_split h
   (fun c1 h => bif_split h
   (fun c2 h => bif_split h
   (fun c3 h => bif_split h
   (fun c4 h => ?_)
   (fun c4 h => ?_))
   (fun c3 h => ?_))
   (fun c2 h => bif_split h
   (fun c3 h => bif_split h
   (fun c4 h => bif_split h
   (fun c5 h => bif_split h
   (fun c6 h => ?_)
   (fun c6 h => ?_))
   (fun c5 h => ?_))
   (fun c4 h => ?_))
   (fun c3 h => bif_split h
   (fun c4 h => bif_split h
   (fun c5 h => bif_split h
   (fun c6 h => bif_split h
   (fun c7 h => ?_)
   (fun c7 h => ?_))
   (fun c6 h => ?_))
   (fun c5 h => ?_))
   (fun c4 h => bif_split h
   (fun c5 h => bif_split h
   (fun c6 h => bif_split h
   (fun c7 h => bif_split h
   (fun c8 h => bif_split h
   (fun c9 h => ?_)
   (fun c9 h => ?_))
   (fun c8 h => ?_))
   (fun c7 h => ?_))
   (fun c6 h => ?_))
   (fun c5 h => bif_split h
   (fun c6 h => bif_split h
   (fun c7 h => ?_)
   (fun c7 h => ?_))
   (fun c6 h => ?_))))))
   (fun c1 h => bif_split h
   (fun c2 h => bif_split h
   (fun c3 h => bif_split h
   (fun c4 h => ?_)
   (fun c4 h => ?_))
   (fun c3 h => ?_))
   (fun c2 h => bif_split h
   (fun c3 h => ?_)
   (fun c3 h => bif_split h
   (fun c4 h => ?_)
   (fun c4 h => bif_split h
   (fun c5 h => bif_split h
   (fun c6 h => bif_split h
   (fun c7 h => bif_split h
   (fun c8 h => bif_split h
   (fun c9 h => ?_)
   (fun c9 h => ?_))
   (fun c8 h => ?_))
   (fun c7 h => ?_))
   (fun c6 h => ?_))
   (fun c5 h => bif_split h
   (fun c6 h => ?_)
   (fun c6 h => ?_)))))))
   (fun c0 h => bif_split h
   (fun c1 h => bif_split h
   (fun c2 h => bif_split h
   (fun c3 h => ?_)
   (fun c3 h => ?_))
   (fun c2 h => ?_))
   (fun c1 h => bif_split h
   (fun c2 h => ?_)
   (fun c2 h => bif_split h
   (fun c3 h => ?_)
   (fun c3 h => bif_split h
   (fun c4 h => bif_split h
   (fun c5 h => bif_split h
   (fun c6 h => bif_split h
   (fun c7 h => bif_split h
   (fun c8 h => ?_)
   (fun c8 h => ?_))
   (fun c7 h => ?_))
   (fun c6 h => ?_))
   (fun c5 h => ?_))
   (fun c4 h => bif_split h
   (fun c5 h => ?_)
   (fun c5 h => ?_))))))
  all_goals first
    | exact ret_at hR _ h (fun n => n) rfl rfl rfl (rn_int rfl) rfl (entl_bor (use_lo rfl) rfl rfl entl_nil)
    | exact no_some h
theorem a53 (aq nq mq : Nat) (tq : Nat → ByteArray) (vq gq : Nat → Int) (de k1 k2 k3 : Int) {r : Rt53} (h : Goes ((q53 aq nq mq tq vq gq de k1 k2 k3)) ((p53 aq nq mq tq vq gq de k1 k2 k3)) r) : CallR Try.prog 53 [.agg [.loose ⟨0, 3, aq, 0⟩ nq, .int .i64 de], .agg [.int .i64 k1, .int .i64 k2, .int .i64 k3]] [[(0, (false, .cols mq [.str tq, .int .i64 vq, .int .i64 gq]))]] 1 ((V53 aq nq mq tq vq gq de k1 k2 k3) r) ((fun r => [newL (1 + 1) ((N53 aq nq mq tq vq gq de k1 k2 k3) r) ++ [(0, (false, .cols mq [.str tq, .int .i64 vq, .int .i64 gq]))]]) r) 400 ∧ ∃ F, Try.prog.funcs[53]? = some F ∧ F.body.isSome = true ∧ (F.name == "runtime.NumGoroutine") = false := by
  refine dec_calls (f := 53) (lo := 1) (hi := 400) (H := [[(0, (false, .cols mq [.str tq, .int .i64 vq, .int .i64 gq]))]]) (args := [.agg [.loose ⟨0, 3, aq, 0⟩ nq, .int .i64 de], .agg [.int .i64 k1, .int .i64 k2, .int .i64 k3]]) Try.envOk Try.mixed noX_ok ((I53 aq nq mq tq vq gq de k1 k2 k3)) ((V53 aq nq mq tq vq gq de k1 k2 k3)) (fun r => [newL (1 + 1) ((N53 aq nq mq tq vq gq de k1 k2 k3) r) ++ [(0, (false, .cols mq [.str tq, .int .i64 vq, .int .i64 gq]))]]) (fn := mkFn Try.f53) (ts := []) (n := 400) rfl (by decide) (by simp) (names_of rfl) ?_ ?_ ?_ h
  · intro s; exact s.elim
  · intro Kst Kret x hS hR h
    exact Holds.eq (te53 cond Kst Kret aq nq mq tq vq gq de k1 k2 k3) (be53 aq nq mq tq vq gq de k1 k2 k3 Kst Kret x hS hR h)
  · intro Kst Kret x hS hR s h; exact s.elim
noncomputable def k53  : Con := ⟨53, [.agg [.list [.str, .int .i64, .int .i64], .plain (.int .i64)], .agg [.plain (.int .i64), .plain (.int .i64), .plain (.int .i64)]], fun (x : ((Nat × Nat × Nat × (Nat → ByteArray) × (Nat → Int) × (Nat → Int) × Unit) × Int × Unit) × (Int × Int × Int × Unit) × Unit) => (fun (aq nq mq : Nat) (tq : Nat → ByteArray) (vq : Nat → Int) (gq : Nat → Int) (de : Int) (k1 : Int) (k2 : Int) (k3 : Int) => decide (nq ≤ 100000)) x.1.1.1 x.1.1.2.1 x.1.1.2.2.1 x.1.1.2.2.2.1 x.1.1.2.2.2.2.1 x.1.1.2.2.2.2.2.1 x.1.2.1 x.2.1.1 x.2.1.2.1 x.2.1.2.2.1, fun (x : ((Nat × Nat × Nat × (Nat → ByteArray) × (Nat → Int) × (Nat → Int) × Unit) × Int × Unit) × (Int × Int × Int × Unit) × Unit) => (fun (aq nq mq : Nat) (tq : Nat → ByteArray) (vq : Nat → Int) (gq : Nat → Int) (de : Int) (k1 : Int) (k2 : Int) (k3 : Int) => (V53 aq nq mq tq vq gq de k1 k2 k3) (S.failE nq k1 k2 k3)) x.1.1.1 x.1.1.2.1 x.1.1.2.2.1 x.1.1.2.2.2.1 x.1.1.2.2.2.2.1 x.1.1.2.2.2.2.2.1 x.1.2.1 x.2.1.1 x.2.1.2.1 x.2.1.2.2.1, fun (x : ((Nat × Nat × Nat × (Nat → ByteArray) × (Nat → Int) × (Nat → Int) × Unit) × Int × Unit) × (Int × Int × Int × Unit) × Unit) => (fun (aq nq mq : Nat) (tq : Nat → ByteArray) (vq : Nat → Int) (gq : Nat → Int) (de : Int) (k1 : Int) (k2 : Int) (k3 : Int) => (N53 aq nq mq tq vq gq de k1 k2 k3) (S.failE nq k1 k2 k3)) x.1.1.1 x.1.1.2.1 x.1.1.2.2.1 x.1.1.2.2.2.1 x.1.1.2.2.2.2.1 x.1.1.2.2.2.2.2.1 x.1.2.1 x.2.1.1 x.2.1.2.1 x.2.1.2.2.1, fun _ _ => .dead⟩
theorem fail_t  {n : Nat} {k l p : Int} (h : S.okF n k l p) : S.failE n k l p = 0 := if_pos h
theorem fail_f  {n : Nat} {k l p : Int} (h : ¬ S.okF n k l p) : S.failE n k l p = 1 := if_neg h
theorem s53 (aq nq mq : Nat) (tq : Nat → ByteArray) (vq gq : Nat → Int) (de k1 k2 k3 : Int) (hp : nq ≤ 100000) : Goes ((q53 aq nq mq tq vq gq de k1 k2 k3)) ((p53 aq nq mq tq vq gq de k1 k2 k3)) (S.failE nq k1 k2 k3) := by
  show Goes _ _ _
  unfold p53
  repeat' first
    | with_reducible refine goes_if (fun h => ?_) (fun h => ?_) <;> (try simp only [SH] at h)
    | exact goes_none.mpr (by omega)
  all_goals first | (exfalso; omega) | (refine goes_inr.mpr ?_; first | exact (fail_t (by unfold S.okF; omega)).symm | exact (fail_f (by unfold S.okF; omega)).symm)
theorem k53_ok  : k53.ok Try.prog := by
  intro x hx
  obtain ⟨⟨⟨aq, nq, mq, tq, vq, gq, _⟩, de, _⟩, ⟨k1, k2, k3, _⟩, _⟩ := x
  obtain ⟨h1, h2⟩ := a53 aq nq mq tq vq gq de k1 k2 k3 (s53 aq nq mq tq vq gq de k1 k2 k3 (of_dec hx rfl))
  exact ⟨⟨400, (by decide : 1 + 1 + 0 ≤ 400), h1⟩, h2⟩
inductive St55 where
  | h0 (x0 : Int) (x1 : List (Int × Int × Int))
abbrev Rt55  := Int
noncomputable def V55 (aq nq mq : Nat) (tq : Nat → ByteArray) (vq gq : Nat → Int) (de k1 k2 k3 : Int) (r : Rt55) : PV := PV.int IntKind.i64 r
noncomputable def N55 (aq nq mq : Nat) (tq : Nat → ByteArray) (vq gq : Nat → Int) (de k1 k2 k3 : Int) (r : Rt55) : List Blk := []
noncomputable def I55 (aq nq mq : Nat) (tq : Nat → ByteArray) (vq gq : Nat → Int) (de k1 k2 k3 : Int) : St55 → Hd
  | .h0 x0 x1 => ⟨hd Try.f55 0, [PV.ptr (PA.mk (1) (0) (0) (0)),
 PV.own (2) (3) (List.length x1), PV.int IntKind.i64 x0], [[(1, (true, Blk.cells [PV.int IntKind.i64 k1, PV.int IntKind.i64 k2, PV.int IntKind.i64 k3])), (2, (true, Blk.cols (List.length x1)
 [Col.int IntKind.i64 fun j => (S.at' x1 j).1,
 Col.int IntKind.i64 fun j => (S.at' x1 j).2.1,
 Col.int IntKind.i64 fun j => (S.at' x1 j).2.2]))], [(0, (false, .cols mq [.str tq, .int .i64 vq, .int .i64 gq]))]], 3⟩
noncomputable def q55 (aq nq mq : Nat) (tq : Nat → ByteArray) (vq gq : Nat → Int) (de k1 k2 k3 : Int) : St55 → Option (St55 ⊕ Rt55)
  | .h0 x0 x1 => bif (decide (x0 < (↑(List.length x1) : Int)))
 then (bif (decide ((0 : Int) ≤ x0 ∧ x0 < (↑(List.length x1) : Int)))
 then (bif (decide (Int.toNat x0 < List.length x1))
 then (bif ((S.at' x1 (Int.toNat x0)).1 == k1 &&
 ((S.at' x1 (Int.toNat x0)).2.1 == k2 &&
 ((S.at' x1 (Int.toNat x0)).2.2 == k3 && true)))
 then (some (.inr ((0 : Int))))
 else (bif (lim IntKind.i64 (x0 + (1 : Int)))
 then (some (.inl (.h0 (x0 + (1 : Int)) (x1))))
 else (none)))
 else (none))
 else (none))
 else (some (.inr ((1 : Int))))
noncomputable def p55 (aq nq mq : Nat) (tq : Nat → ByteArray) (vq gq : Nat → Int) (de k1 k2 k3 : Int) : Option (St55 ⊕ Rt55) := bif (k1 == (0 : Int) && (k2 == (0 : Int) && (k3 == (0 : Int) && true)))
 then (some (.inr ((0 : Int))))
 else (bif (decide (nq ≤ 100000))
 then (some (.inl (.h0 ((0 : Int)) (S.failL nq))))
 else (none))
noncomputable def Te55 (test : Bool → Prop → Prop → Prop) (Kst : KS) (Kret : KR) (aq nq mq : Nat) (tq : Nat → ByteArray) (vq gq : Nat → Int) (de k1 k2 k3 : Int) : Prop :=
  test (k1 == (0 : Int) && (k2 == (0 : Int) && (k3 == (0 : Int) && true)))
 (Kret (PV.int IntKind.i64 (0 : Int)) ([[(0, false,
 Blk.cols mq [Col.str tq, Col.int IntKind.i64 vq, Col.int IntKind.i64 gq])]]) (3))
 (test (decide (nq ≤ 100000))
 (Kst (hd Try.f55 0) ([PV.ptr (PA.mk (2) (0) (0) (0)),
 PV.own (4) (3) (List.length (S.failL nq)), PV.int IntKind.i64 (0 : Int)]) ([[(0, false,
 Blk.cols mq [Col.str tq, Col.int IntKind.i64 vq, Col.int IntKind.i64 gq]),
 (4, true,
 Blk.cols (List.length (S.failL nq))
 [Col.int IntKind.i64 fun j => (S.at' (S.failL nq) j).1,
 Col.int IntKind.i64 fun j => (S.at' (S.failL nq) j).2.1,
 Col.int IntKind.i64 fun j => (S.at' (S.failL nq) j).2.2]),
 (2, true,
 Blk.cells
 [PV.int IntKind.i64 k1, PV.int IntKind.i64 k2, PV.int IntKind.i64 k3])]]) (5))
 (False))
theorem te55 (test : Bool → Prop → Prop → Prop) (Kst : KS) (Kret : KR) (aq nq mq : Nat) (tq : Nat → ByteArray) (vq gq : Nat → Int) (de k1 k2 k3 : Int) : run test Try.env true (xU test) true 400 ⟨55, [.cd (mkFn Try.f55).body], argT 0 [.agg [.loose ⟨0, 3, aq, 0⟩ nq, .int .i64 de], .agg [.int .i64 k1, .int .i64 k2, .int .i64 k3]], [[], [(0, (false, .cols mq [.str tq, .int .i64 vq, .int .i64 gq]))]], 1⟩ (proj 1 [3, 5, 6] Kst Kret) =
  Te55 test Kst Kret aq nq mq tq vq gq de k1 k2 k3 := by kernel_rfl
noncomputable def T55_0 (test : Bool → Prop → Prop → Prop) (Kst : KS) (Kret : KR) (aq nq mq : Nat) (tq : Nat → ByteArray) (vq gq : Nat → Int) (de k1 k2 k3 x0 : Int) (x1 : List (Int × Int × Int)) : Prop :=
  test (decide (x0 < (↑(List.length x1) : Int)))
 (test (decide ((0 : Int) ≤ x0 ∧ x0 < (↑(List.length x1) : Int)))
 (test (decide (Int.toNat x0 < List.length x1))
 (test (decide (Int.toNat x0 < List.length x1))
 (test (decide (Int.toNat x0 < List.length x1))
 (test ((S.at' x1 (Int.toNat x0)).1 == k1 &&
 ((S.at' x1 (Int.toNat x0)).2.1 == k2 &&
 ((S.at' x1 (Int.toNat x0)).2.2 == k3 && true)))
 (Kret (PV.int IntKind.i64 (0 : Int)) ([[(0, false,
 Blk.cols mq [Col.str tq, Col.int IntKind.i64 vq, Col.int IntKind.i64 gq])]]) (3))
 (test (lim IntKind.i64 (x0 + (1 : Int)))
 (Kst (hd Try.f55 0) ([PV.ptr (PA.mk (1) (0) (0) (0)),
 PV.own (2) (3) (List.length x1), PV.int IntKind.i64 (x0 + (1 : Int))]) ([[(0, false,
 Blk.cols mq [Col.str tq, Col.int IntKind.i64 vq, Col.int IntKind.i64 gq]),
 (2, true,
 Blk.cols (List.length x1)
 [Col.int IntKind.i64 fun j => (S.at' x1 j).1,
 Col.int IntKind.i64 fun j => (S.at' x1 j).2.1,
 Col.int IntKind.i64 fun j => (S.at' x1 j).2.2]),
 (1, true,
 Blk.cells
 [PV.int IntKind.i64 k1, PV.int IntKind.i64 k2, PV.int IntKind.i64 k3])]]) (3))
 (False)))
 (False))
 (False))
 (False))
 (False))
 (Kret (PV.int IntKind.i64 (1 : Int)) ([[(0, false,
 Blk.cols mq [Col.str tq, Col.int IntKind.i64 vq, Col.int IntKind.i64 gq])]]) (3))
theorem t55_0 (test : Bool → Prop → Prop → Prop) (Kst : KS) (Kret : KR) (aq nq mq : Nat) (tq : Nat → ByteArray) (vq gq : Nat → Int) (de k1 k2 k3 x0 : Int) (x1 : List (Int × Int × Int)) : run test Try.env true (xU test) true 400 ⟨55, hd Try.f55 0, zipT [3, 5, 6] [PV.ptr (PA.mk (1) (0) (0) (0)),
 PV.own (2) (3) (List.length x1), PV.int IntKind.i64 x0], [[(1, (true, Blk.cells [PV.int IntKind.i64 k1, PV.int IntKind.i64 k2, PV.int IntKind.i64 k3])), (2, (true, Blk.cols (List.length x1)
 [Col.int IntKind.i64 fun j => (S.at' x1 j).1,
 Col.int IntKind.i64 fun j => (S.at' x1 j).2.1,
 Col.int IntKind.i64 fun j => (S.at' x1 j).2.2]))], [(0, (false, .cols mq [.str tq, .int .i64 vq, .int .i64 gq]))]], 3⟩ (proj 1 [3, 5, 6] Kst Kret) =
  T55_0 test Kst Kret aq nq mq tq vq gq de k1 k2 k3 x0 x1 := by kernel_rfl
theorem be55 (aq nq mq : Nat) (tq : Nat → ByteArray) (vq gq : Nat → Int) (de k1 k2 k3 : Int) (Kst : KS) (Kret : KR) (x : St55 ⊕ Rt55) (hS : HS 1 400 ((I55 aq nq mq tq vq gq de k1 k2 k3)) Kst x) (hR : HR 1 400 ((V55 aq nq mq tq vq gq de k1 k2 k3)) (fun r => [newL (1 + 1) ((N55 aq nq mq tq vq gq de k1 k2 k3) r) ++ [(0, (false, .cols mq [.str tq, .int .i64 vq, .int .i64 gq]))]]) Kret x) (h : p55 aq nq mq tq vq gq de k1 k2 k3 = some x) : Te55 cond Kst Kret aq nq mq tq vq gq de k1 k2 k3 := by
  unfold Te55
  unfold p55 at h
  refine bif_split h
   (fun c0 h => ret_at hR _ h (fun n => n) rfl rfl rfl (rn_int rfl) rfl (entl_bor (use_lo rfl) rfl rfl entl_nil))
   (fun c0 h => bif_split h
   (fun c1 h => stop_at hS _ h (fun n => bif Nat.beq n 1 then 2 else bif Nat.beq n 2 then 4 else n) rfl rfl rfl ⟨(rn_ptr (use_own rfl) rfl rfl), ⟨(rn_own (use_own rfl) rfl rfl), ⟨(rn_int rfl), trivial⟩⟩⟩ rfl (entl_b (use_own rfl) rfl (by simp) (rb_cells ⟨(rn_int rfl), (rn_int rfl), (rn_int rfl), trivial⟩) (entl_new (use_own rfl) rfl (Nat.le_of_eq rfl) (rcs_int (fun _ _ => rfl) (rcs_int (fun _ _ => rfl) (rcs_int (fun _ _ => rfl) rcs_nil))) (entl_bor (use_lo rfl) rfl rfl entl_nil))))
   (fun c1 h => no_some h))
theorem b55_0 (aq nq mq : Nat) (tq : Nat → ByteArray) (vq gq : Nat → Int) (de k1 k2 k3 : Int) (Kst : KS) (Kret : KR) (x : St55 ⊕ Rt55) (hS : HS 1 400 ((I55 aq nq mq tq vq gq de k1 k2 k3)) Kst x) (hR : HR 1 400 ((V55 aq nq mq tq vq gq de k1 k2 k3)) (fun r => [newL (1 + 1) ((N55 aq nq mq tq vq gq de k1 k2 k3) r) ++ [(0, (false, .cols mq [.str tq, .int .i64 vq, .int .i64 gq]))]]) Kret x) (x0 : Int) (x1 : List (Int × Int × Int)) (h : (bif (decide (x0 < (↑(List.length x1) : Int)))
 then (bif (decide ((0 : Int) ≤ x0 ∧ x0 < (↑(List.length x1) : Int)))
 then (bif (decide (Int.toNat x0 < List.length x1))
 then (bif ((S.at' x1 (Int.toNat x0)).1 == k1 &&
 ((S.at' x1 (Int.toNat x0)).2.1 == k2 &&
 ((S.at' x1 (Int.toNat x0)).2.2 == k3 && true)))
 then (some (.inr ((0 : Int))))
 else (bif (lim IntKind.i64 (x0 + (1 : Int)))
 then (some (.inl (.h0 (x0 + (1 : Int)) (x1))))
 else (none)))
 else (none))
 else (none))
 else (some (.inr ((1 : Int)))) : Option (St55 ⊕ Rt55)) = some x) : T55_0 cond Kst Kret aq nq mq tq vq gq de k1 k2 k3 x0 x1 := by
  unfold T55_0
  exact bif_split h
   (fun c0 h => bif_split h
   (fun c1 h => bif_split h
   (fun c2 h => cond_yes c2 (cond_yes c2 (bif_split h
   (fun c3 h => ret_at hR _ h (fun n => n) rfl rfl rfl (rn_int rfl) rfl (entl_bor (use_lo rfl) rfl rfl entl_nil))
   (fun c3 h => bif_split h
   (fun c4 h => stop_at hS _ h (fun n => bif Nat.beq n 1 then 1 else bif Nat.beq n 2 then 2 else n) rfl rfl rfl ⟨(rn_ptr (use_own rfl) rfl rfl), ⟨(rn_own (use_own rfl) rfl rfl), ⟨(rn_int rfl), trivial⟩⟩⟩ rfl (entl_b (use_own rfl) rfl (by simp) (rb_cells ⟨(rn_int rfl), (rn_int rfl), (rn_int rfl), trivial⟩) (entl_new (use_own rfl) rfl (Nat.le_of_eq rfl) (rcs_int (fun _ _ => rfl) (rcs_int (fun _ _ => rfl) (rcs_int (fun _ _ => rfl) rcs_nil))) (entl_bor (use_lo rfl) rfl rfl entl_nil))))
   (fun c4 h => no_some h)))))
   (fun c2 h => no_some h))
   (fun c1 h => no_some h))
   (fun c0 h => ret_at hR _ h (fun n => n) rfl rfl rfl (rn_int rfl) rfl (entl_bor (use_lo rfl) rfl rfl entl_nil))
theorem a55 (aq nq mq : Nat) (tq : Nat → ByteArray) (vq gq : Nat → Int) (de k1 k2 k3 : Int) {r : Rt55} (h : Goes ((q55 aq nq mq tq vq gq de k1 k2 k3)) ((p55 aq nq mq tq vq gq de k1 k2 k3)) r) : CallR Try.prog 55 [.agg [.loose ⟨0, 3, aq, 0⟩ nq, .int .i64 de], .agg [.int .i64 k1, .int .i64 k2, .int .i64 k3]] [[(0, (false, .cols mq [.str tq, .int .i64 vq, .int .i64 gq]))]] 1 ((V55 aq nq mq tq vq gq de k1 k2 k3) r) ((fun r => [newL (1 + 1) ((N55 aq nq mq tq vq gq de k1 k2 k3) r) ++ [(0, (false, .cols mq [.str tq, .int .i64 vq, .int .i64 gq]))]]) r) 400 ∧ ∃ F, Try.prog.funcs[55]? = some F ∧ F.body.isSome = true ∧ (F.name == "runtime.NumGoroutine") = false := by
  refine dec_calls (f := 55) (lo := 1) (hi := 400) (H := [[(0, (false, .cols mq [.str tq, .int .i64 vq, .int .i64 gq]))]]) (args := [.agg [.loose ⟨0, 3, aq, 0⟩ nq, .int .i64 de], .agg [.int .i64 k1, .int .i64 k2, .int .i64 k3]]) Try.envOk Try.mixed xU_ok ((I55 aq nq mq tq vq gq de k1 k2 k3)) ((V55 aq nq mq tq vq gq de k1 k2 k3)) (fun r => [newL (1 + 1) ((N55 aq nq mq tq vq gq de k1 k2 k3) r) ++ [(0, (false, .cols mq [.str tq, .int .i64 vq, .int .i64 gq]))]]) (fn := mkFn Try.f55) (ts := [3, 5, 6]) (n := 400) rfl (by decide) (by simp) (names_of rfl) ?_ ?_ ?_ h
  · intro s; cases s <;> exact ⟨hd_ok _ _, by simp [I55], names_of rfl, Nat.le_of_ble_eq_true rfl⟩
  · intro Kst Kret x hS hR h
    exact Holds.eq (te55 cond Kst Kret aq nq mq tq vq gq de k1 k2 k3) (be55 aq nq mq tq vq gq de k1 k2 k3 Kst Kret x hS hR h)
  · intro Kst Kret x hS hR s h
    cases s with
    | h0 x0 x1 => exact Holds.eq (t55_0 cond Kst Kret aq nq mq tq vq gq de k1 k2 k3 x0 x1) (b55_0 aq nq mq tq vq gq de k1 k2 k3 Kst Kret x hS hR x0 x1 h)
noncomputable def k55  : Con := ⟨55, [.agg [.list [.str, .int .i64, .int .i64], .plain (.int .i64)], .agg [.plain (.int .i64), .plain (.int .i64), .plain (.int .i64)]], fun (x : ((Nat × Nat × Nat × (Nat → ByteArray) × (Nat → Int) × (Nat → Int) × Unit) × Int × Unit) × (Int × Int × Int × Unit) × Unit) => (fun (aq nq mq : Nat) (tq : Nat → ByteArray) (vq : Nat → Int) (gq : Nat → Int) (de : Int) (k1 : Int) (k2 : Int) (k3 : Int) => decide (nq ≤ 100000)) x.1.1.1 x.1.1.2.1 x.1.1.2.2.1 x.1.1.2.2.2.1 x.1.1.2.2.2.2.1 x.1.1.2.2.2.2.2.1 x.1.2.1 x.2.1.1 x.2.1.2.1 x.2.1.2.2.1, fun (x : ((Nat × Nat × Nat × (Nat → ByteArray) × (Nat → Int) × (Nat → Int) × Unit) × Int × Unit) × (Int × Int × Int × Unit) × Unit) => (fun (aq nq mq : Nat) (tq : Nat → ByteArray) (vq : Nat → Int) (gq : Nat → Int) (de : Int) (k1 : Int) (k2 : Int) (k3 : Int) => (V55 aq nq mq tq vq gq de k1 k2 k3) (S.failE nq k1 k2 k3)) x.1.1.1 x.1.1.2.1 x.1.1.2.2.1 x.1.1.2.2.2.1 x.1.1.2.2.2.2.1 x.1.1.2.2.2.2.2.1 x.1.2.1 x.2.1.1 x.2.1.2.1 x.2.1.2.2.1, fun (x : ((Nat × Nat × Nat × (Nat → ByteArray) × (Nat → Int) × (Nat → Int) × Unit) × Int × Unit) × (Int × Int × Int × Unit) × Unit) => (fun (aq nq mq : Nat) (tq : Nat → ByteArray) (vq : Nat → Int) (gq : Nat → Int) (de : Int) (k1 : Int) (k2 : Int) (k3 : Int) => (N55 aq nq mq tq vq gq de k1 k2 k3) (S.failE nq k1 k2 k3)) x.1.1.1 x.1.1.2.1 x.1.1.2.2.1 x.1.1.2.2.2.1 x.1.1.2.2.2.2.1 x.1.1.2.2.2.2.2.1 x.1.2.1 x.2.1.1 x.2.1.2.1 x.2.1.2.2.1, fun _ _ => .dead⟩
theorem s55' (aq nq mq : Nat) (tq : Nat → ByteArray) (vq gq : Nat → Int) (de k1 k2 k3 : Int) (L : List (Int × Int × Int)) (hL : L.length ≤ 1000000) : ∀ k i : Nat, i + k = L.length → (∀ j, j < i → S.at' L j ≠ (k1, k2, k3)) → Comes (q55 aq nq mq tq vq gq de k1 k2 k3) (.h0 (i : Int) L) (if (k1, k2, k3) ∈ L then 0 else 1) := by
  intro k
  induction k with
  | zero =>
    intro i hi hj
    obtain rfl : L.length = i := by omega
    rw [if_neg (fun h => by
      obtain ⟨j, h1, h2⟩ := List.getElem_of_mem h
      exact hj j h1 (by rw [at_lt h1]; exact h2))]
    apply Comes.of
    show Goes _ _ _
    (first | rw [q55] | unfold q55)
    repeat' first
      | with_reducible refine goes_if (fun h => ?_) (fun h => ?_) <;> (try simp only [SH] at h)
      | exact goes_none.mpr (by omega)
    all_goals first | (exfalso; omega) | exact goes_inr.mpr rfl
  | succ k ih =>
    intro i hi hj
    by_cases hc : S.at' L i = (k1, k2, k3)
    · rw [if_pos (by rw [← hc, at_lt (by omega)]; exact List.getElem_mem _)]
      apply Comes.of
      show Goes _ _ _
      (first | rw [q55] | unfold q55)
      try simp only [Int.toNat_natCast, hc, BEq.rfl, Bool.and_self, Bool.and_true]
      try show Goes _ _ _
      repeat' first
        | with_reducible refine goes_if (fun h => ?_) (fun h => ?_) <;> (try simp only [SH] at h)
        | exact goes_none.mpr (by omega)
      all_goals first | (exfalso; omega) | exact goes_inr.mpr rfl | (exfalso; simp_all; done)
    · have ih := ih (i + 1) (by omega) (fun j hlt => by
        rcases Nat.lt_or_eq_of_le (Nat.le_of_lt_succ hlt) with h2 | h2
        · exact hj j h2
        · subst h2; exact hc)
      have hb : ((S.at' L i).1 == k1 && ((S.at' L i).2.1 == k2 && ((S.at' L i).2.2 == k3 && true))) = false := by
        rw [Bool.eq_false_iff]
        intro h
        simp only [Bool.and_eq_true, beq_iff_eq, and_true] at h
        exact hc (Prod.ext h.1 (Prod.ext h.2.1 h.2.2))
      apply Comes.of
      show Goes _ _ _
      (first | rw [q55] | unfold q55)
      try simp only [Int.toNat_natCast, hb]
      try show Goes _ _ _
      repeat' first
        | with_reducible refine goes_if (fun h => ?_) (fun h => ?_) <;> (try simp only [SH] at h)
        | exact goes_none.mpr (by omega)
      all_goals first | (exfalso; omega) | exact ih | (exfalso; simp_all; done)
theorem s55 (aq nq mq : Nat) (tq : Nat → ByteArray) (vq gq : Nat → Int) (de k1 k2 k3 : Int) (hp : nq ≤ 100000) : Goes ((q55 aq nq mq tq vq gq de k1 k2 k3)) ((p55 aq nq mq tq vq gq de k1 k2 k3)) (S.failE nq k1 k2 k3) := by
  have hm := s55' aq nq mq tq vq gq de k1 k2 k3 (S.failL nq) (by rw [fail_len]; omega) _ 0 (Nat.zero_add _) (fun j hj => absurd hj (Nat.not_lt_zero j))
  by_cases h0 : k1 = 0 ∧ k2 = 0 ∧ k3 = 0
  · obtain ⟨rfl, rfl, rfl⟩ := h0
    rw [S.failE, if_pos (.inl ⟨rfl, rfl, rfl⟩)]
    exact goes_inr.mpr rfl
  · have hb : (k1 == 0 && (k2 == 0 && (k3 == 0 && true))) = false := by
      rw [Bool.eq_false_iff]
      intro h
      simp only [Bool.and_eq_true, beq_iff_eq, and_true] at h
      exact h0 h
    have e : S.failE nq k1 k2 k3 = if (k1, k2, k3) ∈ S.failL nq then 0 else 1 := by
      rw [S.failE]
      by_cases h1 : S.okF nq k1 k2 k3
      · rw [if_pos h1, if_pos (fail_mem.mpr ⟨h1, fun h2 => h0 (by unfold S.okF at h1; omega)⟩)]
      · rw [if_neg h1, if_neg (fun h => h1 (fail_mem.mp h).1)]
    rw [e]
    unfold p55
    rw [hb]
    show Goes _ (cond (decide (nq ≤ 100000)) _ _) _
    rw [decide_eq_true hp]
    exact hm
theorem k55_ok  : k55.ok Try.prog := by
  intro x hx
  obtain ⟨⟨⟨aq, nq, mq, tq, vq, gq, _⟩, de, _⟩, ⟨k1, k2, k3, _⟩, _⟩ := x
  obtain ⟨h1, h2⟩ := a55 aq nq mq tq vq gq de k1 k2 k3 (s55 aq nq mq tq vq gq de k1 k2 k3 (of_dec hx rfl))
  exact ⟨⟨400, (by decide : 1 + 1 + 0 ≤ 400), h1⟩, h2⟩
namespace S
def all (p : Nat → Bool) (n : Nat) : Bool := (List.range n).all p
def tA (v g : Nat → Int) (de st : Int) : Nat → Int
  | 0 => de
  | i + 1 => tA v g de st i + (if st ≤ (i : Int) then v i + g i else 0)
def cB (v g : Nat → Int) (st : Int) (i : Nat) : Int := if st = 0 then v i + g i else if i = 0 then g i else if (i : Int) < st then v i + g i else if (i : Int) = st then v i else 0
def tB (v g : Nat → Int) (de st : Int) : Nat → Int
  | 0 => de
  | i + 1 => tB v g de st i + cB v g st i
end S
theorem all_iff  {p : Nat → Bool} {n : Nat} : S.all p n = true ↔ ∀ j, j < n → p j = true := by simp [S.all]
theorem any_succ  {p : Nat → Bool} {n : Nat} : S.any p (n + 1) = (S.any p n || p n) := by simp [S.any, List.range_succ]
section
variable {v g : Nat → Int} {de st : Int} {n : Nat}
theorem tA_b (hd : 0 ≤ de ∧ de ≤ 1000000) (h : ∀ j, j < n → (0 ≤ v j ∧ v j ≤ 1000000) ∧ 0 ≤ g j ∧ g j ≤ 1000000) : ∀ i, i ≤ n → 0 ≤ S.tA v g de st i ∧ S.tA v g de st i ≤ 1000000 + 2000000 * (i : Int)
  | 0, _ => by simp only [S.tA]; omega
  | i + 1, hi => by
    have ih := tA_b hd h i (by omega)
    have := h i (by omega)
    simp only [S.tA]
    split <;> omega
theorem cB_b (h : (0 ≤ v n ∧ v n ≤ 1000000) ∧ 0 ≤ g n ∧ g n ≤ 1000000) : 0 ≤ S.cB v g st n ∧ S.cB v g st n ≤ 2000000 := by
  unfold S.cB
  (repeat' split) <;> omega
theorem tB_b (hd : 0 ≤ de ∧ de ≤ 1000000) (h : ∀ j, j < n → (0 ≤ v j ∧ v j ≤ 1000000) ∧ 0 ≤ g j ∧ g j ≤ 1000000) : ∀ i, i ≤ n → 0 ≤ S.tB v g de st i ∧ S.tB v g de st i ≤ 1000000 + 2000000 * (i : Int)
  | 0, _ => by simp only [S.tB]; omega
  | i + 1, hi => by
    have ih := tB_b hd h i (by omega)
    have := cB_b (st := st) (h i (by omega))
    simp only [S.tB]
    omega
end
inductive St58 where
  | h0 (x0 : Int) (x1 : List Bool)
abbrev Rt58  := List Bool
noncomputable def V58 (aq nq mq : Nat) (tq : Nat → ByteArray) (vq gq : Nat → Int) (de : Int) (al nl ml : Nat) (tl : Nat → Int) (r : Rt58) : PV := PV.own (3) (1) (List.length r)
noncomputable def N58 (aq nq mq : Nat) (tq : Nat → ByteArray) (vq gq : Nat → Int) (de : Int) (al nl ml : Nat) (tl : Nat → Int) (r : Rt58) : List Blk := [Blk.cols (List.length r) [Col.bool fun j => S.at' r j]]
noncomputable def I58 (aq nq mq : Nat) (tq : Nat → ByteArray) (vq gq : Nat → Int) (de : Int) (al nl ml : Nat) (tl : Nat → Int) : St58 → Hd
  | .h0 x0 x1 => ⟨hd Try.f58 0, [PV.own (2) (1) (List.length x1),
 PV.loose (PA.mk (1) (1) al (0)) nl, PV.int IntKind.i64 (↑nl : Int),
 PV.int IntKind.i64 x0], [[(2, (true, Blk.cols (List.length x1) [Col.bool fun j => S.at' x1 j]))], [(0, (false, .cols mq [.str tq, .int .i64 vq, .int .i64 gq])), (1, (false, .cols ml [.int .i64 tl]))]], 3⟩
noncomputable def q58 (aq nq mq : Nat) (tq : Nat → ByteArray) (vq gq : Nat → Int) (de : Int) (al nl ml : Nat) (tl : Nat → Int) : St58 → Option (St58 ⊕ Rt58)
  | .h0 x0 x1 => bif (decide (x0 < (↑nl : Int)))
 then (bif (decide ((0 : Int) ≤ x0 ∧ x0 < (↑nl : Int)))
 then (bif (decide (Int.toNat x0 + al < ml))
 then (bif (decide ((0 : Int) ≤ tl (Int.toNat x0 + al) ∧ tl (Int.toNat x0 + al) < (↑(List.length x1) : Int)))
 then (bif (decide (Int.toNat (tl (Int.toNat x0 + al)) < List.length x1))
 then (bif (lim IntKind.i64 (x0 + (1 : Int)))
 then (some (.inl (.h0 (x0 + (1 : Int)) (S.mkl (List.length x1) fun j =>
 bif Nat.beq j (Int.toNat (tl (Int.toNat x0 + al))) then false else S.at' x1 j))))
 else (none))
 else (none))
 else (none))
 else (none))
 else (none))
 else (some (.inr (x1)))
noncomputable def p58 (aq nq mq : Nat) (tq : Nat → ByteArray) (vq gq : Nat → Int) (de : Int) (al nl ml : Nat) (tl : Nat → Int) : Option (St58 ⊕ Rt58) := bif (decide
 ((1 ≤ 1 ∧ 1 ≤ 1000) ∧ (0 : Int) ≤ (↑nq : Int) ∧ (↑nq : Int) ≤ (1000 : Int)))
 then (some (.inl (.h0 ((0 : Int)) (S.mkl (1 * nq) fun j => S.lit [true] false (j % 1)))))
 else (none)
noncomputable def Te58 (test : Bool → Prop → Prop → Prop) (Kst : KS) (Kret : KR) (aq nq mq : Nat) (tq : Nat → ByteArray) (vq gq : Nat → Int) (de : Int) (al nl ml : Nat) (tl : Nat → Int) : Prop :=
  test (decide
 ((1 ≤ 1 ∧ 1 ≤ 1000) ∧ (0 : Int) ≤ (↑nq : Int) ∧ (↑nq : Int) ≤ (1000 : Int)))
 (Kst (hd Try.f58 0) ([PV.own (5) (1)
 (List.length (S.mkl (1 * nq) fun j => S.lit [true] false (j % 1))),
 PV.loose (PA.mk (1) (1) al (0)) nl, PV.int IntKind.i64 (↑nl : Int),
 PV.int IntKind.i64 (0 : Int)]) ([[(1, false, Blk.cols ml [Col.int IntKind.i64 tl]),
 (0, false,
 Blk.cols mq [Col.str tq, Col.int IntKind.i64 vq, Col.int IntKind.i64 gq]),
 (5, true,
 Blk.cols
 (List.length (S.mkl (1 * nq) fun j => S.lit [true] false (j % 1)))
 [Col.bool fun j =>
 S.at'
 (S.mkl (1 * nq) fun j => S.lit [true] false (j % 1)) j])]]) (6))
 (False)
theorem te58 (test : Bool → Prop → Prop → Prop) (Kst : KS) (Kret : KR) (aq nq mq : Nat) (tq : Nat → ByteArray) (vq gq : Nat → Int) (de : Int) (al nl ml : Nat) (tl : Nat → Int) : run test Try.env true (xR test) true 400 ⟨58, [.cd (mkFn Try.f58).body], argT 0 [.agg [.loose ⟨0, 3, aq, 0⟩ nq, .int .i64 de], .loose ⟨1, 1, al, 0⟩ nl], [[], [(0, (false, .cols mq [.str tq, .int .i64 vq, .int .i64 gq])), (1, (false, .cols ml [.int .i64 tl]))]], 2⟩ (proj 2 [5, 13, 14, 15] Kst Kret) =
  Te58 test Kst Kret aq nq mq tq vq gq de al nl ml tl := by kernel_rfl
noncomputable def T58_0 (test : Bool → Prop → Prop → Prop) (Kst : KS) (Kret : KR) (aq nq mq : Nat) (tq : Nat → ByteArray) (vq gq : Nat → Int) (de : Int) (al nl ml : Nat) (tl : Nat → Int) (x0 : Int) (x1 : List Bool) : Prop :=
  test (decide (x0 < (↑nl : Int)))
 (test (decide ((0 : Int) ≤ x0 ∧ x0 < (↑nl : Int)))
 (test (decide (Int.toNat x0 + al < ml))
 (test (decide ((0 : Int) ≤ tl (Int.toNat x0 + al) ∧ tl (Int.toNat x0 + al) < (↑(List.length x1) : Int)))
 (test (decide (Int.toNat (tl (Int.toNat x0 + al)) < List.length x1))
 (test (lim IntKind.i64 (x0 + (1 : Int)))
 (Kst (hd Try.f58 0) ([PV.own (2) (1) (List.length x1),
 PV.loose (PA.mk (1) (1) al (0)) nl, PV.int IntKind.i64 (↑nl : Int),
 PV.int IntKind.i64 (x0 + (1 : Int))]) ([[(1, false, Blk.cols ml [Col.int IntKind.i64 tl]),
 (0, false,
 Blk.cols mq [Col.str tq, Col.int IntKind.i64 vq, Col.int IntKind.i64 gq]),
 (2, true,
 Blk.cols (List.length x1)
 [Col.bool fun j =>
 bif Nat.beq j (Int.toNat (tl (Int.toNat x0 + al))) then false else S.at' x1 j])]]) (3))
 (False))
 (False))
 (False))
 (False))
 (False))
 (Kret (PV.own (2) (1) (List.length x1)) ([[(1, false, Blk.cols ml [Col.int IntKind.i64 tl]),
 (0, false,
 Blk.cols mq [Col.str tq, Col.int IntKind.i64 vq, Col.int IntKind.i64 gq]),
 (2, true, Blk.cols (List.length x1) [Col.bool fun j => S.at' x1 j])]]) (3))
theorem t58_0 (test : Bool → Prop → Prop → Prop) (Kst : KS) (Kret : KR) (aq nq mq : Nat) (tq : Nat → ByteArray) (vq gq : Nat → Int) (de : Int) (al nl ml : Nat) (tl : Nat → Int) (x0 : Int) (x1 : List Bool) : run test Try.env true (xR test) true 400 ⟨58, hd Try.f58 0, zipT [5, 13, 14, 15] [PV.own (2) (1) (List.length x1),
 PV.loose (PA.mk (1) (1) al (0)) nl, PV.int IntKind.i64 (↑nl : Int),
 PV.int IntKind.i64 x0], [[(2, (true, Blk.cols (List.length x1) [Col.bool fun j => S.at' x1 j]))], [(0, (false, .cols mq [.str tq, .int .i64 vq, .int .i64 gq])), (1, (false, .cols ml [.int .i64 tl]))]], 3⟩ (proj 2 [5, 13, 14, 15] Kst Kret) =
  T58_0 test Kst Kret aq nq mq tq vq gq de al nl ml tl x0 x1 := by kernel_rfl
theorem be58 (aq nq mq : Nat) (tq : Nat → ByteArray) (vq gq : Nat → Int) (de : Int) (al nl ml : Nat) (tl : Nat → Int) (Kst : KS) (Kret : KR) (x : St58 ⊕ Rt58) (hS : HS 2 400 ((I58 aq nq mq tq vq gq de al nl ml tl)) Kst x) (hR : HR 2 400 ((V58 aq nq mq tq vq gq de al nl ml tl)) (fun r => [newL (2 + 1) ((N58 aq nq mq tq vq gq de al nl ml tl) r) ++ [(0, (false, .cols mq [.str tq, .int .i64 vq, .int .i64 gq])), (1, (false, .cols ml [.int .i64 tl]))]]) Kret x) (h : p58 aq nq mq tq vq gq de al nl ml tl = some x) : Te58 cond Kst Kret aq nq mq tq vq gq de al nl ml tl := by
  unfold Te58
  unfold p58 at h
  refine bif_split h
   (fun c0 h => stop_at hS _ h (fun n => bif Nat.beq n 2 then 5 else n) rfl rfl rfl ⟨(rn_own (use_own rfl) rfl rfl), ⟨(rn_loose (use_lo rfl) rfl rfl rfl), ⟨(rn_int rfl), ⟨(rn_int rfl), trivial⟩⟩⟩⟩ rfl (entl_new (use_own rfl) rfl (Nat.le_of_eq rfl) (rcs_bool (fun _ _ => rfl) rcs_nil) (entl_bor (use_lo rfl) rfl rfl (entl_bor (use_lo rfl) rfl rfl entl_nil))))
   (fun c0 h => no_some h)
theorem b58_0 (aq nq mq : Nat) (tq : Nat → ByteArray) (vq gq : Nat → Int) (de : Int) (al nl ml : Nat) (tl : Nat → Int) (Kst : KS) (Kret : KR) (x : St58 ⊕ Rt58) (hS : HS 2 400 ((I58 aq nq mq tq vq gq de al nl ml tl)) Kst x) (hR : HR 2 400 ((V58 aq nq mq tq vq gq de al nl ml tl)) (fun r => [newL (2 + 1) ((N58 aq nq mq tq vq gq de al nl ml tl) r) ++ [(0, (false, .cols mq [.str tq, .int .i64 vq, .int .i64 gq])), (1, (false, .cols ml [.int .i64 tl]))]]) Kret x) (x0 : Int) (x1 : List Bool) (h : (bif (decide (x0 < (↑nl : Int)))
 then (bif (decide ((0 : Int) ≤ x0 ∧ x0 < (↑nl : Int)))
 then (bif (decide (Int.toNat x0 + al < ml))
 then (bif (decide ((0 : Int) ≤ tl (Int.toNat x0 + al) ∧ tl (Int.toNat x0 + al) < (↑(List.length x1) : Int)))
 then (bif (decide (Int.toNat (tl (Int.toNat x0 + al)) < List.length x1))
 then (bif (lim IntKind.i64 (x0 + (1 : Int)))
 then (some (.inl (.h0 (x0 + (1 : Int)) (S.mkl (List.length x1) fun j =>
 bif Nat.beq j (Int.toNat (tl (Int.toNat x0 + al))) then false else S.at' x1 j))))
 else (none))
 else (none))
 else (none))
 else (none))
 else (none))
 else (some (.inr (x1))) : Option (St58 ⊕ Rt58)) = some x) : T58_0 cond Kst Kret aq nq mq tq vq gq de al nl ml tl x0 x1 := by
  unfold T58_0
  exact bif_split h
   (fun c0 h => bif_split h
   (fun c1 h => bif_split h
   (fun c2 h => bif_split h
   (fun c3 h => bif_split h
   (fun c4 h => bif_split h
   (fun c5 h => stop_at hS _ h (fun n => bif Nat.beq n 2 then 2 else n) rfl rfl rfl ⟨(rn_own (use_own rfl) rfl mkl_len), ⟨(rn_loose (use_lo rfl) rfl rfl rfl), ⟨(rn_int rfl), ⟨(rn_int rfl), trivial⟩⟩⟩⟩ rfl (entl_new (use_own rfl) rfl (Nat.le_of_eq mkl_len) (rcs_bool (fun _ hj => col_mkl (fun (t : Bool) => t) hj) rcs_nil) (entl_bor (use_lo rfl) rfl rfl (entl_bor (use_lo rfl) rfl rfl entl_nil))))
   (fun c5 h => no_some h))
   (fun c4 h => no_some h))
   (fun c3 h => no_some h))
   (fun c2 h => no_some h))
   (fun c1 h => no_some h))
   (fun c0 h => ret_at hR _ h (fun n => bif Nat.beq n 3 then 2 else n) rfl rfl rfl (rn_own (use_own rfl) rfl rfl) rfl (entl_new (use_own rfl) rfl (Nat.le_of_eq rfl) (rcs_bool (fun _ _ => rfl) rcs_nil) (entl_bor (use_lo rfl) rfl rfl (entl_bor (use_lo rfl) rfl rfl entl_nil))))
theorem a58 (aq nq mq : Nat) (tq : Nat → ByteArray) (vq gq : Nat → Int) (de : Int) (al nl ml : Nat) (tl : Nat → Int) {r : Rt58} (h : Goes ((q58 aq nq mq tq vq gq de al nl ml tl)) ((p58 aq nq mq tq vq gq de al nl ml tl)) r) : CallR Try.prog 58 [.agg [.loose ⟨0, 3, aq, 0⟩ nq, .int .i64 de], .loose ⟨1, 1, al, 0⟩ nl] [[(0, (false, .cols mq [.str tq, .int .i64 vq, .int .i64 gq])), (1, (false, .cols ml [.int .i64 tl]))]] 2 ((V58 aq nq mq tq vq gq de al nl ml tl) r) ((fun r => [newL (2 + 1) ((N58 aq nq mq tq vq gq de al nl ml tl) r) ++ [(0, (false, .cols mq [.str tq, .int .i64 vq, .int .i64 gq])), (1, (false, .cols ml [.int .i64 tl]))]]) r) 400 ∧ ∃ F, Try.prog.funcs[58]? = some F ∧ F.body.isSome = true ∧ (F.name == "runtime.NumGoroutine") = false := by
  refine dec_calls (f := 58) (lo := 2) (hi := 400) (H := [[(0, (false, .cols mq [.str tq, .int .i64 vq, .int .i64 gq])), (1, (false, .cols ml [.int .i64 tl]))]]) (args := [.agg [.loose ⟨0, 3, aq, 0⟩ nq, .int .i64 de], .loose ⟨1, 1, al, 0⟩ nl]) Try.envOk Try.mixed xR_ok ((I58 aq nq mq tq vq gq de al nl ml tl)) ((V58 aq nq mq tq vq gq de al nl ml tl)) (fun r => [newL (2 + 1) ((N58 aq nq mq tq vq gq de al nl ml tl) r) ++ [(0, (false, .cols mq [.str tq, .int .i64 vq, .int .i64 gq])), (1, (false, .cols ml [.int .i64 tl]))]]) (fn := mkFn Try.f58) (ts := [5, 13, 14, 15]) (n := 400) rfl (by decide) (by simp) (names_of rfl) ?_ ?_ ?_ h
  · intro s; cases s <;> exact ⟨hd_ok _ _, by simp [I58], names_of rfl, Nat.le_of_ble_eq_true rfl⟩
  · intro Kst Kret x hS hR h
    exact Holds.eq (te58 cond Kst Kret aq nq mq tq vq gq de al nl ml tl) (be58 aq nq mq tq vq gq de al nl ml tl Kst Kret x hS hR h)
  · intro Kst Kret x hS hR s h
    cases s with
    | h0 x0 x1 => exact Holds.eq (t58_0 cond Kst Kret aq nq mq tq vq gq de al nl ml tl x0 x1) (b58_0 aq nq mq tq vq gq de al nl ml tl Kst Kret x hS hR x0 x1 h)
noncomputable def k58  : Con := ⟨58, [.agg [.list [.str, .int .i64, .int .i64], .plain (.int .i64)], .one (.list [.int .i64])], fun (x : ((Nat × Nat × Nat × (Nat → ByteArray) × (Nat → Int) × (Nat → Int) × Unit) × Int × Unit) × (Nat × Nat × Nat × (Nat → Int) × Unit) × Unit) => (fun (aq nq mq : Nat) (tq : Nat → ByteArray) (vq : Nat → Int) (gq : Nat → Int) (de : Int) (al nl ml : Nat) (tl : Nat → Int) => decide (al + nl ≤ ml ∧ nl ≤ 1000000 ∧ nq ≤ 1000 ∧ S.all (fun j => decide (0 ≤ tl (j + al) ∧ tl (j + al) < (nq : Int))) nl = true)) x.1.1.1 x.1.1.2.1 x.1.1.2.2.1 x.1.1.2.2.2.1 x.1.1.2.2.2.2.1 x.1.1.2.2.2.2.2.1 x.1.2.1 x.2.1.1 x.2.1.2.1 x.2.1.2.2.1 x.2.1.2.2.2.1, fun (x : ((Nat × Nat × Nat × (Nat → ByteArray) × (Nat → Int) × (Nat → Int) × Unit) × Int × Unit) × (Nat × Nat × Nat × (Nat → Int) × Unit) × Unit) => (fun (aq nq mq : Nat) (tq : Nat → ByteArray) (vq : Nat → Int) (gq : Nat → Int) (de : Int) (al nl ml : Nat) (tl : Nat → Int) => (V58 aq nq mq tq vq gq de al nl ml tl) (S.mkl nq (fun r => !S.any (fun j => decide (tl (j + al) = (r : Int))) nl))) x.1.1.1 x.1.1.2.1 x.1.1.2.2.1 x.1.1.2.2.2.1 x.1.1.2.2.2.2.1 x.1.1.2.2.2.2.2.1 x.1.2.1 x.2.1.1 x.2.1.2.1 x.2.1.2.2.1 x.2.1.2.2.2.1, fun (x : ((Nat × Nat × Nat × (Nat → ByteArray) × (Nat → Int) × (Nat → Int) × Unit) × Int × Unit) × (Nat × Nat × Nat × (Nat → Int) × Unit) × Unit) => (fun (aq nq mq : Nat) (tq : Nat → ByteArray) (vq : Nat → Int) (gq : Nat → Int) (de : Int) (al nl ml : Nat) (tl : Nat → Int) => (N58 aq nq mq tq vq gq de al nl ml tl) (S.mkl nq (fun r => !S.any (fun j => decide (tl (j + al) = (r : Int))) nl))) x.1.1.1 x.1.1.2.1 x.1.1.2.2.1 x.1.1.2.2.2.1 x.1.1.2.2.2.2.1 x.1.1.2.2.2.2.2.1 x.1.2.1 x.2.1.1 x.2.1.2.1 x.2.1.2.2.1 x.2.1.2.2.2.1, fun _ _ => .dead⟩
theorem s58' (aq nq mq : Nat) (tq : Nat → ByteArray) (vq gq : Nat → Int) (de : Int) (al nl ml : Nat) (tl : Nat → Int) (hp : al + nl ≤ ml ∧ nl ≤ 1000000 ∧ nq ≤ 1000 ∧ S.all (fun j => decide (0 ≤ tl (j + al) ∧ tl (j + al) < (nq : Int))) nl = true) : ∀ (k i : Nat) (L : List Bool), i + k = nl → Holds (L = S.mkl nq (fun r => !S.any (fun j => decide (tl (j + al) = (r : Int))) i)) → Comes (q58 aq nq mq tq vq gq de al nl ml tl) (.h0 (i : Int) L) (S.mkl nq (fun r => !S.any (fun j => decide (tl (j + al) = (r : Int))) nl)) := by
  obtain ⟨hp1, hp2, hp3, hp4⟩ := hp
  intro k
  induction k with
  | zero =>
    intro i L hi eL
    obtain rfl : nl = i := by omega
    apply Comes.of
    show Goes _ _ _
    (first | rw [q58] | unfold q58)
    repeat' first
      | with_reducible refine goes_if (fun h => ?_) (fun h => ?_) <;> (try simp only [SH] at h)
      | exact goes_none.mpr (by omega)
    all_goals first | (exfalso; omega) | exact goes_inr.mpr eL.get
  | succ k ih =>
    intro i L hi eL
    have hL : L.length = nq := by rw [eL.get, mkl_len]
    have ht := of_decide_eq_true (all_iff.mp hp4 i (by omega))
    have ih := ih (i + 1) (S.mkl L.length fun j => bif Nat.beq j (Int.toNat (tl (i + al))) then false else S.at' L j) (by omega) ⟨by
      rw [hL]
      refine mkl_congr fun j hj => ?_
      rw [any_succ, eL.get, at_mkl hj]
      by_cases h : j = (tl (i + al)).toNat
      · rw [h, Nat.beq_refl, cond_true, decide_eq_true (show tl (i + al) = (((tl (i + al)).toNat : Nat) : Int) by omega), Bool.or_true, Bool.not_true]
      · rw [nbeq_no h, cond_false, decide_eq_false (show ¬ tl (i + al) = (j : Int) by omega), Bool.or_false]⟩
    apply Comes.of
    show Goes _ _ _
    (first | rw [q58] | unfold q58)
    try simp only [Int.toNat_natCast]
    try show Goes _ _ _
    repeat' first
      | with_reducible refine goes_if (fun h => ?_) (fun h => ?_) <;> (try simp only [SH] at h)
      | exact goes_none.mpr (by omega)
    all_goals first | (exfalso; omega) | exact ih
theorem s58 (aq nq mq : Nat) (tq : Nat → ByteArray) (vq gq : Nat → Int) (de : Int) (al nl ml : Nat) (tl : Nat → Int) (hp : al + nl ≤ ml ∧ nl ≤ 1000000 ∧ nq ≤ 1000 ∧ S.all (fun j => decide (0 ≤ tl (j + al) ∧ tl (j + al) < (nq : Int))) nl = true) : Goes ((q58 aq nq mq tq vq gq de al nl ml tl)) ((p58 aq nq mq tq vq gq de al nl ml tl)) (S.mkl nq (fun r => !S.any (fun j => decide (tl (j + al) = (r : Int))) nl)) := by
  have hm := s58' aq nq mq tq vq gq de al nl ml tl hp nl 0 _ (Nat.zero_add _) ⟨(show S.mkl (1 * nq) (fun j => S.lit [true] false (j % 1)) = S.mkl nq (fun r => !S.any (fun j => decide (tl (j + al) = (r : Int))) 0) by
    rw [Nat.one_mul]
    refine mkl_congr fun j hj => ?_
    rw [Nat.mod_one]; rfl)⟩
  obtain ⟨hp1, hp2, hp3, hp4⟩ := hp
  show Goes _ _ _
  unfold p58
  repeat' first
    | with_reducible refine goes_if (fun h => ?_) (fun h => ?_) <;> (try simp only [SH] at h)
    | exact goes_none.mpr (by omega)
  all_goals first | (exfalso; omega) | exact hm
theorem k58_ok  : k58.ok Try.prog := by
  intro x hx
  obtain ⟨⟨⟨aq, nq, mq, tq, vq, gq, _⟩, de, _⟩, ⟨al, nl, ml, tl, _⟩, _⟩ := x
  obtain ⟨h1, h2⟩ := a58 aq nq mq tq vq gq de al nl ml tl (s58 aq nq mq tq vq gq de al nl ml tl (of_dec hx rfl))
  exact ⟨⟨400, (by decide : 2 + 1 + 1 ≤ 400), h1⟩, h2⟩
inductive St69 where
  | h0 (x0 : Int) (x1 : Int) (x2 : Int)
abbrev Rt69  := Int × Int
noncomputable def V69 (aq nq mq : Nat) (tq : Nat → ByteArray) (vq gq : Nat → Int) (de st : Int) (r : Rt69) : PV := PV.tup [PV.int IntKind.i64 r.1, PV.int IntKind.i64 r.2]
noncomputable def N69 (aq nq mq : Nat) (tq : Nat → ByteArray) (vq gq : Nat → Int) (de st : Int) (r : Rt69) : List Blk := []
noncomputable def I69 (aq nq mq : Nat) (tq : Nat → ByteArray) (vq gq : Nat → Int) (de st : Int) : St69 → Hd
  | .h0 x0 x1 x2 => ⟨hd Try.f69 0, [PV.int IntKind.i64 st, PV.int IntKind.i64 x0, PV.int IntKind.i64 x1,
 PV.loose (PA.mk (0) (3) aq (0)) nq, PV.int IntKind.i64 (↑nq : Int),
 PV.int IntKind.i64 x2], [[], [(0, (false, .cols mq [.str tq, .int .i64 vq, .int .i64 gq]))]], 1⟩
noncomputable def q69 (aq nq mq : Nat) (tq : Nat → ByteArray) (vq gq : Nat → Int) (de st : Int) : St69 → Option (St69 ⊕ Rt69)
  | .h0 x0 x1 x2 => bif (decide (x2 < (↑nq : Int)))
 then (bif (decide ((0 : Int) ≤ x2 ∧ x2 < (↑nq : Int)))
 then (bif (decide (Int.toNat x2 + aq < mq))
 then (bif (decide (x2 ≥ st))
 then (bif (lim IntKind.i64 (vq (Int.toNat x2 + aq) + gq (Int.toNat x2 + aq)))
 then (bif (lim IntKind.i64 (x0 + (vq (Int.toNat x2 + aq) + gq (Int.toNat x2 + aq))))
 then (bif (st == (0 : Int))
 then (bif (lim IntKind.i64 (x1 + (vq (Int.toNat x2 + aq) + gq (Int.toNat x2 + aq))))
 then (bif (lim IntKind.i64 (x2 + (1 : Int)))
 then (some (.inl (.h0 (x0 + (vq (Int.toNat x2 + aq) + gq (Int.toNat x2 + aq))) (x1 + (vq (Int.toNat x2 + aq) + gq (Int.toNat x2 + aq))) (x2 + (1 : Int)))))
 else (none))
 else (none))
 else (bif (x2 == (0 : Int))
 then (bif (lim IntKind.i64 (x1 + gq (Int.toNat x2 + aq)))
 then (bif (lim IntKind.i64 (x2 + (1 : Int)))
 then (some (.inl (.h0 (x0 + (vq (Int.toNat x2 + aq) + gq (Int.toNat x2 + aq))) (x1 + gq (Int.toNat x2 + aq)) (x2 + (1 : Int)))))
 else (none))
 else (none))
 else (bif (decide (x2 < st))
 then (bif (lim IntKind.i64 (x1 + (vq (Int.toNat x2 + aq) + gq (Int.toNat x2 + aq))))
 then (bif (lim IntKind.i64 (x2 + (1 : Int)))
 then (some (.inl (.h0 (x0 + (vq (Int.toNat x2 + aq) + gq (Int.toNat x2 + aq))) (x1 + (vq (Int.toNat x2 + aq) + gq (Int.toNat x2 + aq))) (x2 + (1 : Int)))))
 else (none))
 else (none))
 else (bif (x2 == st)
 then (bif (lim IntKind.i64 (x1 + vq (Int.toNat x2 + aq)))
 then (bif (lim IntKind.i64 (x2 + (1 : Int)))
 then (some (.inl (.h0 (x0 + (vq (Int.toNat x2 + aq) + gq (Int.toNat x2 + aq))) (x1 + vq (Int.toNat x2 + aq)) (x2 + (1 : Int)))))
 else (none))
 else (none))
 else (bif (lim IntKind.i64 (x2 + (1 : Int)))
 then (some (.inl (.h0 (x0 + (vq (Int.toNat x2 + aq) + gq (Int.toNat x2 + aq))) (x1) (x2 + (1 : Int)))))
 else (none))))))
 else (none))
 else (none))
 else (bif (st == (0 : Int))
 then (bif (lim IntKind.i64 (vq (Int.toNat x2 + aq) + gq (Int.toNat x2 + aq)))
 then (bif (lim IntKind.i64 (x1 + (vq (Int.toNat x2 + aq) + gq (Int.toNat x2 + aq))))
 then (bif (lim IntKind.i64 (x2 + (1 : Int)))
 then (some (.inl (.h0 (x0) (x1 + (vq (Int.toNat x2 + aq) + gq (Int.toNat x2 + aq))) (x2 + (1 : Int)))))
 else (none))
 else (none))
 else (none))
 else (bif (x2 == (0 : Int))
 then (bif (lim IntKind.i64 (x1 + gq (Int.toNat x2 + aq)))
 then (bif (lim IntKind.i64 (x2 + (1 : Int)))
 then (some (.inl (.h0 (x0) (x1 + gq (Int.toNat x2 + aq)) (x2 + (1 : Int)))))
 else (none))
 else (none))
 else (bif (decide (x2 < st))
 then (bif (lim IntKind.i64 (vq (Int.toNat x2 + aq) + gq (Int.toNat x2 + aq)))
 then (bif (lim IntKind.i64 (x1 + (vq (Int.toNat x2 + aq) + gq (Int.toNat x2 + aq))))
 then (bif (lim IntKind.i64 (x2 + (1 : Int)))
 then (some (.inl (.h0 (x0) (x1 + (vq (Int.toNat x2 + aq) + gq (Int.toNat x2 + aq))) (x2 + (1 : Int)))))
 else (none))
 else (none))
 else (none))
 else (bif (x2 == st)
 then (bif (lim IntKind.i64 (x1 + vq (Int.toNat x2 + aq)))
 then (bif (lim IntKind.i64 (x2 + (1 : Int)))
 then (some (.inl (.h0 (x0) (x1 + vq (Int.toNat x2 + aq)) (x2 + (1 : Int)))))
 else (none))
 else (none))
 else (bif (lim IntKind.i64 (x2 + (1 : Int)))
 then (some (.inl (.h0 (x0) (x1) (x2 + (1 : Int)))))
 else (none)))))))
 else (none))
 else (none))
 else (some (.inr (x0, x1)))
noncomputable def p69 (aq nq mq : Nat) (tq : Nat → ByteArray) (vq gq : Nat → Int) (de st : Int) : Option (St69 ⊕ Rt69) := some (.inl (.h0 (de) (de) ((0 : Int))))
noncomputable def Te69 (test : Bool → Prop → Prop → Prop) (Kst : KS) (Kret : KR) (aq nq mq : Nat) (tq : Nat → ByteArray) (vq gq : Nat → Int) (de st : Int) : Prop :=
  Kst (hd Try.f69 0) ([PV.int IntKind.i64 st, PV.int IntKind.i64 de, PV.int IntKind.i64 de,
 PV.loose (PA.mk (0) (3) aq (0)) nq, PV.int IntKind.i64 (↑nq : Int),
 PV.int IntKind.i64 (0 : Int)]) ([[(0, false,
 Blk.cols mq [Col.str tq, Col.int IntKind.i64 vq, Col.int IntKind.i64 gq])]]) (2)
theorem te69 (test : Bool → Prop → Prop → Prop) (Kst : KS) (Kret : KR) (aq nq mq : Nat) (tq : Nat → ByteArray) (vq gq : Nat → Int) (de st : Int) : run test Try.env true noX true 400 ⟨69, [.cd (mkFn Try.f69).body], argT 0 [.agg [.loose ⟨0, 3, aq, 0⟩ nq, .int .i64 de], .int .i64 st], [[], [(0, (false, .cols mq [.str tq, .int .i64 vq, .int .i64 gq]))]], 1⟩ (proj 1 [1, 6, 7, 15, 16, 17] Kst Kret) =
  Te69 test Kst Kret aq nq mq tq vq gq de st := by kernel_rfl
noncomputable def T69_0 (test : Bool → Prop → Prop → Prop) (Kst : KS) (Kret : KR) (aq nq mq : Nat) (tq : Nat → ByteArray) (vq gq : Nat → Int) (de st x0 x1 x2 : Int) : Prop :=
  test (decide (x2 < (↑nq : Int)))
 (test (decide ((0 : Int) ≤ x2 ∧ x2 < (↑nq : Int)))
 (test (decide (Int.toNat x2 + aq < mq))
 (test (decide (Int.toNat x2 + aq < mq))
 (test (decide (Int.toNat x2 + aq < mq))
 (test (decide (x2 ≥ st))
 (test (lim IntKind.i64 (vq (Int.toNat x2 + aq) + gq (Int.toNat x2 + aq)))
 (test (lim IntKind.i64 (x0 + (vq (Int.toNat x2 + aq) + gq (Int.toNat x2 + aq))))
 (test (st == (0 : Int))
 (test (lim IntKind.i64 (vq (Int.toNat x2 + aq) + gq (Int.toNat x2 + aq)))
 (test (lim IntKind.i64 (x1 + (vq (Int.toNat x2 + aq) + gq (Int.toNat x2 + aq))))
 (test (lim IntKind.i64 (x2 + (1 : Int)))
 (Kst (hd Try.f69 0) ([PV.int IntKind.i64 st, PV.int IntKind.i64 (x0 + (vq (Int.toNat x2 + aq) + gq (Int.toNat x2 + aq))),
 PV.int IntKind.i64 (x1 + (vq (Int.toNat x2 + aq) + gq (Int.toNat x2 + aq))),
 PV.loose (PA.mk (0) (3) aq (0)) nq, PV.int IntKind.i64 (↑nq : Int),
 PV.int IntKind.i64 (x2 + (1 : Int))]) ([[(0, false,
 Blk.cols mq [Col.str tq, Col.int IntKind.i64 vq, Col.int IntKind.i64 gq])]]) (2))
 (False))
 (False))
 (False))
 (test (x2 == (0 : Int))
 (test (lim IntKind.i64 (x1 + gq (Int.toNat x2 + aq)))
 (test (lim IntKind.i64 (x2 + (1 : Int)))
 (Kst (hd Try.f69 0) ([PV.int IntKind.i64 st, PV.int IntKind.i64 (x0 + (vq (Int.toNat x2 + aq) + gq (Int.toNat x2 + aq))),
 PV.int IntKind.i64 (x1 + gq (Int.toNat x2 + aq)),
 PV.loose (PA.mk (0) (3) aq (0)) nq, PV.int IntKind.i64 (↑nq : Int),
 PV.int IntKind.i64 (x2 + (1 : Int))]) ([[(0, false,
 Blk.cols mq [Col.str tq, Col.int IntKind.i64 vq, Col.int IntKind.i64 gq])]]) (2))
 (False))
 (False))
 (test (decide (x2 < st))
 (test (lim IntKind.i64 (vq (Int.toNat x2 + aq) + gq (Int.toNat x2 + aq)))
 (test (lim IntKind.i64 (x1 + (vq (Int.toNat x2 + aq) + gq (Int.toNat x2 + aq))))
 (test (lim IntKind.i64 (x2 + (1 : Int)))
 (Kst (hd Try.f69 0) ([PV.int IntKind.i64 st, PV.int IntKind.i64 (x0 + (vq (Int.toNat x2 + aq) + gq (Int.toNat x2 + aq))),
 PV.int IntKind.i64 (x1 + (vq (Int.toNat x2 + aq) + gq (Int.toNat x2 + aq))),
 PV.loose (PA.mk (0) (3) aq (0)) nq, PV.int IntKind.i64 (↑nq : Int),
 PV.int IntKind.i64 (x2 + (1 : Int))]) ([[(0, false,
 Blk.cols mq [Col.str tq, Col.int IntKind.i64 vq, Col.int IntKind.i64 gq])]]) (2))
 (False))
 (False))
 (False))
 (test (x2 == st)
 (test (lim IntKind.i64 (x1 + vq (Int.toNat x2 + aq)))
 (test (lim IntKind.i64 (x2 + (1 : Int)))
 (Kst (hd Try.f69 0) ([PV.int IntKind.i64 st, PV.int IntKind.i64 (x0 + (vq (Int.toNat x2 + aq) + gq (Int.toNat x2 + aq))),
 PV.int IntKind.i64 (x1 + vq (Int.toNat x2 + aq)),
 PV.loose (PA.mk (0) (3) aq (0)) nq, PV.int IntKind.i64 (↑nq : Int),
 PV.int IntKind.i64 (x2 + (1 : Int))]) ([[(0, false,
 Blk.cols mq [Col.str tq, Col.int IntKind.i64 vq, Col.int IntKind.i64 gq])]]) (2))
 (False))
 (False))
 (test (lim IntKind.i64 (x2 + (1 : Int)))
 (Kst (hd Try.f69 0) ([PV.int IntKind.i64 st, PV.int IntKind.i64 (x0 + (vq (Int.toNat x2 + aq) + gq (Int.toNat x2 + aq))),
 PV.int IntKind.i64 x1, PV.loose (PA.mk (0) (3) aq (0)) nq,
 PV.int IntKind.i64 (↑nq : Int), PV.int IntKind.i64 (x2 + (1 : Int))]) ([[(0, false,
 Blk.cols mq [Col.str tq, Col.int IntKind.i64 vq, Col.int IntKind.i64 gq])]]) (2))
 (False))))))
 (False))
 (False))
 (test (st == (0 : Int))
 (test (lim IntKind.i64 (vq (Int.toNat x2 + aq) + gq (Int.toNat x2 + aq)))
 (test (lim IntKind.i64 (x1 + (vq (Int.toNat x2 + aq) + gq (Int.toNat x2 + aq))))
 (test (lim IntKind.i64 (x2 + (1 : Int)))
 (Kst (hd Try.f69 0) ([PV.int IntKind.i64 st, PV.int IntKind.i64 x0,
 PV.int IntKind.i64 (x1 + (vq (Int.toNat x2 + aq) + gq (Int.toNat x2 + aq))),
 PV.loose (PA.mk (0) (3) aq (0)) nq, PV.int IntKind.i64 (↑nq : Int),
 PV.int IntKind.i64 (x2 + (1 : Int))]) ([[(0, false,
 Blk.cols mq [Col.str tq, Col.int IntKind.i64 vq, Col.int IntKind.i64 gq])]]) (2))
 (False))
 (False))
 (False))
 (test (x2 == (0 : Int))
 (test (lim IntKind.i64 (x1 + gq (Int.toNat x2 + aq)))
 (test (lim IntKind.i64 (x2 + (1 : Int)))
 (Kst (hd Try.f69 0) ([PV.int IntKind.i64 st, PV.int IntKind.i64 x0,
 PV.int IntKind.i64 (x1 + gq (Int.toNat x2 + aq)),
 PV.loose (PA.mk (0) (3) aq (0)) nq, PV.int IntKind.i64 (↑nq : Int),
 PV.int IntKind.i64 (x2 + (1 : Int))]) ([[(0, false,
 Blk.cols mq [Col.str tq, Col.int IntKind.i64 vq, Col.int IntKind.i64 gq])]]) (2))
 (False))
 (False))
 (test (decide (x2 < st))
 (test (lim IntKind.i64 (vq (Int.toNat x2 + aq) + gq (Int.toNat x2 + aq)))
 (test (lim IntKind.i64 (x1 + (vq (Int.toNat x2 + aq) + gq (Int.toNat x2 + aq))))
 (test (lim IntKind.i64 (x2 + (1 : Int)))
 (Kst (hd Try.f69 0) ([PV.int IntKind.i64 st, PV.int IntKind.i64 x0,
 PV.int IntKind.i64 (x1 + (vq (Int.toNat x2 + aq) + gq (Int.toNat x2 + aq))),
 PV.loose (PA.mk (0) (3) aq (0)) nq, PV.int IntKind.i64 (↑nq : Int),
 PV.int IntKind.i64 (x2 + (1 : Int))]) ([[(0, false,
 Blk.cols mq [Col.str tq, Col.int IntKind.i64 vq, Col.int IntKind.i64 gq])]]) (2))
 (False))
 (False))
 (False))
 (test (x2 == st)
 (test (lim IntKind.i64 (x1 + vq (Int.toNat x2 + aq)))
 (test (lim IntKind.i64 (x2 + (1 : Int)))
 (Kst (hd Try.f69 0) ([PV.int IntKind.i64 st, PV.int IntKind.i64 x0,
 PV.int IntKind.i64 (x1 + vq (Int.toNat x2 + aq)),
 PV.loose (PA.mk (0) (3) aq (0)) nq, PV.int IntKind.i64 (↑nq : Int),
 PV.int IntKind.i64 (x2 + (1 : Int))]) ([[(0, false,
 Blk.cols mq [Col.str tq, Col.int IntKind.i64 vq, Col.int IntKind.i64 gq])]]) (2))
 (False))
 (False))
 (test (lim IntKind.i64 (x2 + (1 : Int)))
 (Kst (hd Try.f69 0) ([PV.int IntKind.i64 st, PV.int IntKind.i64 x0, PV.int IntKind.i64 x1,
 PV.loose (PA.mk (0) (3) aq (0)) nq, PV.int IntKind.i64 (↑nq : Int),
 PV.int IntKind.i64 (x2 + (1 : Int))]) ([[(0, false,
 Blk.cols mq [Col.str tq, Col.int IntKind.i64 vq, Col.int IntKind.i64 gq])]]) (2))
 (False)))))))
 (False))
 (False))
 (False))
 (False))
 (Kret (PV.tup [PV.int IntKind.i64 x0, PV.int IntKind.i64 x1]) ([[(0, false,
 Blk.cols mq [Col.str tq, Col.int IntKind.i64 vq, Col.int IntKind.i64 gq])]]) (1))
theorem t69_0 (test : Bool → Prop → Prop → Prop) (Kst : KS) (Kret : KR) (aq nq mq : Nat) (tq : Nat → ByteArray) (vq gq : Nat → Int) (de st x0 x1 x2 : Int) : run test Try.env true noX true 400 ⟨69, hd Try.f69 0, zipT [1, 6, 7, 15, 16, 17] [PV.int IntKind.i64 st, PV.int IntKind.i64 x0, PV.int IntKind.i64 x1,
 PV.loose (PA.mk (0) (3) aq (0)) nq, PV.int IntKind.i64 (↑nq : Int),
 PV.int IntKind.i64 x2], [[], [(0, (false, .cols mq [.str tq, .int .i64 vq, .int .i64 gq]))]], 1⟩ (proj 1 [1, 6, 7, 15, 16, 17] Kst Kret) =
  T69_0 test Kst Kret aq nq mq tq vq gq de st x0 x1 x2 := by kernel_rfl
theorem be69 (aq nq mq : Nat) (tq : Nat → ByteArray) (vq gq : Nat → Int) (de st : Int) (Kst : KS) (Kret : KR) (x : St69 ⊕ Rt69) (hS : HS 1 400 ((I69 aq nq mq tq vq gq de st)) Kst x) (hR : HR 1 400 ((V69 aq nq mq tq vq gq de st)) (fun r => [newL (1 + 1) ((N69 aq nq mq tq vq gq de st) r) ++ [(0, (false, .cols mq [.str tq, .int .i64 vq, .int .i64 gq]))]]) Kret x) (h : (some (.inl (.h0 (de) (de) ((0 : Int)))) : Option (St69 ⊕ Rt69)) = some x) : Te69 cond Kst Kret aq nq mq tq vq gq de st := by
  unfold Te69
  exact stop_at hS _ h (fun n => n) rfl rfl rfl ⟨(rn_int rfl), ⟨(rn_int rfl), ⟨(rn_int rfl), ⟨(rn_loose (use_lo rfl) rfl rfl rfl), ⟨(rn_int rfl), ⟨(rn_int rfl), trivial⟩⟩⟩⟩⟩⟩ rfl (entl_bor (use_lo rfl) rfl rfl entl_nil)
theorem b69_0 (aq nq mq : Nat) (tq : Nat → ByteArray) (vq gq : Nat → Int) (de st : Int) (Kst : KS) (Kret : KR) (x : St69 ⊕ Rt69) (hS : HS 1 400 ((I69 aq nq mq tq vq gq de st)) Kst x) (hR : HR 1 400 ((V69 aq nq mq tq vq gq de st)) (fun r => [newL (1 + 1) ((N69 aq nq mq tq vq gq de st) r) ++ [(0, (false, .cols mq [.str tq, .int .i64 vq, .int .i64 gq]))]]) Kret x) (x0 x1 x2 : Int) (h : (bif (decide (x2 < (↑nq : Int)))
 then (bif (decide ((0 : Int) ≤ x2 ∧ x2 < (↑nq : Int)))
 then (bif (decide (Int.toNat x2 + aq < mq))
 then (bif (decide (x2 ≥ st))
 then (bif (lim IntKind.i64 (vq (Int.toNat x2 + aq) + gq (Int.toNat x2 + aq)))
 then (bif (lim IntKind.i64 (x0 + (vq (Int.toNat x2 + aq) + gq (Int.toNat x2 + aq))))
 then (bif (st == (0 : Int))
 then (bif (lim IntKind.i64 (x1 + (vq (Int.toNat x2 + aq) + gq (Int.toNat x2 + aq))))
 then (bif (lim IntKind.i64 (x2 + (1 : Int)))
 then (some (.inl (.h0 (x0 + (vq (Int.toNat x2 + aq) + gq (Int.toNat x2 + aq))) (x1 + (vq (Int.toNat x2 + aq) + gq (Int.toNat x2 + aq))) (x2 + (1 : Int)))))
 else (none))
 else (none))
 else (bif (x2 == (0 : Int))
 then (bif (lim IntKind.i64 (x1 + gq (Int.toNat x2 + aq)))
 then (bif (lim IntKind.i64 (x2 + (1 : Int)))
 then (some (.inl (.h0 (x0 + (vq (Int.toNat x2 + aq) + gq (Int.toNat x2 + aq))) (x1 + gq (Int.toNat x2 + aq)) (x2 + (1 : Int)))))
 else (none))
 else (none))
 else (bif (decide (x2 < st))
 then (bif (lim IntKind.i64 (x1 + (vq (Int.toNat x2 + aq) + gq (Int.toNat x2 + aq))))
 then (bif (lim IntKind.i64 (x2 + (1 : Int)))
 then (some (.inl (.h0 (x0 + (vq (Int.toNat x2 + aq) + gq (Int.toNat x2 + aq))) (x1 + (vq (Int.toNat x2 + aq) + gq (Int.toNat x2 + aq))) (x2 + (1 : Int)))))
 else (none))
 else (none))
 else (bif (x2 == st)
 then (bif (lim IntKind.i64 (x1 + vq (Int.toNat x2 + aq)))
 then (bif (lim IntKind.i64 (x2 + (1 : Int)))
 then (some (.inl (.h0 (x0 + (vq (Int.toNat x2 + aq) + gq (Int.toNat x2 + aq))) (x1 + vq (Int.toNat x2 + aq)) (x2 + (1 : Int)))))
 else (none))
 else (none))
 else (bif (lim IntKind.i64 (x2 + (1 : Int)))
 then (some (.inl (.h0 (x0 + (vq (Int.toNat x2 + aq) + gq (Int.toNat x2 + aq))) (x1) (x2 + (1 : Int)))))
 else (none))))))
 else (none))
 else (none))
 else (bif (st == (0 : Int))
 then (bif (lim IntKind.i64 (vq (Int.toNat x2 + aq) + gq (Int.toNat x2 + aq)))
 then (bif (lim IntKind.i64 (x1 + (vq (Int.toNat x2 + aq) + gq (Int.toNat x2 + aq))))
 then (bif (lim IntKind.i64 (x2 + (1 : Int)))
 then (some (.inl (.h0 (x0) (x1 + (vq (Int.toNat x2 + aq) + gq (Int.toNat x2 + aq))) (x2 + (1 : Int)))))
 else (none))
 else (none))
 else (none))
 else (bif (x2 == (0 : Int))
 then (bif (lim IntKind.i64 (x1 + gq (Int.toNat x2 + aq)))
 then (bif (lim IntKind.i64 (x2 + (1 : Int)))
 then (some (.inl (.h0 (x0) (x1 + gq (Int.toNat x2 + aq)) (x2 + (1 : Int)))))
 else (none))
 else (none))
 else (bif (decide (x2 < st))
 then (bif (lim IntKind.i64 (vq (Int.toNat x2 + aq) + gq (Int.toNat x2 + aq)))
 then (bif (lim IntKind.i64 (x1 + (vq (Int.toNat x2 + aq) + gq (Int.toNat x2 + aq))))
 then (bif (lim IntKind.i64 (x2 + (1 : Int)))
 then (some (.inl (.h0 (x0) (x1 + (vq (Int.toNat x2 + aq) + gq (Int.toNat x2 + aq))) (x2 + (1 : Int)))))
 else (none))
 else (none))
 else (none))
 else (bif (x2 == st)
 then (bif (lim IntKind.i64 (x1 + vq (Int.toNat x2 + aq)))
 then (bif (lim IntKind.i64 (x2 + (1 : Int)))
 then (some (.inl (.h0 (x0) (x1 + vq (Int.toNat x2 + aq)) (x2 + (1 : Int)))))
 else (none))
 else (none))
 else (bif (lim IntKind.i64 (x2 + (1 : Int)))
 then (some (.inl (.h0 (x0) (x1) (x2 + (1 : Int)))))
 else (none)))))))
 else (none))
 else (none))
 else (some (.inr (x0, x1))) : Option (St69 ⊕ Rt69)) = some x) : T69_0 cond Kst Kret aq nq mq tq vq gq de st x0 x1 x2 := by
  unfold T69_0
  refine bif_split h
   (fun c0 h => bif_split h
   (fun c1 h => bif_split h
   (fun c2 h => cond_yes c2 (cond_yes c2 (bif_split h
   (fun c3 h => bif_split h
   (fun c4 h => bif_split h
   (fun c5 h => bif_split h
   (fun c6 h => cond_yes c4 (bif_split h
   (fun c7 h => bif_split h
   (fun c8 h => ?_)
   (fun c8 h => ?_))
   (fun c7 h => ?_)))
   (fun c6 h => bif_split h
   (fun c7 h => bif_split h
   (fun c8 h => bif_split h
   (fun c9 h => ?_)
   (fun c9 h => ?_))
   (fun c8 h => ?_))
   (fun c7 h => bif_split h
   (fun c8 h => cond_yes c4 (bif_split h
   (fun c9 h => bif_split h
   (fun c10 h => ?_)
   (fun c10 h => ?_))
   (fun c9 h => ?_)))
   (fun c8 h => bif_split h
   (fun c9 h => bif_split h
   (fun c10 h => bif_split h
   (fun c11 h => ?_)
   (fun c11 h => ?_))
   (fun c10 h => ?_))
   (fun c9 h => bif_split h
   (fun c10 h => ?_)
   (fun c10 h => ?_))))))
   (fun c5 h => ?_))
   (fun c4 h => ?_))
   (fun c3 h => bif_split h
   (fun c4 h => bif_split h
   (fun c5 h => bif_split h
   (fun c6 h => bif_split h
   (fun c7 h => ?_)
   (fun c7 h => ?_))
   (fun c6 h => ?_))
   (fun c5 h => ?_))
   (fun c4 h => bif_split h
   (fun c5 h => bif_split h
   (fun c6 h => bif_split h
   (fun c7 h => ?_)
   (fun c7 h => ?_))
   (fun c6 h => ?_))
   (fun c5 h => bif_split h
   (fun c6 h => bif_split h
   (fun c7 h => bif_split h
   (fun c8 h => bif_split h
   (fun c9 h => ?_)
   (fun c9 h => ?_))
   (fun c8 h => ?_))
   (fun c7 h => ?_))
   (fun c6 h => bif_split h
   (fun c7 h => bif_split h
   (fun c8 h => bif_split h
   (fun c9 h => ?_)
   (fun c9 h => ?_))
   (fun c8 h => ?_))
   (fun c7 h => bif_split h
   (fun c8 h => ?_)
   (fun c8 h => ?_)))))))))
   (fun c2 h => ?_))
   (fun c1 h => ?_))
   (fun c0 h => ret_at hR _ h (fun n => n) rfl rfl rfl (rn_tup ⟨(rn_int rfl), (rn_int rfl), trivial⟩) rfl (entl_bor (use_lo rfl) rfl rfl entl_nil))
  all_goals first
    | exact no_some h
    | exact stop_at hS _ h (fun n => n) rfl rfl rfl ⟨(rn_int rfl), ⟨(rn_int rfl), ⟨(rn_int rfl), ⟨(rn_loose (use_lo rfl) rfl rfl rfl), ⟨(rn_int rfl), ⟨(rn_int rfl), trivial⟩⟩⟩⟩⟩⟩ rfl (entl_bor (use_lo rfl) rfl rfl entl_nil)
theorem a69 (aq nq mq : Nat) (tq : Nat → ByteArray) (vq gq : Nat → Int) (de st : Int) {r : Rt69} (h : Goes ((q69 aq nq mq tq vq gq de st)) ((p69 aq nq mq tq vq gq de st)) r) : CallR Try.prog 69 [.agg [.loose ⟨0, 3, aq, 0⟩ nq, .int .i64 de], .int .i64 st] [[(0, (false, .cols mq [.str tq, .int .i64 vq, .int .i64 gq]))]] 1 ((V69 aq nq mq tq vq gq de st) r) ((fun r => [newL (1 + 1) ((N69 aq nq mq tq vq gq de st) r) ++ [(0, (false, .cols mq [.str tq, .int .i64 vq, .int .i64 gq]))]]) r) 400 ∧ ∃ F, Try.prog.funcs[69]? = some F ∧ F.body.isSome = true ∧ (F.name == "runtime.NumGoroutine") = false := by
  refine dec_calls (f := 69) (lo := 1) (hi := 400) (H := [[(0, (false, .cols mq [.str tq, .int .i64 vq, .int .i64 gq]))]]) (args := [.agg [.loose ⟨0, 3, aq, 0⟩ nq, .int .i64 de], .int .i64 st]) Try.envOk Try.mixed noX_ok ((I69 aq nq mq tq vq gq de st)) ((V69 aq nq mq tq vq gq de st)) (fun r => [newL (1 + 1) ((N69 aq nq mq tq vq gq de st) r) ++ [(0, (false, .cols mq [.str tq, .int .i64 vq, .int .i64 gq]))]]) (fn := mkFn Try.f69) (ts := [1, 6, 7, 15, 16, 17]) (n := 400) rfl (by decide) (by simp) (names_of rfl) ?_ ?_ ?_ h
  · intro s; cases s <;> exact ⟨hd_ok _ _, by simp [I69], names_of rfl, Nat.le_of_ble_eq_true rfl⟩
  · intro Kst Kret x hS hR h
    exact Holds.eq (te69 cond Kst Kret aq nq mq tq vq gq de st) (be69 aq nq mq tq vq gq de st Kst Kret x hS hR h)
  · intro Kst Kret x hS hR s h
    cases s with
    | h0 x0 x1 x2 => exact Holds.eq (t69_0 cond Kst Kret aq nq mq tq vq gq de st x0 x1 x2) (b69_0 aq nq mq tq vq gq de st Kst Kret x hS hR x0 x1 x2 h)
noncomputable def k69  : Con := ⟨69, [.agg [.list [.str, .int .i64, .int .i64], .plain (.int .i64)], .one (.plain (.int .i64))], fun (x : ((Nat × Nat × Nat × (Nat → ByteArray) × (Nat → Int) × (Nat → Int) × Unit) × Int × Unit) × Int × Unit) => (fun (aq nq mq : Nat) (tq : Nat → ByteArray) (vq : Nat → Int) (gq : Nat → Int) (de : Int) (st : Int) => decide ((aq + nq ≤ mq) ∧ (S.netE nq (fun j => tq (j + aq)) (fun j => vq (j + aq)) (fun j => gq (j + aq)) de) = 0 ∧ 0 ≤ st ∧ st < (nq : Int))) x.1.1.1 x.1.1.2.1 x.1.1.2.2.1 x.1.1.2.2.2.1 x.1.1.2.2.2.2.1 x.1.1.2.2.2.2.2.1 x.1.2.1 x.2.1, fun (x : ((Nat × Nat × Nat × (Nat → ByteArray) × (Nat → Int) × (Nat → Int) × Unit) × Int × Unit) × Int × Unit) => (fun (aq nq mq : Nat) (tq : Nat → ByteArray) (vq : Nat → Int) (gq : Nat → Int) (de : Int) (st : Int) => (V69 aq nq mq tq vq gq de st) ((S.tA (fun j => vq (j + aq)) (fun j => gq (j + aq)) de st nq, S.tB (fun j => vq (j + aq)) (fun j => gq (j + aq)) de st nq))) x.1.1.1 x.1.1.2.1 x.1.1.2.2.1 x.1.1.2.2.2.1 x.1.1.2.2.2.2.1 x.1.1.2.2.2.2.2.1 x.1.2.1 x.2.1, fun (x : ((Nat × Nat × Nat × (Nat → ByteArray) × (Nat → Int) × (Nat → Int) × Unit) × Int × Unit) × Int × Unit) => (fun (aq nq mq : Nat) (tq : Nat → ByteArray) (vq : Nat → Int) (gq : Nat → Int) (de : Int) (st : Int) => (N69 aq nq mq tq vq gq de st) ((S.tA (fun j => vq (j + aq)) (fun j => gq (j + aq)) de st nq, S.tB (fun j => vq (j + aq)) (fun j => gq (j + aq)) de st nq))) x.1.1.1 x.1.1.2.1 x.1.1.2.2.1 x.1.1.2.2.2.1 x.1.1.2.2.2.2.1 x.1.1.2.2.2.2.2.1 x.1.2.1 x.2.1, fun _ _ => .dead⟩
theorem s69' (aq nq mq : Nat) (tq : Nat → ByteArray) (vq gq : Nat → Int) (de st : Int) (hp : (aq + nq ≤ mq) ∧ (S.netE nq (fun j => tq (j + aq)) (fun j => vq (j + aq)) (fun j => gq (j + aq)) de) = 0 ∧ 0 ≤ st ∧ st < (nq : Int)) : ∀ (k i : Nat), i + k = nq → Comes (q69 aq nq mq tq vq gq de st) (.h0 (S.tA (fun j => vq (j + aq)) (fun j => gq (j + aq)) de st i) (S.tB (fun j => vq (j + aq)) (fun j => gq (j + aq)) de st i) (i : Int)) (S.tA (fun j => vq (j + aq)) (fun j => gq (j + aq)) de st nq, S.tB (fun j => vq (j + aq)) (fun j => gq (j + aq)) de st nq) := by
  obtain ⟨hp1, hv, hs1, hs2⟩ := hp
  obtain ⟨v1, v2, v3⟩ := net_ok hv
  intro k
  induction k with
  | zero =>
    intro i hi
    obtain rfl : nq = i := by omega
    apply Comes.of
    show Goes _ _ _
    (first | rw [q69] | unfold q69)
    repeat' first
      | with_reducible refine goes_if (fun h => ?_) (fun h => ?_) <;> (try simp only [SH] at h)
      | exact goes_none.mpr (by omega)
    all_goals first | (exfalso; omega) | exact goes_inr.mpr rfl
  | succ k ih =>
    intro i hi
    have ih := ih (i + 1) (by omega)
    have hA := tA_b (st := st) v2 v3 i (by omega)
    have hB := tB_b (st := st) v2 v3 i (by omega)
    have hx := v3 i (by omega)
    try dsimp only at hx
    have eA : S.tA (fun j => vq (j + aq)) (fun j => gq (j + aq)) de st (i + 1) = S.tA (fun j => vq (j + aq)) (fun j => gq (j + aq)) de st i + (if st ≤ (i : Int) then vq (i + aq) + gq (i + aq) else 0) := rfl
    have eB : S.tB (fun j => vq (j + aq)) (fun j => gq (j + aq)) de st (i + 1) = S.tB (fun j => vq (j + aq)) (fun j => gq (j + aq)) de st i + (if st = 0 then vq (i + aq) + gq (i + aq) else if i = 0 then gq (i + aq) else if (i : Int) < st then vq (i + aq) + gq (i + aq) else if (i : Int) = st then vq (i + aq) else 0) := rfl
    rw [eA, eB] at ih
    generalize S.tA (fun j => vq (j + aq)) (fun j => gq (j + aq)) de st nq = RA at *
    generalize S.tB (fun j => vq (j + aq)) (fun j => gq (j + aq)) de st nq = RB at *
    generalize S.tA (fun j => vq (j + aq)) (fun j => gq (j + aq)) de st i = A at *
    generalize S.tB (fun j => vq (j + aq)) (fun j => gq (j + aq)) de st i = B at *
    clear eA eB
    apply Comes.of
    show Goes _ _ _
    (first | rw [q69] | unfold q69)
    try simp only [Int.toNat_natCast]
    try show Goes _ _ _
    repeat' first
      | with_reducible refine goes_if (fun h => ?_) (fun h => ?_) <;> (try simp only [SH] at h)
      | exact goes_none.mpr (by omega)
    all_goals first
      | (exfalso; omega)
      | (refine Eq.mpr (congrArg (fun s => Comes _ s _) ?_) ih; congr 1 <;> (repeat' split) <;> omega)
theorem s69 (aq nq mq : Nat) (tq : Nat → ByteArray) (vq gq : Nat → Int) (de st : Int) (hp : (aq + nq ≤ mq) ∧ (S.netE nq (fun j => tq (j + aq)) (fun j => vq (j + aq)) (fun j => gq (j + aq)) de) = 0 ∧ 0 ≤ st ∧ st < (nq : Int)) : Goes ((q69 aq nq mq tq vq gq de st)) ((p69 aq nq mq tq vq gq de st)) ((S.tA (fun j => vq (j + aq)) (fun j => gq (j + aq)) de st nq, S.tB (fun j => vq (j + aq)) (fun j => gq (j + aq)) de st nq)) := by
  have hm := s69' aq nq mq tq vq gq de st hp nq 0 (Nat.zero_add _)
  exact hm
theorem k69_ok  : k69.ok Try.prog := by
  intro x hx
  obtain ⟨⟨⟨aq, nq, mq, tq, vq, gq, _⟩, de, _⟩, st, _⟩ := x
  obtain ⟨h1, h2⟩ := a69 aq nq mq tq vq gq de st (s69 aq nq mq tq vq gq de st (of_dec hx rfl))
  exact ⟨⟨400, (by decide : 1 + 1 + 0 ≤ 400), h1⟩, h2⟩
noncomputable def xY (test : Bool → Prop → Prop → Prop) : Ext := consX test [k58, k69, k54, k56]
theorem xY_ok  : ExtOk Try.prog (xY cond) := consX_ok ⟨k58_ok, k69_ok, k54_ok, k56_ok, trivial⟩
namespace S
def opL (lp : Int) (n : Nat) (st k l p : Int) : Bool := opnB lp n (fun i => decide ((i : Int) ≠ st)) 1 (fun _ => k) (fun _ => l) (fun _ => p)
def latI (n : Nat) (v g : Nat → Int) (de st k l p : Int) : Int := if opL 1 n (-1) k l p = true ∨ opL 2 n (-1) k l p = true then 0 else if opL 1 n st k l p = false then tB v g de st n else if opL 2 n st k l p = false then tA v g de st n else min (tA v g de st n) (tB v g de st n)
def safB (n : Nat) (loc : Nat → Bool) (nf : Nat) (k l p : Nat → Int) : Bool := opnB 1 n loc nf k l p || opnB 2 n loc nf k l p
end S
theorem any_one  {p : Nat → Bool} : S.any p 1 = p 0 := by simp [S.any]
theorem any_zero  {p : Nat → Bool} : S.any p 0 = false := rfl
theorem opn_one  {lp : Int} {n : Nat} {st k l p : Int} {F : Nat → Bool} {K L P : Nat → Int} (hF : ∀ r, r < n → F r = decide ((r : Int) ≠ st)) (hK : K 0 = k) (hL : L 0 = l) (hP : P 0 = p) : S.opnB lp n (fun j => S.at' (S.mkl n F) j) 1 K L P = S.opL lp n st k l p := by
  unfold S.opL
  exact opnB_congr (fun j hj => by rw [at_mkl hj]; exact hF j hj) (fun j hj => by rw [show j = 0 by omega]; exact ⟨hK, hL, hP⟩)
abbrev St47  := Empty
abbrev Rt47  := Int
noncomputable def V47 (aq nq mq : Nat) (tq : Nat → ByteArray) (vq gq : Nat → Int) (de st k1 k2 k3 : Int) (r : Rt47) : PV := PV.int IntKind.i64 r
noncomputable def N47 (aq nq mq : Nat) (tq : Nat → ByteArray) (vq gq : Nat → Int) (de st k1 k2 k3 : Int) (r : Rt47) : List Blk := []
noncomputable def I47 (aq nq mq : Nat) (tq : Nat → ByteArray) (vq gq : Nat → Int) (de st k1 k2 k3 : Int) : St47 → Hd := fun s => s.elim
noncomputable def q47 (aq nq mq : Nat) (tq : Nat → ByteArray) (vq gq : Nat → Int) (de st k1 k2 k3 : Int) : St47 → Option (St47 ⊕ Rt47) := fun s => s.elim
noncomputable def p47 (aq nq mq : Nat) (tq : Nat → ByteArray) (vq gq : Nat → Int) (de st k1 k2 k3 : Int) : Option (St47 ⊕ Rt47) := bif (decide
 (0 ≤ 0 ∧
 0 ≤ 1000000 ∧
 nq ≤ 1000 ∧
 S.all (fun j => decide ((0 : Int) ≤ (0 : Int) ∧ (0 : Int) < (↑nq : Int))) (0) =
 true))
 then (bif (decide
 (1 ≤ 1 ∧
 1 ≤ 1000000 ∧
 nq ≤ 1000 ∧
 S.all
 (fun j =>
 decide ((0 : Int) ≤ S.lit [st] (0 : Int) j ∧ S.lit [st] (0 : Int) j < (↑nq : Int)))
 (1) =
 true))
 then (bif (decide
 (1 ≤ 1 ∧
 1 ≤ 1000000 ∧
 0 +
 List.length
 (S.mkl nq fun (r : Nat) =>
 !S.any (fun j => decide ((0 : Int) = (↑r : Int))) (0)) ≤
 List.length
 (S.mkl nq fun (r : Nat) =>
 !S.any (fun j => decide ((0 : Int) = (↑r : Int))) (0)) ∧
 List.length
 (S.mkl nq fun (r : Nat) =>
 !S.any (fun j => decide ((0 : Int) = (↑r : Int))) (0)) ≤
 1000000))
 then (bif (S.opnB (1 : Int)
 (List.length
 (S.mkl nq fun (r : Nat) =>
 !S.any (fun j => decide ((0 : Int) = (↑r : Int))) (0)))
 (fun j =>
 S.at'
 (S.mkl nq fun (r : Nat) =>
 !S.any (fun j => decide ((0 : Int) = (↑r : Int))) (0))
 j)
 (1) (fun j => S.lit [k1] (0 : Int) j) (fun j => S.lit [k2] (0 : Int) j)
 fun j => S.lit [k3] (0 : Int) j)
 then (some (.inr ((0 : Int))))
 else (bif (S.opnB (2 : Int)
 (List.length
 (S.mkl nq fun (r : Nat) =>
 !S.any (fun j => decide ((0 : Int) = (↑r : Int))) (0)))
 (fun j =>
 S.at'
 (S.mkl nq fun (r : Nat) =>
 !S.any (fun j => decide ((0 : Int) = (↑r : Int))) (0))
 j)
 (1) (fun j => S.lit [k1] (0 : Int) j) (fun j => S.lit [k2] (0 : Int) j)
 fun j => S.lit [k3] (0 : Int) j)
 then (some (.inr ((0 : Int))))
 else (bif (decide
 (aq + nq ≤ mq ∧
 S.netE nq (fun j => tq (j + aq)) (fun j => vq (j + aq)) (fun j => gq (j + aq)) de =
 (0 : Int) ∧
 (0 : Int) ≤ st ∧ st < (↑nq : Int)))
 then (bif (decide
 (1 ≤ 1 ∧
 1 ≤ 1000000 ∧
 0 +
 List.length
 (S.mkl nq fun (r : Nat) =>
 !S.any (fun j => decide (S.lit [st] (0 : Int) j = (↑r : Int)))
 (1)) ≤
 List.length
 (S.mkl nq fun (r : Nat) =>
 !S.any (fun j => decide (S.lit [st] (0 : Int) j = (↑r : Int)))
 (1)) ∧
 List.length
 (S.mkl nq fun (r : Nat) =>
 !S.any (fun j => decide (S.lit [st] (0 : Int) j = (↑r : Int)))
 (1)) ≤
 1000000))
 then (bif (S.opnB (1 : Int)
 (List.length
 (S.mkl nq fun (r : Nat) =>
 !S.any (fun j => decide (S.lit [st] (0 : Int) j = (↑r : Int))) (1)))
 (fun j =>
 S.at'
 (S.mkl nq fun (r : Nat) =>
 !S.any (fun j => decide (S.lit [st] (0 : Int) j = (↑r : Int))) (1))
 j)
 (1) (fun j => S.lit [k1] (0 : Int) j) (fun j => S.lit [k2] (0 : Int) j)
 fun j => S.lit [k3] (0 : Int) j)
 then (bif (S.opnB (2 : Int)
 (List.length
 (S.mkl nq fun (r : Nat) =>
 !S.any (fun j => decide (S.lit [st] (0 : Int) j = (↑r : Int))) (1)))
 (fun j =>
 S.at'
 (S.mkl nq fun (r : Nat) =>
 !S.any (fun j => decide (S.lit [st] (0 : Int) j = (↑r : Int))) (1))
 j)
 (1) (fun j => S.lit [k1] (0 : Int) j) (fun j => S.lit [k2] (0 : Int) j)
 fun j => S.lit [k3] (0 : Int) j)
 then (some (.inr (Min.min (S.tA (fun j => vq (j + aq)) (fun j => gq (j + aq)) de st nq)
 (S.tB (fun j => vq (j + aq)) (fun j => gq (j + aq)) de st nq))))
 else (some (.inr (S.tA (fun j => vq (j + aq)) (fun j => gq (j + aq)) de st nq))))
 else (some (.inr (S.tB (fun j => vq (j + aq)) (fun j => gq (j + aq)) de st nq))))
 else (none))
 else (none))))
 else (none))
 else (none))
 else (none)
noncomputable def Te47 (test : Bool → Prop → Prop → Prop) (Kst : KS) (Kret : KR) (aq nq mq : Nat) (tq : Nat → ByteArray) (vq gq : Nat → Int) (de st k1 k2 k3 : Int) : Prop :=
  test (decide
 (0 ≤ 0 ∧
 0 ≤ 1000000 ∧
 nq ≤ 1000 ∧
 S.all (fun j => decide ((0 : Int) ≤ (0 : Int) ∧ (0 : Int) < (↑nq : Int))) (0) =
 true))
 (test (decide
 (1 ≤ 1 ∧
 1 ≤ 1000000 ∧
 nq ≤ 1000 ∧
 S.all
 (fun j =>
 decide ((0 : Int) ≤ S.lit [st] (0 : Int) j ∧ S.lit [st] (0 : Int) j < (↑nq : Int)))
 (1) =
 true))
 (test (decide
 (1 ≤ 1 ∧
 1 ≤ 1000000 ∧
 0 +
 List.length
 (S.mkl nq fun (r : Nat) =>
 !S.any (fun j => decide ((0 : Int) = (↑r : Int))) (0)) ≤
 List.length
 (S.mkl nq fun (r : Nat) =>
 !S.any (fun j => decide ((0 : Int) = (↑r : Int))) (0)) ∧
 List.length
 (S.mkl nq fun (r : Nat) =>
 !S.any (fun j => decide ((0 : Int) = (↑r : Int))) (0)) ≤
 1000000))
 (test (S.opnB (1 : Int)
 (List.length
 (S.mkl nq fun (r : Nat) =>
 !S.any (fun j => decide ((0 : Int) = (↑r : Int))) (0)))
 (fun j =>
 S.at'
 (S.mkl nq fun (r : Nat) =>
 !S.any (fun j => decide ((0 : Int) = (↑r : Int))) (0))
 j)
 (1) (fun j => S.lit [k1] (0 : Int) j) (fun j => S.lit [k2] (0 : Int) j)
 fun j => S.lit [k3] (0 : Int) j)
 (Kret (PV.int IntKind.i64 (0 : Int)) ([[(0, false,
 Blk.cols mq [Col.str tq, Col.int IntKind.i64 vq, Col.int IntKind.i64 gq])]]) (10))
 (test (decide
 (1 ≤ 1 ∧
 1 ≤ 1000000 ∧
 0 +
 List.length
 (S.mkl nq fun (r : Nat) =>
 !S.any (fun j => decide ((0 : Int) = (↑r : Int))) (0)) ≤
 List.length
 (S.mkl nq fun (r : Nat) =>
 !S.any (fun j => decide ((0 : Int) = (↑r : Int))) (0)) ∧
 List.length
 (S.mkl nq fun (r : Nat) =>
 !S.any (fun j => decide ((0 : Int) = (↑r : Int))) (0)) ≤
 1000000))
 (test (S.opnB (2 : Int)
 (List.length
 (S.mkl nq fun (r : Nat) =>
 !S.any (fun j => decide ((0 : Int) = (↑r : Int))) (0)))
 (fun j =>
 S.at'
 (S.mkl nq fun (r : Nat) =>
 !S.any (fun j => decide ((0 : Int) = (↑r : Int))) (0))
 j)
 (1) (fun j => S.lit [k1] (0 : Int) j) (fun j => S.lit [k2] (0 : Int) j)
 fun j => S.lit [k3] (0 : Int) j)
 (Kret (PV.int IntKind.i64 (0 : Int)) ([[(0, false,
 Blk.cols mq [Col.str tq, Col.int IntKind.i64 vq, Col.int IntKind.i64 gq])]]) (12))
 (test (decide
 (aq + nq ≤ mq ∧
 S.netE nq (fun j => tq (j + aq)) (fun j => vq (j + aq)) (fun j => gq (j + aq)) de =
 (0 : Int) ∧
 (0 : Int) ≤ st ∧ st < (↑nq : Int)))
 (test (decide
 (1 ≤ 1 ∧
 1 ≤ 1000000 ∧
 0 +
 List.length
 (S.mkl nq fun (r : Nat) =>
 !S.any (fun j => decide (S.lit [st] (0 : Int) j = (↑r : Int)))
 (1)) ≤
 List.length
 (S.mkl nq fun (r : Nat) =>
 !S.any (fun j => decide (S.lit [st] (0 : Int) j = (↑r : Int)))
 (1)) ∧
 List.length
 (S.mkl nq fun (r : Nat) =>
 !S.any (fun j => decide (S.lit [st] (0 : Int) j = (↑r : Int)))
 (1)) ≤
 1000000))
 (test (S.opnB (1 : Int)
 (List.length
 (S.mkl nq fun (r : Nat) =>
 !S.any (fun j => decide (S.lit [st] (0 : Int) j = (↑r : Int))) (1)))
 (fun j =>
 S.at'
 (S.mkl nq fun (r : Nat) =>
 !S.any (fun j => decide (S.lit [st] (0 : Int) j = (↑r : Int))) (1))
 j)
 (1) (fun j => S.lit [k1] (0 : Int) j) (fun j => S.lit [k2] (0 : Int) j)
 fun j => S.lit [k3] (0 : Int) j)
 (test (decide
 (1 ≤ 1 ∧
 1 ≤ 1000000 ∧
 0 +
 List.length
 (S.mkl nq fun (r : Nat) =>
 !S.any (fun j => decide (S.lit [st] (0 : Int) j = (↑r : Int)))
 (1)) ≤
 List.length
 (S.mkl nq fun (r : Nat) =>
 !S.any (fun j => decide (S.lit [st] (0 : Int) j = (↑r : Int)))
 (1)) ∧
 List.length
 (S.mkl nq fun (r : Nat) =>
 !S.any (fun j => decide (S.lit [st] (0 : Int) j = (↑r : Int)))
 (1)) ≤
 1000000))
 (test (S.opnB (2 : Int)
 (List.length
 (S.mkl nq fun (r : Nat) =>
 !S.any (fun j => decide (S.lit [st] (0 : Int) j = (↑r : Int))) (1)))
 (fun j =>
 S.at'
 (S.mkl nq fun (r : Nat) =>
 !S.any (fun j => decide (S.lit [st] (0 : Int) j = (↑r : Int))) (1))
 j)
 (1) (fun j => S.lit [k1] (0 : Int) j) (fun j => S.lit [k2] (0 : Int) j)
 fun j => S.lit [k3] (0 : Int) j)
 (Kret (PV.int IntKind.i64
 (Min.min (S.tA (fun j => vq (j + aq)) (fun j => gq (j + aq)) de st nq)
 (S.tB (fun j => vq (j + aq)) (fun j => gq (j + aq)) de st nq))) ([[(0, false,
 Blk.cols mq [Col.str tq, Col.int IntKind.i64 vq, Col.int IntKind.i64 gq])]]) (17))
 (Kret (PV.int IntKind.i64 (S.tA (fun j => vq (j + aq)) (fun j => gq (j + aq)) de st nq)) ([[(0, false,
 Blk.cols mq [Col.str tq, Col.int IntKind.i64 vq, Col.int IntKind.i64 gq])]]) (17)))
 (False))
 (Kret (PV.int IntKind.i64 (S.tB (fun j => vq (j + aq)) (fun j => gq (j + aq)) de st nq)) ([[(0, false,
 Blk.cols mq [Col.str tq, Col.int IntKind.i64 vq, Col.int IntKind.i64 gq])]]) (15)))
 (False))
 (False)))
 (False)))
 (False))
 (False))
 (False)
theorem te47 (test : Bool → Prop → Prop → Prop) (Kst : KS) (Kret : KR) (aq nq mq : Nat) (tq : Nat → ByteArray) (vq gq : Nat → Int) (de st k1 k2 k3 : Int) : run test Try.env true (xY test) true 400 ⟨47, [.cd (mkFn Try.f47).body], argT 0 [.agg [.loose ⟨0, 3, aq, 0⟩ nq, .int .i64 de], .int .i64 st, .agg [.int .i64 k1, .int .i64 k2, .int .i64 k3]], [[], [(0, (false, .cols mq [.str tq, .int .i64 vq, .int .i64 gq]))]], 1⟩ (proj 1 [] Kst Kret) =
  Te47 test Kst Kret aq nq mq tq vq gq de st k1 k2 k3 := by kernel_rfl
theorem be47 (aq nq mq : Nat) (tq : Nat → ByteArray) (vq gq : Nat → Int) (de st k1 k2 k3 : Int) (Kst : KS) (Kret : KR) (x : St47 ⊕ Rt47) (hS : HS 1 400 ((I47 aq nq mq tq vq gq de st k1 k2 k3)) Kst x) (hR : HR 1 400 ((V47 aq nq mq tq vq gq de st k1 k2 k3)) (fun r => [newL (1 + 1) ((N47 aq nq mq tq vq gq de st k1 k2 k3) r) ++ [(0, (false, .cols mq [.str tq, .int .i64 vq, .int .i64 gq]))]]) Kret x) (h : p47 aq nq mq tq vq gq de st k1 k2 k3 = some x) : Te47 cond Kst Kret aq nq mq tq vq gq de st k1 k2 k3 := by
  unfold Te47
  unfold p47 at h
  refine bif_split h
   (fun c0 h => bif_split h
   (fun c1 h => bif_split h
   (fun c2 h => bif_split h
   (fun c3 h => ?_)
   (fun c3 h => cond_yes c2 (bif_split h
   (fun c4 h => ?_)
   (fun c4 h => bif_split h
   (fun c5 h => bif_split h
   (fun c6 h => bif_split h
   (fun c7 h => cond_yes c6 (bif_split h
   (fun c8 h => ?_)
   (fun c8 h => ?_)))
   (fun c7 h => ?_))
   (fun c6 h => ?_))
   (fun c5 h => ?_)))))
   (fun c2 h => ?_))
   (fun c1 h => ?_))
   (fun c0 h => ?_)
  all_goals first
    | exact ret_at hR _ h (fun n => n) rfl rfl rfl (rn_int rfl) rfl (entl_bor (use_lo rfl) rfl rfl entl_nil)
    | exact no_some h
theorem a47 (aq nq mq : Nat) (tq : Nat → ByteArray) (vq gq : Nat → Int) (de st k1 k2 k3 : Int) {r : Rt47} (h : Goes ((q47 aq nq mq tq vq gq de st k1 k2 k3)) ((p47 aq nq mq tq vq gq de st k1 k2 k3)) r) : CallR Try.prog 47 [.agg [.loose ⟨0, 3, aq, 0⟩ nq, .int .i64 de], .int .i64 st, .agg [.int .i64 k1, .int .i64 k2, .int .i64 k3]] [[(0, (false, .cols mq [.str tq, .int .i64 vq, .int .i64 gq]))]] 1 ((V47 aq nq mq tq vq gq de st k1 k2 k3) r) ((fun r => [newL (1 + 1) ((N47 aq nq mq tq vq gq de st k1 k2 k3) r) ++ [(0, (false, .cols mq [.str tq, .int .i64 vq, .int .i64 gq]))]]) r) 400 ∧ ∃ F, Try.prog.funcs[47]? = some F ∧ F.body.isSome = true ∧ (F.name == "runtime.NumGoroutine") = false := by
  refine dec_calls (f := 47) (lo := 1) (hi := 400) (H := [[(0, (false, .cols mq [.str tq, .int .i64 vq, .int .i64 gq]))]]) (args := [.agg [.loose ⟨0, 3, aq, 0⟩ nq, .int .i64 de], .int .i64 st, .agg [.int .i64 k1, .int .i64 k2, .int .i64 k3]]) Try.envOk Try.mixed xY_ok ((I47 aq nq mq tq vq gq de st k1 k2 k3)) ((V47 aq nq mq tq vq gq de st k1 k2 k3)) (fun r => [newL (1 + 1) ((N47 aq nq mq tq vq gq de st k1 k2 k3) r) ++ [(0, (false, .cols mq [.str tq, .int .i64 vq, .int .i64 gq]))]]) (fn := mkFn Try.f47) (ts := []) (n := 400) rfl (by decide) (by simp) (names_of rfl) ?_ ?_ ?_ h
  · intro s; exact s.elim
  · intro Kst Kret x hS hR h
    exact Holds.eq (te47 cond Kst Kret aq nq mq tq vq gq de st k1 k2 k3) (be47 aq nq mq tq vq gq de st k1 k2 k3 Kst Kret x hS hR h)
  · intro Kst Kret x hS hR s h; exact s.elim
noncomputable def k47  : Con := ⟨47, [.agg [.list [.str, .int .i64, .int .i64], .plain (.int .i64)], .one (.plain (.int .i64)), .agg [.plain (.int .i64), .plain (.int .i64), .plain (.int .i64)]], fun (x : ((Nat × Nat × Nat × (Nat → ByteArray) × (Nat → Int) × (Nat → Int) × Unit) × Int × Unit) × Int × (Int × Int × Int × Unit) × Unit) => (fun (aq nq mq : Nat) (tq : Nat → ByteArray) (vq : Nat → Int) (gq : Nat → Int) (de : Int) (st : Int) (k1 : Int) (k2 : Int) (k3 : Int) => decide ((aq + nq ≤ mq) ∧ (S.netE nq (fun j => tq (j + aq)) (fun j => vq (j + aq)) (fun j => gq (j + aq)) de) = 0 ∧ 0 ≤ st ∧ st < (nq : Int))) x.1.1.1 x.1.1.2.1 x.1.1.2.2.1 x.1.1.2.2.2.1 x.1.1.2.2.2.2.1 x.1.1.2.2.2.2.2.1 x.1.2.1 x.2.1 x.2.2.1.1 x.2.2.1.2.1 x.2.2.1.2.2.1, fun (x : ((Nat × Nat × Nat × (Nat → ByteArray) × (Nat → Int) × (Nat → Int) × Unit) × Int × Unit) × Int × (Int × Int × Int × Unit) × Unit) => (fun (aq nq mq : Nat) (tq : Nat → ByteArray) (vq : Nat → Int) (gq : Nat → Int) (de : Int) (st : Int) (k1 : Int) (k2 : Int) (k3 : Int) => (V47 aq nq mq tq vq gq de st k1 k2 k3) (S.latI nq (fun j => vq (j + aq)) (fun j => gq (j + aq)) de st k1 k2 k3)) x.1.1.1 x.1.1.2.1 x.1.1.2.2.1 x.1.1.2.2.2.1 x.1.1.2.2.2.2.1 x.1.1.2.2.2.2.2.1 x.1.2.1 x.2.1 x.2.2.1.1 x.2.2.1.2.1 x.2.2.1.2.2.1, fun (x : ((Nat × Nat × Nat × (Nat → ByteArray) × (Nat → Int) × (Nat → Int) × Unit) × Int × Unit) × Int × (Int × Int × Int × Unit) × Unit) => (fun (aq nq mq : Nat) (tq : Nat → ByteArray) (vq : Nat → Int) (gq : Nat → Int) (de : Int) (st : Int) (k1 : Int) (k2 : Int) (k3 : Int) => (N47 aq nq mq tq vq gq de st k1 k2 k3) (S.latI nq (fun j => vq (j + aq)) (fun j => gq (j + aq)) de st k1 k2 k3)) x.1.1.1 x.1.1.2.1 x.1.1.2.2.1 x.1.1.2.2.2.1 x.1.1.2.2.2.2.1 x.1.1.2.2.2.2.2.1 x.1.2.1 x.2.1 x.2.2.1.1 x.2.2.1.2.1 x.2.2.1.2.2.1, fun _ _ => .dead⟩
theorem s47 (aq nq mq : Nat) (tq : Nat → ByteArray) (vq gq : Nat → Int) (de st k1 k2 k3 : Int) (hp : (aq + nq ≤ mq) ∧ (S.netE nq (fun j => tq (j + aq)) (fun j => vq (j + aq)) (fun j => gq (j + aq)) de) = 0 ∧ 0 ≤ st ∧ st < (nq : Int)) : Goes ((q47 aq nq mq tq vq gq de st k1 k2 k3)) ((p47 aq nq mq tq vq gq de st k1 k2 k3)) (S.latI nq (fun j => vq (j + aq)) (fun j => gq (j + aq)) de st k1 k2 k3) := by
  obtain ⟨hp1, hv, hs1, hs2⟩ := hp
  obtain ⟨v1, v2, v3⟩ := net_ok hv
  have e0 : ∀ lp, S.opnB lp nq (fun j => S.at' (S.mkl nq (fun (r : Nat) => !S.any (fun j => decide ((0 : Int) = (r : Int))) 0)) j) 1 (fun j => S.lit [k1] 0 j) (fun j => S.lit [k2] 0 j) (fun j => S.lit [k3] 0 j) = S.opL lp nq (-1) k1 k2 k3 := fun lp => opn_one (fun r hr => by
    rw [any_zero, decide_eq_true (show (r : Int) ≠ -1 by omega)]; rfl) rfl rfl rfl
  have e1 : ∀ lp, S.opnB lp nq (fun j => S.at' (S.mkl nq (fun (r : Nat) => !S.any (fun j => decide (S.lit [st] 0 j = (r : Int))) 1)) j) 1 (fun j => S.lit [k1] 0 j) (fun j => S.lit [k2] 0 j) (fun j => S.lit [k3] 0 j) = S.opL lp nq st k1 k2 k3 := fun lp => opn_one (fun r hr => by
    rw [any_one]
    show (!decide (st = (r : Int))) = decide ((r : Int) ≠ st)
    rw [← decide_not]
    exact decide_eq_decide.mpr ⟨fun h e => h e.symm, fun h e => h e.symm⟩) rfl rfl rfl
  have h3 : S.all (fun j => decide (0 ≤ S.lit [st] 0 j ∧ S.lit [st] 0 j < (nq : Int))) 1 = true := all_iff.mpr fun j hj => by
    obtain rfl : j = 0 := by omega
    exact decide_eq_true ⟨hs1, hs2⟩
  have h4 : ∀ p : Nat → Bool, S.all p 0 = true := fun p => rfl
  have hq : nq ≤ 1000 ∧ nq ≤ 1000000 := by omega
  unfold p47 S.latI
  have hk1 : (1 : Nat) ≤ 1000000 := by decide
  simp only [mkl_len, e0, e1, h3, h4, hv, hp1, hs1, hs2, hq.1, hq.2, eq_self, and_self, decide_true, cond_true, Nat.zero_add, Nat.le_refl, Nat.zero_le, hk1]
  generalize S.tA (fun j => vq (j + aq)) (fun j => gq (j + aq)) de st nq = TA
  generalize S.tB (fun j => vq (j + aq)) (fun j => gq (j + aq)) de st nq = TB
  generalize S.opL 1 nq (-1) k1 k2 k3 = A
  generalize S.opL 2 nq (-1) k1 k2 k3 = B
  generalize S.opL 1 nq st k1 k2 k3 = C
  generalize S.opL 2 nq st k1 k2 k3 = D
  show Goes _ _ _
  cases A <;> cases B <;> cases C <;> cases D
  all_goals
   repeat' first
    | with_reducible refine goes_if (fun h => ?_) (fun h => ?_) <;> (try simp only [SH] at h)
    | exact goes_none.mpr (by omega)
   all_goals first | (exfalso; omega) | exact goes_inr.mpr rfl
theorem k47_ok  : k47.ok Try.prog := by
  intro x hx
  obtain ⟨⟨⟨aq, nq, mq, tq, vq, gq, _⟩, de, _⟩, st, ⟨k1, k2, k3, _⟩, _⟩ := x
  obtain ⟨h1, h2⟩ := a47 aq nq mq tq vq gq de st k1 k2 k3 (s47 aq nq mq tq vq gq de st k1 k2 k3 (of_dec hx rfl))
  exact ⟨⟨400, (by decide : 1 + 1 + 0 ≤ 400), h1⟩, h2⟩
abbrev St59  := Empty
abbrev Rt59  := Bool
noncomputable def V59 (ao no mo : Nat) (to : Nat → Bool) (al nl ml : Nat) (tl vl gl : Nat → Int) (r : Rt59) : PV := PV.bool r
noncomputable def N59 (ao no mo : Nat) (to : Nat → Bool) (al nl ml : Nat) (tl vl gl : Nat → Int) (r : Rt59) : List Blk := []
noncomputable def I59 (ao no mo : Nat) (to : Nat → Bool) (al nl ml : Nat) (tl vl gl : Nat → Int) : St59 → Hd := fun s => s.elim
noncomputable def q59 (ao no mo : Nat) (to : Nat → Bool) (al nl ml : Nat) (tl vl gl : Nat → Int) : St59 → Option (St59 ⊕ Rt59) := fun s => s.elim
noncomputable def p59 (ao no mo : Nat) (to : Nat → Bool) (al nl ml : Nat) (tl vl gl : Nat → Int) : Option (St59 ⊕ Rt59) := bif (decide (al + nl ≤ ml ∧ nl ≤ 1000000 ∧ ao + no ≤ mo ∧ no ≤ 1000000))
 then (bif (S.opnB (1 : Int) no (fun j => to (j + ao)) nl (fun j => tl (j + al))
 (fun j => vl (j + al)) fun j => gl (j + al))
 then (some (.inr (true)))
 else (bif (S.opnB (2 : Int) no (fun j => to (j + ao)) nl (fun j => tl (j + al))
 (fun j => vl (j + al)) fun j => gl (j + al))
 then (some (.inr (true)))
 else (some (.inr (false)))))
 else (none)
noncomputable def Te59 (test : Bool → Prop → Prop → Prop) (Kst : KS) (Kret : KR) (ao no mo : Nat) (to : Nat → Bool) (al nl ml : Nat) (tl vl gl : Nat → Int) : Prop :=
  test (decide (al + nl ≤ ml ∧ nl ≤ 1000000 ∧ ao + no ≤ mo ∧ no ≤ 1000000))
 (test (S.opnB (1 : Int) no (fun j => to (j + ao)) nl (fun j => tl (j + al))
 (fun j => vl (j + al)) fun j => gl (j + al))
 (Kret (PV.tf true) ([[(1, false,
 Blk.cols ml
 [Col.int IntKind.i64 tl, Col.int IntKind.i64 vl, Col.int IntKind.i64 gl]),
 (0, false, Blk.cols mo [Col.bool to])]]) (3))
 (test (decide (al + nl ≤ ml ∧ nl ≤ 1000000 ∧ ao + no ≤ mo ∧ no ≤ 1000000))
 (test (S.opnB (2 : Int) no (fun j => to (j + ao)) nl (fun j => tl (j + al))
 (fun j => vl (j + al)) fun j => gl (j + al))
 (Kret (PV.tf true) ([[(1, false,
 Blk.cols ml
 [Col.int IntKind.i64 tl, Col.int IntKind.i64 vl, Col.int IntKind.i64 gl]),
 (0, false, Blk.cols mo [Col.bool to])]]) (4))
 (Kret (PV.tf false) ([[(1, false,
 Blk.cols ml
 [Col.int IntKind.i64 tl, Col.int IntKind.i64 vl, Col.int IntKind.i64 gl]),
 (0, false, Blk.cols mo [Col.bool to])]]) (4)))
 (False)))
 (False)
theorem te59 (test : Bool → Prop → Prop → Prop) (Kst : KS) (Kret : KR) (ao no mo : Nat) (to : Nat → Bool) (al nl ml : Nat) (tl vl gl : Nat → Int) : run test Try.env true (xY test) true 400 ⟨59, [.cd (mkFn Try.f59).body], argT 0 [.loose ⟨0, 1, ao, 0⟩ no, .loose ⟨1, 3, al, 0⟩ nl], [[], [(0, (false, .cols mo [.bool to])), (1, (false, .cols ml [.int .i64 tl, .int .i64 vl, .int .i64 gl]))]], 2⟩ (proj 2 [] Kst Kret) =
  Te59 test Kst Kret ao no mo to al nl ml tl vl gl := by kernel_rfl
theorem be59 (ao no mo : Nat) (to : Nat → Bool) (al nl ml : Nat) (tl vl gl : Nat → Int) (Kst : KS) (Kret : KR) (x : St59 ⊕ Rt59) (hS : HS 2 400 ((I59 ao no mo to al nl ml tl vl gl)) Kst x) (hR : HR 2 400 ((V59 ao no mo to al nl ml tl vl gl)) (fun r => [newL (2 + 1) ((N59 ao no mo to al nl ml tl vl gl) r) ++ [(0, (false, .cols mo [.bool to])), (1, (false, .cols ml [.int .i64 tl, .int .i64 vl, .int .i64 gl]))]]) Kret x) (h : p59 ao no mo to al nl ml tl vl gl = some x) : Te59 cond Kst Kret ao no mo to al nl ml tl vl gl := by
  unfold Te59
  unfold p59 at h
  refine bif_split h
   (fun c0 h => bif_split h
   (fun c1 h => ret_at hR _ h (fun n => n) rfl rfl rfl (rn_bool_tf rfl) rfl (entl_bor (use_lo rfl) rfl rfl (entl_bor (use_lo rfl) rfl rfl entl_nil)))
   (fun c1 h => cond_yes c0 (bif_split h
   (fun c2 h => ret_at hR _ h (fun n => n) rfl rfl rfl (rn_bool_tf rfl) rfl (entl_bor (use_lo rfl) rfl rfl (entl_bor (use_lo rfl) rfl rfl entl_nil)))
   (fun c2 h => ret_at hR _ h (fun n => n) rfl rfl rfl (rn_bool_tf rfl) rfl (entl_bor (use_lo rfl) rfl rfl (entl_bor (use_lo rfl) rfl rfl entl_nil))))))
   (fun c0 h => no_some h)
theorem a59 (ao no mo : Nat) (to : Nat → Bool) (al nl ml : Nat) (tl vl gl : Nat → Int) {r : Rt59} (h : Goes ((q59 ao no mo to al nl ml tl vl gl)) ((p59 ao no mo to al nl ml tl vl gl)) r) : CallR Try.prog 59 [.loose ⟨0, 1, ao, 0⟩ no, .loose ⟨1, 3, al, 0⟩ nl] [[(0, (false, .cols mo [.bool to])), (1, (false, .cols ml [.int .i64 tl, .int .i64 vl, .int .i64 gl]))]] 2 ((V59 ao no mo to al nl ml tl vl gl) r) ((fun r => [newL (2 + 1) ((N59 ao no mo to al nl ml tl vl gl) r) ++ [(0, (false, .cols mo [.bool to])), (1, (false, .cols ml [.int .i64 tl, .int .i64 vl, .int .i64 gl]))]]) r) 400 ∧ ∃ F, Try.prog.funcs[59]? = some F ∧ F.body.isSome = true ∧ (F.name == "runtime.NumGoroutine") = false := by
  refine dec_calls (f := 59) (lo := 2) (hi := 400) (H := [[(0, (false, .cols mo [.bool to])), (1, (false, .cols ml [.int .i64 tl, .int .i64 vl, .int .i64 gl]))]]) (args := [.loose ⟨0, 1, ao, 0⟩ no, .loose ⟨1, 3, al, 0⟩ nl]) Try.envOk Try.mixed xY_ok ((I59 ao no mo to al nl ml tl vl gl)) ((V59 ao no mo to al nl ml tl vl gl)) (fun r => [newL (2 + 1) ((N59 ao no mo to al nl ml tl vl gl) r) ++ [(0, (false, .cols mo [.bool to])), (1, (false, .cols ml [.int .i64 tl, .int .i64 vl, .int .i64 gl]))]]) (fn := mkFn Try.f59) (ts := []) (n := 400) rfl (by decide) (by simp) (names_of rfl) ?_ ?_ ?_ h
  · intro s; exact s.elim
  · intro Kst Kret x hS hR h
    exact Holds.eq (te59 cond Kst Kret ao no mo to al nl ml tl vl gl) (be59 ao no mo to al nl ml tl vl gl Kst Kret x hS hR h)
  · intro Kst Kret x hS hR s h; exact s.elim
noncomputable def k59  : Con := ⟨59, [.one (.list [.bool]), .one (.list [.int .i64, .int .i64, .int .i64])], fun (x : (Nat × Nat × Nat × (Nat → Bool) × Unit) × (Nat × Nat × Nat × (Nat → Int) × (Nat → Int) × (Nat → Int) × Unit) × Unit) => (fun (ao no mo : Nat) (to : Nat → Bool) (al nl ml : Nat) (tl : Nat → Int) (vl : Nat → Int) (gl : Nat → Int) => decide (al + nl ≤ ml ∧ nl ≤ 1000000 ∧ ao + no ≤ mo ∧ no ≤ 1000000)) x.1.1 x.1.2.1 x.1.2.2.1 x.1.2.2.2.1 x.2.1.1 x.2.1.2.1 x.2.1.2.2.1 x.2.1.2.2.2.1 x.2.1.2.2.2.2.1 x.2.1.2.2.2.2.2.1, fun (x : (Nat × Nat × Nat × (Nat → Bool) × Unit) × (Nat × Nat × Nat × (Nat → Int) × (Nat → Int) × (Nat → Int) × Unit) × Unit) => (fun (ao no mo : Nat) (to : Nat → Bool) (al nl ml : Nat) (tl : Nat → Int) (vl : Nat → Int) (gl : Nat → Int) => (V59 ao no mo to al nl ml tl vl gl) (S.safB no (fun j => to (j + ao)) nl (fun j => tl (j + al)) (fun j => vl (j + al)) (fun j => gl (j + al)))) x.1.1 x.1.2.1 x.1.2.2.1 x.1.2.2.2.1 x.2.1.1 x.2.1.2.1 x.2.1.2.2.1 x.2.1.2.2.2.1 x.2.1.2.2.2.2.1 x.2.1.2.2.2.2.2.1, fun (x : (Nat × Nat × Nat × (Nat → Bool) × Unit) × (Nat × Nat × Nat × (Nat → Int) × (Nat → Int) × (Nat → Int) × Unit) × Unit) => (fun (ao no mo : Nat) (to : Nat → Bool) (al nl ml : Nat) (tl : Nat → Int) (vl : Nat → Int) (gl : Nat → Int) => (N59 ao no mo to al nl ml tl vl gl) (S.safB no (fun j => to (j + ao)) nl (fun j => tl (j + al)) (fun j => vl (j + al)) (fun j => gl (j + al)))) x.1.1 x.1.2.1 x.1.2.2.1 x.1.2.2.2.1 x.2.1.1 x.2.1.2.1 x.2.1.2.2.1 x.2.1.2.2.2.1 x.2.1.2.2.2.2.1 x.2.1.2.2.2.2.2.1, fun _ _ => .dead⟩
theorem s59 (ao no mo : Nat) (to : Nat → Bool) (al nl ml : Nat) (tl vl gl : Nat → Int) (hp : al + nl ≤ ml ∧ nl ≤ 1000000 ∧ ao + no ≤ mo ∧ no ≤ 1000000) : Goes ((q59 ao no mo to al nl ml tl vl gl)) ((p59 ao no mo to al nl ml tl vl gl)) (S.safB no (fun j => to (j + ao)) nl (fun j => tl (j + al)) (fun j => vl (j + al)) (fun j => gl (j + al))) := by
  unfold p59 S.safB
  rw [decide_eq_true hp]
  generalize S.opnB 1 no (fun j => to (j + ao)) nl (fun j => tl (j + al)) (fun j => vl (j + al)) (fun j => gl (j + al)) = A
  generalize S.opnB 2 no (fun j => to (j + ao)) nl (fun j => tl (j + al)) (fun j => vl (j + al)) (fun j => gl (j + al)) = B
  cases A <;> cases B <;> exact goes_inr.mpr rfl
theorem k59_ok  : k59.ok Try.prog := by
  intro x hx
  obtain ⟨⟨ao, no, mo, to, _⟩, ⟨al, nl, ml, tl, vl, gl, _⟩, _⟩ := x
  obtain ⟨h1, h2⟩ := a59 ao no mo to al nl ml tl vl gl (s59 ao no mo to al nl ml tl vl gl (of_dec hx rfl))
  exact ⟨⟨400, (by decide : 2 + 1 + 0 ≤ 400), h1⟩, h2⟩
abbrev St57  := Empty
abbrev Rt57  := Bool
noncomputable def V57 (aq nq mq : Nat) (tq : Nat → ByteArray) (vq gq : Nat → Int) (de st : Int) (r : Rt57) : PV := PV.bool r
noncomputable def N57 (aq nq mq : Nat) (tq : Nat → ByteArray) (vq gq : Nat → Int) (de st : Int) (r : Rt57) : List Blk := []
noncomputable def I57 (aq nq mq : Nat) (tq : Nat → ByteArray) (vq gq : Nat → Int) (de st : Int) : St57 → Hd := fun s => s.elim
noncomputable def q57 (aq nq mq : Nat) (tq : Nat → ByteArray) (vq gq : Nat → Int) (de st : Int) : St57 → Option (St57 ⊕ Rt57) := fun s => s.elim
noncomputable def p57 (aq nq mq : Nat) (tq : Nat → ByteArray) (vq gq : Nat → Int) (de st : Int) : Option (St57 ⊕ Rt57) := bif (lim IntKind.i64 ((↑nq : Int) - (1 : Int)))
 then (bif (decide (st ≥ (0 : Int)))
 then (bif (decide (st ≤ (↑nq : Int) - (1 : Int)))
 then (some (.inr (true)))
 else (some (.inr (false))))
 else (some (.inr (false))))
 else (none)
noncomputable def Te57 (test : Bool → Prop → Prop → Prop) (Kst : KS) (Kret : KR) (aq nq mq : Nat) (tq : Nat → ByteArray) (vq gq : Nat → Int) (de st : Int) : Prop :=
  test (lim IntKind.i64 ((↑nq : Int) - (1 : Int)))
 (test (decide (st ≥ (0 : Int)))
 (test (decide (st ≤ (↑nq : Int) - (1 : Int)))
 (Kret (PV.tf true) ([[(0, false,
 Blk.cols mq [Col.str tq, Col.int IntKind.i64 vq, Col.int IntKind.i64 gq])]]) (2))
 (Kret (PV.tf false) ([[(0, false,
 Blk.cols mq [Col.str tq, Col.int IntKind.i64 vq, Col.int IntKind.i64 gq])]]) (2)))
 (Kret (PV.tf false) ([[(0, false,
 Blk.cols mq [Col.str tq, Col.int IntKind.i64 vq, Col.int IntKind.i64 gq])]]) (2)))
 (False)
theorem te57 (test : Bool → Prop → Prop → Prop) (Kst : KS) (Kret : KR) (aq nq mq : Nat) (tq : Nat → ByteArray) (vq gq : Nat → Int) (de st : Int) : run test Try.env true noX true 400 ⟨57, [.cd (mkFn Try.f57).body], argT 0 [.agg [.loose ⟨0, 3, aq, 0⟩ nq, .int .i64 de], .int .i64 st], [[], [(0, (false, .cols mq [.str tq, .int .i64 vq, .int .i64 gq]))]], 1⟩ (proj 1 [] Kst Kret) =
  Te57 test Kst Kret aq nq mq tq vq gq de st := by kernel_rfl
theorem be57 (aq nq mq : Nat) (tq : Nat → ByteArray) (vq gq : Nat → Int) (de st : Int) (Kst : KS) (Kret : KR) (x : St57 ⊕ Rt57) (hS : HS 1 400 ((I57 aq nq mq tq vq gq de st)) Kst x) (hR : HR 1 400 ((V57 aq nq mq tq vq gq de st)) (fun r => [newL (1 + 1) ((N57 aq nq mq tq vq gq de st) r) ++ [(0, (false, .cols mq [.str tq, .int .i64 vq, .int .i64 gq]))]]) Kret x) (h : p57 aq nq mq tq vq gq de st = some x) : Te57 cond Kst Kret aq nq mq tq vq gq de st := by
  unfold Te57
  unfold p57 at h
  refine bif_split h
   (fun c0 h => bif_split h
   (fun c1 h => bif_split h
   (fun c2 h => ret_at hR _ h (fun n => n) rfl rfl rfl (rn_bool_tf rfl) rfl (entl_bor (use_lo rfl) rfl rfl entl_nil))
   (fun c2 h => ret_at hR _ h (fun n => n) rfl rfl rfl (rn_bool_tf rfl) rfl (entl_bor (use_lo rfl) rfl rfl entl_nil)))
   (fun c1 h => ret_at hR _ h (fun n => n) rfl rfl rfl (rn_bool_tf rfl) rfl (entl_bor (use_lo rfl) rfl rfl entl_nil)))
   (fun c0 h => no_some h)
theorem a57 (aq nq mq : Nat) (tq : Nat → ByteArray) (vq gq : Nat → Int) (de st : Int) {r : Rt57} (h : Goes ((q57 aq nq mq tq vq gq de st)) ((p57 aq nq mq tq vq gq de st)) r) : CallR Try.prog 57 [.agg [.loose ⟨0, 3, aq, 0⟩ nq, .int .i64 de], .int .i64 st] [[(0, (false, .cols mq [.str tq, .int .i64 vq, .int .i64 gq]))]] 1 ((V57 aq nq mq tq vq gq de st) r) ((fun r => [newL (1 + 1) ((N57 aq nq mq tq vq gq de st) r) ++ [(0, (false, .cols mq [.str tq, .int .i64 vq, .int .i64 gq]))]]) r) 400 ∧ ∃ F, Try.prog.funcs[57]? = some F ∧ F.body.isSome = true ∧ (F.name == "runtime.NumGoroutine") = false := by
  refine dec_calls (f := 57) (lo := 1) (hi := 400) (H := [[(0, (false, .cols mq [.str tq, .int .i64 vq, .int .i64 gq]))]]) (args := [.agg [.loose ⟨0, 3, aq, 0⟩ nq, .int .i64 de], .int .i64 st]) Try.envOk Try.mixed noX_ok ((I57 aq nq mq tq vq gq de st)) ((V57 aq nq mq tq vq gq de st)) (fun r => [newL (1 + 1) ((N57 aq nq mq tq vq gq de st) r) ++ [(0, (false, .cols mq [.str tq, .int .i64 vq, .int .i64 gq]))]]) (fn := mkFn Try.f57) (ts := []) (n := 400) rfl (by decide) (by simp) (names_of rfl) ?_ ?_ ?_ h
  · intro s; exact s.elim
  · intro Kst Kret x hS hR h
    exact Holds.eq (te57 cond Kst Kret aq nq mq tq vq gq de st) (be57 aq nq mq tq vq gq de st Kst Kret x hS hR h)
  · intro Kst Kret x hS hR s h; exact s.elim
noncomputable def k57  : Con := ⟨57, [.agg [.list [.str, .int .i64, .int .i64], .plain (.int .i64)], .one (.plain (.int .i64))], fun (x : ((Nat × Nat × Nat × (Nat → ByteArray) × (Nat → Int) × (Nat → Int) × Unit) × Int × Unit) × Int × Unit) => (fun (aq nq mq : Nat) (tq : Nat → ByteArray) (vq : Nat → Int) (gq : Nat → Int) (de : Int) (st : Int) => decide (nq ≤ 1000000)) x.1.1.1 x.1.1.2.1 x.1.1.2.2.1 x.1.1.2.2.2.1 x.1.1.2.2.2.2.1 x.1.1.2.2.2.2.2.1 x.1.2.1 x.2.1, fun (x : ((Nat × Nat × Nat × (Nat → ByteArray) × (Nat → Int) × (Nat → Int) × Unit) × Int × Unit) × Int × Unit) => (fun (aq nq mq : Nat) (tq : Nat → ByteArray) (vq : Nat → Int) (gq : Nat → Int) (de : Int) (st : Int) => (V57 aq nq mq tq vq gq de st) (decide (0 ≤ st ∧ st < (nq : Int)))) x.1.1.1 x.1.1.2.1 x.1.1.2.2.1 x.1.1.2.2.2.1 x.1.1.2.2.2.2.1 x.1.1.2.2.2.2.2.1 x.1.2.1 x.2.1, fun (x : ((Nat × Nat × Nat × (Nat → ByteArray) × (Nat → Int) × (Nat → Int) × Unit) × Int × Unit) × Int × Unit) => (fun (aq nq mq : Nat) (tq : Nat → ByteArray) (vq : Nat → Int) (gq : Nat → Int) (de : Int) (st : Int) => (N57 aq nq mq tq vq gq de st) (decide (0 ≤ st ∧ st < (nq : Int)))) x.1.1.1 x.1.1.2.1 x.1.1.2.2.1 x.1.1.2.2.2.1 x.1.1.2.2.2.2.1 x.1.1.2.2.2.2.2.1 x.1.2.1 x.2.1, fun _ _ => .dead⟩
theorem s57 (aq nq mq : Nat) (tq : Nat → ByteArray) (vq gq : Nat → Int) (de st : Int) (hp : nq ≤ 1000000) : Goes ((q57 aq nq mq tq vq gq de st)) ((p57 aq nq mq tq vq gq de st)) (decide (0 ≤ st ∧ st < (nq : Int))) := by
  show Goes _ _ _
  unfold p57
  repeat' first
    | with_reducible refine goes_if (fun h => ?_) (fun h => ?_) <;> (try simp only [SH] at h)
    | exact goes_none.mpr (by omega)
  all_goals first | (exfalso; omega) | (refine goes_inr.mpr ?_; first | exact (decide_eq_true (by omega)).symm | exact (decide_eq_false (by omega)).symm)
theorem k57_ok  : k57.ok Try.prog := by
  intro x hx
  obtain ⟨⟨⟨aq, nq, mq, tq, vq, gq, _⟩, de, _⟩, st, _⟩ := x
  obtain ⟨h1, h2⟩ := a57 aq nq mq tq vq gq de st (s57 aq nq mq tq vq gq de st (of_dec hx rfl))
  exact ⟨⟨400, (by decide : 1 + 1 + 0 ≤ 400), h1⟩, h2⟩
noncomputable def xZ (test : Bool → Prop → Prop → Prop) : Ext := consX test [k19, k20, k44, k46, k47, k53, k55, k54, k56, k57, k58, k59]
theorem xZ_ok  : ExtOk Try.prog (xZ cond) := consX_ok ⟨k19_ok, k20_ok, k44_ok, k46_ok, k47_ok, k53_ok, k55_ok, k54_ok, k56_ok, k57_ok, k58_ok, k59_ok, trivial⟩
namespace S
def latS (n : Nat) (v g : Nat → Int) (de e st k l p : Int) : Int × Int := if e = 0 then (if 0 ≤ st ∧ st < (n : Int) then (if failE n k l p = 0 then (latI n v g de st k l p, 0) else (0, failE n k l p)) else (0, 6)) else (0, e)
def op1 (lp : Int) (n : Nat) (loc : Nat → Bool) (k l p : Int) : Bool := opnB lp n loc 1 (fun _ => k) (fun _ => l) (fun _ => p)
def looS (n no : Nat) (e : Int) (loc : Nat → Bool) (k l p : Int) : Bool × Bool × Int := if e = 0 then (if no = n then (if failE n k l p = 0 then (!op1 1 n loc k l p, !op1 2 n loc k l p, 0) else (false, false, failE n k l p)) else (false, false, 6)) else (false, false, e)
end S
theorem op1_eq  {lp : Int} {n : Nat} {loc : Nat → Bool} {k l p : Int} : S.opnB lp n loc 1 (fun j => S.lit [k] 0 j) (fun j => S.lit [l] 0 j) (fun j => S.lit [p] 0 j) = S.op1 lp n loc k l p :=
  opnB_congr (fun j hj => rfl) (fun j hj => by rw [show j = 0 by omega]; exact ⟨rfl, rfl, rfl⟩)
abbrev St25  := Empty
abbrev Rt25  := Int × Int
noncomputable def V25 (aq nq mq : Nat) (tq : Nat → ByteArray) (vq gq : Nat → Int) (de st k1 k2 k3 : Int) (r : Rt25) : PV := PV.tup [PV.int IntKind.i64 r.1, PV.int IntKind.i64 r.2]
noncomputable def N25 (aq nq mq : Nat) (tq : Nat → ByteArray) (vq gq : Nat → Int) (de st k1 k2 k3 : Int) (r : Rt25) : List Blk := []
noncomputable def I25 (aq nq mq : Nat) (tq : Nat → ByteArray) (vq gq : Nat → Int) (de st k1 k2 k3 : Int) : St25 → Hd := fun s => s.elim
noncomputable def q25 (aq nq mq : Nat) (tq : Nat → ByteArray) (vq gq : Nat → Int) (de st k1 k2 k3 : Int) : St25 → Option (St25 ⊕ Rt25) := fun s => s.elim
noncomputable def p25 (aq nq mq : Nat) (tq : Nat → ByteArray) (vq gq : Nat → Int) (de st k1 k2 k3 : Int) : Option (St25 ⊕ Rt25) := bif (decide (aq + nq ≤ mq ∧ nq ≤ 1000000))
 then (bif (S.netE nq (fun j => tq (j + aq)) (fun j => vq (j + aq)) (fun j => gq (j + aq)) de !=
 (0 : Int))
 then (some (.inr ((0 : Int), S.netE nq (fun j => tq (j + aq)) (fun j => vq (j + aq)) (fun j => gq (j + aq)) de)))
 else (bif (decide (nq ≤ 1000000))
 then (bif (decide ((0 : Int) ≤ st ∧ st < (↑nq : Int)))
 then (bif (decide (nq ≤ 100000))
 then (bif (S.failE nq k1 k2 k3 != (0 : Int))
 then (some (.inr ((0 : Int), S.failE nq k1 k2 k3)))
 else (bif (decide
 (aq + nq ≤ mq ∧
 S.netE nq (fun j => tq (j + aq)) (fun j => vq (j + aq)) (fun j => gq (j + aq)) de =
 (0 : Int) ∧
 (0 : Int) ≤ st ∧ st < (↑nq : Int)))
 then (some (.inr (S.latI nq (fun j => vq (j + aq)) (fun j => gq (j + aq)) de st k1 k2 k3, (0 : Int))))
 else (none)))
 else (none))
 else (some (.inr ((0 : Int), (6 : Int)))))
 else (none)))
 else (none)
noncomputable def Te25 (test : Bool → Prop → Prop → Prop) (Kst : KS) (Kret : KR) (aq nq mq : Nat) (tq : Nat → ByteArray) (vq gq : Nat → Int) (de st k1 k2 k3 : Int) : Prop :=
  test (decide (aq + nq ≤ mq ∧ nq ≤ 1000000))
 (test (S.netE nq (fun j => tq (j + aq)) (fun j => vq (j + aq)) (fun j => gq (j + aq)) de !=
 (0 : Int))
 (Kret (PV.tup
 [PV.int IntKind.i64 (0 : Int),
 PV.int IntKind.i64
 (S.netE nq (fun j => tq (j + aq)) (fun j => vq (j + aq)) (fun j => gq (j + aq)) de)]) ([[(0, false,
 Blk.cols mq [Col.str tq, Col.int IntKind.i64 vq, Col.int IntKind.i64 gq])]]) (4))
 (test (decide (nq ≤ 1000000))
 (test (decide ((0 : Int) ≤ st ∧ st < (↑nq : Int)))
 (test (decide (nq ≤ 100000))
 (test (S.failE nq k1 k2 k3 != (0 : Int))
 (Kret (PV.tup [PV.int IntKind.i64 (0 : Int), PV.int IntKind.i64 (S.failE nq k1 k2 k3)]) ([[(0, false,
 Blk.cols mq [Col.str tq, Col.int IntKind.i64 vq, Col.int IntKind.i64 gq])]]) (6))
 (test (decide
 (aq + nq ≤ mq ∧
 S.netE nq (fun j => tq (j + aq)) (fun j => vq (j + aq)) (fun j => gq (j + aq)) de =
 (0 : Int) ∧
 (0 : Int) ≤ st ∧ st < (↑nq : Int)))
 (Kret (PV.tup
 [PV.int IntKind.i64
 (S.latI nq (fun j => vq (j + aq)) (fun j => gq (j + aq)) de st k1 k2 k3),
 PV.int IntKind.i64 (0 : Int)]) ([[(0, false,
 Blk.cols mq [Col.str tq, Col.int IntKind.i64 vq, Col.int IntKind.i64 gq])]]) (7))
 (False)))
 (False))
 (Kret (PV.tup [PV.int IntKind.i64 (0 : Int), PV.int IntKind.i64 (6 : Int)]) ([[(0, false,
 Blk.cols mq [Col.str tq, Col.int IntKind.i64 vq, Col.int IntKind.i64 gq])]]) (5)))
 (False)))
 (False)
end Go.Ev
