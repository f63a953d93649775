/-
  The parts that the statement needs, 3 of 3.
-/
import Derived.Test.YtblnmffeinabcaaV5042
namespace Go.Ev
open Go.Proofs
open Go.IntWalk
set_option linter.unusedVariables false
set_option linter.unusedSimpArgs false
set_option maxRecDepth 100000
set_option maxHeartbeats 2000000
theorem draft_ok {L : List Int} {rp fl : Int} (h1 : S.good L 22) (h2 : 2 ≤ L.length ∧ L.length ≤ 8) (h3 : 1 ≤ rp ∧ rp ≤ 3) (h4 : (0 ≤ fl ∧ fl ≤ 20) ∧ fl ≠ S.at' L (L.length - 1)) : S.cyE (ByteArray.mk #[99]) L.length (fun j => S.at' L j) rp fl = 0 := by
  unfold S.cyE
  rw [if_pos name_c, if_neg (by omega), if_neg (by omega), curE_yes fun j _ hj => ?_, if_pos (by omega), if_neg h4.2]
  have := h1 j (by omega)
  exact ⟨by omega, this.2⟩
inductive St132 where
  | h0 (x0 : Int) (x1 : List Int)
  | h1 (x0 : List Int)
abbrev Rt132 := Int × List Int
noncomputable def V132 (al nl ml : Nat) (tl : Nat → Int) (rp : Int) (fi : Int) (r : Rt132) : PV := PV.agg
 [PV.str (ByteArray.mk #[(99 : UInt8)]), PV.own (2) (1) (List.length r.2),
 PV.int IntKind.i64 ((1 : Int) + Int.tmod rp (3 : Int)), PV.int IntKind.i64 r.1]
noncomputable def N132 (al nl ml : Nat) (tl : Nat → Int) (rp : Int) (fi : Int) (r : Rt132) : List Blk := [Blk.cols (List.length r.2) [Col.int IntKind.i64 fun j => S.at' r.2 j]]
noncomputable def I132 (al nl ml : Nat) (tl : Nat → Int) (rp : Int) (fi : Int) : St132 → Hd
  | .h0 x0 x1 => ⟨hd Try.f9 0, [PV.ptr (PA.mk (1) (0) (0) (0)),
 PV.ptr (PA.mk (2) (0) (0) (0)),
 PV.ptr (PA.mk (3) (0) (0) (0)), PV.int IntKind.i64 x0], [[(1, (true, Blk.cells
 [PV.loose (PA.mk (0) (1) al (0)) nl, PV.int IntKind.u8 rp,
 PV.int IntKind.u8 fi])), (2, (true, Blk.cells
 [PV.str (ByteArray.mk (Array.mk [])), PV.nils, PV.int IntKind.i64 (0 : Int),
 PV.int IntKind.i64 (0 : Int)])), (3, (true, Blk.cells
 [PV.str (ByteArray.mk #[(99 : UInt8)]), PV.own (4) (1) (List.length x1),
 PV.int IntKind.i64 ((1 : Int) + Int.tmod rp (3 : Int)), PV.int IntKind.i64 (0 : Int)])), (4, (true, Blk.cols (List.length x1) [Col.int IntKind.i64 fun j => S.at' x1 j]))], [(0, (false, .cols ml [.int .u8 tl]))]], 5⟩
  | .h1 x0 => ⟨hd Try.f9 1, [PV.ptr (PA.mk (1) (0) (0) (0)),
 PV.ptr (PA.mk (2) (0) (0) (0)),
 PV.ptr (PA.mk (3) (0) (0) (0)), PV.unk], [[(1, (true, Blk.cells
 [PV.loose (PA.mk (0) (1) al (0)) nl, PV.int IntKind.u8 rp,
 PV.int IntKind.u8 fi])), (2, (true, Blk.cells
 [PV.str (ByteArray.mk (Array.mk [])), PV.nils, PV.int IntKind.i64 (0 : Int),
 PV.int IntKind.i64 (0 : Int)])), (3, (true, Blk.cells
 [PV.str (ByteArray.mk #[(99 : UInt8)]), PV.own (4) (1) (List.length x0),
 PV.int IntKind.i64 ((1 : Int) + Int.tmod rp (3 : Int)), PV.int IntKind.i64 (0 : Int)])), (4, (true, Blk.cols (List.length x0) [Col.int IntKind.i64 fun j => S.at' x0 j]))], [(0, (false, .cols ml [.int .u8 tl]))]], 5⟩
noncomputable def q132 (al nl ml : Nat) (tl : Nat → Int) (rp : Int) (fi : Int) : St132 → Option (St132 ⊕ Rt132)
  | .h0 x0 x1 => bif (decide (x0 < (↑nl : Int)))
 then (bif (decide (x0 < (8 : Int)))
 then (bif (decide ((0 : Int) ≤ x0 ∧ x0 < (↑nl : Int)))
 then (bif (decide (Int.toNat x0 + al < ml))
 then (bif (lim IntKind.i64 (tl (Int.toNat x0 + al)))
 then (bif ((↑(List.length x1) : Int) == (0 : Int))
 then (bif (decide (List.length x1 + 1 ≤ 1000000))
 then (bif (decide (List.length x1 ≤ List.length x1))
 then (bif (lim IntKind.i64 (x0 + (1 : Int)))
 then (some (.inl (.h0 (x0 + (1 : Int)) (S.snoc x1 (Int.tmod (tl (Int.toNat x0 + al)) (20 : Int))))))
 else (none))
 else (none))
 else (none))
 else (bif (lim IntKind.i64 ((↑(List.length x1) : Int) - (1 : Int)))
 then (bif (decide
 ((0 : Int) ≤ (↑(List.length x1) : Int) - (1 : Int) ∧
 (↑(List.length x1) : Int) - (1 : Int) < (↑(List.length x1) : Int)))
 then (bif (decide (Int.toNat ((↑(List.length x1) : Int) - (1 : Int)) < List.length x1))
 then (bif (S.at' x1 (Int.toNat ((↑(List.length x1) : Int) - (1 : Int))) != Int.tmod (tl (Int.toNat x0 + al)) (20 : Int))
 then (bif (decide (List.length x1 + 1 ≤ 1000000))
 then (bif (decide (List.length x1 ≤ List.length x1))
 then (bif (lim IntKind.i64 (x0 + (1 : Int)))
 then (some (.inl (.h0 (x0 + (1 : Int)) (S.snoc x1 (Int.tmod (tl (Int.toNat x0 + al)) (20 : Int))))))
 else (none))
 else (none))
 else (none))
 else (bif (lim IntKind.i64 (x0 + (1 : Int)))
 then (some (.inl (.h0 (x0 + (1 : Int)) (x1))))
 else (none)))
 else (none))
 else (none))
 else (none)))
 else (none))
 else (none))
 else (none))
 else (some (.inl (.h1 (x1)))))
 else (some (.inl (.h1 (x1))))
  | .h1 x0 => bif (decide ((↑(List.length x0) : Int) < (2 : Int)))
 then (bif (lim IntKind.i64 ((20 : Int) + (↑(List.length x0) : Int)))
 then (bif (decide (List.length x0 + 1 ≤ 1000000))
 then (bif (decide (List.length x0 ≤ List.length x0))
 then (some (.inl (.h1 (S.snoc x0 ((20 : Int) + (↑(List.length x0) : Int))))))
 else (none))
 else (none))
 else (none))
 else (bif (lim IntKind.i64 fi)
 then (bif (lim IntKind.i64 ((↑(List.length x0) : Int) - (1 : Int)))
 then (bif (decide
 ((0 : Int) ≤ (↑(List.length x0) : Int) - (1 : Int) ∧
 (↑(List.length x0) : Int) - (1 : Int) < (↑(List.length x0) : Int)))
 then (bif (decide (Int.toNat ((↑(List.length x0) : Int) - (1 : Int)) < List.length x0))
 then (bif (Int.tmod fi (20 : Int) == S.at' x0 (Int.toNat ((↑(List.length x0) : Int) - (1 : Int))))
 then (bif (lim IntKind.i64 (Int.tmod fi (20 : Int) + (1 : Int)))
 then (some (.inr (Int.tmod fi (20 : Int) + (1 : Int), x0)))
 else (none))
 else (some (.inr (Int.tmod fi (20 : Int), x0))))
 else (none))
 else (none))
 else (none))
 else (none))
noncomputable def p132 (al nl ml : Nat) (tl : Nat → Int) (rp : Int) (fi : Int) : Option (St132 ⊕ Rt132) := bif (lim IntKind.i64 rp)
 then (bif (lim IntKind.i64 ((1 : Int) + Int.tmod rp (3 : Int)))
 then (some (.inl (.h0 ((0 : Int)) ([]))))
 else (none))
 else (none)
noncomputable def Te132 (test : Bool → Prop → Prop → Prop) (Kst : KS) (Kret : KR) (al nl ml : Nat) (tl : Nat → Int) (rp : Int) (fi : Int) : Prop :=
  test (lim IntKind.i64 rp)
 (test (false)
 (False)
 (test (lim IntKind.i64 ((1 : Int) + Int.tmod rp (3 : Int)))
 (Kst (hd Try.f9 0) ([PV.ptr (PA.mk (1) (0) (0) (0)),
 PV.ptr (PA.mk (2) (0) (0) (0)),
 PV.ptr (PA.mk (3) (0) (0) (0)), PV.int IntKind.i64 (0 : Int)]) ([[(0, false, Blk.cols ml [Col.int IntKind.u8 tl]),
 (3, true,
 Blk.cells
 [PV.str (ByteArray.mk #[(99 : UInt8)]), PV.nils,
 PV.int IntKind.i64 ((1 : Int) + Int.tmod rp (3 : Int)), PV.int IntKind.i64 (0 : Int)]),
 (2, true,
 Blk.cells
 [PV.str (ByteArray.mk (Array.mk [])), PV.nils, PV.int IntKind.i64 (0 : Int),
 PV.int IntKind.i64 (0 : Int)]),
 (1, true,
 Blk.cells
 [PV.loose (PA.mk (0) (1) al (0)) nl, PV.int IntKind.u8 rp,
 PV.int IntKind.u8 fi])]]) (4))
 (False)))
 (False)
theorem te132 (test : Bool → Prop → Prop → Prop) (Kst : KS) (Kret : KR) (al nl ml : Nat) (tl : Nat → Int) (rp : Int) (fi : Int) : run test Try.env true noX true 400 ⟨9, [.cd (mkFn Try.f9).body], argT 0 [.agg [.loose ⟨0, 1, al, 0⟩ nl, .int .u8 rp, .int .u8 fi]], [[], [(0, (false, .cols ml [.int .u8 tl]))]], 1⟩ (proj 1 [1, 2, 3, 4] Kst Kret) =
  Te132 test Kst Kret al nl ml tl rp fi := by kernel_rfl
noncomputable def T132_0 (test : Bool → Prop → Prop → Prop) (Kst : KS) (Kret : KR) (al nl ml : Nat) (tl : Nat → Int) (rp : Int) (fi : Int) (x0 : Int) (x1 : List Int) : Prop :=
  test (decide (x0 < (↑nl : Int)))
 (test (decide (x0 < (8 : Int)))
 (test (decide ((0 : Int) ≤ x0 ∧ x0 < (↑nl : Int)))
 (test (decide (Int.toNat x0 + al < ml))
 (test (lim IntKind.i64 (tl (Int.toNat x0 + al)))
 (test (false)
 (False)
 (test ((↑(List.length x1) : Int) == (0 : Int))
 (test (decide (List.length x1 + 1 ≤ 1000000))
 (test (decide (List.length x1 ≤ List.length x1))
 (test (true)
 (test (lim IntKind.i64 (x0 + (1 : Int)))
 (Kst (hd Try.f9 0) ([PV.ptr (PA.mk (1) (0) (0) (0)),
 PV.ptr (PA.mk (2) (0) (0) (0)),
 PV.ptr (PA.mk (3) (0) (0) (0)),
 PV.int IntKind.i64 (x0 + (1 : Int))]) ([[(0, false, Blk.cols ml [Col.int IntKind.u8 tl]),
 (3, true,
 Blk.cells
 [PV.str (ByteArray.mk #[(99 : UInt8)]), PV.own (6) (1) (List.length x1 + 1),
 PV.int IntKind.i64 ((1 : Int) + Int.tmod rp (3 : Int)), PV.int IntKind.i64 (0 : Int)]),
 (2, true,
 Blk.cells
 [PV.str (ByteArray.mk (Array.mk [])), PV.nils, PV.int IntKind.i64 (0 : Int),
 PV.int IntKind.i64 (0 : Int)]),
 (1, true,
 Blk.cells
 [PV.loose (PA.mk (0) (1) al (0)) nl, PV.int IntKind.u8 rp,
 PV.int IntKind.u8 fi]),
 (6, true,
 Blk.cols (List.length x1 + 1)
 [Col.int IntKind.i64 fun j =>
 bif Nat.blt j (List.length x1) then S.at' x1 j else Int.tmod (tl (Int.toNat x0 + al)) (20 : Int)])]]) (7))
 (False))
 (False))
 (False))
 (False))
 (test (lim IntKind.i64 ((↑(List.length x1) : Int) - (1 : Int)))
 (test (decide
 ((0 : Int) ≤ (↑(List.length x1) : Int) - (1 : Int) ∧
 (↑(List.length x1) : Int) - (1 : Int) < (↑(List.length x1) : Int)))
 (test (decide (Int.toNat ((↑(List.length x1) : Int) - (1 : Int)) < List.length x1))
 (test (S.at' x1 (Int.toNat ((↑(List.length x1) : Int) - (1 : Int))) != Int.tmod (tl (Int.toNat x0 + al)) (20 : Int))
 (test (decide (List.length x1 + 1 ≤ 1000000))
 (test (decide (List.length x1 ≤ List.length x1))
 (test (true)
 (test (lim IntKind.i64 (x0 + (1 : Int)))
 (Kst (hd Try.f9 0) ([PV.ptr (PA.mk (1) (0) (0) (0)),
 PV.ptr (PA.mk (2) (0) (0) (0)),
 PV.ptr (PA.mk (3) (0) (0) (0)),
 PV.int IntKind.i64 (x0 + (1 : Int))]) ([[(0, false, Blk.cols ml [Col.int IntKind.u8 tl]),
 (3, true,
 Blk.cells
 [PV.str (ByteArray.mk #[(99 : UInt8)]), PV.own (6) (1) (List.length x1 + 1),
 PV.int IntKind.i64 ((1 : Int) + Int.tmod rp (3 : Int)), PV.int IntKind.i64 (0 : Int)]),
 (2, true,
 Blk.cells
 [PV.str (ByteArray.mk (Array.mk [])), PV.nils, PV.int IntKind.i64 (0 : Int),
 PV.int IntKind.i64 (0 : Int)]),
 (1, true,
 Blk.cells
 [PV.loose (PA.mk (0) (1) al (0)) nl, PV.int IntKind.u8 rp,
 PV.int IntKind.u8 fi]),
 (6, true,
 Blk.cols (List.length x1 + 1)
 [Col.int IntKind.i64 fun j =>
 bif Nat.blt j (List.length x1) then S.at' x1 j else Int.tmod (tl (Int.toNat x0 + al)) (20 : Int)])]]) (7))
 (False))
 (False))
 (False))
 (False))
 (test (lim IntKind.i64 (x0 + (1 : Int)))
 (Kst (hd Try.f9 0) ([PV.ptr (PA.mk (1) (0) (0) (0)),
 PV.ptr (PA.mk (2) (0) (0) (0)),
 PV.ptr (PA.mk (3) (0) (0) (0)),
 PV.int IntKind.i64 (x0 + (1 : Int))]) ([[(0, false, Blk.cols ml [Col.int IntKind.u8 tl]),
 (3, true,
 Blk.cells
 [PV.str (ByteArray.mk #[(99 : UInt8)]), PV.own (4) (1) (List.length x1),
 PV.int IntKind.i64 ((1 : Int) + Int.tmod rp (3 : Int)), PV.int IntKind.i64 (0 : Int)]),
 (2, true,
 Blk.cells
 [PV.str (ByteArray.mk (Array.mk [])), PV.nils, PV.int IntKind.i64 (0 : Int),
 PV.int IntKind.i64 (0 : Int)]),
 (1, true,
 Blk.cells
 [PV.loose (PA.mk (0) (1) al (0)) nl, PV.int IntKind.u8 rp,
 PV.int IntKind.u8 fi]),
 (4, true,
 Blk.cols (List.length x1) [Col.int IntKind.i64 fun j => S.at' x1 j])]]) (5))
 (False)))
 (False))
 (False))
 (False))))
 (False))
 (False))
 (False))
 (Kst (hd Try.f9 1) ([PV.ptr (PA.mk (1) (0) (0) (0)),
 PV.ptr (PA.mk (2) (0) (0) (0)),
 PV.ptr (PA.mk (3) (0) (0) (0)), PV.int IntKind.i64 x0]) ([[(0, false, Blk.cols ml [Col.int IntKind.u8 tl]),
 (3, true,
 Blk.cells
 [PV.str (ByteArray.mk #[(99 : UInt8)]), PV.own (4) (1) (List.length x1),
 PV.int IntKind.i64 ((1 : Int) + Int.tmod rp (3 : Int)), PV.int IntKind.i64 (0 : Int)]),
 (2, true,
 Blk.cells
 [PV.str (ByteArray.mk (Array.mk [])), PV.nils, PV.int IntKind.i64 (0 : Int),
 PV.int IntKind.i64 (0 : Int)]),
 (1, true,
 Blk.cells
 [PV.loose (PA.mk (0) (1) al (0)) nl, PV.int IntKind.u8 rp,
 PV.int IntKind.u8 fi]),
 (4, true,
 Blk.cols (List.length x1) [Col.int IntKind.i64 fun j => S.at' x1 j])]]) (5)))
 (Kst (hd Try.f9 1) ([PV.ptr (PA.mk (1) (0) (0) (0)),
 PV.ptr (PA.mk (2) (0) (0) (0)),
 PV.ptr (PA.mk (3) (0) (0) (0)), PV.int IntKind.i64 x0]) ([[(0, false, Blk.cols ml [Col.int IntKind.u8 tl]),
 (3, true,
 Blk.cells
 [PV.str (ByteArray.mk #[(99 : UInt8)]), PV.own (4) (1) (List.length x1),
 PV.int IntKind.i64 ((1 : Int) + Int.tmod rp (3 : Int)), PV.int IntKind.i64 (0 : Int)]),
 (2, true,
 Blk.cells
 [PV.str (ByteArray.mk (Array.mk [])), PV.nils, PV.int IntKind.i64 (0 : Int),
 PV.int IntKind.i64 (0 : Int)]),
 (1, true,
 Blk.cells
 [PV.loose (PA.mk (0) (1) al (0)) nl, PV.int IntKind.u8 rp,
 PV.int IntKind.u8 fi]),
 (4, true,
 Blk.cols (List.length x1) [Col.int IntKind.i64 fun j => S.at' x1 j])]]) (5))
theorem t132_0 (test : Bool → Prop → Prop → Prop) (Kst : KS) (Kret : KR) (al nl ml : Nat) (tl : Nat → Int) (rp : Int) (fi : Int) (x0 : Int) (x1 : List Int) : run test Try.env true noX true 400 ⟨9, hd Try.f9 0, zipT [1, 2, 3, 4] [PV.ptr (PA.mk (1) (0) (0) (0)),
 PV.ptr (PA.mk (2) (0) (0) (0)),
 PV.ptr (PA.mk (3) (0) (0) (0)), PV.int IntKind.i64 x0], [[(1, (true, Blk.cells
 [PV.loose (PA.mk (0) (1) al (0)) nl, PV.int IntKind.u8 rp,
 PV.int IntKind.u8 fi])), (2, (true, Blk.cells
 [PV.str (ByteArray.mk (Array.mk [])), PV.nils, PV.int IntKind.i64 (0 : Int),
 PV.int IntKind.i64 (0 : Int)])), (3, (true, Blk.cells
 [PV.str (ByteArray.mk #[(99 : UInt8)]), PV.own (4) (1) (List.length x1),
 PV.int IntKind.i64 ((1 : Int) + Int.tmod rp (3 : Int)), PV.int IntKind.i64 (0 : Int)])), (4, (true, Blk.cols (List.length x1) [Col.int IntKind.i64 fun j => S.at' x1 j]))], [(0, (false, .cols ml [.int .u8 tl]))]], 5⟩ (proj 1 [1, 2, 3, 4] Kst Kret) =
  T132_0 test Kst Kret al nl ml tl rp fi x0 x1 := by kernel_rfl
noncomputable def T132_1 (test : Bool → Prop → Prop → Prop) (Kst : KS) (Kret : KR) (al nl ml : Nat) (tl : Nat → Int) (rp : Int) (fi : Int) (x0 : List Int) : Prop :=
  test (decide ((↑(List.length x0) : Int) < (2 : Int)))
 (test (lim IntKind.i64 ((20 : Int) + (↑(List.length x0) : Int)))
 (test (decide (List.length x0 + 1 ≤ 1000000))
 (test (decide (List.length x0 ≤ List.length x0))
 (test (true)
 (Kst (hd Try.f9 1) ([PV.ptr (PA.mk (1) (0) (0) (0)),
 PV.ptr (PA.mk (2) (0) (0) (0)),
 PV.ptr (PA.mk (3) (0) (0) (0)), PV.unk]) ([[(0, false, Blk.cols ml [Col.int IntKind.u8 tl]),
 (3, true,
 Blk.cells
 [PV.str (ByteArray.mk #[(99 : UInt8)]), PV.own (6) (1) (List.length x0 + 1),
 PV.int IntKind.i64 ((1 : Int) + Int.tmod rp (3 : Int)), PV.int IntKind.i64 (0 : Int)]),
 (2, true,
 Blk.cells
 [PV.str (ByteArray.mk (Array.mk [])), PV.nils, PV.int IntKind.i64 (0 : Int),
 PV.int IntKind.i64 (0 : Int)]),
 (1, true,
 Blk.cells
 [PV.loose (PA.mk (0) (1) al (0)) nl, PV.int IntKind.u8 rp,
 PV.int IntKind.u8 fi]),
 (6, true,
 Blk.cols (List.length x0 + 1)
 [Col.int IntKind.i64 fun j =>
 bif Nat.blt j (List.length x0) then S.at' x0 j else (20 : Int) + (↑(List.length x0) : Int)])]]) (7))
 (False))
 (False))
 (False))
 (False))
 (test (lim IntKind.i64 fi)
 (test (false)
 (False)
 (test (lim IntKind.i64 ((↑(List.length x0) : Int) - (1 : Int)))
 (test (decide
 ((0 : Int) ≤ (↑(List.length x0) : Int) - (1 : Int) ∧
 (↑(List.length x0) : Int) - (1 : Int) < (↑(List.length x0) : Int)))
 (test (decide (Int.toNat ((↑(List.length x0) : Int) - (1 : Int)) < List.length x0))
 (test (Int.tmod fi (20 : Int) == S.at' x0 (Int.toNat ((↑(List.length x0) : Int) - (1 : Int))))
 (test (lim IntKind.i64 (Int.tmod fi (20 : Int) + (1 : Int)))
 (Kret (PV.agg
 [PV.str (ByteArray.mk #[(99 : UInt8)]), PV.own (4) (1) (List.length x0),
 PV.int IntKind.i64 ((1 : Int) + Int.tmod rp (3 : Int)),
 PV.int IntKind.i64 (Int.tmod fi (20 : Int) + (1 : Int))]) ([[(0, false, Blk.cols ml [Col.int IntKind.u8 tl]),
 (4, true,
 Blk.cols (List.length x0) [Col.int IntKind.i64 fun j => S.at' x0 j])]]) (5))
 (False))
 (Kret (PV.agg
 [PV.str (ByteArray.mk #[(99 : UInt8)]), PV.own (4) (1) (List.length x0),
 PV.int IntKind.i64 ((1 : Int) + Int.tmod rp (3 : Int)),
 PV.int IntKind.i64 (Int.tmod fi (20 : Int))]) ([[(0, false, Blk.cols ml [Col.int IntKind.u8 tl]),
 (4, true,
 Blk.cols (List.length x0) [Col.int IntKind.i64 fun j => S.at' x0 j])]]) (5)))
 (False))
 (False))
 (False)))
 (False))
theorem t132_1 (test : Bool → Prop → Prop → Prop) (Kst : KS) (Kret : KR) (al nl ml : Nat) (tl : Nat → Int) (rp : Int) (fi : Int) (x0 : List Int) : run test Try.env true noX true 400 ⟨9, hd Try.f9 1, zipT [1, 2, 3, 4] [PV.ptr (PA.mk (1) (0) (0) (0)),
 PV.ptr (PA.mk (2) (0) (0) (0)),
 PV.ptr (PA.mk (3) (0) (0) (0)), PV.unk], [[(1, (true, Blk.cells
 [PV.loose (PA.mk (0) (1) al (0)) nl, PV.int IntKind.u8 rp,
 PV.int IntKind.u8 fi])), (2, (true, Blk.cells
 [PV.str (ByteArray.mk (Array.mk [])), PV.nils, PV.int IntKind.i64 (0 : Int),
 PV.int IntKind.i64 (0 : Int)])), (3, (true, Blk.cells
 [PV.str (ByteArray.mk #[(99 : UInt8)]), PV.own (4) (1) (List.length x0),
 PV.int IntKind.i64 ((1 : Int) + Int.tmod rp (3 : Int)), PV.int IntKind.i64 (0 : Int)])), (4, (true, Blk.cols (List.length x0) [Col.int IntKind.i64 fun j => S.at' x0 j]))], [(0, (false, .cols ml [.int .u8 tl]))]], 5⟩ (proj 1 [1, 2, 3, 4] Kst Kret) =
  T132_1 test Kst Kret al nl ml tl rp fi x0 := by kernel_rfl
theorem be132 (al nl ml : Nat) (tl : Nat → Int) (rp : Int) (fi : Int) (Kst : KS) (Kret : KR) (x : St132 ⊕ Rt132) (hS : HS 1 400 ((I132 al nl ml tl rp fi)) Kst x) (hR : HR 1 400 ((V132 al nl ml tl rp fi)) (fun r => [newL (1 + 1) ((N132 al nl ml tl rp fi) r) ++ [(0, (false, .cols ml [.int .u8 tl]))]]) Kret x) (h : (bif (lim IntKind.i64 rp)
 then (bif (lim IntKind.i64 ((1 : Int) + Int.tmod rp (3 : Int)))
 then (some (.inl (.h0 ((0 : Int)) ([]))))
 else (none))
 else (none) : Option (St132 ⊕ Rt132)) = some x) : Te132 cond Kst Kret al nl ml tl rp fi := by
  unfold Te132
  exact bif_split h
   (fun c0 h => cond_no rfl (bif_split h
   (fun c1 h => stop_at hS _ h (fun n => bif Nat.beq n 1 then 1 else bif Nat.beq n 2 then 2 else bif Nat.beq n 3 then 3 else bif Nat.beq n 4 then 399 else n) rfl rfl rfl ⟨(rn_ptr (use_own rfl) rfl rfl), ⟨(rn_ptr (use_own rfl) rfl rfl), ⟨(rn_ptr (use_own rfl) rfl rfl), ⟨(rn_int rfl), trivial⟩⟩⟩⟩ rfl (entl_b (use_own rfl) rfl (by simp) (rb_cells ⟨(rn_loose (use_lo rfl) rfl rfl rfl), (rn_int rfl), (rn_int rfl), trivial⟩) (entl_b (use_own rfl) rfl (by simp) (rb_cells ⟨(rn_str rfl), rn_nils, (rn_int rfl), (rn_int rfl), trivial⟩) (entl_b (use_own rfl) rfl (by simp) (rb_cells ⟨(rn_str rfl), (rn_own_nils rfl), (rn_int rfl), (rn_int rfl), trivial⟩) (entl_fresh (use_own rfl) (fresh_ok rfl) (entl_bor (use_lo rfl) rfl rfl entl_nil))))))
   (fun c1 h => no_some h)))
   (fun c0 h => no_some h)
theorem b132_0 (al nl ml : Nat) (tl : Nat → Int) (rp : Int) (fi : Int) (Kst : KS) (Kret : KR) (x : St132 ⊕ Rt132) (hS : HS 1 400 ((I132 al nl ml tl rp fi)) Kst x) (hR : HR 1 400 ((V132 al nl ml tl rp fi)) (fun r => [newL (1 + 1) ((N132 al nl ml tl rp fi) r) ++ [(0, (false, .cols ml [.int .u8 tl]))]]) Kret x) (x0 : Int) (x1 : List Int) (h : (bif (decide (x0 < (↑nl : Int)))
 then (bif (decide (x0 < (8 : Int)))
 then (bif (decide ((0 : Int) ≤ x0 ∧ x0 < (↑nl : Int)))
 then (bif (decide (Int.toNat x0 + al < ml))
 then (bif (lim IntKind.i64 (tl (Int.toNat x0 + al)))
 then (bif ((↑(List.length x1) : Int) == (0 : Int))
 then (bif (decide (List.length x1 + 1 ≤ 1000000))
 then (bif (decide (List.length x1 ≤ List.length x1))
 then (bif (lim IntKind.i64 (x0 + (1 : Int)))
 then (some (.inl (.h0 (x0 + (1 : Int)) (S.snoc x1 (Int.tmod (tl (Int.toNat x0 + al)) (20 : Int))))))
 else (none))
 else (none))
 else (none))
 else (bif (lim IntKind.i64 ((↑(List.length x1) : Int) - (1 : Int)))
 then (bif (decide
 ((0 : Int) ≤ (↑(List.length x1) : Int) - (1 : Int) ∧
 (↑(List.length x1) : Int) - (1 : Int) < (↑(List.length x1) : Int)))
 then (bif (decide (Int.toNat ((↑(List.length x1) : Int) - (1 : Int)) < List.length x1))
 then (bif (S.at' x1 (Int.toNat ((↑(List.length x1) : Int) - (1 : Int))) != Int.tmod (tl (Int.toNat x0 + al)) (20 : Int))
 then (bif (decide (List.length x1 + 1 ≤ 1000000))
 then (bif (decide (List.length x1 ≤ List.length x1))
 then (bif (lim IntKind.i64 (x0 + (1 : Int)))
 then (some (.inl (.h0 (x0 + (1 : Int)) (S.snoc x1 (Int.tmod (tl (Int.toNat x0 + al)) (20 : Int))))))
 else (none))
 else (none))
 else (none))
 else (bif (lim IntKind.i64 (x0 + (1 : Int)))
 then (some (.inl (.h0 (x0 + (1 : Int)) (x1))))
 else (none)))
 else (none))
 else (none))
 else (none)))
 else (none))
 else (none))
 else (none))
 else (some (.inl (.h1 (x1)))))
 else (some (.inl (.h1 (x1)))) : Option (St132 ⊕ Rt132)) = some x) : T132_0 cond Kst Kret al nl ml tl rp fi x0 x1 := by
  unfold T132_0
  exact bif_split h
   (fun c0 h => bif_split h
   (fun c1 h => bif_split h
   (fun c2 h => bif_split h
   (fun c3 h => bif_split h
   (fun c4 h => cond_no rfl (bif_split h
   (fun c5 h => bif_split h
   (fun c6 h => bif_split h
   (fun c7 h => cond_yes rfl (bif_split h
   (fun c8 h => stop_at hS _ h (fun n => bif Nat.beq n 1 then 1 else bif Nat.beq n 2 then 2 else bif Nat.beq n 3 then 3 else bif Nat.beq n 4 then 6 else n) rfl rfl rfl ⟨(rn_ptr (use_own rfl) rfl rfl), ⟨(rn_ptr (use_own rfl) rfl rfl), ⟨(rn_ptr (use_own rfl) rfl rfl), ⟨(rn_int rfl), trivial⟩⟩⟩⟩ rfl (entl_b (use_own rfl) rfl (by simp) (rb_cells ⟨(rn_loose (use_lo rfl) rfl rfl rfl), (rn_int rfl), (rn_int rfl), trivial⟩) (entl_b (use_own rfl) rfl (by simp) (rb_cells ⟨(rn_str rfl), rn_nils, (rn_int rfl), (rn_int rfl), trivial⟩) (entl_b (use_own rfl) rfl (by simp) (rb_cells ⟨(rn_str rfl), (rn_own (use_own rfl) rfl (snoc_len' rfl)), (rn_int rfl), (rn_int rfl), trivial⟩) (entl_new (use_own rfl) rfl (Nat.le_of_eq (snoc_len' rfl)) (rcs_int (col_snoc' (fun (t : Int) => t) rfl (fun _ _ => rfl)) rcs_nil) (entl_bor (use_lo rfl) rfl rfl entl_nil))))))
   (fun c8 h => no_some h)))
   (fun c7 h => no_some h))
   (fun c6 h => no_some h))
   (fun c5 h => bif_split h
   (fun c6 h => bif_split h
   (fun c7 h => bif_split h
   (fun c8 h => bif_split h
   (fun c9 h => bif_split h
   (fun c10 h => bif_split h
   (fun c11 h => cond_yes rfl (bif_split h
   (fun c12 h => stop_at hS _ h (fun n => bif Nat.beq n 1 then 1 else bif Nat.beq n 2 then 2 else bif Nat.beq n 3 then 3 else bif Nat.beq n 4 then 6 else n) rfl rfl rfl ⟨(rn_ptr (use_own rfl) rfl rfl), ⟨(rn_ptr (use_own rfl) rfl rfl), ⟨(rn_ptr (use_own rfl) rfl rfl), ⟨(rn_int rfl), trivial⟩⟩⟩⟩ rfl (entl_b (use_own rfl) rfl (by simp) (rb_cells ⟨(rn_loose (use_lo rfl) rfl rfl rfl), (rn_int rfl), (rn_int rfl), trivial⟩) (entl_b (use_own rfl) rfl (by simp) (rb_cells ⟨(rn_str rfl), rn_nils, (rn_int rfl), (rn_int rfl), trivial⟩) (entl_b (use_own rfl) rfl (by simp) (rb_cells ⟨(rn_str rfl), (rn_own (use_own rfl) rfl (snoc_len' rfl)), (rn_int rfl), (rn_int rfl), trivial⟩) (entl_new (use_own rfl) rfl (Nat.le_of_eq (snoc_len' rfl)) (rcs_int (col_snoc' (fun (t : Int) => t) rfl (fun _ _ => rfl)) rcs_nil) (entl_bor (use_lo rfl) rfl rfl entl_nil))))))
   (fun c12 h => no_some h)))
   (fun c11 h => no_some h))
   (fun c10 h => no_some h))
   (fun c9 h => bif_split h
   (fun c10 h => stop_at hS _ h (fun n => bif Nat.beq n 1 then 1 else bif Nat.beq n 2 then 2 else bif Nat.beq n 3 then 3 else bif Nat.beq n 4 then 4 else n) rfl rfl rfl ⟨(rn_ptr (use_own rfl) rfl rfl), ⟨(rn_ptr (use_own rfl) rfl rfl), ⟨(rn_ptr (use_own rfl) rfl rfl), ⟨(rn_int rfl), trivial⟩⟩⟩⟩ rfl (entl_b (use_own rfl) rfl (by simp) (rb_cells ⟨(rn_loose (use_lo rfl) rfl rfl rfl), (rn_int rfl), (rn_int rfl), trivial⟩) (entl_b (use_own rfl) rfl (by simp) (rb_cells ⟨(rn_str rfl), rn_nils, (rn_int rfl), (rn_int rfl), trivial⟩) (entl_b (use_own rfl) rfl (by simp) (rb_cells ⟨(rn_str rfl), (rn_own (use_own rfl) rfl rfl), (rn_int rfl), (rn_int rfl), trivial⟩) (entl_new (use_own rfl) rfl (Nat.le_of_eq rfl) (rcs_int (fun _ _ => rfl) rcs_nil) (entl_bor (use_lo rfl) rfl rfl entl_nil))))))
   (fun c10 h => no_some h)))
   (fun c8 h => no_some h))
   (fun c7 h => no_some h))
   (fun c6 h => no_some h))))
   (fun c4 h => no_some h))
   (fun c3 h => no_some h))
   (fun c2 h => no_some h))
   (fun c1 h => stop_at hS _ h (fun n => bif Nat.beq n 1 then 1 else bif Nat.beq n 2 then 2 else bif Nat.beq n 3 then 3 else bif Nat.beq n 4 then 4 else n) rfl rfl rfl ⟨(rn_ptr (use_own rfl) rfl rfl), ⟨(rn_ptr (use_own rfl) rfl rfl), ⟨(rn_ptr (use_own rfl) rfl rfl), ⟨(rn_unk _), trivial⟩⟩⟩⟩ rfl (entl_b (use_own rfl) rfl (by simp) (rb_cells ⟨(rn_loose (use_lo rfl) rfl rfl rfl), (rn_int rfl), (rn_int rfl), trivial⟩) (entl_b (use_own rfl) rfl (by simp) (rb_cells ⟨(rn_str rfl), rn_nils, (rn_int rfl), (rn_int rfl), trivial⟩) (entl_b (use_own rfl) rfl (by simp) (rb_cells ⟨(rn_str rfl), (rn_own (use_own rfl) rfl rfl), (rn_int rfl), (rn_int rfl), trivial⟩) (entl_new (use_own rfl) rfl (Nat.le_of_eq rfl) (rcs_int (fun _ _ => rfl) rcs_nil) (entl_bor (use_lo rfl) rfl rfl entl_nil)))))))
   (fun c0 h => stop_at hS _ h (fun n => bif Nat.beq n 1 then 1 else bif Nat.beq n 2 then 2 else bif Nat.beq n 3 then 3 else bif Nat.beq n 4 then 4 else n) rfl rfl rfl ⟨(rn_ptr (use_own rfl) rfl rfl), ⟨(rn_ptr (use_own rfl) rfl rfl), ⟨(rn_ptr (use_own rfl) rfl rfl), ⟨(rn_unk _), trivial⟩⟩⟩⟩ rfl (entl_b (use_own rfl) rfl (by simp) (rb_cells ⟨(rn_loose (use_lo rfl) rfl rfl rfl), (rn_int rfl), (rn_int rfl), trivial⟩) (entl_b (use_own rfl) rfl (by simp) (rb_cells ⟨(rn_str rfl), rn_nils, (rn_int rfl), (rn_int rfl), trivial⟩) (entl_b (use_own rfl) rfl (by simp) (rb_cells ⟨(rn_str rfl), (rn_own (use_own rfl) rfl rfl), (rn_int rfl), (rn_int rfl), trivial⟩) (entl_new (use_own rfl) rfl (Nat.le_of_eq rfl) (rcs_int (fun _ _ => rfl) rcs_nil) (entl_bor (use_lo rfl) rfl rfl entl_nil))))))
theorem b132_1 (al nl ml : Nat) (tl : Nat → Int) (rp : Int) (fi : Int) (Kst : KS) (Kret : KR) (x : St132 ⊕ Rt132) (hS : HS 1 400 ((I132 al nl ml tl rp fi)) Kst x) (hR : HR 1 400 ((V132 al nl ml tl rp fi)) (fun r => [newL (1 + 1) ((N132 al nl ml tl rp fi) r) ++ [(0, (false, .cols ml [.int .u8 tl]))]]) Kret x) (x0 : List Int) (h : (bif (decide ((↑(List.length x0) : Int) < (2 : Int)))
 then (bif (lim IntKind.i64 ((20 : Int) + (↑(List.length x0) : Int)))
 then (bif (decide (List.length x0 + 1 ≤ 1000000))
 then (bif (decide (List.length x0 ≤ List.length x0))
 then (some (.inl (.h1 (S.snoc x0 ((20 : Int) + (↑(List.length x0) : Int))))))
 else (none))
 else (none))
 else (none))
 else (bif (lim IntKind.i64 fi)
 then (bif (lim IntKind.i64 ((↑(List.length x0) : Int) - (1 : Int)))
 then (bif (decide
 ((0 : Int) ≤ (↑(List.length x0) : Int) - (1 : Int) ∧
 (↑(List.length x0) : Int) - (1 : Int) < (↑(List.length x0) : Int)))
 then (bif (decide (Int.toNat ((↑(List.length x0) : Int) - (1 : Int)) < List.length x0))
 then (bif (Int.tmod fi (20 : Int) == S.at' x0 (Int.toNat ((↑(List.length x0) : Int) - (1 : Int))))
 then (bif (lim IntKind.i64 (Int.tmod fi (20 : Int) + (1 : Int)))
 then (some (.inr (Int.tmod fi (20 : Int) + (1 : Int), x0)))
 else (none))
 else (some (.inr (Int.tmod fi (20 : Int), x0))))
 else (none))
 else (none))
 else (none))
 else (none)) : Option (St132 ⊕ Rt132)) = some x) : T132_1 cond Kst Kret al nl ml tl rp fi x0 := by
  unfold T132_1
  exact bif_split h
   (fun c0 h => bif_split h
   (fun c1 h => bif_split h
   (fun c2 h => bif_split h
   (fun c3 h => cond_yes rfl (stop_at hS _ h (fun n => bif Nat.beq n 1 then 1 else bif Nat.beq n 2 then 2 else bif Nat.beq n 3 then 3 else bif Nat.beq n 4 then 6 else n) rfl rfl rfl ⟨(rn_ptr (use_own rfl) rfl rfl), ⟨(rn_ptr (use_own rfl) rfl rfl), ⟨(rn_ptr (use_own rfl) rfl rfl), ⟨(rn_unk _), trivial⟩⟩⟩⟩ rfl (entl_b (use_own rfl) rfl (by simp) (rb_cells ⟨(rn_loose (use_lo rfl) rfl rfl rfl), (rn_int rfl), (rn_int rfl), trivial⟩) (entl_b (use_own rfl) rfl (by simp) (rb_cells ⟨(rn_str rfl), rn_nils, (rn_int rfl), (rn_int rfl), trivial⟩) (entl_b (use_own rfl) rfl (by simp) (rb_cells ⟨(rn_str rfl), (rn_own (use_own rfl) rfl (snoc_len' rfl)), (rn_int rfl), (rn_int rfl), trivial⟩) (entl_new (use_own rfl) rfl (Nat.le_of_eq (snoc_len' rfl)) (rcs_int (col_snoc' (fun (t : Int) => t) rfl (fun _ _ => rfl)) rcs_nil) (entl_bor (use_lo rfl) rfl rfl entl_nil)))))))
   (fun c3 h => no_some h))
   (fun c2 h => no_some h))
   (fun c1 h => no_some h))
   (fun c0 h => bif_split h
   (fun c1 h => cond_no rfl (bif_split h
   (fun c2 h => bif_split h
   (fun c3 h => bif_split h
   (fun c4 h => bif_split h
   (fun c5 h => bif_split h
   (fun c6 h => ret_at hR _ h (fun n => bif Nat.beq n 2 then 4 else n) rfl rfl rfl (rn_agg ⟨(rn_str rfl), (rn_own (use_own rfl) rfl rfl), (rn_int rfl), (rn_int rfl), trivial⟩) rfl (entl_new (use_own rfl) rfl (Nat.le_of_eq rfl) (rcs_int (fun _ _ => rfl) rcs_nil) (entl_bor (use_lo rfl) rfl rfl entl_nil)))
   (fun c6 h => no_some h))
   (fun c5 h => ret_at hR _ h (fun n => bif Nat.beq n 2 then 4 else n) rfl rfl rfl (rn_agg ⟨(rn_str rfl), (rn_own (use_own rfl) rfl rfl), (rn_int rfl), (rn_int rfl), trivial⟩) rfl (entl_new (use_own rfl) rfl (Nat.le_of_eq rfl) (rcs_int (fun _ _ => rfl) rcs_nil) (entl_bor (use_lo rfl) rfl rfl entl_nil))))
   (fun c4 h => no_some h))
   (fun c3 h => no_some h))
   (fun c2 h => no_some h)))
   (fun c1 h => no_some h))
theorem a132 (al nl ml : Nat) (tl : Nat → Int) (rp : Int) (fi : Int) {r : Rt132} (h : Goes ((q132 al nl ml tl rp fi)) ((p132 al nl ml tl rp fi)) r) : CallR Try.prog 9 [.agg [.loose ⟨0, 1, al, 0⟩ nl, .int .u8 rp, .int .u8 fi]] [[(0, (false, .cols ml [.int .u8 tl]))]] 1 ((V132 al nl ml tl rp fi) r) ((fun r => [newL (1 + 1) ((N132 al nl ml tl rp fi) r) ++ [(0, (false, .cols ml [.int .u8 tl]))]]) r) 400 ∧ ∃ F, Try.prog.funcs[9]? = some F ∧ F.body.isSome = true ∧ (F.name == "runtime.NumGoroutine") = false := by
  refine dec_calls (f := 9) (lo := 1) (hi := 400) (H := [[(0, (false, .cols ml [.int .u8 tl]))]]) (args := [.agg [.loose ⟨0, 1, al, 0⟩ nl, .int .u8 rp, .int .u8 fi]]) Try.envOk Try.mixed noX_ok ((I132 al nl ml tl rp fi)) ((V132 al nl ml tl rp fi)) (fun r => [newL (1 + 1) ((N132 al nl ml tl rp fi) r) ++ [(0, (false, .cols ml [.int .u8 tl]))]]) (fn := mkFn Try.f9) (ts := [1, 2, 3, 4]) (n := 400) rfl (by decide) (by simp) (names_of rfl) ?_ ?_ ?_ h
  · intro s; cases s <;> exact ⟨hd_ok _ _, by simp [I132], names_of rfl, Nat.le_of_ble_eq_true rfl⟩
  · intro Kst Kret x hS hR h
    exact Holds.eq (te132 cond Kst Kret al nl ml tl rp fi) (be132 al nl ml tl rp fi Kst Kret x hS hR h)
  · intro Kst Kret x hS hR s h
    cases s with
    | h0 x0 x1 => exact Holds.eq (t132_0 cond Kst Kret al nl ml tl rp fi x0 x1) (b132_0 al nl ml tl rp fi Kst Kret x hS hR x0 x1 h)
    | h1 x0 => exact Holds.eq (t132_1 cond Kst Kret al nl ml tl rp fi x0) (b132_1 al nl ml tl rp fi Kst Kret x hS hR x0 h)
noncomputable def k132 : Con := ⟨9, [.agg [.list [.int .u8], .plain (.int .u8), .plain (.int .u8)]], fun (x : ((Nat × Nat × Nat × (Nat → Int) × Unit) × Int × Int × Unit) × Unit) => (fun (al nl ml : Nat) (tl : Nat → Int) (rp : Int) (fi : Int) => decide (al + nl ≤ ml ∧ S.bytes nl (fun j => tl (j + al)) = true ∧ (0 ≤ rp ∧ rp ≤ 255) ∧ 0 ≤ fi ∧ fi ≤ 255)) x.1.1.1 x.1.1.2.1 x.1.1.2.2.1 x.1.1.2.2.2.1 x.1.2.1 x.1.2.2.1, fun (x : ((Nat × Nat × Nat × (Nat → Int) × Unit) × Int × Int × Unit) × Unit) => (fun (al nl ml : Nat) (tl : Nat → Int) (rp : Int) (fi : Int) => (V132 al nl ml tl rp fi) ((S.crF fi (S.crL nl (fun j => tl (j + al))), (S.crL nl (fun j => tl (j + al)))))) x.1.1.1 x.1.1.2.1 x.1.1.2.2.1 x.1.1.2.2.2.1 x.1.2.1 x.1.2.2.1, fun (x : ((Nat × Nat × Nat × (Nat → Int) × Unit) × Int × Int × Unit) × Unit) => (fun (al nl ml : Nat) (tl : Nat → Int) (rp : Int) (fi : Int) => (N132 al nl ml tl rp fi) ((S.crF fi (S.crL nl (fun j => tl (j + al))), (S.crL nl (fun j => tl (j + al)))))) x.1.1.1 x.1.1.2.1 x.1.1.2.2.1 x.1.1.2.2.2.1 x.1.2.1 x.1.2.2.1, fun _ _ => .dead⟩
theorem s132p (al nl ml : Nat) (tl : Nat → Int) (rp : Int) (fi : Int) (L : List Int) (hl : L.length ≤ 8) (hf : 0 ≤ fi ∧ fi ≤ 255) : Comes (q132 al nl ml tl rp fi) (.h1 L) (S.crF fi (S.crP L), S.crP L) := by
  have fin : ∀ L : List Int, 2 ≤ L.length → L.length ≤ 8 → Comes (q132 al nl ml tl rp fi) (.h1 L) (S.crF fi L, L) := fun L h1 h2 => by
    have e1 : ((L.length : Int) - 1).toNat = L.length - 1 := by omega
    have hx : 0 ≤ Int.tmod fi 20 ∧ Int.tmod fi 20 < 20 := ⟨Int.tmod_nonneg _ hf.1, Int.tmod_lt_of_pos _ (by decide)⟩
    unfold S.crF
    apply Comes.of
    show Goes _ _ _
    (first | rw [q132] | unfold q132)
    try simp only [e1]
    try show Goes _ _ _
    repeat' first
      | with_reducible refine goes_if (fun h => ?_) (fun h => ?_) <;> (try simp only [lim64, imp_false, decide_eq_true_eq, decide_eq_false_iff_not, Int.toNat_natCast, toNat_pred, toNat_succ, Option.getD_some, Option.getD_none, Bool.not_eq_true', Bool.not_eq_false', Bool.and_eq_true, Bool.or_eq_true, Bool.and_eq_false_iff, Bool.or_eq_false_iff, bne_iff_ne, beq_iff_eq, bne_eq_false_iff_eq, beq_eq_false_iff_ne, ne_eq, not_and, Int.not_le, Int.not_lt, ge_iff_le, gt_iff_lt, Nat.not_lt, Nat.not_le, Bool.not_eq_true, Bool.not_eq_false, Bool.true_eq_false, Bool.false_eq_true, not_false_eq_true, not_true_eq_false] at h)
      | exact goes_none.mpr (by omega)
    all_goals first | (exfalso; omega) | (rw [if_pos (by assumption)]; exact goes_inr.mpr rfl) | (rw [if_neg (by assumption)]; exact goes_inr.mpr rfl)
  unfold S.crP
  by_cases h0 : L.length = 0
  · obtain rfl := List.length_eq_zero_iff.mp h0
    exact Comes.next (s' := .h1 [20]) rfl (Comes.next (s' := .h1 [20, 21]) rfl (fin [20, 21] (by decide) (by decide)))
  · rw [if_neg h0]
    by_cases h1 : L.length = 1
    · rw [if_pos h1]
      have hm := fin (S.snoc L 21) (by rw [snoc_len]; omega) (by rw [snoc_len]; omega)
      have e2 : (20 : Int) + (L.length : Int) = 21 := by omega
      apply Comes.of
      show Goes _ _ _
      (first | rw [q132] | unfold q132)
      try simp only [e2]
      try show Goes _ _ _
      repeat' first
        | with_reducible refine goes_if (fun h => ?_) (fun h => ?_) <;> (try simp only [lim64, imp_false, decide_eq_true_eq, decide_eq_false_iff_not, Int.toNat_natCast, toNat_pred, toNat_succ, Option.getD_some, Option.getD_none, Bool.not_eq_true', Bool.not_eq_false', Bool.and_eq_true, Bool.or_eq_true, Bool.and_eq_false_iff, Bool.or_eq_false_iff, bne_iff_ne, beq_iff_eq, bne_eq_false_iff_eq, beq_eq_false_iff_ne, ne_eq, not_and, Int.not_le, Int.not_lt, ge_iff_le, gt_iff_lt, Nat.not_lt, Nat.not_le, Bool.not_eq_true, Bool.not_eq_false, Bool.true_eq_false, Bool.false_eq_true, not_false_eq_true, not_true_eq_false] at h)
        | exact goes_none.mpr (by omega)
      all_goals first | (exfalso; omega) | exact hm
    · rw [if_neg h1]
      exact fin L (by omega) hl
theorem s132' (al nl ml : Nat) (tl : Nat → Int) (rp : Int) (fi : Int) (hp : al + nl ≤ ml ∧ S.bytes nl (fun j => tl (j + al)) = true ∧ (0 ≤ rp ∧ rp ≤ 255) ∧ 0 ≤ fi ∧ fi ≤ 255) : ∀ (k i : Nat) (L : List Int), i + k = min nl 8 → Holds (L = S.crN (fun j => tl (j + al)) i) → Comes (q132 al nl ml tl rp fi) (.h0 (i : Int) L) ((S.crF fi (S.crL nl (fun j => tl (j + al))), (S.crL nl (fun j => tl (j + al))))) := by
  obtain ⟨hp1, hp2, hp3, hp4⟩ := hp
  have h0 := of_decide_eq_true hp2
  intro k
  induction k with
  | zero =>
    intro i L hi eL
    have hl := (crN_ok (t := (fun j => tl (j + al))) (i := i) fun j hj => (h0 j (by omega)).1).2
    rw [← eL.get] at hl
    have hm := s132p al nl ml tl rp fi L (by omega) hp4
    have e : S.crP L = (S.crL nl (fun j => tl (j + al))) := by unfold S.crL; rw [eL.get, show i = min nl 8 by omega]
    rw [e] at hm
    apply Comes.of
    show Goes _ _ _
    (first | rw [q132] | unfold q132)
    repeat' first
      | with_reducible refine goes_if (fun h => ?_) (fun h => ?_) <;> (try simp only [lim64, imp_false, decide_eq_true_eq, decide_eq_false_iff_not, Int.toNat_natCast, toNat_pred, toNat_succ, Option.getD_some, Option.getD_none, Bool.not_eq_true', Bool.not_eq_false', Bool.and_eq_true, Bool.or_eq_true, Bool.and_eq_false_iff, Bool.or_eq_false_iff, bne_iff_ne, beq_iff_eq, bne_eq_false_iff_eq, beq_eq_false_iff_ne, ne_eq, not_and, Int.not_le, Int.not_lt, ge_iff_le, gt_iff_lt, Nat.not_lt, Nat.not_le, Bool.not_eq_true, Bool.not_eq_false, Bool.true_eq_false, Bool.false_eq_true, not_false_eq_true, not_true_eq_false] at h)
      | exact goes_none.mpr (by omega)
    all_goals first | (exfalso; omega) | exact hm
  | succ k ih =>
    intro i L hi eL
    have hl := (crN_ok (t := (fun j => tl (j + al))) (i := i) fun j hj => (h0 j (by omega)).1).2
    rw [← eL.get] at hl
    have hb := h0 i (by omega)
    try dsimp only at hb
    have ec : S.crN (fun j => tl (j + al)) (i + 1) = if L.length = 0 then S.snoc L (Int.tmod (tl (i + al)) 20) else if S.at' L (L.length - 1) ≠ Int.tmod (tl (i + al)) 20 then S.snoc L (Int.tmod (tl (i + al)) 20) else L := by rw [eL.get]; rfl
    have ih := fun L' h => ih (i + 1) L' (by omega) ⟨h⟩
    rw [ec] at ih
    have e1 : ((L.length : Int) - 1).toNat = L.length - 1 := by omega
    apply Comes.of
    show Goes _ _ _
    (first | rw [q132] | unfold q132)
    try simp only [e1, Int.toNat_natCast]
    try show Goes _ _ _
    repeat' first
      | with_reducible refine goes_if (fun h => ?_) (fun h => ?_) <;> (try simp only [lim64, imp_false, decide_eq_true_eq, decide_eq_false_iff_not, Int.toNat_natCast, toNat_pred, toNat_succ, Option.getD_some, Option.getD_none, Bool.not_eq_true', Bool.not_eq_false', Bool.and_eq_true, Bool.or_eq_true, Bool.and_eq_false_iff, Bool.or_eq_false_iff, bne_iff_ne, beq_iff_eq, bne_eq_false_iff_eq, beq_eq_false_iff_ne, ne_eq, not_and, Int.not_le, Int.not_lt, ge_iff_le, gt_iff_lt, Nat.not_lt, Nat.not_le, Bool.not_eq_true, Bool.not_eq_false, Bool.true_eq_false, Bool.false_eq_true, not_false_eq_true, not_true_eq_false] at h)
      | exact goes_none.mpr (by omega)
    all_goals first
      | (exfalso; omega)
      | (refine ih _ ?_; first | (rw [if_pos (by omega)]; done) | (rw [if_neg (by omega), if_pos (by assumption)]; done) | (rw [if_neg (by omega), if_neg (not_not_intro (by assumption))]; done) | (rw [if_neg (by omega), if_neg (by assumption)]; done))
theorem s132 (al nl ml : Nat) (tl : Nat → Int) (rp : Int) (fi : Int) (hp : al + nl ≤ ml ∧ S.bytes nl (fun j => tl (j + al)) = true ∧ (0 ≤ rp ∧ rp ≤ 255) ∧ 0 ≤ fi ∧ fi ≤ 255) : Goes ((q132 al nl ml tl rp fi)) ((p132 al nl ml tl rp fi)) ((S.crF fi (S.crL nl (fun j => tl (j + al))), (S.crL nl (fun j => tl (j + al))))) := by
  have hm := s132' al nl ml tl rp fi hp (min nl 8) 0 [] (Nat.zero_add _) ⟨rfl⟩
  obtain ⟨hp1, hp2, hp3, hp4⟩ := hp
  have hx : 0 ≤ Int.tmod rp 3 ∧ Int.tmod rp 3 < 3 := ⟨Int.tmod_nonneg _ hp3.1, Int.tmod_lt_of_pos _ (by decide)⟩
  show Goes _ _ _
  unfold p132
  repeat' first
    | with_reducible refine goes_if (fun h => ?_) (fun h => ?_) <;> (try simp only [lim64, imp_false, decide_eq_true_eq, decide_eq_false_iff_not, Int.toNat_natCast, toNat_pred, toNat_succ, Option.getD_some, Option.getD_none, Bool.not_eq_true', Bool.not_eq_false', Bool.and_eq_true, Bool.or_eq_true, Bool.and_eq_false_iff, Bool.or_eq_false_iff, bne_iff_ne, beq_iff_eq, bne_eq_false_iff_eq, beq_eq_false_iff_ne, ne_eq, not_and, Int.not_le, Int.not_lt, ge_iff_le, gt_iff_lt, Nat.not_lt, Nat.not_le, Bool.not_eq_true, Bool.not_eq_false, Bool.true_eq_false, Bool.false_eq_true, not_false_eq_true, not_true_eq_false] at h)
    | exact goes_none.mpr (by omega)
  all_goals first | (exfalso; omega) | exact hm
theorem k132_ok : k132.ok Try.prog := by
  intro x hx
  obtain ⟨⟨⟨al, nl, ml, tl, _⟩, rp, fi, _⟩, _⟩ := x
  obtain ⟨h1, h2⟩ := a132 al nl ml tl rp fi (s132 al nl ml tl rp fi (of_dec hx rfl))
  exact ⟨⟨400, (by decide : 1 + 1 + 1 ≤ 400), h1⟩, h2⟩
namespace S
def onB (b : Int) (i : Nat) : Bool := andB .u64 (shrB .u64 b (Int.tmod (i : Int) 64)) 1 == 1
end S
abbrev St507 := Empty
abbrev Rt507 := Bool
noncomputable def V507 (ap np mp : Nat) (tp : Nat → Int) (vp : Nat → Int) (o : Int) (al nl ml : Nat) (tl : Nat → Int) (rp : Int) (fi : Int) (r : Rt507) : PV := PV.bool r
noncomputable def N507 (ap np mp : Nat) (tp : Nat → Int) (vp : Nat → Int) (o : Int) (al nl ml : Nat) (tl : Nat → Int) (rp : Int) (fi : Int) (r : Rt507) : List Blk := []
noncomputable def I507 (ap np mp : Nat) (tp : Nat → Int) (vp : Nat → Int) (o : Int) (al nl ml : Nat) (tl : Nat → Int) (rp : Int) (fi : Int) : St507 → Hd := fun s => s.elim
noncomputable def q507 (ap np mp : Nat) (tp : Nat → Int) (vp : Nat → Int) (o : Int) (al nl ml : Nat) (tl : Nat → Int) (rp : Int) (fi : Int) : St507 → Option (St507 ⊕ Rt507) := fun s => s.elim
noncomputable def p507 (ap np mp : Nat) (tp : Nat → Int) (vp : Nat → Int) (o : Int) (al nl ml : Nat) (tl : Nat → Int) (rp : Int) (fi : Int) : Option (St507 ⊕ Rt507) := bif (decide ((↑np : Int) ≤ (60 : Int)))
 then (bif (decide ((↑nl : Int) ≤ (20 : Int)))
 then (some (.inr (true)))
 else (some (.inr (false))))
 else (some (.inr (false)))
noncomputable def Te507 (test : Bool → Prop → Prop → Prop) (Kst : KS) (Kret : KR) (ap np mp : Nat) (tp : Nat → Int) (vp : Nat → Int) (o : Int) (al nl ml : Nat) (tl : Nat → Int) (rp : Int) (fi : Int) : Prop :=
  test (decide ((↑np : Int) ≤ (60 : Int)))
 (test (decide ((↑nl : Int) ≤ (20 : Int)))
 (Kret (PV.tf true) ([[(1, false, Blk.cols ml [Col.int IntKind.u8 tl]),
 (0, false, Blk.cols mp [Col.int IntKind.u8 tp, Col.int IntKind.u8 vp])]]) (4))
 (Kret (PV.tf false) ([[(1, false, Blk.cols ml [Col.int IntKind.u8 tl]),
 (0, false, Blk.cols mp [Col.int IntKind.u8 tp, Col.int IntKind.u8 vp])]]) (4)))
 (Kret (PV.tf false) ([[(1, false, Blk.cols ml [Col.int IntKind.u8 tl]),
 (0, false, Blk.cols mp [Col.int IntKind.u8 tp, Col.int IntKind.u8 vp])]]) (4))
theorem te507 (test : Bool → Prop → Prop → Prop) (Kst : KS) (Kret : KR) (ap np mp : Nat) (tp : Nat → Int) (vp : Nat → Int) (o : Int) (al nl ml : Nat) (tl : Nat → Int) (rp : Int) (fi : Int) : run test Try.env true noX true 400 ⟨7, [.cd (mkFn Try.f7).body], argT 0 [.agg [.loose ⟨0, 2, ap, 0⟩ np, .int .u32 o], .agg [.loose ⟨1, 1, al, 0⟩ nl, .int .u8 rp, .int .u8 fi]], [[], [(0, (false, .cols mp [.int .u8 tp, .int .u8 vp])), (1, (false, .cols ml [.int .u8 tl]))]], 2⟩ (proj 2 [] Kst Kret) =
  Te507 test Kst Kret ap np mp tp vp o al nl ml tl rp fi := by kernel_rfl
theorem be507 (ap np mp : Nat) (tp : Nat → Int) (vp : Nat → Int) (o : Int) (al nl ml : Nat) (tl : Nat → Int) (rp : Int) (fi : Int) (Kst : KS) (Kret : KR) (x : St507 ⊕ Rt507) (hS : HS 2 400 ((I507 ap np mp tp vp o al nl ml tl rp fi)) Kst x) (hR : HR 2 400 ((V507 ap np mp tp vp o al nl ml tl rp fi)) (fun r => [newL (2 + 1) ((N507 ap np mp tp vp o al nl ml tl rp fi) r) ++ [(0, (false, .cols mp [.int .u8 tp, .int .u8 vp])), (1, (false, .cols ml [.int .u8 tl]))]]) Kret x) (h : (bif (decide ((↑np : Int) ≤ (60 : Int)))
 then (bif (decide ((↑nl : Int) ≤ (20 : Int)))
 then (some (.inr (true)))
 else (some (.inr (false))))
 else (some (.inr (false))) : Option (St507 ⊕ Rt507)) = some x) : Te507 cond Kst Kret ap np mp tp vp o al nl ml tl rp fi := by
  unfold Te507
  exact bif_split h
   (fun c0 h => bif_split h
   (fun c1 h => ret_at hR _ h (fun n => n) rfl rfl rfl (rn_bool_tf rfl) rfl (entl_bor (use_lo rfl) rfl rfl (entl_bor (use_lo rfl) rfl rfl entl_nil)))
   (fun c1 h => ret_at hR _ h (fun n => n) rfl rfl rfl (rn_bool_tf rfl) rfl (entl_bor (use_lo rfl) rfl rfl (entl_bor (use_lo rfl) rfl rfl entl_nil))))
   (fun c0 h => ret_at hR _ h (fun n => n) rfl rfl rfl (rn_bool_tf rfl) rfl (entl_bor (use_lo rfl) rfl rfl (entl_bor (use_lo rfl) rfl rfl entl_nil)))
theorem a507 (ap np mp : Nat) (tp : Nat → Int) (vp : Nat → Int) (o : Int) (al nl ml : Nat) (tl : Nat → Int) (rp : Int) (fi : Int) {r : Rt507} (h : Goes ((q507 ap np mp tp vp o al nl ml tl rp fi)) ((p507 ap np mp tp vp o al nl ml tl rp fi)) r) : CallR Try.prog 7 [.agg [.loose ⟨0, 2, ap, 0⟩ np, .int .u32 o], .agg [.loose ⟨1, 1, al, 0⟩ nl, .int .u8 rp, .int .u8 fi]] [[(0, (false, .cols mp [.int .u8 tp, .int .u8 vp])), (1, (false, .cols ml [.int .u8 tl]))]] 2 ((V507 ap np mp tp vp o al nl ml tl rp fi) r) ((fun r => [newL (2 + 1) ((N507 ap np mp tp vp o al nl ml tl rp fi) r) ++ [(0, (false, .cols mp [.int .u8 tp, .int .u8 vp])), (1, (false, .cols ml [.int .u8 tl]))]]) r) 400 ∧ ∃ F, Try.prog.funcs[7]? = some F ∧ F.body.isSome = true ∧ (F.name == "runtime.NumGoroutine") = false := by
  refine dec_calls (f := 7) (lo := 2) (hi := 400) (H := [[(0, (false, .cols mp [.int .u8 tp, .int .u8 vp])), (1, (false, .cols ml [.int .u8 tl]))]]) (args := [.agg [.loose ⟨0, 2, ap, 0⟩ np, .int .u32 o], .agg [.loose ⟨1, 1, al, 0⟩ nl, .int .u8 rp, .int .u8 fi]]) Try.envOk Try.mixed noX_ok ((I507 ap np mp tp vp o al nl ml tl rp fi)) ((V507 ap np mp tp vp o al nl ml tl rp fi)) (fun r => [newL (2 + 1) ((N507 ap np mp tp vp o al nl ml tl rp fi) r) ++ [(0, (false, .cols mp [.int .u8 tp, .int .u8 vp])), (1, (false, .cols ml [.int .u8 tl]))]]) (fn := mkFn Try.f7) (ts := []) (n := 400) rfl (by decide) (by simp) (names_of rfl) ?_ ?_ ?_ h
  · intro s; exact s.elim
  · intro Kst Kret x hS hR h
    exact Holds.eq (te507 cond Kst Kret ap np mp tp vp o al nl ml tl rp fi) (be507 ap np mp tp vp o al nl ml tl rp fi Kst Kret x hS hR h)
  · intro Kst Kret x hS hR s h; exact s.elim
noncomputable def k507 : Con := ⟨7, [.agg [.list [.int .u8, .int .u8], .plain (.int .u32)], .agg [.list [.int .u8], .plain (.int .u8), .plain (.int .u8)]], fun (x : ((Nat × Nat × Nat × (Nat → Int) × (Nat → Int) × Unit) × Int × Unit) × ((Nat × Nat × Nat × (Nat → Int) × Unit) × Int × Int × Unit) × Unit) => (fun (ap np mp : Nat) (tp : Nat → Int) (vp : Nat → Int) (o : Int) (al nl ml : Nat) (tl : Nat → Int) (rp : Int) (fi : Int) => decide (True)) x.1.1.1 x.1.1.2.1 x.1.1.2.2.1 x.1.1.2.2.2.1 x.1.1.2.2.2.2.1 x.1.2.1 x.2.1.1.1 x.2.1.1.2.1 x.2.1.1.2.2.1 x.2.1.1.2.2.2.1 x.2.1.2.1 x.2.1.2.2.1, fun (x : ((Nat × Nat × Nat × (Nat → Int) × (Nat → Int) × Unit) × Int × Unit) × ((Nat × Nat × Nat × (Nat → Int) × Unit) × Int × Int × Unit) × Unit) => (fun (ap np mp : Nat) (tp : Nat → Int) (vp : Nat → Int) (o : Int) (al nl ml : Nat) (tl : Nat → Int) (rp : Int) (fi : Int) => (V507 ap np mp tp vp o al nl ml tl rp fi) (decide (np ≤ 60 ∧ nl ≤ 20))) x.1.1.1 x.1.1.2.1 x.1.1.2.2.1 x.1.1.2.2.2.1 x.1.1.2.2.2.2.1 x.1.2.1 x.2.1.1.1 x.2.1.1.2.1 x.2.1.1.2.2.1 x.2.1.1.2.2.2.1 x.2.1.2.1 x.2.1.2.2.1, fun (x : ((Nat × Nat × Nat × (Nat → Int) × (Nat → Int) × Unit) × Int × Unit) × ((Nat × Nat × Nat × (Nat → Int) × Unit) × Int × Int × Unit) × Unit) => (fun (ap np mp : Nat) (tp : Nat → Int) (vp : Nat → Int) (o : Int) (al nl ml : Nat) (tl : Nat → Int) (rp : Int) (fi : Int) => (N507 ap np mp tp vp o al nl ml tl rp fi) (decide (np ≤ 60 ∧ nl ≤ 20))) x.1.1.1 x.1.1.2.1 x.1.1.2.2.1 x.1.1.2.2.2.1 x.1.1.2.2.2.2.1 x.1.2.1 x.2.1.1.1 x.2.1.1.2.1 x.2.1.1.2.2.1 x.2.1.1.2.2.2.1 x.2.1.2.1 x.2.1.2.2.1, fun _ _ => .dead⟩
theorem s507 (ap np mp : Nat) (tp : Nat → Int) (vp : Nat → Int) (o : Int) (al nl ml : Nat) (tl : Nat → Int) (rp : Int) (fi : Int) (hp : True) : Goes ((q507 ap np mp tp vp o al nl ml tl rp fi)) ((p507 ap np mp tp vp o al nl ml tl rp fi)) (decide (np ≤ 60 ∧ nl ≤ 20)) := by
  show Goes _ _ _
  unfold p507
  repeat' first
    | with_reducible refine goes_if (fun h => ?_) (fun h => ?_) <;> (try simp only [lim64, imp_false, decide_eq_true_eq, decide_eq_false_iff_not, Int.toNat_natCast, toNat_pred, toNat_succ, Option.getD_some, Option.getD_none, Bool.not_eq_true', Bool.not_eq_false', Bool.and_eq_true, Bool.or_eq_true, Bool.and_eq_false_iff, Bool.or_eq_false_iff, bne_iff_ne, beq_iff_eq, bne_eq_false_iff_eq, beq_eq_false_iff_ne, ne_eq, not_and, Int.not_le, Int.not_lt, ge_iff_le, gt_iff_lt, Nat.not_lt, Nat.not_le, Bool.not_eq_true, Bool.not_eq_false, Bool.true_eq_false, Bool.false_eq_true, not_false_eq_true, not_true_eq_false] at h)
    | exact goes_none.mpr (by omega)
  all_goals first | (exfalso; omega) | (refine goes_inr.mpr ?_; first | exact (decide_eq_true (by omega)).symm | exact (decide_eq_false (by omega)).symm)
theorem k507_ok : k507.ok Try.prog := by
  intro x hx
  obtain ⟨⟨⟨ap, np, mp, tp, vp, _⟩, o, _⟩, ⟨⟨al, nl, ml, tl, _⟩, rp, fi, _⟩, _⟩ := x
  obtain ⟨h1, h2⟩ := a507 ap np mp tp vp o al nl ml tl rp fi (s507 ap np mp tp vp o al nl ml tl rp fi (of_dec hx rfl))
  exact ⟨⟨400, (by decide : 2 + 1 + 0 ≤ 400), h1⟩, h2⟩
inductive St514 where
  | h0 (x0 : Int) (x1 : List Bool)
abbrev Rt514 := List Bool
noncomputable def V514 (ar nr mr : Nat) (tr : Nat → Int) (vr : Nat → Int) (gr : Nat → Int) (ao no mo : Nat) (to : Nat → Bool) (bi : Int) (r : Rt514) : PV := PV.agg
 [PV.loose (PA.mk (0) (3) ar (0)) nr,
 PV.own (3) (1) (List.length r)]
noncomputable def N514 (ar nr mr : Nat) (tr : Nat → Int) (vr : Nat → Int) (gr : Nat → Int) (ao no mo : Nat) (to : Nat → Bool) (bi : Int) (r : Rt514) : List Blk := [Blk.cols (List.length r) [Col.bool fun j => S.at' r j]]
noncomputable def I514 (ar nr mr : Nat) (tr : Nat → Int) (vr : Nat → Int) (gr : Nat → Int) (ao no mo : Nat) (to : Nat → Bool) (bi : Int) : St514 → Hd
  | .h0 x0 x1 => ⟨hd Try.f14 0, [PV.int IntKind.u64 bi, PV.ptr (PA.mk (2) (0) (0) (0)),
 PV.ptr (PA.mk (3) (0) (0) (0)), PV.int IntKind.i64 (↑nr : Int),
 PV.int IntKind.i64 x0], [[(2, (true, Blk.cells [PV.nils, PV.nils])), (3, (true, Blk.cells
 [PV.loose (PA.mk (0) (3) ar (0)) nr,
 PV.own (4) (1) (List.length x1)])), (4, (true, Blk.cols (List.length x1) [Col.bool fun j => S.at' x1 j]))], [(0, (false, .cols mr [.int .i64 tr, .int .i64 vr, .int .i64 gr])), (1, (false, .cols mo [.bool to]))]], 5⟩
noncomputable def q514 (ar nr mr : Nat) (tr : Nat → Int) (vr : Nat → Int) (gr : Nat → Int) (ao no mo : Nat) (to : Nat → Bool) (bi : Int) : St514 → Option (St514 ⊕ Rt514)
  | .h0 x0 x1 => bif (decide (x0 < (↑nr : Int)))
 then (bif (decide (Int.tmod x0 (64 : Int) < (0 : Int)))
 then (none)
 else (bif (S.andB IntKind.u64 (S.shrB IntKind.u64 bi (Int.tmod x0 (64 : Int))) (1 : Int) == (1 : Int))
 then (bif (decide (List.length x1 + 1 ≤ 1000000))
 then (bif (decide (List.length x1 ≤ List.length x1))
 then (bif (lim IntKind.i64 (x0 + (1 : Int)))
 then (some (.inl (.h0 (x0 + (1 : Int)) (S.snoc x1 true))))
 else (none))
 else (none))
 else (none))
 else (bif (decide (List.length x1 + 1 ≤ 1000000))
 then (bif (decide (List.length x1 ≤ List.length x1))
 then (bif (lim IntKind.i64 (x0 + (1 : Int)))
 then (some (.inl (.h0 (x0 + (1 : Int)) (S.snoc x1 false))))
 else (none))
 else (none))
 else (none))))
 else (some (.inr (x1)))
noncomputable def p514 (ar nr mr : Nat) (tr : Nat → Int) (vr : Nat → Int) (gr : Nat → Int) (ao no mo : Nat) (to : Nat → Bool) (bi : Int) : Option (St514 ⊕ Rt514) := some (.inl (.h0 ((0 : Int)) ([])))
noncomputable def Te514 (test : Bool → Prop → Prop → Prop) (Kst : KS) (Kret : KR) (ar nr mr : Nat) (tr : Nat → Int) (vr : Nat → Int) (gr : Nat → Int) (ao no mo : Nat) (to : Nat → Bool) (bi : Int) : Prop :=
  Kst (hd Try.f14 0) ([PV.int IntKind.u64 bi, PV.ptr (PA.mk (3) (0) (0) (0)),
 PV.ptr (PA.mk (4) (0) (0) (0)), PV.int IntKind.i64 (↑nr : Int),
 PV.int IntKind.i64 (0 : Int)]) ([[(1, false, Blk.cols mo [Col.bool to]),
 (0, false,
 Blk.cols mr
 [Col.int IntKind.i64 tr, Col.int IntKind.i64 vr, Col.int IntKind.i64 gr]),
 (4, true,
 Blk.cells [PV.loose (PA.mk (0) (3) ar (0)) nr, PV.nils]),
 (3, true, Blk.cells [PV.nils, PV.nils])]]) (5)
theorem te514 (test : Bool → Prop → Prop → Prop) (Kst : KS) (Kret : KR) (ar nr mr : Nat) (tr : Nat → Int) (vr : Nat → Int) (gr : Nat → Int) (ao no mo : Nat) (to : Nat → Bool) (bi : Int) : run test Try.env true noX true 400 ⟨14, [.cd (mkFn Try.f14).body], argT 0 [.agg [.loose ⟨0, 3, ar, 0⟩ nr, .loose ⟨1, 1, ao, 0⟩ no], .int .u64 bi], [[], [(0, (false, .cols mr [.int .i64 tr, .int .i64 vr, .int .i64 gr])), (1, (false, .cols mo [.bool to]))]], 2⟩ (proj 2 [1, 4, 5, 12, 13] Kst Kret) =
  Te514 test Kst Kret ar nr mr tr vr gr ao no mo to bi := by kernel_rfl
noncomputable def T514_0 (test : Bool → Prop → Prop → Prop) (Kst : KS) (Kret : KR) (ar nr mr : Nat) (tr : Nat → Int) (vr : Nat → Int) (gr : Nat → Int) (ao no mo : Nat) (to : Nat → Bool) (bi : Int) (x0 : Int) (x1 : List Bool) : Prop :=
  test (decide (x0 < (↑nr : Int)))
 (test (false)
 (False)
 (test (decide (Int.tmod x0 (64 : Int) < (0 : Int)))
 (False)
 (test (S.andB IntKind.u64 (S.shrB IntKind.u64 bi (Int.tmod x0 (64 : Int))) (1 : Int) == (1 : Int))
 (test (decide (List.length x1 + 1 ≤ 1000000))
 (test (decide (List.length x1 ≤ List.length x1))
 (test (true)
 (test (lim IntKind.i64 (x0 + (1 : Int)))
 (Kst (hd Try.f14 0) ([PV.int IntKind.u64 bi, PV.ptr (PA.mk (2) (0) (0) (0)),
 PV.ptr (PA.mk (3) (0) (0) (0)), PV.int IntKind.i64 (↑nr : Int),
 PV.int IntKind.i64 (x0 + (1 : Int))]) ([[(1, false, Blk.cols mo [Col.bool to]),
 (0, false,
 Blk.cols mr
 [Col.int IntKind.i64 tr, Col.int IntKind.i64 vr, Col.int IntKind.i64 gr]),
 (3, true,
 Blk.cells
 [PV.loose (PA.mk (0) (3) ar (0)) nr,
 PV.own (6) (1) (List.length x1 + 1)]),
 (2, true, Blk.cells [PV.nils, PV.nils]),
 (6, true,
 Blk.cols (List.length x1 + 1)
 [Col.bool fun j => bif Nat.blt j (List.length x1) then S.at' x1 j else true])]]) (7))
 (False))
 (False))
 (False))
 (False))
 (test (decide (List.length x1 + 1 ≤ 1000000))
 (test (decide (List.length x1 ≤ List.length x1))
 (test (true)
 (test (lim IntKind.i64 (x0 + (1 : Int)))
 (Kst (hd Try.f14 0) ([PV.int IntKind.u64 bi, PV.ptr (PA.mk (2) (0) (0) (0)),
 PV.ptr (PA.mk (3) (0) (0) (0)), PV.int IntKind.i64 (↑nr : Int),
 PV.int IntKind.i64 (x0 + (1 : Int))]) ([[(1, false, Blk.cols mo [Col.bool to]),
 (0, false,
 Blk.cols mr
 [Col.int IntKind.i64 tr, Col.int IntKind.i64 vr, Col.int IntKind.i64 gr]),
 (3, true,
 Blk.cells
 [PV.loose (PA.mk (0) (3) ar (0)) nr,
 PV.own (6) (1) (List.length x1 + 1)]),
 (2, true, Blk.cells [PV.nils, PV.nils]),
 (6, true,
 Blk.cols (List.length x1 + 1)
 [Col.bool fun j => bif Nat.blt j (List.length x1) then S.at' x1 j else false])]]) (7))
 (False))
 (False))
 (False))
 (False)))))
 (Kret (PV.agg
 [PV.loose (PA.mk (0) (3) ar (0)) nr,
 PV.own (4) (1) (List.length x1)]) ([[(1, false, Blk.cols mo [Col.bool to]),
 (0, false,
 Blk.cols mr
 [Col.int IntKind.i64 tr, Col.int IntKind.i64 vr, Col.int IntKind.i64 gr]),
 (4, true, Blk.cols (List.length x1) [Col.bool fun j => S.at' x1 j])]]) (5))
theorem t514_0 (test : Bool → Prop → Prop → Prop) (Kst : KS) (Kret : KR) (ar nr mr : Nat) (tr : Nat → Int) (vr : Nat → Int) (gr : Nat → Int) (ao no mo : Nat) (to : Nat → Bool) (bi : Int) (x0 : Int) (x1 : List Bool) : run test Try.env true noX true 400 ⟨14, hd Try.f14 0, zipT [1, 4, 5, 12, 13] [PV.int IntKind.u64 bi, PV.ptr (PA.mk (2) (0) (0) (0)),
 PV.ptr (PA.mk (3) (0) (0) (0)), PV.int IntKind.i64 (↑nr : Int),
 PV.int IntKind.i64 x0], [[(2, (true, Blk.cells [PV.nils, PV.nils])), (3, (true, Blk.cells
 [PV.loose (PA.mk (0) (3) ar (0)) nr,
 PV.own (4) (1) (List.length x1)])), (4, (true, Blk.cols (List.length x1) [Col.bool fun j => S.at' x1 j]))], [(0, (false, .cols mr [.int .i64 tr, .int .i64 vr, .int .i64 gr])), (1, (false, .cols mo [.bool to]))]], 5⟩ (proj 2 [1, 4, 5, 12, 13] Kst Kret) =
  T514_0 test Kst Kret ar nr mr tr vr gr ao no mo to bi x0 x1 := by kernel_rfl
theorem be514 (ar nr mr : Nat) (tr : Nat → Int) (vr : Nat → Int) (gr : Nat → Int) (ao no mo : Nat) (to : Nat → Bool) (bi : Int) (Kst : KS) (Kret : KR) (x : St514 ⊕ Rt514) (hS : HS 2 400 ((I514 ar nr mr tr vr gr ao no mo to bi)) Kst x) (hR : HR 2 400 ((V514 ar nr mr tr vr gr ao no mo to bi)) (fun r => [newL (2 + 1) ((N514 ar nr mr tr vr gr ao no mo to bi) r) ++ [(0, (false, .cols mr [.int .i64 tr, .int .i64 vr, .int .i64 gr])), (1, (false, .cols mo [.bool to]))]]) Kret x) (h : (some (.inl (.h0 ((0 : Int)) ([]))) : Option (St514 ⊕ Rt514)) = some x) : Te514 cond Kst Kret ar nr mr tr vr gr ao no mo to bi := by
  unfold Te514
  exact stop_at hS _ h (fun n => bif Nat.beq n 2 then 3 else bif Nat.beq n 3 then 4 else bif Nat.beq n 4 then 399 else n) rfl rfl rfl ⟨(rn_int rfl), ⟨(rn_ptr (use_own rfl) rfl rfl), ⟨(rn_ptr (use_own rfl) rfl rfl), ⟨(rn_int rfl), ⟨(rn_int rfl), trivial⟩⟩⟩⟩⟩ rfl (entl_b (use_own rfl) rfl (by simp) (rb_cells ⟨rn_nils, rn_nils, trivial⟩) (entl_b (use_own rfl) rfl (by simp) (rb_cells ⟨(rn_loose (use_lo rfl) rfl rfl rfl), (rn_own_nils rfl), trivial⟩) (entl_fresh (use_own rfl) (fresh_ok rfl) (entl_bor (use_lo rfl) rfl rfl (entl_bor (use_lo rfl) rfl rfl entl_nil)))))
theorem b514_0 (ar nr mr : Nat) (tr : Nat → Int) (vr : Nat → Int) (gr : Nat → Int) (ao no mo : Nat) (to : Nat → Bool) (bi : Int) (Kst : KS) (Kret : KR) (x : St514 ⊕ Rt514) (hS : HS 2 400 ((I514 ar nr mr tr vr gr ao no mo to bi)) Kst x) (hR : HR 2 400 ((V514 ar nr mr tr vr gr ao no mo to bi)) (fun r => [newL (2 + 1) ((N514 ar nr mr tr vr gr ao no mo to bi) r) ++ [(0, (false, .cols mr [.int .i64 tr, .int .i64 vr, .int .i64 gr])), (1, (false, .cols mo [.bool to]))]]) Kret x) (x0 : Int) (x1 : List Bool) (h : (bif (decide (x0 < (↑nr : Int)))
 then (bif (decide (Int.tmod x0 (64 : Int) < (0 : Int)))
 then (none)
 else (bif (S.andB IntKind.u64 (S.shrB IntKind.u64 bi (Int.tmod x0 (64 : Int))) (1 : Int) == (1 : Int))
 then (bif (decide (List.length x1 + 1 ≤ 1000000))
 then (bif (decide (List.length x1 ≤ List.length x1))
 then (bif (lim IntKind.i64 (x0 + (1 : Int)))
 then (some (.inl (.h0 (x0 + (1 : Int)) (S.snoc x1 true))))
 else (none))
 else (none))
 else (none))
 else (bif (decide (List.length x1 + 1 ≤ 1000000))
 then (bif (decide (List.length x1 ≤ List.length x1))
 then (bif (lim IntKind.i64 (x0 + (1 : Int)))
 then (some (.inl (.h0 (x0 + (1 : Int)) (S.snoc x1 false))))
 else (none))
 else (none))
 else (none))))
 else (some (.inr (x1))) : Option (St514 ⊕ Rt514)) = some x) : T514_0 cond Kst Kret ar nr mr tr vr gr ao no mo to bi x0 x1 := by
  unfold T514_0
  exact bif_split h
   (fun c0 h => cond_no rfl (bif_split h
   (fun c1 h => no_some h)
   (fun c1 h => bif_split h
   (fun c2 h => bif_split h
   (fun c3 h => bif_split h
   (fun c4 h => cond_yes rfl (bif_split h
   (fun c5 h => stop_at hS _ h (fun n => bif Nat.beq n 2 then 2 else bif Nat.beq n 3 then 3 else bif Nat.beq n 4 then 6 else n) rfl rfl rfl ⟨(rn_int rfl), ⟨(rn_ptr (use_own rfl) rfl rfl), ⟨(rn_ptr (use_own rfl) rfl rfl), ⟨(rn_int rfl), ⟨(rn_int rfl), trivial⟩⟩⟩⟩⟩ rfl (entl_b (use_own rfl) rfl (by simp) (rb_cells ⟨rn_nils, rn_nils, trivial⟩) (entl_b (use_own rfl) rfl (by simp) (rb_cells ⟨(rn_loose (use_lo rfl) rfl rfl rfl), (rn_own (use_own rfl) rfl (snoc_len' rfl)), trivial⟩) (entl_new (use_own rfl) rfl (Nat.le_of_eq (snoc_len' rfl)) (rcs_bool (col_snoc' (fun (t : Bool) => t) rfl (fun _ _ => rfl)) rcs_nil) (entl_bor (use_lo rfl) rfl rfl (entl_bor (use_lo rfl) rfl rfl entl_nil))))))
   (fun c5 h => no_some h)))
   (fun c4 h => no_some h))
   (fun c3 h => no_some h))
   (fun c2 h => bif_split h
   (fun c3 h => bif_split h
   (fun c4 h => cond_yes rfl (bif_split h
   (fun c5 h => stop_at hS _ h (fun n => bif Nat.beq n 2 then 2 else bif Nat.beq n 3 then 3 else bif Nat.beq n 4 then 6 else n) rfl rfl rfl ⟨(rn_int rfl), ⟨(rn_ptr (use_own rfl) rfl rfl), ⟨(rn_ptr (use_own rfl) rfl rfl), ⟨(rn_int rfl), ⟨(rn_int rfl), trivial⟩⟩⟩⟩⟩ rfl (entl_b (use_own rfl) rfl (by simp) (rb_cells ⟨rn_nils, rn_nils, trivial⟩) (entl_b (use_own rfl) rfl (by simp) (rb_cells ⟨(rn_loose (use_lo rfl) rfl rfl rfl), (rn_own (use_own rfl) rfl (snoc_len' rfl)), trivial⟩) (entl_new (use_own rfl) rfl (Nat.le_of_eq (snoc_len' rfl)) (rcs_bool (col_snoc' (fun (t : Bool) => t) rfl (fun _ _ => rfl)) rcs_nil) (entl_bor (use_lo rfl) rfl rfl (entl_bor (use_lo rfl) rfl rfl entl_nil))))))
   (fun c5 h => no_some h)))
   (fun c4 h => no_some h))
   (fun c3 h => no_some h)))))
   (fun c0 h => ret_at hR _ h (fun n => bif Nat.beq n 3 then 4 else n) rfl rfl rfl (rn_agg ⟨(rn_loose (use_lo rfl) rfl rfl rfl), (rn_own (use_own rfl) rfl rfl), trivial⟩) rfl (entl_new (use_own rfl) rfl (Nat.le_of_eq rfl) (rcs_bool (fun _ _ => rfl) rcs_nil) (entl_bor (use_lo rfl) rfl rfl (entl_bor (use_lo rfl) rfl rfl entl_nil))))
theorem a514 (ar nr mr : Nat) (tr : Nat → Int) (vr : Nat → Int) (gr : Nat → Int) (ao no mo : Nat) (to : Nat → Bool) (bi : Int) {r : Rt514} (h : Goes ((q514 ar nr mr tr vr gr ao no mo to bi)) ((p514 ar nr mr tr vr gr ao no mo to bi)) r) : CallR Try.prog 14 [.agg [.loose ⟨0, 3, ar, 0⟩ nr, .loose ⟨1, 1, ao, 0⟩ no], .int .u64 bi] [[(0, (false, .cols mr [.int .i64 tr, .int .i64 vr, .int .i64 gr])), (1, (false, .cols mo [.bool to]))]] 2 ((V514 ar nr mr tr vr gr ao no mo to bi) r) ((fun r => [newL (2 + 1) ((N514 ar nr mr tr vr gr ao no mo to bi) r) ++ [(0, (false, .cols mr [.int .i64 tr, .int .i64 vr, .int .i64 gr])), (1, (false, .cols mo [.bool to]))]]) r) 400 ∧ ∃ F, Try.prog.funcs[14]? = some F ∧ F.body.isSome = true ∧ (F.name == "runtime.NumGoroutine") = false := by
  refine dec_calls (f := 14) (lo := 2) (hi := 400) (H := [[(0, (false, .cols mr [.int .i64 tr, .int .i64 vr, .int .i64 gr])), (1, (false, .cols mo [.bool to]))]]) (args := [.agg [.loose ⟨0, 3, ar, 0⟩ nr, .loose ⟨1, 1, ao, 0⟩ no], .int .u64 bi]) Try.envOk Try.mixed noX_ok ((I514 ar nr mr tr vr gr ao no mo to bi)) ((V514 ar nr mr tr vr gr ao no mo to bi)) (fun r => [newL (2 + 1) ((N514 ar nr mr tr vr gr ao no mo to bi) r) ++ [(0, (false, .cols mr [.int .i64 tr, .int .i64 vr, .int .i64 gr])), (1, (false, .cols mo [.bool to]))]]) (fn := mkFn Try.f14) (ts := [1, 4, 5, 12, 13]) (n := 400) rfl (by decide) (by simp) (names_of rfl) ?_ ?_ ?_ h
  · intro s; cases s <;> exact ⟨hd_ok _ _, by simp [I514], names_of rfl, Nat.le_of_ble_eq_true rfl⟩
  · intro Kst Kret x hS hR h
    exact Holds.eq (te514 cond Kst Kret ar nr mr tr vr gr ao no mo to bi) (be514 ar nr mr tr vr gr ao no mo to bi Kst Kret x hS hR h)
  · intro Kst Kret x hS hR s h
    cases s with
    | h0 x0 x1 => exact Holds.eq (t514_0 cond Kst Kret ar nr mr tr vr gr ao no mo to bi x0 x1) (b514_0 ar nr mr tr vr gr ao no mo to bi Kst Kret x hS hR x0 x1 h)
noncomputable def k514 : Con := ⟨14, [.agg [.list [.int .i64, .int .i64, .int .i64], .list [.bool]], .one (.plain (.int .u64))], fun (x : ((Nat × Nat × Nat × (Nat → Int) × (Nat → Int) × (Nat → Int) × Unit) × (Nat × Nat × Nat × (Nat → Bool) × Unit) × Unit) × Int × Unit) => (fun (ar nr mr : Nat) (tr : Nat → Int) (vr : Nat → Int) (gr : Nat → Int) (ao no mo : Nat) (to : Nat → Bool) (bi : Int) => decide (ar + nr ≤ mr ∧ nr ≤ 1000)) x.1.1.1 x.1.1.2.1 x.1.1.2.2.1 x.1.1.2.2.2.1 x.1.1.2.2.2.2.1 x.1.1.2.2.2.2.2.1 x.1.2.1.1 x.1.2.1.2.1 x.1.2.1.2.2.1 x.1.2.1.2.2.2.1 x.2.1, fun (x : ((Nat × Nat × Nat × (Nat → Int) × (Nat → Int) × (Nat → Int) × Unit) × (Nat × Nat × Nat × (Nat → Bool) × Unit) × Unit) × Int × Unit) => (fun (ar nr mr : Nat) (tr : Nat → Int) (vr : Nat → Int) (gr : Nat → Int) (ao no mo : Nat) (to : Nat → Bool) (bi : Int) => (V514 ar nr mr tr vr gr ao no mo to bi) (S.mkl nr fun j => S.onB bi j)) x.1.1.1 x.1.1.2.1 x.1.1.2.2.1 x.1.1.2.2.2.1 x.1.1.2.2.2.2.1 x.1.1.2.2.2.2.2.1 x.1.2.1.1 x.1.2.1.2.1 x.1.2.1.2.2.1 x.1.2.1.2.2.2.1 x.2.1, fun (x : ((Nat × Nat × Nat × (Nat → Int) × (Nat → Int) × (Nat → Int) × Unit) × (Nat × Nat × Nat × (Nat → Bool) × Unit) × Unit) × Int × Unit) => (fun (ar nr mr : Nat) (tr : Nat → Int) (vr : Nat → Int) (gr : Nat → Int) (ao no mo : Nat) (to : Nat → Bool) (bi : Int) => (N514 ar nr mr tr vr gr ao no mo to bi) (S.mkl nr fun j => S.onB bi j)) x.1.1.1 x.1.1.2.1 x.1.1.2.2.1 x.1.1.2.2.2.1 x.1.1.2.2.2.2.1 x.1.1.2.2.2.2.2.1 x.1.2.1.1 x.1.2.1.2.1 x.1.2.1.2.2.1 x.1.2.1.2.2.2.1 x.2.1, fun _ _ => .dead⟩
theorem s514' (ar nr mr : Nat) (tr : Nat → Int) (vr : Nat → Int) (gr : Nat → Int) (ao no mo : Nat) (to : Nat → Bool) (bi : Int) (hp : ar + nr ≤ mr ∧ nr ≤ 1000) : ∀ (k i : Nat) (L : List Bool), i + k = nr → L.length = i → Holds (L = S.mkl i fun j => S.onB bi j) → Comes (q514 ar nr mr tr vr gr ao no mo to bi) (.h0 (i : Int) L) (S.mkl nr fun j => S.onB bi j) := by
  obtain ⟨hp1, hp2⟩ := hp
  intro k
  induction k with
  | zero =>
    intro i L hi hl hL
    obtain rfl : nr = i := by omega
    apply Comes.of
    show Goes _ _ _
    (first | rw [q514] | unfold q514)
    repeat' first
      | with_reducible refine goes_if (fun h => ?_) (fun h => ?_) <;> (try simp only [lim64, imp_false, decide_eq_true_eq, decide_eq_false_iff_not, Int.toNat_natCast, toNat_pred, toNat_succ, Option.getD_some, Option.getD_none, Bool.not_eq_true', Bool.not_eq_false', Bool.and_eq_true, Bool.or_eq_true, Bool.and_eq_false_iff, Bool.or_eq_false_iff, bne_iff_ne, beq_iff_eq, bne_eq_false_iff_eq, beq_eq_false_iff_ne, ne_eq, not_and, Int.not_le, Int.not_lt, ge_iff_le, gt_iff_lt, Nat.not_lt, Nat.not_le, Bool.not_eq_true, Bool.not_eq_false, Bool.true_eq_false, Bool.false_eq_true, not_false_eq_true, not_true_eq_false] at h)
      | exact goes_none.mpr (by omega)
    all_goals first | (exfalso; omega) | exact goes_inr.mpr hL.get
  | succ k ih =>
    intro i L hi hl hL
    have ht : 0 ≤ Int.tmod (i : Int) 64 := Int.tmod_nonneg 64 (Int.natCast_nonneg i)
    have e : (S.andB .u64 (S.shrB .u64 bi (Int.tmod (i : Int) 64)) 1 == 1) = S.onB bi i := rfl
    have ih := ih (i + 1) (S.snoc L (S.onB bi i)) (by omega) (by rw [snoc_len, hl]) ⟨by rw [hL.get, mkl_succ]⟩
    apply Comes.of
    show Goes _ _ _
    rw [q514]
    simp only [e]
    clear hL e
    generalize S.onB bi i = v at *
    show Goes _ _ _
    cases v
    all_goals
     repeat' first
      | with_reducible refine goes_if (fun h => ?_) (fun h => ?_) <;> (try simp only [lim64, imp_false, decide_eq_true_eq, decide_eq_false_iff_not, Int.toNat_natCast, toNat_pred, toNat_succ, Option.getD_some, Option.getD_none, Bool.not_eq_true', Bool.not_eq_false', Bool.and_eq_true, Bool.or_eq_true, Bool.and_eq_false_iff, Bool.or_eq_false_iff, bne_iff_ne, beq_iff_eq, bne_eq_false_iff_eq, beq_eq_false_iff_ne, ne_eq, not_and, Int.not_le, Int.not_lt, ge_iff_le, gt_iff_lt, Nat.not_lt, Nat.not_le, Bool.not_eq_true, Bool.not_eq_false, Bool.true_eq_false, Bool.false_eq_true, not_false_eq_true, not_true_eq_false] at h)
      | exact goes_none.mpr (by omega)
      | fail
     all_goals first | (exfalso; omega) | exact ih | (exfalso; simp_all; done)
theorem s514 (ar nr mr : Nat) (tr : Nat → Int) (vr : Nat → Int) (gr : Nat → Int) (ao no mo : Nat) (to : Nat → Bool) (bi : Int) (hp : ar + nr ≤ mr ∧ nr ≤ 1000) : Goes ((q514 ar nr mr tr vr gr ao no mo to bi)) ((p514 ar nr mr tr vr gr ao no mo to bi)) (S.mkl nr fun j => S.onB bi j) := by
  have hm := s514' ar nr mr tr vr gr ao no mo to bi hp nr 0 [] (by omega) rfl ⟨rfl⟩
  show Goes _ _ _
  unfold p514
  repeat' first
    | with_reducible refine goes_if (fun h => ?_) (fun h => ?_) <;> (try simp only [lim64, imp_false, decide_eq_true_eq, decide_eq_false_iff_not, Int.toNat_natCast, toNat_pred, toNat_succ, Option.getD_some, Option.getD_none, Bool.not_eq_true', Bool.not_eq_false', Bool.and_eq_true, Bool.or_eq_true, Bool.and_eq_false_iff, Bool.or_eq_false_iff, bne_iff_ne, beq_iff_eq, bne_eq_false_iff_eq, beq_eq_false_iff_ne, ne_eq, not_and, Int.not_le, Int.not_lt, ge_iff_le, gt_iff_lt, Nat.not_lt, Nat.not_le, Bool.not_eq_true, Bool.not_eq_false, Bool.true_eq_false, Bool.false_eq_true, not_false_eq_true, not_true_eq_false] at h)
    | exact goes_none.mpr (by omega)
  all_goals first | (exfalso; omega) | exact hm
theorem k514_ok : k514.ok Try.prog := by
  intro x hx
  obtain ⟨⟨⟨ar, nr, mr, tr, vr, gr, _⟩, ⟨ao, no, mo, to, _⟩, _⟩, bi, _⟩ := x
  obtain ⟨h1, h2⟩ := a514 ar nr mr tr vr gr ao no mo to bi (s514 ar nr mr tr vr gr ao no mo to bi (of_dec hx rfl))
  exact ⟨⟨400, (by decide : 2 + 1 + 1 ≤ 400), h1⟩, h2⟩
noncomputable def xC5 (test : Bool → Prop → Prop → Prop) : Ext := consX test [k506, k507, k514, k30, k132, k21, k120, k113, k24, k17, k129]
theorem xC5_ok : ExtOk Try.prog (xC5 cond) := consX_ok ⟨k506_ok, k507_ok, k514_ok, k30_ok, k132_ok, k21_ok, k120_ok, k113_ok, k24_ok, k17_ok, k129_ok, trivial⟩
theorem inE_yes {t : Nat → Int} : ∀ {k i : Nat}, (∀ j, i ≤ j → j < i + k → -1099511627776 ≤ t j ∧ t j ≤ 1099511627776) → S.inE t i k = 0
  | 0, i, _ => rfl
  | k + 1, i, h => by
    simp only [S.inE]
    rw [if_pos (h i (Nat.le_refl _) (by omega)), inE_yes fun j h1 h2 => h j (by omega) (by omega)]
theorem hist_l {X1 : List (Int × Int × Int)} {o : Nat → Bool} {nl : Nat} {t : Nat → Int} (hm : S.magE X1.length (fun j => (S.at' X1 j).1) (fun j => (S.at' X1 j).2.1) (fun j => (S.at' X1 j).2.2) X1.length = 0) (hn : nl ≤ 1000) (hr : ∀ j, j < nl → -1099511627776 ≤ t j ∧ t j ≤ 1099511627776) : S.histS X1.length (fun j => (S.at' X1 j).1) (fun j => (S.at' X1 j).2.1) (fun j => (S.at' X1 j).2.2) X1.length o nl t = (0, X1, S.mkl X1.length fun j => S.aftN (S.at' X1 j).1 (S.at' X1 j).2.1 t (o j) nl) := by
  have h : S.histE X1.length (fun j => (S.at' X1 j).1) (fun j => (S.at' X1 j).2.1) (fun j => (S.at' X1 j).2.2) X1.length nl t = 0 := by
    unfold S.histE
    rw [if_pos hm, if_neg (by omega)]
    exact inE_yes fun j _ h2 => hr j (by omega)
  unfold S.histS
  rw [if_pos h, mkl3_at]
theorem field_l {X1 : List (Int × Int × Int)} {g : Nat → Bool} (hm : S.magE X1.length (fun j => (S.at' X1 j).1) (fun j => (S.at' X1 j).2.1) (fun j => (S.at' X1 j).2.2) X1.length = 0) : S.fieldS X1.length (fun j => (S.at' X1 j).1) (fun j => (S.at' X1 j).2.1) (fun j => (S.at' X1 j).2.2) X1.length (fun j => S.at' (S.mkl X1.length g) j) = (S.fldN (fun j => (S.at' X1 j).2.2) g X1.length, 0) := by
  unfold S.fieldS
  rw [if_pos hm, fldN_congr (w' := (fun j => (S.at' X1 j).2.2)) (o' := g) fun j hj => ⟨rfl, at_mkl hj⟩]
theorem erB_no {u d t : Nat → Int} {nl : Nat} : ∀ {k i : Nat}, S.erB u d nl t i k = false → ∃ j, i ≤ j ∧ j < i + k ∧ S.any (fun q => decide (t q ≥ u j ∨ t q ≤ d j)) nl = false
  | 0, i, h => by cases h
  | k + 1, i, h => by
    simp only [S.erB] at h
    split at h
    · obtain ⟨j, h1, h2, h3⟩ := erB_no h
      exact ⟨j, by omega, by omega, h3⟩
    · rename_i h3
      exact ⟨i, Nat.le_refl _, by omega, Bool.eq_false_iff.mpr h3⟩
theorem aftN_keep {u d : Int} {t : Nat → Int} {o : Bool} : ∀ {k : Nat}, S.any (fun q => decide (t q ≥ u ∨ t q ≤ d)) k = false → S.aftN u d t o k = o
  | 0, _ => rfl
  | k + 1, h => by
    rw [any_succ, Bool.or_eq_false_iff] at h
    have := of_decide_eq_false h.2
    simp only [S.aftN, S.aft, decide_eq_false (show ¬ t k ≥ u by omega), decide_eq_false (show ¬ t k ≤ d by omega), cond_false]
    exact aftN_keep h.1
theorem aftN_mono {u d : Int} {t : Nat → Int} : ∀ {k : Nat}, S.aftN u d t false k = true → S.aftN u d t true k = true
  | 0, h => by cases h
  | k + 1, h => by
    simp only [S.aftN, S.aft] at h ⊢
    by_cases h1 : t k ≥ u
    · simp only [decide_eq_true h1, cond_true]
    · by_cases h2 : t k ≤ d
      · simp only [decide_eq_false h1, decide_eq_true h2, cond_true, cond_false] at h
        cases h
      · simp only [decide_eq_false h1, decide_eq_false h2, cond_false] at h ⊢
        exact aftN_mono h
theorem fldN_le {w : Nat → Int} {o o' : Nat → Bool} : ∀ {n : Nat}, (∀ j, j < n → 1 ≤ w j) → (∀ j, j < n → o j = true → o' j = true) → S.fldN w o n ≤ S.fldN w o' n
  | 0, _, _ => Int.le_refl _
  | n + 1, h1, h2 => by
    have ih := fldN_le (o := o) (o' := o') (n := n) (fun j hj => h1 j (by omega)) fun j hj => h2 j (by omega)
    have hw := h1 n (by omega)
    have ho := h2 n (by omega)
    simp only [S.fldN]
    cases h3 : o n
    · cases h4 : o' n <;> simp only [cond_true, cond_false] <;> omega
    · rw [ho h3]; simp only [cond_true]; omega
theorem fldN_lt {w : Nat → Int} {o o' : Nat → Bool} {q : Nat} (h3 : o q = false) (h4 : o' q = true) : ∀ {n : Nat}, q < n → (∀ j, j < n → 1 ≤ w j) → (∀ j, j < n → o j = true → o' j = true) → S.fldN w o n < S.fldN w o' n
  | 0, h, _, _ => absurd h (Nat.not_lt_zero q)
  | n + 1, hq, h1, h2 => by
    have hw := h1 n (by omega)
    simp only [S.fldN]
    rcases Nat.lt_or_eq_of_le (Nat.le_of_lt_succ hq) with h5 | h5
    · have ih := fldN_lt h3 h4 h5 (fun j hj => h1 j (by omega)) fun j hj => h2 j (by omega)
      have ho := h2 n (by omega)
      cases h6 : o n
      · cases h7 : o' n <;> simp only [cond_true, cond_false] <;> omega
      · rw [ho h6]; simp only [cond_true]; omega
    · subst h5
      have ih := fldN_le (w := w) (o := o) (o' := o') (n := q) (fun j hj => h1 j (by omega)) fun j hj => h2 j (by omega)
      rw [h3, h4, cond_true, cond_false]
      omega
theorem on_zero : ∀ i, i < 40 → S.onB 0 i = false := by decide +kernel
theorem on_all : ∀ i, i < 40 → S.onB 18446744073709551615 i = true := by decide +kernel
theorem fld_dep {X1 : List (Int × Int × Int)} {m : Nat} {t : Nat → Int} (hm : S.magE X1.length (fun j => (S.at' X1 j).1) (fun j => (S.at' X1 j).2.1) (fun j => (S.at' X1 j).2.2) X1.length = 0) (h : S.erB (fun j => (S.at' X1 j).1) (fun j => (S.at' X1 j).2.1) m t 0 X1.length = false) : S.fldN (fun j => (S.at' X1 j).2.2) (fun j => S.aftN (S.at' X1 j).1 (S.at' X1 j).2.1 t (S.at' (S.mkl X1.length fun j => S.onB 0 j) j) m) X1.length < S.fldN (fun j => (S.at' X1 j).2.2) (fun j => S.aftN (S.at' X1 j).1 (S.at' X1 j).2.1 t (S.at' (S.mkl X1.length fun j => S.onB 18446744073709551615 j) j) m) X1.length := by
  obtain ⟨v1, v2, v3, v4⟩ := mag_ok hm
  obtain ⟨q, q1, q2, q3⟩ := erB_no h
  rw [Nat.zero_add] at q2
  rw [fldN_congr (w' := (fun j => (S.at' X1 j).2.2)) (o' := fun j => S.aftN (S.at' X1 j).1 (S.at' X1 j).2.1 t false m) fun j hj => ⟨rfl, by rw [at_mkl hj, on_zero j (by omega)]⟩]
  rw [fldN_congr (o := fun j => S.aftN (S.at' X1 j).1 (S.at' X1 j).2.1 t (S.at' (S.mkl X1.length fun j => S.onB 18446744073709551615 j) j) m) (w' := (fun j => (S.at' X1 j).2.2)) (o' := fun j => S.aftN (S.at' X1 j).1 (S.at' X1 j).2.1 t true m) fun j hj => ⟨rfl, by rw [at_mkl hj, on_all j (by omega)]⟩]
  exact fldN_lt (w := (fun j => (S.at' X1 j).2.2)) (o := fun j => S.aftN (S.at' X1 j).1 (S.at' X1 j).2.1 t false m) (o' := fun j => S.aftN (S.at' X1 j).1 (S.at' X1 j).2.1 t true m) (q := q) (aftN_keep q3) (aftN_keep q3) q2 (fun j hj => by have := v4 j hj; omega) fun j hj => aftN_mono
noncomputable abbrev c504_e_0 (ap : Nat) (np : Nat) (tp : Nat → Int) (vp : Nat → Int) (al : Nat) (nl : Nat) (tl : Nat → Int) (rp : Int) (fi : Int) :=
 Prod.snd
 (S.histS
 (List.length
 (S.mkl (S.mdN np) fun j =>
 S.mdR np (fun j => tp (j + ap)) (fun j => vp (j + ap)) j))
 (fun j =>
 Prod.fst
 (S.at'
 (S.mkl (S.mdN np) fun j =>
 S.mdR np (fun j => tp (j + ap)) (fun j => vp (j + ap)) j)
 j))
 (fun j =>
 Prod.fst
 (Prod.snd
 (S.at'
 (S.mkl (S.mdN np) fun j =>
 S.mdR np (fun j => tp (j + ap)) (fun j => vp (j + ap)) j)
 j)))
 (fun j =>
 Prod.snd
 (Prod.snd
 (S.at'
 (S.mkl (S.mdN np) fun j =>
 S.mdR np (fun j => tp (j + ap)) (fun j => vp (j + ap)) j)
 j)))
 (List.length
 (S.mkl
 (List.length
 (S.mkl (S.mdN np) fun j =>
 S.mdR np (fun j => tp (j + ap)) (fun j => vp (j + ap)) j))
 fun j => S.onB (18446744073709551615 : Int) j))
 (fun j =>
 S.at'
 (S.mkl
 (List.length
 (S.mkl (S.mdN np) fun j =>
 S.mdR np (fun j => tp (j + ap)) (fun j => vp (j + ap)) j))
 fun j => S.onB (18446744073709551615 : Int) j)
 j)
 (List.length
 (Prod.snd
 (S.stpS
 (S.cyE (ByteArray.mk #[(99 : UInt8)])
 (List.length (S.crL nl fun j => tl (j + al)))
 (fun j => S.at' (S.crL nl fun j => tl (j + al)) j)
 ((1 : Int) + Int.tmod rp (3 : Int))
 (S.crF fi (S.crL nl fun j => tl (j + al))))
 (List.length (S.crL nl fun j => tl (j + al)))
 (fun j => S.at' (S.crL nl fun j => tl (j + al)) j)
 ((1 : Int) + Int.tmod rp (3 : Int))
 (S.crF fi (S.crL nl fun j => tl (j + al))))))
 fun j =>
 S.at'
 (Prod.snd
 (S.stpS
 (S.cyE (ByteArray.mk #[(99 : UInt8)])
 (List.length (S.crL nl fun j => tl (j + al)))
 (fun j => S.at' (S.crL nl fun j => tl (j + al)) j)
 ((1 : Int) + Int.tmod rp (3 : Int))
 (S.crF fi (S.crL nl fun j => tl (j + al))))
 (List.length (S.crL nl fun j => tl (j + al)))
 (fun j => S.at' (S.crL nl fun j => tl (j + al)) j)
 ((1 : Int) + Int.tmod rp (3 : Int))
 (S.crF fi (S.crL nl fun j => tl (j + al)))))
 j)
noncomputable abbrev c504_e_1 (ap : Nat) (np : Nat) (tp : Nat → Int) (vp : Nat → Int) (al : Nat) (nl : Nat) (tl : Nat → Int) (rp : Int) (fi : Int) :=
 Prod.snd
 (S.histS
 (List.length
 (S.mkl (S.mdN np) fun j =>
 S.mdR np (fun j => tp (j + ap)) (fun j => vp (j + ap)) j))
 (fun j =>
 Prod.fst
 (S.at'
 (S.mkl (S.mdN np) fun j =>
 S.mdR np (fun j => tp (j + ap)) (fun j => vp (j + ap)) j)
 j))
 (fun j =>
 Prod.fst
 (Prod.snd
 (S.at'
 (S.mkl (S.mdN np) fun j =>
 S.mdR np (fun j => tp (j + ap)) (fun j => vp (j + ap)) j)
 j)))
 (fun j =>
 Prod.snd
 (Prod.snd
 (S.at'
 (S.mkl (S.mdN np) fun j =>
 S.mdR np (fun j => tp (j + ap)) (fun j => vp (j + ap)) j)
 j)))
 (List.length
 (S.mkl
 (List.length
 (S.mkl (S.mdN np) fun j =>
 S.mdR np (fun j => tp (j + ap)) (fun j => vp (j + ap)) j))
 fun j => S.onB (0 : Int) j))
 (fun j =>
 S.at'
 (S.mkl
 (List.length
 (S.mkl (S.mdN np) fun j =>
 S.mdR np (fun j => tp (j + ap)) (fun j => vp (j + ap)) j))
 fun j => S.onB (0 : Int) j)
 j)
 (List.length
 (Prod.snd
 (S.stpS
 (S.cyE (ByteArray.mk #[(99 : UInt8)])
 (List.length (S.crL nl fun j => tl (j + al)))
 (fun j => S.at' (S.crL nl fun j => tl (j + al)) j)
 ((1 : Int) + Int.tmod rp (3 : Int))
 (S.crF fi (S.crL nl fun j => tl (j + al))))
 (List.length (S.crL nl fun j => tl (j + al)))
 (fun j => S.at' (S.crL nl fun j => tl (j + al)) j)
 ((1 : Int) + Int.tmod rp (3 : Int))
 (S.crF fi (S.crL nl fun j => tl (j + al))))))
 fun j =>
 S.at'
 (Prod.snd
 (S.stpS
 (S.cyE (ByteArray.mk #[(99 : UInt8)])
 (List.length (S.crL nl fun j => tl (j + al)))
 (fun j => S.at' (S.crL nl fun j => tl (j + al)) j)
 ((1 : Int) + Int.tmod rp (3 : Int))
 (S.crF fi (S.crL nl fun j => tl (j + al))))
 (List.length (S.crL nl fun j => tl (j + al)))
 (fun j => S.at' (S.crL nl fun j => tl (j + al)) j)
 ((1 : Int) + Int.tmod rp (3 : Int))
 (S.crF fi (S.crL nl fun j => tl (j + al)))))
 j)
noncomputable abbrev c504_e_2 (ap : Nat) (np : Nat) (tp : Nat → Int) (vp : Nat → Int) (al : Nat) (nl : Nat) (tl : Nat → Int) (rp : Int) (fi : Int) :=
 Prod.snd
 (S.histS
 (List.length
 (S.mkl (S.mdN np) fun j =>
 S.mdR np (fun j => tp (j + ap)) (fun j => vp (j + ap)) j))
 (fun j =>
 Prod.fst
 (S.at'
 (S.mkl (S.mdN np) fun j =>
 S.mdR np (fun j => tp (j + ap)) (fun j => vp (j + ap)) j)
 j))
 (fun j =>
 Prod.fst
 (Prod.snd
 (S.at'
 (S.mkl (S.mdN np) fun j =>
 S.mdR np (fun j => tp (j + ap)) (fun j => vp (j + ap)) j)
 j)))
 (fun j =>
 Prod.snd
 (Prod.snd
 (S.at'
 (S.mkl (S.mdN np) fun j =>
 S.mdR np (fun j => tp (j + ap)) (fun j => vp (j + ap)) j)
 j)))
 (List.length
 (S.mkl
 (List.length
 (S.mkl (S.mdN np) fun j =>
 S.mdR np (fun j => tp (j + ap)) (fun j => vp (j + ap)) j))
 fun j => S.onB (18446744073709551615 : Int) j))
 (fun j =>
 S.at'
 (S.mkl
 (List.length
 (S.mkl (S.mdN np) fun j =>
 S.mdR np (fun j => tp (j + ap)) (fun j => vp (j + ap)) j))
 fun j => S.onB (18446744073709551615 : Int) j)
 j)
 (List.length
 (Prod.snd
 (S.stpS
 (S.cyE (ByteArray.mk #[(99 : UInt8)])
 (List.length (S.crL nl fun j => tl (j + al)))
 (fun j => S.at' (S.crL nl fun j => tl (j + al)) j)
 ((1 : Int) + Int.tmod rp (3 : Int))
 (S.crF fi (S.crL nl fun j => tl (j + al))))
 (List.length (S.crL nl fun j => tl (j + al)))
 (fun j => S.at' (S.crL nl fun j => tl (j + al)) j)
 ((1 : Int) + Int.tmod rp (3 : Int))
 (S.crF fi (S.crL nl fun j => tl (j + al))))))
 fun j =>
 S.at'
 (Prod.snd
 (S.stpS
 (S.cyE (ByteArray.mk #[(99 : UInt8)])
 (List.length (S.crL nl fun j => tl (j + al)))
 (fun j => S.at' (S.crL nl fun j => tl (j + al)) j)
 ((1 : Int) + Int.tmod rp (3 : Int))
 (S.crF fi (S.crL nl fun j => tl (j + al))))
 (List.length (S.crL nl fun j => tl (j + al)))
 (fun j => S.at' (S.crL nl fun j => tl (j + al)) j)
 ((1 : Int) + Int.tmod rp (3 : Int)) (S.crF fi (S.crL nl fun j => tl (j + al)))))
 j)
noncomputable abbrev c504_e_3 (ap : Nat) (np : Nat) (tp : Nat → Int) (vp : Nat → Int) :=
 S.mkl (S.mdN np) fun j =>
 S.mdR np (fun j => tp (j + ap)) (fun j => vp (j + ap)) j
noncomputable abbrev c504_e_4 (ap : Nat) (np : Nat) (tp : Nat → Int) (vp : Nat → Int) (o : Int) (al : Nat) (nl : Nat) (tl : Nat → Int) (rp : Int) (fi : Int) :=
 S.suiS
 (S.botE
 (S.magE
 (List.length
 (c504_e_3 ap np tp vp))
 (fun j =>
 Prod.fst
 (S.at'
 (c504_e_3 ap np tp vp)
 j))
 (fun j =>
 Prod.fst
 (Prod.snd
 (S.at'
 (c504_e_3 ap np tp vp)
 j)))
 (fun j =>
 Prod.snd
 (Prod.snd
 (S.at'
 (c504_e_3 ap np tp vp)
 j)))
 (List.length (S.mkl (S.mdN np) fun j => S.mdB o j)))
 (S.cyE (ByteArray.mk #[(99 : UInt8)]) (List.length (S.crL nl fun j => tl (j + al)))
 (fun j => S.at' (S.crL nl fun j => tl (j + al)) j)
 ((1 : Int) + Int.tmod rp (3 : Int)) (S.crF fi (S.crL nl fun j => tl (j + al)))))
 (S.erB
 (fun j =>
 Prod.fst
 (S.at'
 (c504_e_3 ap np tp vp)
 j))
 (fun j =>
 Prod.fst
 (Prod.snd
 (S.at'
 (c504_e_3 ap np tp vp)
 j)))
 (List.length
 (S.stpL (List.length (S.crL nl fun j => tl (j + al)))
 (fun j => S.at' (S.crL nl fun j => tl (j + al)) j)
 ((1 : Int) + Int.tmod rp (3 : Int)) (S.crF fi (S.crL nl fun j => tl (j + al)))))
 (fun j =>
 S.at'
 (S.stpL (List.length (S.crL nl fun j => tl (j + al)))
 (fun j => S.at' (S.crL nl fun j => tl (j + al)) j)
 ((1 : Int) + Int.tmod rp (3 : Int)) (S.crF fi (S.crL nl fun j => tl (j + al))))
 j)
 (0)
 (List.length
 (c504_e_3 ap np tp vp)))
noncomputable abbrev c504_e_5 (al : Nat) (nl : Nat) (tl : Nat → Int) (rp : Int) (fi : Int) :=
 Prod.snd
 (S.stpS
 (S.cyE (ByteArray.mk #[(99 : UInt8)])
 (List.length (S.crL nl fun j => tl (j + al)))
 (fun j => S.at' (S.crL nl fun j => tl (j + al)) j)
 ((1 : Int) + Int.tmod rp (3 : Int))
 (S.crF fi (S.crL nl fun j => tl (j + al))))
 (List.length (S.crL nl fun j => tl (j + al)))
 (fun j => S.at' (S.crL nl fun j => tl (j + al)) j)
 ((1 : Int) + Int.tmod rp (3 : Int))
 (S.crF fi (S.crL nl fun j => tl (j + al))))
noncomputable abbrev c504_e_6 (ap : Nat) (np : Nat) (tp : Nat → Int) (vp : Nat → Int) (al : Nat) (nl : Nat) (tl : Nat → Int) (rp : Int) (fi : Int) :=
 Prod.fst
 (S.histS
 (List.length
 (c504_e_3 ap np tp vp))
 (fun j =>
 Prod.fst
 (S.at'
 (c504_e_3 ap np tp vp)
 j))
 (fun j =>
 Prod.fst
 (Prod.snd
 (S.at'
 (c504_e_3 ap np tp vp)
 j)))
 (fun j =>
 Prod.snd
 (Prod.snd
 (S.at'
 (c504_e_3 ap np tp vp)
 j)))
 (List.length
 (S.mkl
 (List.length
 (c504_e_3 ap np tp vp))
 fun j => S.onB (18446744073709551615 : Int) j))
 (fun j =>
 S.at'
 (S.mkl
 (List.length
 (c504_e_3 ap np tp vp))
 fun j => S.onB (18446744073709551615 : Int) j)
 j)
 (List.length
 (Prod.snd
 (S.stpS
 (S.cyE (ByteArray.mk #[(99 : UInt8)]) (List.length (S.crL nl fun j => tl (j + al)))
 (fun j => S.at' (S.crL nl fun j => tl (j + al)) j)
 ((1 : Int) + Int.tmod rp (3 : Int)) (S.crF fi (S.crL nl fun j => tl (j + al))))
 (List.length (S.crL nl fun j => tl (j + al)))
 (fun j => S.at' (S.crL nl fun j => tl (j + al)) j)
 ((1 : Int) + Int.tmod rp (3 : Int)) (S.crF fi (S.crL nl fun j => tl (j + al))))))
 fun j =>
 S.at'
 (Prod.snd
 (S.stpS
 (S.cyE (ByteArray.mk #[(99 : UInt8)]) (List.length (S.crL nl fun j => tl (j + al)))
 (fun j => S.at' (S.crL nl fun j => tl (j + al)) j)
 ((1 : Int) + Int.tmod rp (3 : Int)) (S.crF fi (S.crL nl fun j => tl (j + al))))
 (List.length (S.crL nl fun j => tl (j + al)))
 (fun j => S.at' (S.crL nl fun j => tl (j + al)) j)
 ((1 : Int) + Int.tmod rp (3 : Int)) (S.crF fi (S.crL nl fun j => tl (j + al)))))
 j) !=
 (0 : Int)
noncomputable abbrev c504_e_7 (ap : Nat) (np : Nat) (tp : Nat → Int) (vp : Nat → Int) (al : Nat) (nl : Nat) (tl : Nat → Int) (rp : Int) (fi : Int) :=
 Prod.snd
 (S.histS
 (List.length
 (c504_e_3 ap np tp vp))
 (fun j =>
 Prod.fst
 (S.at'
 (c504_e_3 ap np tp vp)
 j))
 (fun j =>
 Prod.fst
 (Prod.snd
 (S.at'
 (c504_e_3 ap np tp vp)
 j)))
 (fun j =>
 Prod.snd
 (Prod.snd
 (S.at'
 (c504_e_3 ap np tp vp)
 j)))
 (List.length
 (S.mkl
 (List.length
 (c504_e_3 ap np tp vp))
 fun j => S.onB (0 : Int) j))
 (fun j =>
 S.at'
 (S.mkl
 (List.length
 (c504_e_3 ap np tp vp))
 fun j => S.onB (0 : Int) j)
 j)
 (List.length
 (c504_e_5 al nl tl rp fi))
 fun j =>
 S.at'
 (Prod.snd
 (S.stpS
 (S.cyE (ByteArray.mk #[(99 : UInt8)])
 (List.length (S.crL nl fun j => tl (j + al)))
 (fun j => S.at' (S.crL nl fun j => tl (j + al)) j)
 ((1 : Int) + Int.tmod rp (3 : Int))
 (S.crF fi (S.crL nl fun j => tl (j + al))))
 (List.length (S.crL nl fun j => tl (j + al)))
 (fun j => S.at' (S.crL nl fun j => tl (j + al)) j)
 ((1 : Int) + Int.tmod rp (3 : Int)) (S.crF fi (S.crL nl fun j => tl (j + al)))))
 j)
noncomputable abbrev c504_e_8 (al : Nat) (nl : Nat) (tl : Nat → Int) (rp : Int) (fi : Int) :=
 S.stpS
 (S.cyE (ByteArray.mk #[(99 : UInt8)]) (List.length (S.crL nl fun j => tl (j + al)))
 (fun j => S.at' (S.crL nl fun j => tl (j + al)) j)
 ((1 : Int) + Int.tmod rp (3 : Int)) (S.crF fi (S.crL nl fun j => tl (j + al))))
 (List.length (S.crL nl fun j => tl (j + al)))
 (fun j => S.at' (S.crL nl fun j => tl (j + al)) j) ((1 : Int) + Int.tmod rp (3 : Int))
 (S.crF fi (S.crL nl fun j => tl (j + al)))
noncomputable abbrev c504_e_9 (ap : Nat) (np : Nat) (tp : Nat → Int) (vp : Nat → Int) (al : Nat) (nl : Nat) (tl : Nat → Int) (rp : Int) (fi : Int) :=
 decide
 (0 +
 List.length
 (c504_e_3 ap np tp vp) ≤
 List.length
 (c504_e_3 ap np tp vp) ∧
 List.length
 (c504_e_3 ap np tp vp) ≤
 1000000 ∧
 0 +
 List.length
 (S.mkl
 (List.length
 (c504_e_3 ap np tp vp))
 fun j => S.onB (18446744073709551615 : Int) j) ≤
 List.length
 (S.mkl
 (List.length
 (c504_e_3 ap np tp vp))
 fun j => S.onB (18446744073709551615 : Int) j) ∧
 List.length
 (S.mkl
 (List.length
 (c504_e_3 ap np tp vp))
 fun j => S.onB (18446744073709551615 : Int) j) ≤
 1000000 ∧
 0 +
 List.length
 (c504_e_5 al nl tl rp fi) ≤
 List.length
 (c504_e_5 al nl tl rp fi) ∧
 List.length
 (c504_e_5 al nl tl rp fi) ≤
 1000000)
noncomputable abbrev c504_e_10 (ap : Nat) (np : Nat) (tp : Nat → Int) (vp : Nat → Int) (al : Nat) (nl : Nat) (tl : Nat → Int) (rp : Int) (fi : Int) :=
 Prod.snd
 (S.fieldS
 (List.length
 (Prod.fst
 (c504_e_2 ap np tp vp al nl tl rp fi)))
 (fun j =>
 Prod.fst
 (S.at'
 (Prod.fst
 (c504_e_0 ap np tp vp al nl tl rp fi))
 j))
 (fun j =>
 Prod.fst
 (Prod.snd
 (S.at'
 (Prod.fst
 (c504_e_0 ap np tp vp al nl tl rp fi))
 j)))
 (fun j =>
 Prod.snd
 (Prod.snd
 (S.at'
 (Prod.fst
 (c504_e_0 ap np tp vp al nl tl rp fi))
 j)))
 (List.length
 (Prod.snd
 (c504_e_2 ap np tp vp al nl tl rp fi)))
 fun j =>
 S.at'
 (Prod.snd
 (c504_e_2 ap np tp vp al nl tl rp fi))
 j) ==
 (0 : Int)
noncomputable abbrev c504_e_11 (ap : Nat) (np : Nat) (tp : Nat → Int) (vp : Nat → Int) (al : Nat) (nl : Nat) (tl : Nat → Int) (rp : Int) (fi : Int) :=
 decide
 (0 +
 List.length
 (Prod.fst
 (c504_e_0 ap np tp vp al nl tl rp fi)) ≤
 List.length
 (Prod.fst
 (c504_e_2 ap np tp vp al nl tl rp fi)) ∧
 List.length
 (Prod.fst
 (c504_e_0 ap np tp vp al nl tl rp fi)) ≤
 1000000 ∧
 0 +
 List.length
 (Prod.snd
 (c504_e_0 ap np tp vp al nl tl rp fi)) ≤
 List.length
 (Prod.snd
 (c504_e_0 ap np tp vp al nl tl rp fi)) ∧
 List.length
 (Prod.snd
 (c504_e_0 ap np tp vp al nl tl rp fi)) ≤
 1000000)
noncomputable abbrev c504_e_12 (ap : Nat) (np : Nat) (tp : Nat → Int) (vp : Nat → Int) (al : Nat) (nl : Nat) (tl : Nat → Int) (rp : Int) (fi : Int) :=
 Prod.fst
 (S.histS
 (List.length
 (c504_e_3 ap np tp vp))
 (fun j =>
 Prod.fst
 (S.at'
 (c504_e_3 ap np tp vp)
 j))
 (fun j =>
 Prod.fst
 (Prod.snd
 (S.at'
 (c504_e_3 ap np tp vp)
 j)))
 (fun j =>
 Prod.snd
 (Prod.snd
 (S.at'
 (c504_e_3 ap np tp vp)
 j)))
 (List.length
 (S.mkl
 (List.length
 (c504_e_3 ap np tp vp))
 fun j => S.onB (0 : Int) j))
 (fun j =>
 S.at'
 (S.mkl
 (List.length
 (c504_e_3 ap np tp vp))
 fun j => S.onB (0 : Int) j)
 j)
 (List.length
 (Prod.snd
 (S.stpS
 (S.cyE (ByteArray.mk #[(99 : UInt8)]) (List.length (S.crL nl fun j => tl (j + al)))
 (fun j => S.at' (S.crL nl fun j => tl (j + al)) j)
 ((1 : Int) + Int.tmod rp (3 : Int)) (S.crF fi (S.crL nl fun j => tl (j + al))))
 (List.length (S.crL nl fun j => tl (j + al)))
 (fun j => S.at' (S.crL nl fun j => tl (j + al)) j)
 ((1 : Int) + Int.tmod rp (3 : Int)) (S.crF fi (S.crL nl fun j => tl (j + al))))))
 fun j =>
 S.at'
 (Prod.snd
 (S.stpS
 (S.cyE (ByteArray.mk #[(99 : UInt8)]) (List.length (S.crL nl fun j => tl (j + al)))
 (fun j => S.at' (S.crL nl fun j => tl (j + al)) j)
 ((1 : Int) + Int.tmod rp (3 : Int)) (S.crF fi (S.crL nl fun j => tl (j + al))))
 (List.length (S.crL nl fun j => tl (j + al)))
 (fun j => S.at' (S.crL nl fun j => tl (j + al)) j)
 ((1 : Int) + Int.tmod rp (3 : Int)) (S.crF fi (S.crL nl fun j => tl (j + al)))))
 j) !=
 (0 : Int)
noncomputable abbrev c504_e_13 (ap : Nat) (np : Nat) (tp : Nat → Int) (vp : Nat → Int) (al : Nat) (nl : Nat) (tl : Nat → Int) (rp : Int) (fi : Int) :=
 decide
 (Prod.fst
 (S.fieldS
 (List.length
 (Prod.fst
 (c504_e_1 ap np tp vp al nl tl rp fi)))
 (fun j =>
 Prod.fst
 (S.at'
 (Prod.fst
 (c504_e_1 ap np tp vp al nl tl rp fi))
 j))
 (fun j =>
 Prod.fst
 (Prod.snd
 (S.at'
 (Prod.fst
 (c504_e_1 ap np tp vp al nl tl rp fi))
 j)))
 (fun j =>
 Prod.snd
 (Prod.snd
 (S.at'
 (Prod.fst
 (c504_e_1 ap np tp vp al nl tl rp fi))
 j)))
 (List.length
 (Prod.snd
 (c504_e_1 ap np tp vp al nl tl rp fi)))
 fun j =>
 S.at'
 (Prod.snd
 (c504_e_1 ap np tp vp al nl tl rp fi))
 j) <
 Prod.fst
 (S.fieldS
 (List.length
 (Prod.fst
 (c504_e_0 ap np tp vp al nl tl rp fi)))
 (fun j =>
 Prod.fst
 (S.at'
 (Prod.fst
 (c504_e_0 ap np tp vp al nl tl rp fi))
 j))
 (fun j =>
 Prod.fst
 (Prod.snd
 (S.at'
 (Prod.fst
 (c504_e_0 ap np tp vp al nl tl rp fi))
 j)))
 (fun j =>
 Prod.snd
 (Prod.snd
 (S.at'
 (Prod.fst
 (c504_e_0 ap np tp vp al nl tl rp fi))
 j)))
 (List.length
 (Prod.snd
 (c504_e_0 ap np tp vp al nl tl rp fi)))
 fun j =>
 S.at'
 (Prod.snd
 (c504_e_0 ap np tp vp al nl tl rp fi))
 j))
abbrev St504 := Empty
abbrev Rt504 := Bool
noncomputable def V504 (ap np mp : Nat) (tp : Nat → Int) (vp : Nat → Int) (o : Int) (al nl ml : Nat) (tl : Nat → Int) (rp : Int) (fi : Int) (r : Rt504) : PV := PV.bool r
noncomputable def N504 (ap np mp : Nat) (tp : Nat → Int) (vp : Nat → Int) (o : Int) (al nl ml : Nat) (tl : Nat → Int) (rp : Int) (fi : Int) (r : Rt504) : List Blk := []
noncomputable def I504 (ap np mp : Nat) (tp : Nat → Int) (vp : Nat → Int) (o : Int) (al nl ml : Nat) (tl : Nat → Int) (rp : Int) (fi : Int) : St504 → Hd := fun s => s.elim
noncomputable def q504 (ap np mp : Nat) (tp : Nat → Int) (vp : Nat → Int) (o : Int) (al nl ml : Nat) (tl : Nat → Int) (rp : Int) (fi : Int) : St504 → Option (St504 ⊕ Rt504) := fun s => s.elim
noncomputable def p504 (ap np mp : Nat) (tp : Nat → Int) (vp : Nat → Int) (o : Int) (al nl ml : Nat) (tl : Nat → Int) (rp : Int) (fi : Int) : Option (St504 ⊕ Rt504) := bif (decide (np ≤ 60 ∧ nl ≤ 20))
 then (bif (decide
 (ap + np ≤ mp ∧
 (S.bytes np fun j => tp (j + ap)) = true ∧
 (S.bytes np fun j => vp (j + ap)) = true))
 then (bif (decide
 (al + nl ≤ ml ∧
 (S.bytes nl fun j => tl (j + al)) = true ∧
 ((0 : Int) ≤ rp ∧ rp ≤ (255 : Int)) ∧ (0 : Int) ≤ fi ∧ fi ≤ (255 : Int)))
 then (bif (decide
 (0 +
 List.length
 (c504_e_3 ap np tp vp) ≤
 List.length
 (c504_e_3 ap np tp vp) ∧
 List.length
 (c504_e_3 ap np tp vp) ≤
 1000000))
 then (bif (S.magE
 (List.length
 (c504_e_3 ap np tp vp))
 (fun j =>
 Prod.fst
 (S.at'
 (c504_e_3 ap np tp vp)
 j))
 (fun j =>
 Prod.fst
 (Prod.snd
 (S.at'
 (c504_e_3 ap np tp vp)
 j)))
 (fun j =>
 Prod.snd
 (Prod.snd
 (S.at'
 (c504_e_3 ap np tp vp)
 j)))
 (List.length (S.mkl (S.mdN np) fun j => S.mdB o j)) !=
 (0 : Int))
 then (some (.inr (true)))
 else (bif (decide
 ((0 +
 List.length
 (c504_e_3 ap np tp vp) ≤
 List.length
 (c504_e_3 ap np tp vp) ∧
 List.length
 (c504_e_3 ap np tp vp) ≤
 1000000) ∧
 (0 + List.length (S.mkl (S.mdN np) fun j => S.mdB o j) ≤
 List.length (S.mkl (S.mdN np) fun j => S.mdB o j) ∧
 List.length (S.mkl (S.mdN np) fun j => S.mdB o j) ≤ 1000000) ∧
 0 + List.length (S.crL nl fun j => tl (j + al)) ≤
 List.length (S.crL nl fun j => tl (j + al)) ∧
 List.length (S.crL nl fun j => tl (j + al)) ≤ 1000000))
 then (bif (Prod.fst
 (c504_e_4 ap np tp vp o al nl tl rp fi))
 then (bif (decide
 (0 + List.length (S.crL nl fun j => tl (j + al)) ≤
 List.length (S.crL nl fun j => tl (j + al)) ∧
 List.length (S.crL nl fun j => tl (j + al)) ≤ 1000000))
 then (bif (Prod.snd
 (c504_e_4 ap np tp vp o al nl tl rp fi) !=
 (0 : Int))
 then (bif (Prod.snd
 (c504_e_4 ap np tp vp o al nl tl rp fi) ==
 (0 : Int))
 then (bif (Prod.fst
 (c504_e_8 al nl tl rp fi) ==
 (0 : Int))
 then (some (.inr (true)))
 else (some (.inr (false))))
 else (some (.inr (false))))
 else (bif (Prod.fst
 (c504_e_8 al nl tl rp fi) !=
 (0 : Int))
 then (bif (Prod.snd
 (c504_e_4 ap np tp vp o al nl tl rp fi) ==
 (0 : Int))
 then (bif (Prod.fst
 (c504_e_8 al nl tl rp fi) ==
 (0 : Int))
 then (some (.inr (true)))
 else (some (.inr (false))))
 else (some (.inr (false))))
 else (bif (Prod.snd
 (c504_e_4 ap np tp vp o al nl tl rp fi) ==
 (0 : Int))
 then (bif (Prod.fst
 (c504_e_8 al nl tl rp fi) ==
 (0 : Int))
 then (some (.inr (true)))
 else (some (.inr (false))))
 else (some (.inr (false))))))
 else (none))
 else (bif (decide
 (0 + List.length (S.crL nl fun j => tl (j + al)) ≤
 List.length (S.crL nl fun j => tl (j + al)) ∧
 List.length (S.crL nl fun j => tl (j + al)) ≤ 1000000))
 then (bif (Prod.snd
 (c504_e_4 ap np tp vp o al nl tl rp fi) !=
 (0 : Int))
 then (bif (Prod.snd
 (c504_e_4 ap np tp vp o al nl tl rp fi) ==
 (0 : Int))
 then (bif (Prod.fst
 (c504_e_8 al nl tl rp fi) ==
 (0 : Int))
 then (some (.inr (true)))
 else (some (.inr (false))))
 else (some (.inr (false))))
 else (bif (Prod.fst
 (c504_e_8 al nl tl rp fi) !=
 (0 : Int))
 then (bif (Prod.snd
 (c504_e_4 ap np tp vp o al nl tl rp fi) ==
 (0 : Int))
 then (bif (Prod.fst
 (c504_e_8 al nl tl rp fi) ==
 (0 : Int))
 then (some (.inr (true)))
 else (some (.inr (false))))
 else (some (.inr (false))))
 else (bif (decide
 (0 +
 List.length
 (c504_e_3 ap np tp vp) ≤
 List.length
 (c504_e_3 ap np tp vp) ∧
 List.length
 (c504_e_3 ap np tp vp) ≤
 1000))
 then (bif (decide
 (0 +
 List.length
 (c504_e_3 ap np tp vp) ≤
 List.length
 (c504_e_3 ap np tp vp) ∧
 List.length
 (c504_e_3 ap np tp vp) ≤
 1000000 ∧
 0 +
 List.length
 (S.mkl
 (List.length
 (c504_e_3 ap np tp vp))
 fun j => S.onB (0 : Int) j) ≤
 List.length
 (S.mkl
 (List.length
 (c504_e_3 ap np tp vp))
 fun j => S.onB (0 : Int) j) ∧
 List.length
 (S.mkl
 (List.length
 (c504_e_3 ap np tp vp))
 fun j => S.onB (0 : Int) j) ≤
 1000000 ∧
 0 +
 List.length
 (c504_e_5 al nl tl rp fi) ≤
 List.length
 (c504_e_5 al nl tl rp fi) ∧
 List.length
 (c504_e_5 al nl tl rp fi) ≤
 1000000))
 then (bif (c504_e_12 ap np tp vp al nl tl rp fi)
 then (bif (c504_e_9 ap np tp vp al nl tl rp fi)
 then (bif (c504_e_6 ap np tp vp al nl tl rp fi)
 then (some (.inr (false)))
 else (bif (c504_e_11 ap np tp vp al nl tl rp fi)
 then (bif (c504_e_10 ap np tp vp al nl tl rp fi)
 then (some (.inr (false)))
 else (some (.inr (false))))
 else (none)))
 else (none))
 else (bif (decide
 (0 +
 List.length
 (Prod.fst
 (c504_e_1 ap np tp vp al nl tl rp fi)) ≤
 List.length
 (Prod.fst
 (c504_e_7 ap np tp vp al nl tl rp fi)) ∧
 List.length
 (Prod.fst
 (c504_e_1 ap np tp vp al nl tl rp fi)) ≤
 1000000 ∧
 0 +
 List.length
 (Prod.snd
 (c504_e_1 ap np tp vp al nl tl rp fi)) ≤
 List.length
 (Prod.snd
 (c504_e_1 ap np tp vp al nl tl rp fi)) ∧
 List.length
 (Prod.snd
 (c504_e_1 ap np tp vp al nl tl rp fi)) ≤
 1000000))
 then (bif (Prod.snd
 (S.fieldS
 (List.length
 (Prod.fst
 (c504_e_7 ap np tp vp al nl tl rp fi)))
 (fun j =>
 Prod.fst
 (S.at'
 (Prod.fst
 (c504_e_1 ap np tp vp al nl tl rp fi))
 j))
 (fun j =>
 Prod.fst
 (Prod.snd
 (S.at'
 (Prod.fst
 (c504_e_1 ap np tp vp al nl tl rp fi))
 j)))
 (fun j =>
 Prod.snd
 (Prod.snd
 (S.at'
 (Prod.fst
 (c504_e_1 ap np tp vp al nl tl rp fi))
 j)))
 (List.length
 (Prod.snd
 (c504_e_7 ap np tp vp al nl tl rp fi)))
 fun j =>
 S.at'
 (Prod.snd
 (c504_e_7 ap np tp vp al nl tl rp fi))
 j) ==
 (0 : Int))
 then (bif (c504_e_9 ap np tp vp al nl tl rp fi)
 then (bif (c504_e_6 ap np tp vp al nl tl rp fi)
 then (some (.inr (false)))
 else (bif (c504_e_11 ap np tp vp al nl tl rp fi)
 then (bif (c504_e_10 ap np tp vp al nl tl rp fi)
 then (bif (c504_e_13 ap np tp vp al nl tl rp fi)
 then (some (.inr (true)))
 else (some (.inr (false))))
 else (some (.inr (false))))
 else (none)))
 else (none))
 else (bif (c504_e_9 ap np tp vp al nl tl rp fi)
 then (bif (c504_e_6 ap np tp vp al nl tl rp fi)
 then (some (.inr (false)))
 else (bif (c504_e_11 ap np tp vp al nl tl rp fi)
 then (bif (c504_e_10 ap np tp vp al nl tl rp fi)
 then (some (.inr (false)))
 else (some (.inr (false))))
 else (none)))
 else (none)))
 else (none)))
 else (none))
 else (none))))
 else (none)))
 else (none)))
 else (none))
 else (none))
 else (none))
 else (some (.inr (true)))
noncomputable def Te504 (test : Bool → Prop → Prop → Prop) (Kst : KS) (Kret : KR) (ap np mp : Nat) (tp : Nat → Int) (vp : Nat → Int) (o : Int) (al nl ml : Nat) (tl : Nat → Int) (rp : Int) (fi : Int) : Prop :=
  test (true)
 (test (true)
 (test (true)
 (test (decide (np ≤ 60 ∧ nl ≤ 20))
 (test (decide
 (ap + np ≤ mp ∧
 (S.bytes np fun j => tp (j + ap)) = true ∧
 (S.bytes np fun j => vp (j + ap)) = true))
 (test (decide
 (al + nl ≤ ml ∧
 (S.bytes nl fun j => tl (j + al)) = true ∧
 ((0 : Int) ≤ rp ∧ rp ≤ (255 : Int)) ∧ (0 : Int) ≤ fi ∧ fi ≤ (255 : Int)))
 (test (decide
 (0 +
 List.length
 (c504_e_3 ap np tp vp) ≤
 List.length
 (c504_e_3 ap np tp vp) ∧
 List.length
 (c504_e_3 ap np tp vp) ≤
 1000000))
 (test (S.magE
 (List.length
 (c504_e_3 ap np tp vp))
 (fun j =>
 Prod.fst
 (S.at'
 (c504_e_3 ap np tp vp)
 j))
 (fun j =>
 Prod.fst
 (Prod.snd
 (S.at'
 (c504_e_3 ap np tp vp)
 j)))
 (fun j =>
 Prod.snd
 (Prod.snd
 (S.at'
 (c504_e_3 ap np tp vp)
 j)))
 (List.length (S.mkl (S.mdN np) fun j => S.mdB o j)) !=
 (0 : Int))
 (Kret (PV.tf true) ([[(1, false, Blk.cols ml [Col.int IntKind.u8 tl]),
 (0, false, Blk.cols mp [Col.int IntKind.u8 tp, Col.int IntKind.u8 vp])]]) (14))
 (test (decide
 ((0 +
 List.length
 (c504_e_3 ap np tp vp) ≤
 List.length
 (c504_e_3 ap np tp vp) ∧
 List.length
 (c504_e_3 ap np tp vp) ≤
 1000000) ∧
 (0 + List.length (S.mkl (S.mdN np) fun j => S.mdB o j) ≤
 List.length (S.mkl (S.mdN np) fun j => S.mdB o j) ∧
 List.length (S.mkl (S.mdN np) fun j => S.mdB o j) ≤ 1000000) ∧
 0 + List.length (S.crL nl fun j => tl (j + al)) ≤
 List.length (S.crL nl fun j => tl (j + al)) ∧
 List.length (S.crL nl fun j => tl (j + al)) ≤ 1000000))
 (test (Prod.fst
 (c504_e_4 ap np tp vp o al nl tl rp fi))
 (test (decide
 (0 + List.length (S.crL nl fun j => tl (j + al)) ≤
 List.length (S.crL nl fun j => tl (j + al)) ∧
 List.length (S.crL nl fun j => tl (j + al)) ≤ 1000000))
 (test (Prod.snd
 (c504_e_4 ap np tp vp o al nl tl rp fi) !=
 (0 : Int))
 (test (Prod.snd
 (c504_e_4 ap np tp vp o al nl tl rp fi) ==
 (0 : Int))
 (test (Prod.fst
 (c504_e_8 al nl tl rp fi) ==
 (0 : Int))
 (Kret (PV.tf true) ([[(1, false, Blk.cols ml [Col.int IntKind.u8 tl]),
 (0, false, Blk.cols mp [Col.int IntKind.u8 tp, Col.int IntKind.u8 vp])]]) (17))
 (Kret (PV.tf false) ([[(1, false, Blk.cols ml [Col.int IntKind.u8 tl]),
 (0, false, Blk.cols mp [Col.int IntKind.u8 tp, Col.int IntKind.u8 vp])]]) (17)))
 (Kret (PV.tf false) ([[(1, false, Blk.cols ml [Col.int IntKind.u8 tl]),
 (0, false, Blk.cols mp [Col.int IntKind.u8 tp, Col.int IntKind.u8 vp])]]) (17)))
 (test (Prod.fst
 (c504_e_8 al nl tl rp fi) !=
 (0 : Int))
 (test (Prod.snd
 (c504_e_4 ap np tp vp o al nl tl rp fi) ==
 (0 : Int))
 (test (Prod.fst
 (c504_e_8 al nl tl rp fi) ==
 (0 : Int))
 (Kret (PV.tf true) ([[(1, false, Blk.cols ml [Col.int IntKind.u8 tl]),
 (0, false, Blk.cols mp [Col.int IntKind.u8 tp, Col.int IntKind.u8 vp])]]) (17))
 (Kret (PV.tf false) ([[(1, false, Blk.cols ml [Col.int IntKind.u8 tl]),
 (0, false, Blk.cols mp [Col.int IntKind.u8 tp, Col.int IntKind.u8 vp])]]) (17)))
 (Kret (PV.tf false) ([[(1, false, Blk.cols ml [Col.int IntKind.u8 tl]),
 (0, false, Blk.cols mp [Col.int IntKind.u8 tp, Col.int IntKind.u8 vp])]]) (17)))
 (test (Prod.snd
 (c504_e_4 ap np tp vp o al nl tl rp fi) ==
 (0 : Int))
 (test (Prod.fst
 (c504_e_8 al nl tl rp fi) ==
 (0 : Int))
 (Kret (PV.tf true) ([[(1, false, Blk.cols ml [Col.int IntKind.u8 tl]),
 (0, false, Blk.cols mp [Col.int IntKind.u8 tp, Col.int IntKind.u8 vp])]]) (17))
 (Kret (PV.tf false) ([[(1, false, Blk.cols ml [Col.int IntKind.u8 tl]),
 (0, false, Blk.cols mp [Col.int IntKind.u8 tp, Col.int IntKind.u8 vp])]]) (17)))
 (Kret (PV.tf false) ([[(1, false, Blk.cols ml [Col.int IntKind.u8 tl]),
 (0, false, Blk.cols mp [Col.int IntKind.u8 tp, Col.int IntKind.u8 vp])]]) (17)))))
 (False))
 (test (decide
 (0 + List.length (S.crL nl fun j => tl (j + al)) ≤
 List.length (S.crL nl fun j => tl (j + al)) ∧
 List.length (S.crL nl fun j => tl (j + al)) ≤ 1000000))
 (test (Prod.snd
 (c504_e_4 ap np tp vp o al nl tl rp fi) !=
 (0 : Int))
 (test (Prod.snd
 (c504_e_4 ap np tp vp o al nl tl rp fi) ==
 (0 : Int))
 (test (Prod.fst
 (c504_e_8 al nl tl rp fi) ==
 (0 : Int))
 (Kret (PV.tf true) ([[(1, false, Blk.cols ml [Col.int IntKind.u8 tl]),
 (0, false, Blk.cols mp [Col.int IntKind.u8 tp, Col.int IntKind.u8 vp])]]) (17))
 (Kret (PV.tf false) ([[(1, false, Blk.cols ml [Col.int IntKind.u8 tl]),
 (0, false, Blk.cols mp [Col.int IntKind.u8 tp, Col.int IntKind.u8 vp])]]) (17)))
 (Kret (PV.tf false) ([[(1, false, Blk.cols ml [Col.int IntKind.u8 tl]),
 (0, false, Blk.cols mp [Col.int IntKind.u8 tp, Col.int IntKind.u8 vp])]]) (17)))
 (test (Prod.fst
 (c504_e_8 al nl tl rp fi) !=
 (0 : Int))
 (test (Prod.snd
 (c504_e_4 ap np tp vp o al nl tl rp fi) ==
 (0 : Int))
 (test (Prod.fst
 (c504_e_8 al nl tl rp fi) ==
 (0 : Int))
 (Kret (PV.tf true) ([[(1, false, Blk.cols ml [Col.int IntKind.u8 tl]),
 (0, false, Blk.cols mp [Col.int IntKind.u8 tp, Col.int IntKind.u8 vp])]]) (17))
 (Kret (PV.tf false) ([[(1, false, Blk.cols ml [Col.int IntKind.u8 tl]),
 (0, false, Blk.cols mp [Col.int IntKind.u8 tp, Col.int IntKind.u8 vp])]]) (17)))
 (Kret (PV.tf false) ([[(1, false, Blk.cols ml [Col.int IntKind.u8 tl]),
 (0, false, Blk.cols mp [Col.int IntKind.u8 tp, Col.int IntKind.u8 vp])]]) (17)))
 (test (decide
 (0 +
 List.length
 (c504_e_3 ap np tp vp) ≤
 List.length
 (c504_e_3 ap np tp vp) ∧
 List.length
 (c504_e_3 ap np tp vp) ≤
 1000))
 (test (true)
 (test (true)
 (test (decide
 (0 +
 List.length
 (c504_e_3 ap np tp vp) ≤
 List.length
 (c504_e_3 ap np tp vp) ∧
 List.length
 (c504_e_3 ap np tp vp) ≤
 1000000 ∧
 0 +
 List.length
 (S.mkl
 (List.length
 (c504_e_3 ap np tp vp))
 fun j => S.onB (0 : Int) j) ≤
 List.length
 (S.mkl
 (List.length
 (c504_e_3 ap np tp vp))
 fun j => S.onB (0 : Int) j) ∧
 List.length
 (S.mkl
 (List.length
 (c504_e_3 ap np tp vp))
 fun j => S.onB (0 : Int) j) ≤
 1000000 ∧
 0 +
 List.length
 (c504_e_5 al nl tl rp fi) ≤
 List.length
 (c504_e_5 al nl tl rp fi) ∧
 List.length
 (c504_e_5 al nl tl rp fi) ≤
 1000000))
 (test (c504_e_12 ap np tp vp al nl tl rp fi)
 (test (decide
 (0 +
 List.length
 (c504_e_3 ap np tp vp) ≤
 List.length
 (c504_e_3 ap np tp vp) ∧
 List.length
 (c504_e_3 ap np tp vp) ≤
 1000))
 (test (true)
 (test (true)
 (test (c504_e_9 ap np tp vp al nl tl rp fi)
 (test (c504_e_6 ap np tp vp al nl tl rp fi)
 (Kret (PV.tf false) ([[(1, false, Blk.cols ml [Col.int IntKind.u8 tl]),
 (0, false, Blk.cols mp [Col.int IntKind.u8 tp, Col.int IntKind.u8 vp])]]) (31))
 (test (true)
 (test (false)
 (test (false)
 (False)
 (False))
 (test (c504_e_11 ap np tp vp al nl tl rp fi)
 (test (c504_e_10 ap np tp vp al nl tl rp fi)
 (Kret (PV.tf false) ([[(1, false, Blk.cols ml [Col.int IntKind.u8 tl]),
 (0, false, Blk.cols mp [Col.int IntKind.u8 tp, Col.int IntKind.u8 vp])]]) (32))
 (Kret (PV.tf false) ([[(1, false, Blk.cols ml [Col.int IntKind.u8 tl]),
 (0, false, Blk.cols mp [Col.int IntKind.u8 tp, Col.int IntKind.u8 vp])]]) (32)))
 (False)))
 (False)))
 (False))
 (False))
 (test (decide
 (0 +
 List.length
 (c504_e_3 ap np tp vp) ≤
 List.length
 (c504_e_3 ap np tp vp) ∧
 List.length
 (c504_e_3 ap np tp vp) ≤
 1000000 ∧
 0 +
 List.length
 (S.mkl
 (List.length
 (c504_e_3 ap np tp vp))
 fun j => S.onB (18446744073709551615 : Int) j) ≤
 List.length
 (S.mkl
 (List.length
 (c504_e_3 ap np tp vp))
 fun j => S.onB (18446744073709551615 : Int) j) ∧
 List.length
 (S.mkl
 (List.length
 (c504_e_3 ap np tp vp))
 fun j => S.onB (18446744073709551615 : Int) j) ≤
 1000000))
 (test (Prod.snd
 (S.fieldS
 (List.length
 (c504_e_3 ap np tp vp))
 (fun j =>
 Prod.fst
 (S.at'
 (c504_e_3 ap np tp vp)
 j))
 (fun j =>
 Prod.fst
 (Prod.snd
 (S.at'
 (c504_e_3 ap np tp vp)
 j)))
 (fun j =>
 Prod.snd
 (Prod.snd
 (S.at'
 (c504_e_3 ap np tp vp)
 j)))
 (List.length
 (S.mkl
 (List.length
 (c504_e_3 ap np tp vp))
 fun j => S.onB (18446744073709551615 : Int) j))
 fun j =>
 S.at'
 (S.mkl
 (List.length
 (c504_e_3 ap np tp vp))
 fun j => S.onB (18446744073709551615 : Int) j)
 j) ==
 (0 : Int))
 (Kret (PV.tf false) ([[(1, false, Blk.cols ml [Col.int IntKind.u8 tl]),
 (0, false, Blk.cols mp [Col.int IntKind.u8 tp, Col.int IntKind.u8 vp])]]) (29))
 (Kret (PV.tf false) ([[(1, false, Blk.cols ml [Col.int IntKind.u8 tl]),
 (0, false, Blk.cols mp [Col.int IntKind.u8 tp, Col.int IntKind.u8 vp])]]) (29)))
 (False)))
 (False))
 (test (true)
 (test (false)
 (test (false)
 (False)
 (False))
 (test (decide
 (0 +
 List.length
 (Prod.fst
 (c504_e_1 ap np tp vp al nl tl rp fi)) ≤
 List.length
 (Prod.fst
 (c504_e_7 ap np tp vp al nl tl rp fi)) ∧
 List.length
 (Prod.fst
 (c504_e_1 ap np tp vp al nl tl rp fi)) ≤
 1000000 ∧
 0 +
 List.length
 (Prod.snd
 (c504_e_1 ap np tp vp al nl tl rp fi)) ≤
 List.length
 (Prod.snd
 (c504_e_1 ap np tp vp al nl tl rp fi)) ∧
 List.length
 (Prod.snd
 (c504_e_1 ap np tp vp al nl tl rp fi)) ≤
 1000000))
 (test (Prod.snd
 (S.fieldS
 (List.length
 (Prod.fst
 (c504_e_7 ap np tp vp al nl tl rp fi)))
 (fun j =>
 Prod.fst
 (S.at'
 (Prod.fst
 (c504_e_1 ap np tp vp al nl tl rp fi))
 j))
 (fun j =>
 Prod.fst
 (Prod.snd
 (S.at'
 (Prod.fst
 (c504_e_1 ap np tp vp al nl tl rp fi))
 j)))
 (fun j =>
 Prod.snd
 (Prod.snd
 (S.at'
 (Prod.fst
 (c504_e_1 ap np tp vp al nl tl rp fi))
 j)))
 (List.length
 (Prod.snd
 (c504_e_7 ap np tp vp al nl tl rp fi)))
 fun j =>
 S.at'
 (Prod.snd
 (c504_e_7 ap np tp vp al nl tl rp fi))
 j) ==
 (0 : Int))
 (test (decide
 (0 +
 List.length
 (c504_e_3 ap np tp vp) ≤
 List.length
 (c504_e_3 ap np tp vp) ∧
 List.length
 (c504_e_3 ap np tp vp) ≤
 1000))
 (test (true)
 (test (true)
 (test (c504_e_9 ap np tp vp al nl tl rp fi)
 (test (c504_e_6 ap np tp vp al nl tl rp fi)
 (Kret (PV.tf false) ([[(1, false, Blk.cols ml [Col.int IntKind.u8 tl]),
 (0, false, Blk.cols mp [Col.int IntKind.u8 tp, Col.int IntKind.u8 vp])]]) (32))
 (test (true)
 (test (false)
 (test (false)
 (False)
 (False))
 (test (c504_e_11 ap np tp vp al nl tl rp fi)
 (test (c504_e_10 ap np tp vp al nl tl rp fi)
 (test (c504_e_13 ap np tp vp al nl tl rp fi)
 (Kret (PV.tf true) ([[(1, false, Blk.cols ml [Col.int IntKind.u8 tl]),
 (0, false, Blk.cols mp [Col.int IntKind.u8 tp, Col.int IntKind.u8 vp])]]) (33))
 (Kret (PV.tf false) ([[(1, false, Blk.cols ml [Col.int IntKind.u8 tl]),
 (0, false, Blk.cols mp [Col.int IntKind.u8 tp, Col.int IntKind.u8 vp])]]) (33)))
 (Kret (PV.tf false) ([[(1, false, Blk.cols ml [Col.int IntKind.u8 tl]),
 (0, false, Blk.cols mp [Col.int IntKind.u8 tp, Col.int IntKind.u8 vp])]]) (33)))
 (False)))
 (False)))
 (False))
 (False))
 (test (decide
 (0 +
 List.length
 (c504_e_3 ap np tp vp) ≤
 List.length
 (c504_e_3 ap np tp vp) ∧
 List.length
 (c504_e_3 ap np tp vp) ≤
 1000000 ∧
 0 +
 List.length
 (S.mkl
 (List.length
 (c504_e_3 ap np tp vp))
 fun j => S.onB (18446744073709551615 : Int) j) ≤
 List.length
 (S.mkl
 (List.length
 (c504_e_3 ap np tp vp))
 fun j => S.onB (18446744073709551615 : Int) j) ∧
 List.length
 (S.mkl
 (List.length
 (c504_e_3 ap np tp vp))
 fun j => S.onB (18446744073709551615 : Int) j) ≤
 1000000))
 (test (Prod.snd
 (S.fieldS
 (List.length
 (c504_e_3 ap np tp vp))
 (fun j =>
 Prod.fst
 (S.at'
 (c504_e_3 ap np tp vp)
 j))
 (fun j =>
 Prod.fst
 (Prod.snd
 (S.at'
 (c504_e_3 ap np tp vp)
 j)))
 (fun j =>
 Prod.snd
 (Prod.snd
 (S.at'
 (c504_e_3 ap np tp vp)
 j)))
 (List.length
 (S.mkl
 (List.length
 (c504_e_3 ap np tp vp))
 fun j => S.onB (18446744073709551615 : Int) j))
 fun j =>
 S.at'
 (S.mkl
 (List.length
 (c504_e_3 ap np tp vp))
 fun j => S.onB (18446744073709551615 : Int) j)
 j) ==
 (0 : Int))
 (test (decide
 (Prod.fst
 (S.fieldS
 (List.length
 (Prod.fst
 (c504_e_1 ap np tp vp al nl tl rp fi)))
 (fun j =>
 Prod.fst
 (S.at'
 (Prod.fst
 (c504_e_1 ap np tp vp al nl tl rp fi))
 j))
 (fun j =>
 Prod.fst
 (Prod.snd
 (S.at'
 (Prod.fst
 (c504_e_1 ap np tp vp al nl tl rp fi))
 j)))
 (fun j =>
 Prod.snd
 (Prod.snd
 (S.at'
 (Prod.fst
 (c504_e_1 ap np tp vp al nl tl rp fi))
 j)))
 (List.length
 (Prod.snd
 (c504_e_1 ap np tp vp al nl tl rp fi)))
 fun j =>
 S.at'
 (Prod.snd
 (c504_e_1 ap np tp vp al nl tl rp fi))
 j) <
 Prod.fst
 (S.fieldS
 (List.length
 (c504_e_3 ap np tp vp))
 (fun j =>
 Prod.fst
 (S.at'
 (c504_e_3 ap np tp vp)
 j))
 (fun j =>
 Prod.fst
 (Prod.snd
 (S.at'
 (c504_e_3 ap np tp vp)
 j)))
 (fun j =>
 Prod.snd
 (Prod.snd
 (S.at'
 (c504_e_3 ap np tp vp)
 j)))
 (List.length
 (S.mkl
 (List.length
 (c504_e_3 ap np tp vp))
 fun j => S.onB (18446744073709551615 : Int) j))
 fun j =>
 S.at'
 (S.mkl
 (List.length
 (c504_e_3 ap np tp vp))
 fun j => S.onB (18446744073709551615 : Int) j)
 j)))
 (Kret (PV.tf true) ([[(1, false, Blk.cols ml [Col.int IntKind.u8 tl]),
 (0, false, Blk.cols mp [Col.int IntKind.u8 tp, Col.int IntKind.u8 vp])]]) (30))
 (Kret (PV.tf false) ([[(1, false, Blk.cols ml [Col.int IntKind.u8 tl]),
 (0, false, Blk.cols mp [Col.int IntKind.u8 tp, Col.int IntKind.u8 vp])]]) (30)))
 (Kret (PV.tf false) ([[(1, false, Blk.cols ml [Col.int IntKind.u8 tl]),
 (0, false, Blk.cols mp [Col.int IntKind.u8 tp, Col.int IntKind.u8 vp])]]) (30)))
 (False)))
 (False))
 (test (decide
 (0 +
 List.length
 (c504_e_3 ap np tp vp) ≤
 List.length
 (c504_e_3 ap np tp vp) ∧
 List.length
 (c504_e_3 ap np tp vp) ≤
 1000))
 (test (true)
 (test (true)
 (test (c504_e_9 ap np tp vp al nl tl rp fi)
 (test (c504_e_6 ap np tp vp al nl tl rp fi)
 (Kret (PV.tf false) ([[(1, false, Blk.cols ml [Col.int IntKind.u8 tl]),
 (0, false, Blk.cols mp [Col.int IntKind.u8 tp, Col.int IntKind.u8 vp])]]) (32))
 (test (true)
 (test (false)
 (test (false)
 (False)
 (False))
 (test (c504_e_11 ap np tp vp al nl tl rp fi)
 (test (c504_e_10 ap np tp vp al nl tl rp fi)
 (Kret (PV.tf false) ([[(1, false, Blk.cols ml [Col.int IntKind.u8 tl]),
 (0, false, Blk.cols mp [Col.int IntKind.u8 tp, Col.int IntKind.u8 vp])]]) (33))
 (Kret (PV.tf false) ([[(1, false, Blk.cols ml [Col.int IntKind.u8 tl]),
 (0, false, Blk.cols mp [Col.int IntKind.u8 tp, Col.int IntKind.u8 vp])]]) (33)))
 (False)))
 (False)))
 (False))
 (False))
 (test (decide
 (0 +
 List.length
 (c504_e_3 ap np tp vp) ≤
 List.length
 (c504_e_3 ap np tp vp) ∧
 List.length
 (c504_e_3 ap np tp vp) ≤
 1000000 ∧
 0 +
 List.length
 (S.mkl
 (List.length
 (c504_e_3 ap np tp vp))
 fun j => S.onB (18446744073709551615 : Int) j) ≤
 List.length
 (S.mkl
 (List.length
 (c504_e_3 ap np tp vp))
 fun j => S.onB (18446744073709551615 : Int) j) ∧
 List.length
 (S.mkl
 (List.length
 (c504_e_3 ap np tp vp))
 fun j => S.onB (18446744073709551615 : Int) j) ≤
 1000000))
 (test (Prod.snd
 (S.fieldS
 (List.length
 (c504_e_3 ap np tp vp))
 (fun j =>
 Prod.fst
 (S.at'
 (c504_e_3 ap np tp vp)
 j))
 (fun j =>
 Prod.fst
 (Prod.snd
 (S.at'
 (c504_e_3 ap np tp vp)
 j)))
 (fun j =>
 Prod.snd
 (Prod.snd
 (S.at'
 (c504_e_3 ap np tp vp)
 j)))
 (List.length
 (S.mkl
 (List.length
 (c504_e_3 ap np tp vp))
 fun j => S.onB (18446744073709551615 : Int) j))
 fun j =>
 S.at'
 (S.mkl
 (List.length
 (c504_e_3 ap np tp vp))
 fun j => S.onB (18446744073709551615 : Int) j)
 j) ==
 (0 : Int))
 (Kret (PV.tf false) ([[(1, false, Blk.cols ml [Col.int IntKind.u8 tl]),
 (0, false, Blk.cols mp [Col.int IntKind.u8 tp, Col.int IntKind.u8 vp])]]) (30))
 (Kret (PV.tf false) ([[(1, false, Blk.cols ml [Col.int IntKind.u8 tl]),
 (0, false, Blk.cols mp [Col.int IntKind.u8 tp, Col.int IntKind.u8 vp])]]) (30)))
 (False)))
 (False)))
 (False)))
 (False)))
 (False))
 (False))
 (test (decide
 (0 +
 List.length
 (c504_e_3 ap np tp vp) ≤
 List.length
 (c504_e_3 ap np tp vp) ∧
 List.length
 (c504_e_3 ap np tp vp) ≤
 1000000 ∧
 0 +
 List.length
 (S.mkl
 (List.length
 (c504_e_3 ap np tp vp))
 fun j => S.onB (0 : Int) j) ≤
 List.length
 (S.mkl
 (List.length
 (c504_e_3 ap np tp vp))
 fun j => S.onB (0 : Int) j) ∧
 List.length
 (S.mkl
 (List.length
 (c504_e_3 ap np tp vp))
 fun j => S.onB (0 : Int) j) ≤
 1000000))
 (test (Prod.snd
 (S.fieldS
 (List.length
 (c504_e_3 ap np tp vp))
 (fun j =>
 Prod.fst
 (S.at'
 (c504_e_3 ap np tp vp)
 j))
 (fun j =>
 Prod.fst
 (Prod.snd
 (S.at'
 (c504_e_3 ap np tp vp)
 j)))
 (fun j =>
 Prod.snd
 (Prod.snd
 (S.at'
 (c504_e_3 ap np tp vp)
 j)))
 (List.length
 (S.mkl
 (List.length
 (c504_e_3 ap np tp vp))
 fun j => S.onB (0 : Int) j))
 fun j =>
 S.at'
 (S.mkl
 (List.length
 (c504_e_3 ap np tp vp))
 fun j => S.onB (0 : Int) j)
 j) ==
 (0 : Int))
 (test (decide
 (0 +
 List.length
 (c504_e_3 ap np tp vp) ≤
 List.length
 (c504_e_3 ap np tp vp) ∧
 List.length
 (c504_e_3 ap np tp vp) ≤
 1000))
 (test (true)
 (test (true)
 (test (c504_e_9 ap np tp vp al nl tl rp fi)
 (test (c504_e_6 ap np tp vp al nl tl rp fi)
 (Kret (PV.tf false) ([[(1, false, Blk.cols ml [Col.int IntKind.u8 tl]),
 (0, false, Blk.cols mp [Col.int IntKind.u8 tp, Col.int IntKind.u8 vp])]]) (29))
 (test (true)
 (test (false)
 (test (false)
 (False)
 (False))
 (test (c504_e_11 ap np tp vp al nl tl rp fi)
 (test (c504_e_10 ap np tp vp al nl tl rp fi)
 (test (decide
 (Prod.fst
 (S.fieldS
 (List.length
 (c504_e_3 ap np tp vp))
 (fun j =>
 Prod.fst
 (S.at'
 (c504_e_3 ap np tp vp)
 j))
 (fun j =>
 Prod.fst
 (Prod.snd
 (S.at'
 (c504_e_3 ap np tp vp)
 j)))
 (fun j =>
 Prod.snd
 (Prod.snd
 (S.at'
 (c504_e_3 ap np tp vp)
 j)))
 (List.length
 (S.mkl
 (List.length
 (c504_e_3 ap np tp vp))
 fun j => S.onB (0 : Int) j))
 fun j =>
 S.at'
 (S.mkl
 (List.length
 (c504_e_3 ap np tp vp))
 fun j => S.onB (0 : Int) j)
 j) <
 Prod.fst
 (S.fieldS
 (List.length
 (Prod.fst
 (c504_e_0 ap np tp vp al nl tl rp fi)))
 (fun j =>
 Prod.fst
 (S.at'
 (Prod.fst
 (c504_e_0 ap np tp vp al nl tl rp fi))
 j))
 (fun j =>
 Prod.fst
 (Prod.snd
 (S.at'
 (Prod.fst
 (c504_e_0 ap np tp vp al nl tl rp fi))
 j)))
 (fun j =>
 Prod.snd
 (Prod.snd
 (S.at'
 (Prod.fst
 (c504_e_0 ap np tp vp al nl tl rp fi))
 j)))
 (List.length
 (Prod.snd
 (c504_e_0 ap np tp vp al nl tl rp fi)))
 fun j =>
 S.at'
 (Prod.snd
 (c504_e_0 ap np tp vp al nl tl rp fi))
 j)))
 (Kret (PV.tf true) ([[(1, false, Blk.cols ml [Col.int IntKind.u8 tl]),
 (0, false, Blk.cols mp [Col.int IntKind.u8 tp, Col.int IntKind.u8 vp])]]) (30))
 (Kret (PV.tf false) ([[(1, false, Blk.cols ml [Col.int IntKind.u8 tl]),
 (0, false, Blk.cols mp [Col.int IntKind.u8 tp, Col.int IntKind.u8 vp])]]) (30)))
 (Kret (PV.tf false) ([[(1, false, Blk.cols ml [Col.int IntKind.u8 tl]),
 (0, false, Blk.cols mp [Col.int IntKind.u8 tp, Col.int IntKind.u8 vp])]]) (30)))
 (False)))
 (False)))
 (False))
 (False))
 (test (decide
 (0 +
 List.length
 (c504_e_3 ap np tp vp) ≤
 List.length
 (c504_e_3 ap np tp vp) ∧
 List.length
 (c504_e_3 ap np tp vp) ≤
 1000000 ∧
 0 +
 List.length
 (S.mkl
 (List.length
 (c504_e_3 ap np tp vp))
 fun j => S.onB (18446744073709551615 : Int) j) ≤
 List.length
 (S.mkl
 (List.length
 (c504_e_3 ap np tp vp))
 fun j => S.onB (18446744073709551615 : Int) j) ∧
 List.length
 (S.mkl
 (List.length
 (c504_e_3 ap np tp vp))
 fun j => S.onB (18446744073709551615 : Int) j) ≤
 1000000))
 (test (Prod.snd
 (S.fieldS
 (List.length
 (c504_e_3 ap np tp vp))
 (fun j =>
 Prod.fst
 (S.at'
 (c504_e_3 ap np tp vp)
 j))
 (fun j =>
 Prod.fst
 (Prod.snd
 (S.at'
 (c504_e_3 ap np tp vp)
 j)))
 (fun j =>
 Prod.snd
 (Prod.snd
 (S.at'
 (c504_e_3 ap np tp vp)
 j)))
 (List.length
 (S.mkl
 (List.length
 (c504_e_3 ap np tp vp))
 fun j => S.onB (18446744073709551615 : Int) j))
 fun j =>
 S.at'
 (S.mkl
 (List.length
 (c504_e_3 ap np tp vp))
 fun j => S.onB (18446744073709551615 : Int) j)
 j) ==
 (0 : Int))
 (test (decide
 (Prod.fst
 (S.fieldS
 (List.length
 (c504_e_3 ap np tp vp))
 (fun j =>
 Prod.fst
 (S.at'
 (c504_e_3 ap np tp vp)
 j))
 (fun j =>
 Prod.fst
 (Prod.snd
 (S.at'
 (c504_e_3 ap np tp vp)
 j)))
 (fun j =>
 Prod.snd
 (Prod.snd
 (S.at'
 (c504_e_3 ap np tp vp)
 j)))
 (List.length
 (S.mkl
 (List.length
 (c504_e_3 ap np tp vp))
 fun j => S.onB (0 : Int) j))
 fun j =>
 S.at'
 (S.mkl
 (List.length
 (c504_e_3 ap np tp vp))
 fun j => S.onB (0 : Int) j)
 j) <
 Prod.fst
 (S.fieldS
 (List.length
 (c504_e_3 ap np tp vp))
 (fun j =>
 Prod.fst
 (S.at'
 (c504_e_3 ap np tp vp)
 j))
 (fun j =>
 Prod.fst
 (Prod.snd
 (S.at'
 (c504_e_3 ap np tp vp)
 j)))
 (fun j =>
 Prod.snd
 (Prod.snd
 (S.at'
 (c504_e_3 ap np tp vp)
 j)))
 (List.length
 (S.mkl
 (List.length
 (c504_e_3 ap np tp vp))
 fun j => S.onB (18446744073709551615 : Int) j))
 fun j =>
 S.at'
 (S.mkl
 (List.length
 (c504_e_3 ap np tp vp))
 fun j => S.onB (18446744073709551615 : Int) j)
 j)))
 (Kret (PV.tf true) ([[(1, false, Blk.cols ml [Col.int IntKind.u8 tl]),
 (0, false, Blk.cols mp [Col.int IntKind.u8 tp, Col.int IntKind.u8 vp])]]) (27))
 (Kret (PV.tf false) ([[(1, false, Blk.cols ml [Col.int IntKind.u8 tl]),
 (0, false, Blk.cols mp [Col.int IntKind.u8 tp, Col.int IntKind.u8 vp])]]) (27)))
 (Kret (PV.tf false) ([[(1, false, Blk.cols ml [Col.int IntKind.u8 tl]),
 (0, false, Blk.cols mp [Col.int IntKind.u8 tp, Col.int IntKind.u8 vp])]]) (27)))
 (False)))
 (False))
 (test (decide
 (0 +
 List.length
 (c504_e_3 ap np tp vp) ≤
 List.length
 (c504_e_3 ap np tp vp) ∧
 List.length
 (c504_e_3 ap np tp vp) ≤
 1000))
 (test (true)
 (test (true)
 (test (c504_e_9 ap np tp vp al nl tl rp fi)
 (test (c504_e_6 ap np tp vp al nl tl rp fi)
 (Kret (PV.tf false) ([[(1, false, Blk.cols ml [Col.int IntKind.u8 tl]),
 (0, false, Blk.cols mp [Col.int IntKind.u8 tp, Col.int IntKind.u8 vp])]]) (29))
 (test (true)
 (test (false)
 (test (false)
 (False)
 (False))
 (test (c504_e_11 ap np tp vp al nl tl rp fi)
 (test (c504_e_10 ap np tp vp al nl tl rp fi)
 (Kret (PV.tf false) ([[(1, false, Blk.cols ml [Col.int IntKind.u8 tl]),
 (0, false, Blk.cols mp [Col.int IntKind.u8 tp, Col.int IntKind.u8 vp])]]) (30))
 (Kret (PV.tf false) ([[(1, false, Blk.cols ml [Col.int IntKind.u8 tl]),
 (0, false, Blk.cols mp [Col.int IntKind.u8 tp, Col.int IntKind.u8 vp])]]) (30)))
 (False)))
 (False)))
 (False))
 (False))
 (test (decide
 (0 +
 List.length
 (c504_e_3 ap np tp vp) ≤
 List.length
 (c504_e_3 ap np tp vp) ∧
 List.length
 (c504_e_3 ap np tp vp) ≤
 1000000 ∧
 0 +
 List.length
 (S.mkl
 (List.length
 (c504_e_3 ap np tp vp))
 fun j => S.onB (18446744073709551615 : Int) j) ≤
 List.length
 (S.mkl
 (List.length
 (c504_e_3 ap np tp vp))
 fun j => S.onB (18446744073709551615 : Int) j) ∧
 List.length
 (S.mkl
 (List.length
 (c504_e_3 ap np tp vp))
 fun j => S.onB (18446744073709551615 : Int) j) ≤
 1000000))
 (test (Prod.snd
 (S.fieldS
 (List.length
 (c504_e_3 ap np tp vp))
 (fun j =>
 Prod.fst
 (S.at'
 (c504_e_3 ap np tp vp)
 j))
 (fun j =>
 Prod.fst
 (Prod.snd
 (S.at'
 (c504_e_3 ap np tp vp)
 j)))
 (fun j =>
 Prod.snd
 (Prod.snd
 (S.at'
 (c504_e_3 ap np tp vp)
 j)))
 (List.length
 (S.mkl
 (List.length
 (c504_e_3 ap np tp vp))
 fun j => S.onB (18446744073709551615 : Int) j))
 fun j =>
 S.at'
 (S.mkl
 (List.length
 (c504_e_3 ap np tp vp))
 fun j => S.onB (18446744073709551615 : Int) j)
 j) ==
 (0 : Int))
 (Kret (PV.tf false) ([[(1, false, Blk.cols ml [Col.int IntKind.u8 tl]),
 (0, false, Blk.cols mp [Col.int IntKind.u8 tp, Col.int IntKind.u8 vp])]]) (27))
 (Kret (PV.tf false) ([[(1, false, Blk.cols ml [Col.int IntKind.u8 tl]),
 (0, false, Blk.cols mp [Col.int IntKind.u8 tp, Col.int IntKind.u8 vp])]]) (27)))
 (False)))
 (False)))
 (False)))
 (False))))
 (False)))
 (False)))
 (False))
 (False))
 (False))
 (test (true)
 (test (true)
 (Kret (PV.tf true) ([[(1, false, Blk.cols ml [Col.int IntKind.u8 tl]),
 (0, false, Blk.cols mp [Col.int IntKind.u8 tp, Col.int IntKind.u8 vp])]]) (7))
 (Kret (PV.tf false) ([[(1, false, Blk.cols ml [Col.int IntKind.u8 tl]),
 (0, false, Blk.cols mp [Col.int IntKind.u8 tp, Col.int IntKind.u8 vp])]]) (7)))
 (False)))
 (False))
 (test (true)
 (test (true)
 (Kret (PV.tf true) ([[(1, false, Blk.cols ml [Col.int IntKind.u8 tl]),
 (0, false, Blk.cols mp [Col.int IntKind.u8 tp, Col.int IntKind.u8 vp])]]) (6))
 (Kret (PV.tf false) ([[(1, false, Blk.cols ml [Col.int IntKind.u8 tl]),
 (0, false, Blk.cols mp [Col.int IntKind.u8 tp, Col.int IntKind.u8 vp])]]) (6)))
 (False)))
 (False)
theorem te504 (test : Bool → Prop → Prop → Prop) (Kst : KS) (Kret : KR) (ap np mp : Nat) (tp : Nat → Int) (vp : Nat → Int) (o : Int) (al nl ml : Nat) (tl : Nat → Int) (rp : Int) (fi : Int) : run test Try.env true (xC5 test) true 400 ⟨4, [.cd (mkFn Try.f4).body], argT 0 [.agg [.loose ⟨0, 2, ap, 0⟩ np, .int .u32 o], .agg [.loose ⟨1, 1, al, 0⟩ nl, .int .u8 rp, .int .u8 fi]], [[], [(0, (false, .cols mp [.int .u8 tp, .int .u8 vp])), (1, (false, .cols ml [.int .u8 tl]))]], 2⟩ (proj 2 [] Kst Kret) =
  Te504 test Kst Kret ap np mp tp vp o al nl ml tl rp fi := by kernel_rfl
theorem be504 (ap np mp : Nat) (tp : Nat → Int) (vp : Nat → Int) (o : Int) (al nl ml : Nat) (tl : Nat → Int) (rp : Int) (fi : Int) (Kst : KS) (Kret : KR) (x : St504 ⊕ Rt504) (hS : HS 2 400 ((I504 ap np mp tp vp o al nl ml tl rp fi)) Kst x) (hR : HR 2 400 ((V504 ap np mp tp vp o al nl ml tl rp fi)) (fun r => [newL (2 + 1) ((N504 ap np mp tp vp o al nl ml tl rp fi) r) ++ [(0, (false, .cols mp [.int .u8 tp, .int .u8 vp])), (1, (false, .cols ml [.int .u8 tl]))]]) Kret x) (h : (bif (decide (np ≤ 60 ∧ nl ≤ 20))
 then (bif (decide
 (ap + np ≤ mp ∧
 (S.bytes np fun j => tp (j + ap)) = true ∧
 (S.bytes np fun j => vp (j + ap)) = true))
 then (bif (decide
 (al + nl ≤ ml ∧
 (S.bytes nl fun j => tl (j + al)) = true ∧
 ((0 : Int) ≤ rp ∧ rp ≤ (255 : Int)) ∧ (0 : Int) ≤ fi ∧ fi ≤ (255 : Int)))
 then (bif (decide
 (0 +
 List.length
 (c504_e_3 ap np tp vp) ≤
 List.length
 (c504_e_3 ap np tp vp) ∧
 List.length
 (c504_e_3 ap np tp vp) ≤
 1000000))
 then (bif (S.magE
 (List.length
 (c504_e_3 ap np tp vp))
 (fun j =>
 Prod.fst
 (S.at'
 (c504_e_3 ap np tp vp)
 j))
 (fun j =>
 Prod.fst
 (Prod.snd
 (S.at'
 (c504_e_3 ap np tp vp)
 j)))
 (fun j =>
 Prod.snd
 (Prod.snd
 (S.at'
 (c504_e_3 ap np tp vp)
 j)))
 (List.length (S.mkl (S.mdN np) fun j => S.mdB o j)) !=
 (0 : Int))
 then (some (.inr (true)))
 else (bif (decide
 ((0 +
 List.length
 (c504_e_3 ap np tp vp) ≤
 List.length
 (c504_e_3 ap np tp vp) ∧
 List.length
 (c504_e_3 ap np tp vp) ≤
 1000000) ∧
 (0 + List.length (S.mkl (S.mdN np) fun j => S.mdB o j) ≤
 List.length (S.mkl (S.mdN np) fun j => S.mdB o j) ∧
 List.length (S.mkl (S.mdN np) fun j => S.mdB o j) ≤ 1000000) ∧
 0 + List.length (S.crL nl fun j => tl (j + al)) ≤
 List.length (S.crL nl fun j => tl (j + al)) ∧
 List.length (S.crL nl fun j => tl (j + al)) ≤ 1000000))
 then (bif (Prod.fst
 (c504_e_4 ap np tp vp o al nl tl rp fi))
 then (bif (decide
 (0 + List.length (S.crL nl fun j => tl (j + al)) ≤
 List.length (S.crL nl fun j => tl (j + al)) ∧
 List.length (S.crL nl fun j => tl (j + al)) ≤ 1000000))
 then (bif (Prod.snd
 (c504_e_4 ap np tp vp o al nl tl rp fi) !=
 (0 : Int))
 then (bif (Prod.snd
 (c504_e_4 ap np tp vp o al nl tl rp fi) ==
 (0 : Int))
 then (bif (Prod.fst
 (c504_e_8 al nl tl rp fi) ==
 (0 : Int))
 then (some (.inr (true)))
 else (some (.inr (false))))
 else (some (.inr (false))))
 else (bif (Prod.fst
 (c504_e_8 al nl tl rp fi) !=
 (0 : Int))
 then (bif (Prod.snd
 (c504_e_4 ap np tp vp o al nl tl rp fi) ==
 (0 : Int))
 then (bif (Prod.fst
 (c504_e_8 al nl tl rp fi) ==
 (0 : Int))
 then (some (.inr (true)))
 else (some (.inr (false))))
 else (some (.inr (false))))
 else (bif (Prod.snd
 (c504_e_4 ap np tp vp o al nl tl rp fi) ==
 (0 : Int))
 then (bif (Prod.fst
 (c504_e_8 al nl tl rp fi) ==
 (0 : Int))
 then (some (.inr (true)))
 else (some (.inr (false))))
 else (some (.inr (false))))))
 else (none))
 else (bif (decide
 (0 + List.length (S.crL nl fun j => tl (j + al)) ≤
 List.length (S.crL nl fun j => tl (j + al)) ∧
 List.length (S.crL nl fun j => tl (j + al)) ≤ 1000000))
 then (bif (Prod.snd
 (c504_e_4 ap np tp vp o al nl tl rp fi) !=
 (0 : Int))
 then (bif (Prod.snd
 (c504_e_4 ap np tp vp o al nl tl rp fi) ==
 (0 : Int))
 then (bif (Prod.fst
 (c504_e_8 al nl tl rp fi) ==
 (0 : Int))
 then (some (.inr (true)))
 else (some (.inr (false))))
 else (some (.inr (false))))
 else (bif (Prod.fst
 (c504_e_8 al nl tl rp fi) !=
 (0 : Int))
 then (bif (Prod.snd
 (c504_e_4 ap np tp vp o al nl tl rp fi) ==
 (0 : Int))
 then (bif (Prod.fst
 (c504_e_8 al nl tl rp fi) ==
 (0 : Int))
 then (some (.inr (true)))
 else (some (.inr (false))))
 else (some (.inr (false))))
 else (bif (decide
 (0 +
 List.length
 (c504_e_3 ap np tp vp) ≤
 List.length
 (c504_e_3 ap np tp vp) ∧
 List.length
 (c504_e_3 ap np tp vp) ≤
 1000))
 then (bif (decide
 (0 +
 List.length
 (c504_e_3 ap np tp vp) ≤
 List.length
 (c504_e_3 ap np tp vp) ∧
 List.length
 (c504_e_3 ap np tp vp) ≤
 1000000 ∧
 0 +
 List.length
 (S.mkl
 (List.length
 (c504_e_3 ap np tp vp))
 fun j => S.onB (0 : Int) j) ≤
 List.length
 (S.mkl
 (List.length
 (c504_e_3 ap np tp vp))
 fun j => S.onB (0 : Int) j) ∧
 List.length
 (S.mkl
 (List.length
 (c504_e_3 ap np tp vp))
 fun j => S.onB (0 : Int) j) ≤
 1000000 ∧
 0 +
 List.length
 (c504_e_5 al nl tl rp fi) ≤
 List.length
 (c504_e_5 al nl tl rp fi) ∧
 List.length
 (c504_e_5 al nl tl rp fi) ≤
 1000000))
 then (bif (c504_e_12 ap np tp vp al nl tl rp fi)
 then (bif (c504_e_9 ap np tp vp al nl tl rp fi)
 then (bif (c504_e_6 ap np tp vp al nl tl rp fi)
 then (some (.inr (false)))
 else (bif (c504_e_11 ap np tp vp al nl tl rp fi)
 then (bif (c504_e_10 ap np tp vp al nl tl rp fi)
 then (some (.inr (false)))
 else (some (.inr (false))))
 else (none)))
 else (none))
 else (bif (decide
 (0 +
 List.length
 (Prod.fst
 (c504_e_1 ap np tp vp al nl tl rp fi)) ≤
 List.length
 (Prod.fst
 (c504_e_7 ap np tp vp al nl tl rp fi)) ∧
 List.length
 (Prod.fst
 (c504_e_1 ap np tp vp al nl tl rp fi)) ≤
 1000000 ∧
 0 +
 List.length
 (Prod.snd
 (c504_e_1 ap np tp vp al nl tl rp fi)) ≤
 List.length
 (Prod.snd
 (c504_e_1 ap np tp vp al nl tl rp fi)) ∧
 List.length
 (Prod.snd
 (c504_e_1 ap np tp vp al nl tl rp fi)) ≤
 1000000))
 then (bif (Prod.snd
 (S.fieldS
 (List.length
 (Prod.fst
 (c504_e_7 ap np tp vp al nl tl rp fi)))
 (fun j =>
 Prod.fst
 (S.at'
 (Prod.fst
 (c504_e_1 ap np tp vp al nl tl rp fi))
 j))
 (fun j =>
 Prod.fst
 (Prod.snd
 (S.at'
 (Prod.fst
 (c504_e_1 ap np tp vp al nl tl rp fi))
 j)))
 (fun j =>
 Prod.snd
 (Prod.snd
 (S.at'
 (Prod.fst
 (c504_e_1 ap np tp vp al nl tl rp fi))
 j)))
 (List.length
 (Prod.snd
 (c504_e_7 ap np tp vp al nl tl rp fi)))
 fun j =>
 S.at'
 (Prod.snd
 (c504_e_7 ap np tp vp al nl tl rp fi))
 j) ==
 (0 : Int))
 then (bif (c504_e_9 ap np tp vp al nl tl rp fi)
 then (bif (c504_e_6 ap np tp vp al nl tl rp fi)
 then (some (.inr (false)))
 else (bif (c504_e_11 ap np tp vp al nl tl rp fi)
 then (bif (c504_e_10 ap np tp vp al nl tl rp fi)
 then (bif (c504_e_13 ap np tp vp al nl tl rp fi)
 then (some (.inr (true)))
 else (some (.inr (false))))
 else (some (.inr (false))))
 else (none)))
 else (none))
 else (bif (c504_e_9 ap np tp vp al nl tl rp fi)
 then (bif (c504_e_6 ap np tp vp al nl tl rp fi)
 then (some (.inr (false)))
 else (bif (c504_e_11 ap np tp vp al nl tl rp fi)
 then (bif (c504_e_10 ap np tp vp al nl tl rp fi)
 then (some (.inr (false)))
 else (some (.inr (false))))
 else (none)))
 else (none)))
 else (none)))
 else (none))
 else (none))))
 else (none)))
 else (none)))
 else (none))
 else (none))
 else (none))
 else (some (.inr (true))) : Option (St504 ⊕ Rt504)) = some x) : Te504 cond Kst Kret ap np mp tp vp o al nl ml tl rp fi := by
  unfold Te504
  exact cond_yes rfl (cond_yes rfl (cond_yes rfl (bif_split h
   (fun c0 h => bif_split h
   (fun c1 h => bif_split h
   (fun c2 h => bif_split h
   (fun c3 h => bif_split h
   (fun c4 h => ret_at hR _ h (fun n => n) rfl rfl rfl (rn_bool_tf rfl) rfl (entl_bor (use_lo rfl) rfl rfl (entl_bor (use_lo rfl) rfl rfl entl_nil)))
   (fun c4 h => bif_split h
   (fun c5 h => bif_split h
   (fun c6 h => bif_split h
   (fun c7 h => bif_split h
   (fun c8 h => bif_split h
   (fun c9 h => bif_split h
   (fun c10 h => ret_at hR _ h (fun n => n) rfl rfl rfl (rn_bool_tf rfl) rfl (entl_bor (use_lo rfl) rfl rfl (entl_bor (use_lo rfl) rfl rfl entl_nil)))
   (fun c10 h => ret_at hR _ h (fun n => n) rfl rfl rfl (rn_bool_tf rfl) rfl (entl_bor (use_lo rfl) rfl rfl (entl_bor (use_lo rfl) rfl rfl entl_nil))))
   (fun c9 h => ret_at hR _ h (fun n => n) rfl rfl rfl (rn_bool_tf rfl) rfl (entl_bor (use_lo rfl) rfl rfl (entl_bor (use_lo rfl) rfl rfl entl_nil))))
   (fun c8 h => bif_split h
   (fun c9 h => bif_split h
   (fun c10 h => bif_split h
   (fun c11 h => ret_at hR _ h (fun n => n) rfl rfl rfl (rn_bool_tf rfl) rfl (entl_bor (use_lo rfl) rfl rfl (entl_bor (use_lo rfl) rfl rfl entl_nil)))
   (fun c11 h => ret_at hR _ h (fun n => n) rfl rfl rfl (rn_bool_tf rfl) rfl (entl_bor (use_lo rfl) rfl rfl (entl_bor (use_lo rfl) rfl rfl entl_nil))))
   (fun c10 h => ret_at hR _ h (fun n => n) rfl rfl rfl (rn_bool_tf rfl) rfl (entl_bor (use_lo rfl) rfl rfl (entl_bor (use_lo rfl) rfl rfl entl_nil))))
   (fun c9 h => bif_split h
   (fun c10 h => bif_split h
   (fun c11 h => ret_at hR _ h (fun n => n) rfl rfl rfl (rn_bool_tf rfl) rfl (entl_bor (use_lo rfl) rfl rfl (entl_bor (use_lo rfl) rfl rfl entl_nil)))
   (fun c11 h => ret_at hR _ h (fun n => n) rfl rfl rfl (rn_bool_tf rfl) rfl (entl_bor (use_lo rfl) rfl rfl (entl_bor (use_lo rfl) rfl rfl entl_nil))))
   (fun c10 h => ret_at hR _ h (fun n => n) rfl rfl rfl (rn_bool_tf rfl) rfl (entl_bor (use_lo rfl) rfl rfl (entl_bor (use_lo rfl) rfl rfl entl_nil))))))
   (fun c7 h => no_some h))
   (fun c6 h => bif_split h
   (fun c7 h => bif_split h
   (fun c8 h => bif_split h
   (fun c9 h => bif_split h
   (fun c10 h => ret_at hR _ h (fun n => n) rfl rfl rfl (rn_bool_tf rfl) rfl (entl_bor (use_lo rfl) rfl rfl (entl_bor (use_lo rfl) rfl rfl entl_nil)))
   (fun c10 h => ret_at hR _ h (fun n => n) rfl rfl rfl (rn_bool_tf rfl) rfl (entl_bor (use_lo rfl) rfl rfl (entl_bor (use_lo rfl) rfl rfl entl_nil))))
   (fun c9 h => ret_at hR _ h (fun n => n) rfl rfl rfl (rn_bool_tf rfl) rfl (entl_bor (use_lo rfl) rfl rfl (entl_bor (use_lo rfl) rfl rfl entl_nil))))
   (fun c8 h => bif_split h
   (fun c9 h => bif_split h
   (fun c10 h => bif_split h
   (fun c11 h => ret_at hR _ h (fun n => n) rfl rfl rfl (rn_bool_tf rfl) rfl (entl_bor (use_lo rfl) rfl rfl (entl_bor (use_lo rfl) rfl rfl entl_nil)))
   (fun c11 h => ret_at hR _ h (fun n => n) rfl rfl rfl (rn_bool_tf rfl) rfl (entl_bor (use_lo rfl) rfl rfl (entl_bor (use_lo rfl) rfl rfl entl_nil))))
   (fun c10 h => ret_at hR _ h (fun n => n) rfl rfl rfl (rn_bool_tf rfl) rfl (entl_bor (use_lo rfl) rfl rfl (entl_bor (use_lo rfl) rfl rfl entl_nil))))
   (fun c9 h => bif_split h
   (fun c10 h => cond_yes rfl (cond_yes rfl (bif_split h
   (fun c11 h => bif_split h
   (fun c12 h => cond_yes c10 (cond_yes rfl (cond_yes rfl (bif_split h
   (fun c13 h => bif_split h
   (fun c14 h => ret_at hR _ h (fun n => n) rfl rfl rfl (rn_bool_tf rfl) rfl (entl_bor (use_lo rfl) rfl rfl (entl_bor (use_lo rfl) rfl rfl entl_nil)))
   (fun c14 h => cond_yes rfl (cond_no rfl (bif_split h
   (fun c15 h => bif_split h
   (fun c16 h => ret_at hR _ h (fun n => n) rfl rfl rfl (rn_bool_tf rfl) rfl (entl_bor (use_lo rfl) rfl rfl (entl_bor (use_lo rfl) rfl rfl entl_nil)))
   (fun c16 h => ret_at hR _ h (fun n => n) rfl rfl rfl (rn_bool_tf rfl) rfl (entl_bor (use_lo rfl) rfl rfl (entl_bor (use_lo rfl) rfl rfl entl_nil))))
   (fun c15 h => no_some h)))))
   (fun c13 h => no_some h)))))
   (fun c12 h => cond_yes rfl (cond_no rfl (bif_split h
   (fun c13 h => bif_split h
   (fun c14 h => cond_yes c10 (cond_yes rfl (cond_yes rfl (bif_split h
   (fun c15 h => bif_split h
   (fun c16 h => ret_at hR _ h (fun n => n) rfl rfl rfl (rn_bool_tf rfl) rfl (entl_bor (use_lo rfl) rfl rfl (entl_bor (use_lo rfl) rfl rfl entl_nil)))
   (fun c16 h => cond_yes rfl (cond_no rfl (bif_split h
   (fun c17 h => bif_split h
   (fun c18 h => bif_split h
   (fun c19 h => ret_at hR _ h (fun n => n) rfl rfl rfl (rn_bool_tf rfl) rfl (entl_bor (use_lo rfl) rfl rfl (entl_bor (use_lo rfl) rfl rfl entl_nil)))
   (fun c19 h => ret_at hR _ h (fun n => n) rfl rfl rfl (rn_bool_tf rfl) rfl (entl_bor (use_lo rfl) rfl rfl (entl_bor (use_lo rfl) rfl rfl entl_nil))))
   (fun c18 h => ret_at hR _ h (fun n => n) rfl rfl rfl (rn_bool_tf rfl) rfl (entl_bor (use_lo rfl) rfl rfl (entl_bor (use_lo rfl) rfl rfl entl_nil))))
   (fun c17 h => no_some h)))))
   (fun c15 h => no_some h)))))
   (fun c14 h => cond_yes c10 (cond_yes rfl (cond_yes rfl (bif_split h
   (fun c15 h => bif_split h
   (fun c16 h => ret_at hR _ h (fun n => n) rfl rfl rfl (rn_bool_tf rfl) rfl (entl_bor (use_lo rfl) rfl rfl (entl_bor (use_lo rfl) rfl rfl entl_nil)))
   (fun c16 h => cond_yes rfl (cond_no rfl (bif_split h
   (fun c17 h => bif_split h
   (fun c18 h => ret_at hR _ h (fun n => n) rfl rfl rfl (rn_bool_tf rfl) rfl (entl_bor (use_lo rfl) rfl rfl (entl_bor (use_lo rfl) rfl rfl entl_nil)))
   (fun c18 h => ret_at hR _ h (fun n => n) rfl rfl rfl (rn_bool_tf rfl) rfl (entl_bor (use_lo rfl) rfl rfl (entl_bor (use_lo rfl) rfl rfl entl_nil))))
   (fun c17 h => no_some h)))))
   (fun c15 h => no_some h))))))
   (fun c13 h => no_some h)))))
   (fun c11 h => no_some h))))
   (fun c10 h => no_some h))))
   (fun c7 h => no_some h)))
   (fun c5 h => no_some h)))
   (fun c3 h => no_some h))
   (fun c2 h => no_some h))
   (fun c1 h => no_some h))
   (fun c0 h => cond_yes rfl (cond_yes rfl (ret_at hR _ h (fun n => n) rfl rfl rfl (rn_bool_tf rfl) rfl (entl_bor (use_lo rfl) rfl rfl (entl_bor (use_lo rfl) rfl rfl entl_nil))))))))
theorem a504 (ap np mp : Nat) (tp : Nat → Int) (vp : Nat → Int) (o : Int) (al nl ml : Nat) (tl : Nat → Int) (rp : Int) (fi : Int) {r : Rt504} (h : Goes ((q504 ap np mp tp vp o al nl ml tl rp fi)) ((p504 ap np mp tp vp o al nl ml tl rp fi)) r) : CallR Try.prog 4 [.agg [.loose ⟨0, 2, ap, 0⟩ np, .int .u32 o], .agg [.loose ⟨1, 1, al, 0⟩ nl, .int .u8 rp, .int .u8 fi]] [[(0, (false, .cols mp [.int .u8 tp, .int .u8 vp])), (1, (false, .cols ml [.int .u8 tl]))]] 2 ((V504 ap np mp tp vp o al nl ml tl rp fi) r) ((fun r => [newL (2 + 1) ((N504 ap np mp tp vp o al nl ml tl rp fi) r) ++ [(0, (false, .cols mp [.int .u8 tp, .int .u8 vp])), (1, (false, .cols ml [.int .u8 tl]))]]) r) 400 ∧ ∃ F, Try.prog.funcs[4]? = some F ∧ F.body.isSome = true ∧ (F.name == "runtime.NumGoroutine") = false := by
  refine dec_calls (f := 4) (lo := 2) (hi := 400) (H := [[(0, (false, .cols mp [.int .u8 tp, .int .u8 vp])), (1, (false, .cols ml [.int .u8 tl]))]]) (args := [.agg [.loose ⟨0, 2, ap, 0⟩ np, .int .u32 o], .agg [.loose ⟨1, 1, al, 0⟩ nl, .int .u8 rp, .int .u8 fi]]) Try.envOk Try.mixed xC5_ok ((I504 ap np mp tp vp o al nl ml tl rp fi)) ((V504 ap np mp tp vp o al nl ml tl rp fi)) (fun r => [newL (2 + 1) ((N504 ap np mp tp vp o al nl ml tl rp fi) r) ++ [(0, (false, .cols mp [.int .u8 tp, .int .u8 vp])), (1, (false, .cols ml [.int .u8 tl]))]]) (fn := mkFn Try.f4) (ts := []) (n := 400) rfl (by decide) (by simp) (names_of rfl) ?_ ?_ ?_ h
  · intro s; exact s.elim
  · intro Kst Kret x hS hR h
    exact Holds.eq (te504 cond Kst Kret ap np mp tp vp o al nl ml tl rp fi) (be504 ap np mp tp vp o al nl ml tl rp fi Kst Kret x hS hR h)
  · intro Kst Kret x hS hR s h; exact s.elim
noncomputable def k504 : Con := ⟨4, [.agg [.list [.int .u8, .int .u8], .plain (.int .u32)], .agg [.list [.int .u8], .plain (.int .u8), .plain (.int .u8)]], fun (x : ((Nat × Nat × Nat × (Nat → Int) × (Nat → Int) × Unit) × Int × Unit) × ((Nat × Nat × Nat × (Nat → Int) × Unit) × Int × Int × Unit) × Unit) => (fun (ap np mp : Nat) (tp : Nat → Int) (vp : Nat → Int) (o : Int) (al nl ml : Nat) (tl : Nat → Int) (rp : Int) (fi : Int) => decide ((ap + np ≤ mp ∧ al + nl ≤ ml) ∧ (S.bytes np (fun j => tp (j + ap)) = true ∧ S.bytes np (fun j => vp (j + ap)) = true) ∧ S.bytes nl (fun j => tl (j + al)) = true ∧ (0 ≤ rp ∧ rp ≤ 255) ∧ 0 ≤ fi ∧ fi ≤ 255)) x.1.1.1 x.1.1.2.1 x.1.1.2.2.1 x.1.1.2.2.2.1 x.1.1.2.2.2.2.1 x.1.2.1 x.2.1.1.1 x.2.1.1.2.1 x.2.1.1.2.2.1 x.2.1.1.2.2.2.1 x.2.1.2.1 x.2.1.2.2.1, fun (x : ((Nat × Nat × Nat × (Nat → Int) × (Nat → Int) × Unit) × Int × Unit) × ((Nat × Nat × Nat × (Nat → Int) × Unit) × Int × Int × Unit) × Unit) => (fun (ap np mp : Nat) (tp : Nat → Int) (vp : Nat → Int) (o : Int) (al nl ml : Nat) (tl : Nat → Int) (rp : Int) (fi : Int) => (V504 ap np mp tp vp o al nl ml tl rp fi) (true)) x.1.1.1 x.1.1.2.1 x.1.1.2.2.1 x.1.1.2.2.2.1 x.1.1.2.2.2.2.1 x.1.2.1 x.2.1.1.1 x.2.1.1.2.1 x.2.1.1.2.2.1 x.2.1.1.2.2.2.1 x.2.1.2.1 x.2.1.2.2.1, fun (x : ((Nat × Nat × Nat × (Nat → Int) × (Nat → Int) × Unit) × Int × Unit) × ((Nat × Nat × Nat × (Nat → Int) × Unit) × Int × Int × Unit) × Unit) => (fun (ap np mp : Nat) (tp : Nat → Int) (vp : Nat → Int) (o : Int) (al nl ml : Nat) (tl : Nat → Int) (rp : Int) (fi : Int) => (N504 ap np mp tp vp o al nl ml tl rp fi) (true)) x.1.1.1 x.1.1.2.1 x.1.1.2.2.1 x.1.1.2.2.2.1 x.1.1.2.2.2.2.1 x.1.2.1 x.2.1.1.1 x.2.1.1.2.1 x.2.1.1.2.2.1 x.2.1.1.2.2.2.1 x.2.1.2.1 x.2.1.2.2.1, fun _ _ => .dead⟩
theorem s504 (ap np mp : Nat) (tp : Nat → Int) (vp : Nat → Int) (o : Int) (al nl ml : Nat) (tl : Nat → Int) (rp : Int) (fi : Int) (hp : (ap + np ≤ mp ∧ al + nl ≤ ml) ∧ (S.bytes np (fun j => tp (j + ap)) = true ∧ S.bytes np (fun j => vp (j + ap)) = true) ∧ S.bytes nl (fun j => tl (j + al)) = true ∧ (0 ≤ rp ∧ rp ≤ 255) ∧ 0 ≤ fi ∧ fi ≤ 255) : Goes ((q504 ap np mp tp vp o al nl ml tl rp fi)) ((p504 ap np mp tp vp o al nl ml tl rp fi)) (true) := by
  obtain ⟨⟨hp1, hp2⟩, ⟨hb1, hb2⟩, hb3, hr, hf⟩ := hp
  obtain ⟨c1, c2⟩ := crL_ok hb3
  obtain ⟨n1, n2, -⟩ := mdN_le (np := np)
  have hmag := made_mag hb1 hb2
  have hx : 0 ≤ Int.tmod rp 3 ∧ Int.tmod rp 3 < 3 := ⟨Int.tmod_nonneg _ hr.1, Int.tmod_lt_of_pos _ (by decide)⟩
  have hcy := draft_ok c1 c2 (rp := 1 + Int.tmod rp 3) (by omega) (crF_ok (L := (S.crL nl (fun j => tl (j + al)))) hf.1)
  have hl1 : (S.mkl (S.mdN np) fun j => S.mdR np (fun j => tp (j + ap)) (fun j => vp (j + ap)) j).length = S.mdN np := mkl_len
  have hl2 : (S.mkl (S.mdN np) fun j => S.mdB o j).length = S.mdN np := mkl_len
  have hmg : S.magE (S.mkl (S.mdN np) fun j => S.mdR np (fun j => tp (j + ap)) (fun j => vp (j + ap)) j).length (fun j => (S.at' (S.mkl (S.mdN np) fun j => S.mdR np (fun j => tp (j + ap)) (fun j => vp (j + ap)) j) j).1) (fun j => (S.at' (S.mkl (S.mdN np) fun j => S.mdR np (fun j => tp (j + ap)) (fun j => vp (j + ap)) j) j).2.1) (fun j => (S.at' (S.mkl (S.mdN np) fun j => S.mdR np (fun j => tp (j + ap)) (fun j => vp (j + ap)) j) j).2.2) (S.mkl (S.mdN np) fun j => S.mdR np (fun j => tp (j + ap)) (fun j => vp (j + ap)) j).length = 0 := by
    rw [mkl_len]
    rw [mag_congr (u' := fun j => (S.mdR np (fun j => tp (j + ap)) (fun j => vp (j + ap)) j).1) (d' := fun j => (S.mdR np (fun j => tp (j + ap)) (fun j => vp (j + ap)) j).2.1) (w' := fun j => (S.mdR np (fun j => tp (j + ap)) (fun j => vp (j + ap)) j).2.2) (fun j hj => by rw [at_mkl hj]; exact ⟨rfl, rfl, rfl⟩)]
    exact hmag
  have hl3 : (S.mkl (S.mdN np) fun j => S.mdB o j).length = (S.mkl (S.mdN np) fun j => S.mdR np (fun j => tp (j + ap)) (fun j => vp (j + ap)) j).length := hl2.trans hl1.symm
  have hb0 : S.botE 0 0 = 0 := rfl
  have hsu : ∀ A : Bool, S.suiS 0 A = (A, 0) := fun A => rfl
  have hfa : ∀ F : Int, S.faS 0 0 true F = (F, 0) := fun F => rfl
  have hsp : ∀ (n : Nat) (t : Nat → Int) (r g : Int), S.stpS 0 n t r g = (0, S.stpL n t r g) := fun n t r g => rfl
  clear hmag
  generalize hC : (S.crL nl (fun j => tl (j + al))) = X3 at *
  generalize hF : S.crF fi X3 = cf at *
  generalize hB : (S.mkl (S.mdN np) fun j => S.mdB o j) = X2 at *
  generalize hM : (S.mkl (S.mdN np) fun j => S.mdR np (fun j => tp (j + ap)) (fun j => vp (j + ap)) j) = X1 at *
  obtain ⟨s1, s2, s3⟩ := stp_in hcy
  have n3 : X1.length ≤ 12 := by omega
  generalize hST : (S.stpL X3.length (fun j => S.at' X3 j) (1 + Int.tmod rp 3) cf) = X4 at *
  have hS : ∀ o, S.histS X1.length (fun j => (S.at' X1 j).1) (fun j => (S.at' X1 j).2.1) (fun j => (S.at' X1 j).2.2) X1.length o X4.length (fun j => S.at' X4 j) = (0, X1, S.mkl X1.length fun j => S.aftN (S.at' X1 j).1 (S.at' X1 j).2.1 (fun j => S.at' X4 j) (o j) X4.length) := fun o => hist_l hmg (by omega) s3
  have hFd : ∀ g, S.fieldS X1.length (fun j => (S.at' X1 j).1) (fun j => (S.at' X1 j).2.1) (fun j => (S.at' X1 j).2.2) X1.length (fun j => S.at' (S.mkl X1.length g) j) = (S.fldN (fun j => (S.at' X1 j).2.2) g X1.length, 0) := fun g => field_l hmg
  unfold p504
  simp only [c504_e_0, c504_e_1, c504_e_2, c504_e_3, c504_e_4, c504_e_5, c504_e_6, c504_e_7, c504_e_8, c504_e_9, c504_e_10, c504_e_11, c504_e_12, c504_e_13, hC, hF, hB, hM, hl3, hmg, hcy, hb0, hsu, hsp, hST, hb1, hb2, hb3, eq_self, true_and, and_true]
  cases hA : S.erB (fun j => (S.at' X1 j).1) (fun j => (S.at' X1 j).2.1) X4.length (fun j => S.at' X4 j) 0 X1.length
  · have hdp := fld_dep hmg hA
    simp only [mkl_len, hS, hFd]
    clear hS hFd hmg hcy hA s3 hM hB hC hF hST c1
    show Goes _ _ _
    repeat' first
      | with_reducible exact goes_inr.mpr rfl
      | with_reducible refine goes_if (fun h => ?_) (fun h => ?_) <;> (try simp only [lim64, imp_false, decide_eq_true_eq, decide_eq_false_iff_not, Int.toNat_natCast, toNat_pred, toNat_succ, Option.getD_some, Option.getD_none, Bool.not_eq_true', Bool.not_eq_false', Bool.and_eq_true, Bool.or_eq_true, Bool.and_eq_false_iff, Bool.or_eq_false_iff, bne_iff_ne, beq_iff_eq, bne_eq_false_iff_eq, beq_eq_false_iff_ne, ne_eq, not_and, Int.not_le, Int.not_lt, ge_iff_le, gt_iff_lt, Nat.not_lt, Nat.not_le, Bool.not_eq_true, Bool.not_eq_false, Bool.true_eq_false, Bool.false_eq_true, not_false_eq_true, not_true_eq_false] at h)
      | exact goes_none.mpr (by omega)
      | fail
    all_goals first | (exfalso; omega) | exact goes_inr.mpr rfl | (exfalso; exact absurd hdp (Int.not_lt.mpr (by assumption))) | (exfalso; simp_all; done)
  · show Goes _ _ _
    repeat' first
      | with_reducible exact goes_inr.mpr rfl
      | with_reducible refine goes_if (fun h => ?_) (fun h => ?_) <;> (try simp only [lim64, imp_false, decide_eq_true_eq, decide_eq_false_iff_not, Int.toNat_natCast, toNat_pred, toNat_succ, Option.getD_some, Option.getD_none, Bool.not_eq_true', Bool.not_eq_false', Bool.and_eq_true, Bool.or_eq_true, Bool.and_eq_false_iff, Bool.or_eq_false_iff, bne_iff_ne, beq_iff_eq, bne_eq_false_iff_eq, beq_eq_false_iff_ne, ne_eq, not_and, Int.not_le, Int.not_lt, ge_iff_le, gt_iff_lt, Nat.not_lt, Nat.not_le, Bool.not_eq_true, Bool.not_eq_false, Bool.true_eq_false, Bool.false_eq_true, not_false_eq_true, not_true_eq_false] at h)
      | exact goes_none.mpr (by omega)
      | fail
    all_goals first | (exfalso; omega) | exact goes_inr.mpr rfl | (exfalso; exact absurd hdp (Int.not_lt.mpr (by assumption))) | (exfalso; simp_all; done)
theorem k504_ok : k504.ok Try.prog := by
  intro x hx
  obtain ⟨⟨⟨ap, np, mp, tp, vp, _⟩, o, _⟩, ⟨⟨al, nl, ml, tl, _⟩, rp, fi, _⟩, _⟩ := x
  obtain ⟨h1, h2⟩ := a504 ap np mp tp vp o al nl ml tl rp fi (s504 ap np mp tp vp o al nl ml tl rp fi (of_dec hx rfl))
  exact ⟨⟨400, (by decide : 2 + 1 + 0 ≤ 400), h1⟩, h2⟩
theorem pre504 {x : SsI k504.ss} (hx : ssFits k504.ss x) : k504.pre (ssj k504.ss x) = true := by
  obtain ⟨⟨⟨n, t, v, u'⟩, o, u2⟩, ⟨⟨n2, t2, u3⟩, r, g, u4⟩, u''⟩ := x
  obtain ⟨⟨⟨hn, ht, hv, -⟩, ho, -⟩, ⟨⟨hn2, ht2, -⟩, hr, hg, -⟩, -⟩ := hx
  exact decide_eq_true ⟨⟨Nat.le_of_eq (Nat.zero_add _), Nat.le_of_eq (Nat.zero_add _)⟩, ⟨bytes_mk ht, bytes_mk hv⟩, bytes_mk ht2, hr, hg⟩
end Go.Ev
