/-
  The law of Measured.
-/
import Derived.Test.YtffldkecndnbiaaI1x
namespace Go.Ev
open Go.Proofs
set_option linter.unusedVariables false
set_option linter.unusedSimpArgs false
set_option maxRecDepth 100000
inductive St9 where
  | h0 (x0 : Int) (x1 : Int) (x2 : List (Int × Int × Int × Int)) (x3 : List (Int × Int × Bool × Bool)) (x4 : List Int) (x5 : List Int)
  | h1 (x0 : Int) (x1 : Int) (x2 : Int) (x3 : Int) (x4 : List (Int × Int × Int × Int)) (x5 : List (Int × Int × Bool × Bool)) (x6 : List Int) (x7 : List Int)
  | h2 (x0 : Int) (x1 : Int) (x2 : List (Int × Int × Bool × Bool)) (x3 : List Int) (x4 : List (Int × Int × Bool × Bool))
abbrev Rt9 := Bool
noncomputable def V9 (al nl ml : Nat) (tl : Nat → Int) (am nm mm : Nat) (tm : Nat → Int) (r : Rt9) : PV := PV.bool r
noncomputable def N9 (al nl ml : Nat) (tl : Nat → Int) (am nm mm : Nat) (tm : Nat → Int) (r : Rt9) : List Blk := []
noncomputable def I9 (al nl ml : Nat) (tl : Nat → Int) (am nm mm : Nat) (tm : Nat → Int) : St9 → Hd
  | .h0 x0 x1 x2 x3 x4 x5 => ⟨hd Try.f9 0, [PV.loose (PA.mk (1) (1) am (0)) nm,
 PV.ptr (PA.mk (2) (0) (0) (0)),
 PV.own (4) (4) (List.length x3), PV.int IntKind.i64 x0,
 PV.own (5) (1) (List.length x4), PV.own (6) (1) (List.length x5),
 PV.int IntKind.i64 x1, PV.unk, PV.unk, PV.unk, PV.unk, PV.unk], [[(2, (true, Blk.cells [PV.own (3) (4) (List.length x2)])), (3, (true, Blk.cols (List.length x2)
 [Col.int IntKind.i64 fun (j : Nat) => (S.at' x2 j).1,
 Col.int IntKind.i64 fun (j : Nat) => (S.at' x2 j).2.1,
 Col.int IntKind.i64 fun (j : Nat) => (S.at' x2 j).2.2.1,
 Col.int IntKind.i64 fun (j : Nat) => (S.at' x2 j).2.2.2])), (4, (true, Blk.cols (List.length x3)
 [Col.int IntKind.i64 fun (j : Nat) => (S.at' x3 j).1,
 Col.int IntKind.i64 fun (j : Nat) => (S.at' x3 j).2.1,
 Col.bool fun (j : Nat) => (S.at' x3 j).2.2.1,
 Col.bool fun (j : Nat) => (S.at' x3 j).2.2.2])), (5, (true, Blk.cols (List.length x4) [Col.int IntKind.i64 fun (j : Nat) => S.at' x4 j])), (6, (true, Blk.cols (List.length x5) [Col.int IntKind.i64 fun (j : Nat) => S.at' x5 j]))], [(0, (false, .cols ml [.int .u32 tl])), (1, (false, .cols mm [.int .u8 tm]))]], 7⟩
  | .h1 x0 x1 x2 x3 x4 x5 x6 x7 => ⟨hd Try.f9 1, [PV.loose (PA.mk (1) (1) am (0)) nm,
 PV.ptr (PA.mk (2) (0) (0) (0)),
 PV.own (4) (4) (List.length x5), PV.int IntKind.i64 x0,
 PV.own (5) (1) (List.length x6), PV.own (6) (1) (List.length x7),
 PV.int IntKind.i64 x1, PV.int IntKind.i64 x2, PV.int IntKind.i64 x3, PV.unk,
 PV.unk, PV.unk], [[(2, (true, Blk.cells [PV.own (3) (4) (List.length x4)])), (3, (true, Blk.cols (List.length x4)
 [Col.int IntKind.i64 fun (j : Nat) => (S.at' x4 j).1,
 Col.int IntKind.i64 fun (j : Nat) => (S.at' x4 j).2.1,
 Col.int IntKind.i64 fun (j : Nat) => (S.at' x4 j).2.2.1,
 Col.int IntKind.i64 fun (j : Nat) => (S.at' x4 j).2.2.2])), (4, (true, Blk.cols (List.length x5)
 [Col.int IntKind.i64 fun (j : Nat) => (S.at' x5 j).1,
 Col.int IntKind.i64 fun (j : Nat) => (S.at' x5 j).2.1,
 Col.bool fun (j : Nat) => (S.at' x5 j).2.2.1,
 Col.bool fun (j : Nat) => (S.at' x5 j).2.2.2])), (5, (true, Blk.cols (List.length x6) [Col.int IntKind.i64 fun (j : Nat) => S.at' x6 j])), (6, (true, Blk.cols (List.length x7) [Col.int IntKind.i64 fun (j : Nat) => S.at' x7 j]))], [(0, (false, .cols ml [.int .u32 tl])), (1, (false, .cols mm [.int .u8 tm]))]], 7⟩
  | .h2 x0 x1 x2 x3 x4 => ⟨hd Try.f9 2, [PV.unk, PV.unk, PV.own (2) (4) (List.length x2), PV.unk, PV.unk,
 PV.own (3) (1) (List.length x3), PV.unk, PV.unk, PV.unk,
 PV.own (4) (4) (List.length x4), PV.int IntKind.i64 x0, PV.int IntKind.i64 x1], [[(2, (true, Blk.cols (List.length x2)
 [Col.int IntKind.i64 fun (j : Nat) => (S.at' x2 j).1,
 Col.int IntKind.i64 fun (j : Nat) => (S.at' x2 j).2.1,
 Col.bool fun (j : Nat) => (S.at' x2 j).2.2.1,
 Col.bool fun (j : Nat) => (S.at' x2 j).2.2.2])), (3, (true, Blk.cols (List.length x3) [Col.int IntKind.i64 fun (j : Nat) => S.at' x3 j])), (4, (true, Blk.cols (List.length x4)
 [Col.int IntKind.i64 fun (j : Nat) => (S.at' x4 j).1,
 Col.int IntKind.i64 fun (j : Nat) => (S.at' x4 j).2.1,
 Col.bool fun (j : Nat) => (S.at' x4 j).2.2.1,
 Col.bool fun (j : Nat) => (S.at' x4 j).2.2.2]))], [(0, (false, .cols ml [.int .u32 tl])), (1, (false, .cols mm [.int .u8 tm]))]], 5⟩
noncomputable def q9 (al nl ml : Nat) (tl : Nat → Int) (am nm mm : Nat) (tm : Nat → Int) : St9 → Option (St9 ⊕ Rt9)
  | .h0 x0 x1 x2 x3 x4 x5 => bif (decide (x1 < (↑(List.length x2) : Int)))
 then (some (.inl (.h1 (x0) (x1) ((0 : Int)) (x1) (x2) (x3) (x4) (x5))))
 else (bif (decide
 (0 + List.length x2 ≤ List.length x2 ∧
 List.length x2 ≤ 1000000 ∧ 0 + List.length x4 ≤ List.length x4 ∧ List.length x4 ≤ 1000000))
 then (bif (Prod.fst
 (S.meaS (List.length x2) (fun (q : Nat) => (S.at' x2 q).1)
 (fun (q : Nat) => (S.at' x2 q).2.1)
 (fun (q : Nat) => (S.at' x2 q).2.2.1)
 (fun (q : Nat) => (S.at' x2 q).2.2.2) (List.length x4)
 (fun (q : Nat) => S.at' x4 q) x0) !=
 (0 : Int))
 then (some (.inr (false)))
 else (bif ((↑(List.length
 (Prod.snd
 (S.meaS (List.length x2) (fun (q : Nat) => (S.at' x2 q).1)
 (fun (q : Nat) => (S.at' x2 q).2.1)
 (fun (q : Nat) => (S.at' x2 q).2.2.1)
 (fun (q : Nat) => (S.at' x2 q).2.2.2) (List.length x4)
 (fun (q : Nat) => S.at' x4 q) x0))) :
 Int) !=
 (↑(List.length x2) : Int))
 then (some (.inr (false)))
 else (some (.inl (.h2 ((↑(List.length
 (Prod.snd
 (S.meaS (List.length x2) (fun (q : Nat) => (S.at' x2 q).1)
 (fun (q : Nat) => (S.at' x2 q).2.1)
 (fun (q : Nat) => (S.at' x2 q).2.2.1)
 (fun (q : Nat) => (S.at' x2 q).2.2.2) (List.length x4)
 (fun (q : Nat) => S.at' x4 q) x0))) :
 Int)) ((0 : Int)) (x3) (x5) (Prod.snd
 (S.meaS (List.length x2) (fun (j : Nat) => (S.at' x2 j).1)
 (fun (j : Nat) => (S.at' x2 j).2.1)
 (fun (j : Nat) => (S.at' x2 j).2.2.1)
 (fun (j : Nat) => (S.at' x2 j).2.2.2) (List.length x4)
 (fun (j : Nat) => S.at' x4 j) x0)))))))
 else (none))
  | .h1 x0 x1 x2 x3 x4 x5 x6 x7 => bif (decide (x3 > (0 : Int)))
 then (bif (decide ((0 : Int) ≤ x1 ∧ x1 < (↑(List.length x7) : Int)))
 then (bif (decide (Int.toNat x1 < List.length x7))
 then (bif (decide ((0 : Int) ≤ x3 ∧ x3 < (↑(List.length x4) : Int)))
 then (bif (decide (Int.toNat x3 < List.length x4))
 then (bif (lim IntKind.i64 (S.at' x7 (Int.toNat x1) + (S.at' x4 (Int.toNat x3)).2.1))
 then (bif (lim IntKind.i64 (x2 + (S.at' x4 (Int.toNat x3)).2.2.1))
 then (some (.inl (.h1 (x0) (x1) (x2 + (S.at' x4 (Int.toNat x3)).2.2.1) ((S.at' x4 (Int.toNat x3)).1) (x4) (x5) (x6) (S.mkl (List.length x7) fun (j : Nat) =>
 bif Nat.beq j (Int.toNat x1) then S.at' x7 (Int.toNat x1) + (S.at' x4 (Int.toNat x3)).2.1
 else S.at' x7 j))))
 else (none))
 else (none))
 else (none))
 else (none))
 else (none))
 else (none))
 else (bif (decide ((0 : Int) ≤ x1 ∧ x1 < (↑(List.length x7) : Int)))
 then (bif (decide (Int.toNat x1 < List.length x7))
 then (bif (lim IntKind.i64 (S.at' x7 (Int.toNat x1) - x2))
 then (bif (lim IntKind.i64 (x2 - S.at' x7 (Int.toNat x1)))
 then (bif (lim IntKind.i64 (S.at' x7 (Int.toNat x1) + x2))
 then (bif (decide ((0 : Int) ≤ x1 ∧ x1 < (↑(List.length x6) : Int)))
 then (bif (decide (Int.toNat x1 < List.length x6))
 then (bif (decide (x1 < (↑nm : Int)))
 then (bif (decide
 (0 + List.length x4 ≤ List.length x4 ∧
 List.length x4 ≤ 1000000 ∧
 (S.treE (List.length x4) (fun (q : Nat) => (S.at' x4 q).1)
 (fun (q : Nat) => (S.at' x4 q).2.1)
 (fun (q : Nat) => (S.at' x4 q).2.2.1) fun (q : Nat) =>
 (S.at' x4 q).2.2.2) =
 (0 : Int) ∧
 (0 : Int) ≤ x1 ∧ x1 < (↑(List.length x4) : Int)))
 then (bif (lim IntKind.i64
 ((2 : Int) *
 S.dl (fun (q : Nat) => (S.at' x4 q).1)
 (fun (q : Nat) => (S.at' x4 q).2.2.2) (Int.toNat x1)))
 then (bif (decide ((0 : Int) ≤ x1 ∧ x1 < (↑nm : Int)))
 then (bif (decide (Int.toNat x1 + am < mm))
 then (bif (lim IntKind.i64 (tm (Int.toNat x1 + am)))
 then (bif (lim IntKind.i64
 ((2 : Int) *
 ((2 : Int) *
 S.dl (fun (q : Nat) => (S.at' x4 q).1)
 (fun (q : Nat) => (S.at' x4 q).2.2.2) (Int.toNat x1))))
 then (bif (lim IntKind.i64
 ((2 : Int) *
 ((2 : Int) *
 S.dl (fun (q : Nat) => (S.at' x4 q).1)
 (fun (q : Nat) => (S.at' x4 q).2.2.2) (Int.toNat x1)) +
 (1 : Int)))
 then (bif (decide
 ((2 : Int) *
 ((2 : Int) *
 S.dl (fun (q : Nat) => (S.at' x4 q).1)
 (fun (q : Nat) => (S.at' x4 q).2.2.2) (Int.toNat x1)) +
 (1 : Int) =
 (0 : Int)))
 then (none)
 else (bif (lim IntKind.i64
 ((bif Nat.beq (Int.toNat x1) (Int.toNat x1) then S.at' x7 (Int.toNat x1) + x2
 else S.at' x6 (Int.toNat x1)) +
 Int.tmod (tm (Int.toNat x1 + am))
 ((2 : Int) *
 ((2 : Int) *
 S.dl (fun (q : Nat) => (S.at' x4 q).1)
 (fun (q : Nat) => (S.at' x4 q).2.2.2) (Int.toNat x1)) +
 (1 : Int))))
 then (bif (lim IntKind.i64
 ((bif Nat.beq (Int.toNat x1) (Int.toNat x1) then S.at' x7 (Int.toNat x1) + x2
 else S.at' x6 (Int.toNat x1)) +
 Int.tmod (tm (Int.toNat x1 + am))
 ((2 : Int) *
 ((2 : Int) *
 S.dl (fun (q : Nat) => (S.at' x4 q).1)
 (fun (q : Nat) => (S.at' x4 q).2.2.2) (Int.toNat x1)) +
 (1 : Int)) -
 (2 : Int) *
 S.dl (fun (q : Nat) => (S.at' x4 q).1)
 (fun (q : Nat) => (S.at' x4 q).2.2.2) (Int.toNat x1)))
 then (bif (lim IntKind.i64 (x1 + (1 : Int)))
 then (some (.inl (.h0 (Max.max (Max.max x0 (S.at' x7 (Int.toNat x1) - x2)) (x2 - S.at' x7 (Int.toNat x1))) (x1 + (1 : Int)) (x4) (x5) (S.mkl (List.length x6) fun (j : Nat) =>
 bif Nat.beq j (Int.toNat x1) then
 Max.max (0 : Int)
 ((bif Nat.beq (Int.toNat x1) (Int.toNat x1) then S.at' x7 (Int.toNat x1) + x2
 else S.at' x6 (Int.toNat x1)) +
 Int.tmod (tm (Int.toNat x1 + am))
 ((2 : Int) *
 ((2 : Int) *
 S.dl (fun (j : Nat) => (S.at' x4 j).1)
 (fun (j : Nat) => (S.at' x4 j).2.2.2) (Int.toNat x1)) +
 (1 : Int)) -
 (2 : Int) *
 S.dl (fun (j : Nat) => (S.at' x4 j).1)
 (fun (j : Nat) => (S.at' x4 j).2.2.2) (Int.toNat x1))
 else bif Nat.beq j (Int.toNat x1) then S.at' x7 (Int.toNat x1) + x2 else S.at' x6 j) (x7))))
 else (none))
 else (none))
 else (none)))
 else (none))
 else (none))
 else (none))
 else (none))
 else (none))
 else (none))
 else (none))
 else (bif (lim IntKind.i64 (x1 + (1 : Int)))
 then (some (.inl (.h0 (Max.max (Max.max x0 (S.at' x7 (Int.toNat x1) - x2)) (x2 - S.at' x7 (Int.toNat x1))) (x1 + (1 : Int)) (x4) (x5) (S.mkl (List.length x6) fun (j : Nat) =>
 bif Nat.beq j (Int.toNat x1) then S.at' x7 (Int.toNat x1) + x2 else S.at' x6 j) (x7))))
 else (none)))
 else (none))
 else (none))
 else (none))
 else (none))
 else (none))
 else (none))
 else (none))
  | .h2 x0 x1 x2 x3 x4 => bif (decide (x1 < x0))
 then (bif (decide ((0 : Int) ≤ x1 ∧ x1 < (↑(List.length x4) : Int)))
 then (bif (decide (Int.toNat x1 < List.length x4))
 then (bif (decide ((0 : Int) ≤ x1 ∧ x1 < (↑(List.length x3) : Int)))
 then (bif (decide (Int.toNat x1 < List.length x3))
 then (bif (decide (S.at' x3 (Int.toNat x1) < (S.at' x4 (Int.toNat x1)).1))
 then (some (.inr (false)))
 else (bif (decide (S.at' x3 (Int.toNat x1) > (S.at' x4 (Int.toNat x1)).2.1))
 then (some (.inr (false)))
 else (bif (decide ((0 : Int) ≤ x1 ∧ x1 < (↑(List.length x2) : Int)))
 then (bif (decide (Int.toNat x1 < List.length x2))
 then (bif (lim IntKind.i64
 ((S.at' x2 (Int.toNat x1)).1 + (S.at' x2 (Int.toNat x1)).2.1))
 then (bif (lim IntKind.i64 ((2 : Int) * S.at' x3 (Int.toNat x1)))
 then (bif ((S.at' x2 (Int.toNat x1)).1 + (S.at' x2 (Int.toNat x1)).2.1 !=
 (2 : Int) * S.at' x3 (Int.toNat x1))
 then (some (.inr (false)))
 else (bif (lim IntKind.i64 (x1 + (1 : Int)))
 then (some (.inl (.h2 (x0) (x1 + (1 : Int)) (x2) (x3) (x4))))
 else (none)))
 else (none))
 else (none))
 else (none))
 else (none))))
 else (none))
 else (none))
 else (none))
 else (none))
 else (some (.inr (true)))
noncomputable def p9 (al nl ml : Nat) (tl : Nat → Int) (am nm mm : Nat) (tm : Nat → Int) : Option (St9 ⊕ Rt9) := bif (decide ((↑nl : Int) > (30 : Int)))
 then (some (.inr (true)))
 else (bif (decide ((↑nm : Int) > (40 : Int)))
 then (some (.inr (true)))
 else (bif (decide (al + nl ≤ ml ∧ nl ≤ 1000000 ∧ (S.u32s nl fun (q : Nat) => tl (q + al)) = true))
 then (bif (decide
 (0 + List.length (S.mdL nl fun (q : Nat) => tl (q + al)) ≤
 List.length (S.mdL nl fun (q : Nat) => tl (q + al)) ∧
 List.length (S.mdL nl fun (q : Nat) => tl (q + al)) ≤ 1000000))
 then (bif (Prod.fst
 (S.dlyS (List.length (S.mdL nl fun (q : Nat) => tl (q + al)))
 (fun (q : Nat) => (S.at' (S.mdL nl fun (q : Nat) => tl (q + al)) q).1)
 (fun (q : Nat) => (S.at' (S.mdL nl fun (q : Nat) => tl (q + al)) q).2.1)
 (fun (q : Nat) => (S.at' (S.mdL nl fun (q : Nat) => tl (q + al)) q).2.2.1)
 fun (q : Nat) => (S.at' (S.mdL nl fun (q : Nat) => tl (q + al)) q).2.2.2) !=
 (0 : Int))
 then (some (.inr (false)))
 else (bif ((↑(List.length
 (Prod.snd
 (S.dlyS (List.length (S.mdL nl fun (q : Nat) => tl (q + al)))
 (fun (q : Nat) => (S.at' (S.mdL nl fun (q : Nat) => tl (q + al)) q).1)
 (fun (q : Nat) => (S.at' (S.mdL nl fun (q : Nat) => tl (q + al)) q).2.1)
 (fun (q : Nat) =>
 (S.at' (S.mdL nl fun (q : Nat) => tl (q + al)) q).2.2.1)
 fun (q : Nat) =>
 (S.at' (S.mdL nl fun (q : Nat) => tl (q + al)) q).2.2.2))) :
 Int) !=
 (↑(List.length (S.mdL nl fun (q : Nat) => tl (q + al))) : Int))
 then (some (.inr (false)))
 else (bif (decide
 ((0 : Int) ≤ (↑(List.length (S.mdL nl fun (q : Nat) => tl (q + al))) : Int) ∧
 (↑(List.length (S.mdL nl fun (q : Nat) => tl (q + al))) : Int) ≤
 (↑(List.length (S.mdL nl fun (q : Nat) => tl (q + al))) : Int) ∧
 (↑(List.length (S.mdL nl fun (q : Nat) => tl (q + al))) : Int) ≤ (1000000 : Int)))
 then (some (.inl (.h0 ((0 : Int)) ((1 : Int)) (S.mdL nl fun (q : Nat) => tl (q + al)) (Prod.snd
 (S.dlyS (List.length (S.mdL nl fun (q : Nat) => tl (q + al)))
 (fun (q : Nat) => (S.at' (S.mdL nl fun (q : Nat) => tl (q + al)) q).1)
 (fun (q : Nat) => (S.at' (S.mdL nl fun (q : Nat) => tl (q + al)) q).2.1)
 (fun (q : Nat) => (S.at' (S.mdL nl fun (q : Nat) => tl (q + al)) q).2.2.1)
 fun (q : Nat) => (S.at' (S.mdL nl fun (q : Nat) => tl (q + al)) q).2.2.2)) (S.mkl (List.length (S.mdL nl fun (q : Nat) => tl (q + al))) fun (j : Nat) => (0 : Int)) (S.mkl (List.length (S.mdL nl fun (q : Nat) => tl (q + al))) fun (j : Nat) => (0 : Int)))))
 else (none))))
 else (none))
 else (none)))
noncomputable def Te9 (test : Bool → Prop → Prop → Prop) (Kst : KS) (Kret : KR) (al nl ml : Nat) (tl : Nat → Int) (am nm mm : Nat) (tm : Nat → Int) : Prop :=
  test (true)
 (test (true)
 (test (decide ((↑nl : Int) > (30 : Int)))
 (test (true)
 (test (true)
 (Kret (PV.tf true) ([[(1, false, Blk.cols mm [Col.int IntKind.u8 tm]),
 (0, false, Blk.cols ml [Col.int IntKind.u32 tl])]]) (4))
 (Kret (PV.tf false) ([[(1, false, Blk.cols mm [Col.int IntKind.u8 tm]),
 (0, false, Blk.cols ml [Col.int IntKind.u32 tl])]]) (4)))
 (False))
 (test (decide ((↑nm : Int) > (40 : Int)))
 (test (true)
 (test (true)
 (Kret (PV.tf true) ([[(1, false, Blk.cols mm [Col.int IntKind.u8 tm]),
 (0, false, Blk.cols ml [Col.int IntKind.u32 tl])]]) (4))
 (Kret (PV.tf false) ([[(1, false, Blk.cols mm [Col.int IntKind.u8 tm]),
 (0, false, Blk.cols ml [Col.int IntKind.u32 tl])]]) (4)))
 (False))
 (test (decide (al + nl ≤ ml ∧ nl ≤ 1000000 ∧ (S.u32s nl fun (q : Nat) => tl (q + al)) = true))
 (test (decide
 (0 + List.length (S.mdL nl fun (q : Nat) => tl (q + al)) ≤
 List.length (S.mdL nl fun (q : Nat) => tl (q + al)) ∧
 List.length (S.mdL nl fun (q : Nat) => tl (q + al)) ≤ 1000000))
 (test (Prod.fst
 (S.dlyS (List.length (S.mdL nl fun (q : Nat) => tl (q + al)))
 (fun (q : Nat) => (S.at' (S.mdL nl fun (q : Nat) => tl (q + al)) q).1)
 (fun (q : Nat) => (S.at' (S.mdL nl fun (q : Nat) => tl (q + al)) q).2.1)
 (fun (q : Nat) => (S.at' (S.mdL nl fun (q : Nat) => tl (q + al)) q).2.2.1)
 fun (q : Nat) => (S.at' (S.mdL nl fun (q : Nat) => tl (q + al)) q).2.2.2) !=
 (0 : Int))
 (Kret (PV.tf false) ([[(1, false, Blk.cols mm [Col.int IntKind.u8 tm]),
 (0, false, Blk.cols ml [Col.int IntKind.u32 tl])]]) (8))
 (test ((↑(List.length
 (Prod.snd
 (S.dlyS (List.length (S.mdL nl fun (q : Nat) => tl (q + al)))
 (fun (q : Nat) => (S.at' (S.mdL nl fun (q : Nat) => tl (q + al)) q).1)
 (fun (q : Nat) => (S.at' (S.mdL nl fun (q : Nat) => tl (q + al)) q).2.1)
 (fun (q : Nat) =>
 (S.at' (S.mdL nl fun (q : Nat) => tl (q + al)) q).2.2.1)
 fun (q : Nat) =>
 (S.at' (S.mdL nl fun (q : Nat) => tl (q + al)) q).2.2.2))) :
 Int) !=
 (↑(List.length (S.mdL nl fun (q : Nat) => tl (q + al))) : Int))
 (Kret (PV.tf false) ([[(1, false, Blk.cols mm [Col.int IntKind.u8 tm]),
 (0, false, Blk.cols ml [Col.int IntKind.u32 tl])]]) (8))
 (test (decide
 ((0 : Int) ≤ (↑(List.length (S.mdL nl fun (q : Nat) => tl (q + al))) : Int) ∧
 (↑(List.length (S.mdL nl fun (q : Nat) => tl (q + al))) : Int) ≤
 (↑(List.length (S.mdL nl fun (q : Nat) => tl (q + al))) : Int) ∧
 (↑(List.length (S.mdL nl fun (q : Nat) => tl (q + al))) : Int) ≤ (1000000 : Int)))
 (test (decide
 ((0 : Int) ≤ (↑(List.length (S.mdL nl fun (q : Nat) => tl (q + al))) : Int) ∧
 (↑(List.length (S.mdL nl fun (q : Nat) => tl (q + al))) : Int) ≤
 (↑(List.length (S.mdL nl fun (q : Nat) => tl (q + al))) : Int) ∧
 (↑(List.length (S.mdL nl fun (q : Nat) => tl (q + al))) : Int) ≤ (1000000 : Int)))
 (Kst (hd Try.f9 0) ([PV.loose (PA.mk (1) (1) am (0)) nm,
 PV.ptr (PA.mk (5) (0) (0) (0)),
 PV.own (7) (4)
 (List.length
 (Prod.snd
 (S.dlyS (List.length (S.mdL nl fun (q : Nat) => tl (q + al)))
 (fun (q : Nat) => (S.at' (S.mdL nl fun (q : Nat) => tl (q + al)) q).1)
 (fun (q : Nat) => (S.at' (S.mdL nl fun (q : Nat) => tl (q + al)) q).2.1)
 (fun (q : Nat) =>
 (S.at' (S.mdL nl fun (q : Nat) => tl (q + al)) q).2.2.1)
 fun (q : Nat) =>
 (S.at' (S.mdL nl fun (q : Nat) => tl (q + al)) q).2.2.2))),
 PV.int IntKind.i64 (0 : Int),
 PV.own (8) (1) (List.length (S.mdL nl fun (q : Nat) => tl (q + al))),
 PV.own (9) (1) (List.length (S.mdL nl fun (q : Nat) => tl (q + al))),
 PV.int IntKind.i64 (1 : Int), PV.unk, PV.unk, PV.unk, PV.unk, PV.unk]) ([[(1, false, Blk.cols mm [Col.int IntKind.u8 tm]),
 (0, false, Blk.cols ml [Col.int IntKind.u32 tl]),
 (9, true,
 Blk.cols (List.length (S.mdL nl fun (q : Nat) => tl (q + al)))
 [Col.int IntKind.i64 fun (x : Nat) => (0 : Int)]),
 (8, true,
 Blk.cols (List.length (S.mdL nl fun (q : Nat) => tl (q + al)))
 [Col.int IntKind.i64 fun (x : Nat) => (0 : Int)]),
 (7, true,
 Blk.cols
 (List.length
 (Prod.snd
 (S.dlyS (List.length (S.mdL nl fun (q : Nat) => tl (q + al)))
 (fun (q : Nat) => (S.at' (S.mdL nl fun (q : Nat) => tl (q + al)) q).1)
 (fun (q : Nat) => (S.at' (S.mdL nl fun (q : Nat) => tl (q + al)) q).2.1)
 (fun (q : Nat) =>
 (S.at' (S.mdL nl fun (q : Nat) => tl (q + al)) q).2.2.1)
 fun (q : Nat) =>
 (S.at' (S.mdL nl fun (q : Nat) => tl (q + al)) q).2.2.2)))
 [Col.int IntKind.i64 fun (j : Nat) =>
 Prod.fst
 (S.at'
 (Prod.snd
 (S.dlyS (List.length (S.mdL nl fun (q : Nat) => tl (q + al)))
 (fun (q : Nat) => (S.at' (S.mdL nl fun (q : Nat) => tl (q + al)) q).1)
 (fun (q : Nat) => (S.at' (S.mdL nl fun (q : Nat) => tl (q + al)) q).2.1)
 (fun (q : Nat) =>
 (S.at' (S.mdL nl fun (q : Nat) => tl (q + al)) q).2.2.1)
 fun (q : Nat) =>
 (S.at' (S.mdL nl fun (q : Nat) => tl (q + al)) q).2.2.2))
 j),
 Col.int IntKind.i64 fun (j : Nat) =>
 Prod.fst
 (Prod.snd
 (S.at'
 (Prod.snd
 (S.dlyS (List.length (S.mdL nl fun (q : Nat) => tl (q + al)))
 (fun (q : Nat) => (S.at' (S.mdL nl fun (q : Nat) => tl (q + al)) q).1)
 (fun (q : Nat) =>
 (S.at' (S.mdL nl fun (q : Nat) => tl (q + al)) q).2.1)
 (fun (q : Nat) =>
 (S.at' (S.mdL nl fun (q : Nat) => tl (q + al)) q).2.2.1)
 fun (q : Nat) =>
 (S.at' (S.mdL nl fun (q : Nat) => tl (q + al)) q).2.2.2))
 j)),
 Col.bool fun (j : Nat) =>
 Prod.fst
 (Prod.snd
 (Prod.snd
 (S.at'
 (Prod.snd
 (S.dlyS (List.length (S.mdL nl fun (q : Nat) => tl (q + al)))
 (fun (q : Nat) => (S.at' (S.mdL nl fun (q : Nat) => tl (q + al)) q).1)
 (fun (q : Nat) =>
 (S.at' (S.mdL nl fun (q : Nat) => tl (q + al)) q).2.1)
 (fun (q : Nat) =>
 (S.at' (S.mdL nl fun (q : Nat) => tl (q + al)) q).2.2.1)
 fun (q : Nat) =>
 (S.at' (S.mdL nl fun (q : Nat) => tl (q + al)) q).2.2.2))
 j))),
 Col.bool fun (j : Nat) =>
 Prod.snd
 (Prod.snd
 (Prod.snd
 (S.at'
 (Prod.snd
 (S.dlyS (List.length (S.mdL nl fun (q : Nat) => tl (q + al)))
 (fun (q : Nat) => (S.at' (S.mdL nl fun (q : Nat) => tl (q + al)) q).1)
 (fun (q : Nat) =>
 (S.at' (S.mdL nl fun (q : Nat) => tl (q + al)) q).2.1)
 (fun (q : Nat) =>
 (S.at' (S.mdL nl fun (q : Nat) => tl (q + al)) q).2.2.1)
 fun (q : Nat) =>
 (S.at' (S.mdL nl fun (q : Nat) => tl (q + al)) q).2.2.2))
 j)))]),
 (5, true,
 Blk.cells
 [PV.own (4) (4) (List.length (S.mdL nl fun (q : Nat) => tl (q + al)))]),
 (4, true,
 Blk.cols (List.length (S.mdL nl fun (q : Nat) => tl (q + al)))
 [Col.int IntKind.i64 fun (j : Nat) =>
 (S.at' (S.mdL nl fun (q : Nat) => tl (q + al)) j).1,
 Col.int IntKind.i64 fun (j : Nat) =>
 (S.at' (S.mdL nl fun (q : Nat) => tl (q + al)) j).2.1,
 Col.int IntKind.i64 fun (j : Nat) =>
 (S.at' (S.mdL nl fun (q : Nat) => tl (q + al)) j).2.2.1,
 Col.int IntKind.i64 fun (j : Nat) =>
 (S.at' (S.mdL nl fun (q : Nat) => tl (q + al)) j).2.2.2])]]) (10))
 (False))
 (False))))
 (False))
 (False))))
 (test (true)
 (test (true)
 (Kret (PV.tf true) ([[(1, false, Blk.cols mm [Col.int IntKind.u8 tm]),
 (0, false, Blk.cols ml [Col.int IntKind.u32 tl])]]) (4))
 (Kret (PV.tf false) ([[(1, false, Blk.cols mm [Col.int IntKind.u8 tm]),
 (0, false, Blk.cols ml [Col.int IntKind.u32 tl])]]) (4)))
 (False)))
 (False)
set_option maxRecDepth 100000 in
theorem te9 (test : Bool → Prop → Prop → Prop) (Kst : KS) (Kret : KR) (al nl ml : Nat) (tl : Nat → Int) (am nm mm : Nat) (tm : Nat → Int) : run test Try.env true (xT test) true 400 ⟨9, [.cd (mkFn Try.f9).body], argT 0 [.loose ⟨0, 1, al, 0⟩ nl, .loose ⟨1, 1, am, 0⟩ nm], [[], [(0, (false, .cols ml [.int .u32 tl])), (1, (false, .cols mm [.int .u8 tm]))]], 2⟩ (proj 2 [1, 5, 6, 8, 9, 10, 11, 12, 13, 161, 162, 163] Kst Kret) =
  Te9 test Kst Kret al nl ml tl am nm mm tm := by kernel_rfl
noncomputable def T9_0 (test : Bool → Prop → Prop → Prop) (Kst : KS) (Kret : KR) (al nl ml : Nat) (tl : Nat → Int) (am nm mm : Nat) (tm : Nat → Int) (x0 : Int) (x1 : Int) (x2 : List (Int × Int × Int × Int)) (x3 : List (Int × Int × Bool × Bool)) (x4 : List Int) (x5 : List Int) : Prop :=
  test (decide (x1 < (↑(List.length x2) : Int)))
 (Kst (hd Try.f9 1) ([PV.loose (PA.mk (1) (1) am (0)) nm,
 PV.ptr (PA.mk (2) (0) (0) (0)),
 PV.own (4) (4) (List.length x3), PV.int IntKind.i64 x0,
 PV.own (5) (1) (List.length x4), PV.own (6) (1) (List.length x5),
 PV.int IntKind.i64 x1, PV.int IntKind.i64 (0 : Int), PV.int IntKind.i64 x1, PV.unk,
 PV.unk, PV.unk]) ([[(1, false, Blk.cols mm [Col.int IntKind.u8 tm]),
 (0, false, Blk.cols ml [Col.int IntKind.u32 tl]),
 (6, true,
 Blk.cols (List.length x5) [Col.int IntKind.i64 fun (j : Nat) => S.at' x5 j]),
 (5, true,
 Blk.cols (List.length x4) [Col.int IntKind.i64 fun (j : Nat) => S.at' x4 j]),
 (4, true,
 Blk.cols (List.length x3)
 [Col.int IntKind.i64 fun (j : Nat) => (S.at' x3 j).1,
 Col.int IntKind.i64 fun (j : Nat) => (S.at' x3 j).2.1,
 Col.bool fun (j : Nat) => (S.at' x3 j).2.2.1,
 Col.bool fun (j : Nat) => (S.at' x3 j).2.2.2]),
 (2, true, Blk.cells [PV.own (3) (4) (List.length x2)]),
 (3, true,
 Blk.cols (List.length x2)
 [Col.int IntKind.i64 fun (j : Nat) => (S.at' x2 j).1,
 Col.int IntKind.i64 fun (j : Nat) => (S.at' x2 j).2.1,
 Col.int IntKind.i64 fun (j : Nat) => (S.at' x2 j).2.2.1,
 Col.int IntKind.i64 fun (j : Nat) => (S.at' x2 j).2.2.2])]]) (7))
 (test (decide
 (0 + List.length x2 ≤ List.length x2 ∧
 List.length x2 ≤ 1000000 ∧ 0 + List.length x4 ≤ List.length x4 ∧ List.length x4 ≤ 1000000))
 (test (Prod.fst
 (S.meaS (List.length x2) (fun (q : Nat) => (S.at' x2 q).1)
 (fun (q : Nat) => (S.at' x2 q).2.1)
 (fun (q : Nat) => (S.at' x2 q).2.2.1)
 (fun (q : Nat) => (S.at' x2 q).2.2.2) (List.length x4)
 (fun (q : Nat) => S.at' x4 q) x0) !=
 (0 : Int))
 (Kret (PV.tf false) ([[(1, false, Blk.cols mm [Col.int IntKind.u8 tm]),
 (0, false, Blk.cols ml [Col.int IntKind.u32 tl])]]) (9))
 (test ((↑(List.length
 (Prod.snd
 (S.meaS (List.length x2) (fun (q : Nat) => (S.at' x2 q).1)
 (fun (q : Nat) => (S.at' x2 q).2.1)
 (fun (q : Nat) => (S.at' x2 q).2.2.1)
 (fun (q : Nat) => (S.at' x2 q).2.2.2) (List.length x4)
 (fun (q : Nat) => S.at' x4 q) x0))) :
 Int) !=
 (↑(List.length x2) : Int))
 (Kret (PV.tf false) ([[(1, false, Blk.cols mm [Col.int IntKind.u8 tm]),
 (0, false, Blk.cols ml [Col.int IntKind.u32 tl])]]) (9))
 (Kst (hd Try.f9 2) ([PV.loose (PA.mk (1) (1) am (0)) nm,
 PV.ptr (PA.mk (2) (0) (0) (0)),
 PV.own (4) (4) (List.length x3), PV.int IntKind.i64 x0,
 PV.own (5) (1) (List.length x4), PV.own (6) (1) (List.length x5),
 PV.int IntKind.i64 x1, PV.unk, PV.unk,
 PV.own (8) (4)
 (List.length
 (Prod.snd
 (S.meaS (List.length x2) (fun (q : Nat) => (S.at' x2 q).1)
 (fun (q : Nat) => (S.at' x2 q).2.1)
 (fun (q : Nat) => (S.at' x2 q).2.2.1)
 (fun (q : Nat) => (S.at' x2 q).2.2.2) (List.length x4)
 (fun (q : Nat) => S.at' x4 q) x0))),
 PV.int IntKind.i64
 (↑(List.length
 (Prod.snd
 (S.meaS (List.length x2) (fun (q : Nat) => (S.at' x2 q).1)
 (fun (q : Nat) => (S.at' x2 q).2.1)
 (fun (q : Nat) => (S.at' x2 q).2.2.1)
 (fun (q : Nat) => (S.at' x2 q).2.2.2) (List.length x4)
 (fun (q : Nat) => S.at' x4 q) x0))) :
 Int),
 PV.int IntKind.i64 (0 : Int)]) ([[(1, false, Blk.cols mm [Col.int IntKind.u8 tm]),
 (0, false, Blk.cols ml [Col.int IntKind.u32 tl]),
 (8, true,
 Blk.cols
 (List.length
 (Prod.snd
 (S.meaS (List.length x2) (fun (q : Nat) => (S.at' x2 q).1)
 (fun (q : Nat) => (S.at' x2 q).2.1)
 (fun (q : Nat) => (S.at' x2 q).2.2.1)
 (fun (q : Nat) => (S.at' x2 q).2.2.2) (List.length x4)
 (fun (q : Nat) => S.at' x4 q) x0)))
 [Col.int IntKind.i64 fun (j : Nat) =>
 Prod.fst
 (S.at'
 (Prod.snd
 (S.meaS (List.length x2) (fun (q : Nat) => (S.at' x2 q).1)
 (fun (q : Nat) => (S.at' x2 q).2.1)
 (fun (q : Nat) => (S.at' x2 q).2.2.1)
 (fun (q : Nat) => (S.at' x2 q).2.2.2) (List.length x4)
 (fun (q : Nat) => S.at' x4 q) x0))
 j),
 Col.int IntKind.i64 fun (j : Nat) =>
 Prod.fst
 (Prod.snd
 (S.at'
 (Prod.snd
 (S.meaS (List.length x2) (fun (q : Nat) => (S.at' x2 q).1)
 (fun (q : Nat) => (S.at' x2 q).2.1)
 (fun (q : Nat) => (S.at' x2 q).2.2.1)
 (fun (q : Nat) => (S.at' x2 q).2.2.2) (List.length x4)
 (fun (q : Nat) => S.at' x4 q) x0))
 j)),
 Col.bool fun (j : Nat) =>
 Prod.fst
 (Prod.snd
 (Prod.snd
 (S.at'
 (Prod.snd
 (S.meaS (List.length x2) (fun (q : Nat) => (S.at' x2 q).1)
 (fun (q : Nat) => (S.at' x2 q).2.1)
 (fun (q : Nat) => (S.at' x2 q).2.2.1)
 (fun (q : Nat) => (S.at' x2 q).2.2.2) (List.length x4)
 (fun (q : Nat) => S.at' x4 q) x0))
 j))),
 Col.bool fun (j : Nat) =>
 Prod.snd
 (Prod.snd
 (Prod.snd
 (S.at'
 (Prod.snd
 (S.meaS (List.length x2) (fun (q : Nat) => (S.at' x2 q).1)
 (fun (q : Nat) => (S.at' x2 q).2.1)
 (fun (q : Nat) => (S.at' x2 q).2.2.1)
 (fun (q : Nat) => (S.at' x2 q).2.2.2) (List.length x4)
 (fun (q : Nat) => S.at' x4 q) x0))
 j)))]),
 (6, true,
 Blk.cols (List.length x5) [Col.int IntKind.i64 fun (j : Nat) => S.at' x5 j]),
 (5, true,
 Blk.cols (List.length x4) [Col.int IntKind.i64 fun (j : Nat) => S.at' x4 j]),
 (4, true,
 Blk.cols (List.length x3)
 [Col.int IntKind.i64 fun (j : Nat) => (S.at' x3 j).1,
 Col.int IntKind.i64 fun (j : Nat) => (S.at' x3 j).2.1,
 Col.bool fun (j : Nat) => (S.at' x3 j).2.2.1,
 Col.bool fun (j : Nat) => (S.at' x3 j).2.2.2]),
 (2, true, Blk.cells [PV.own (3) (4) (List.length x2)]),
 (3, true,
 Blk.cols (List.length x2)
 [Col.int IntKind.i64 fun (j : Nat) => (S.at' x2 j).1,
 Col.int IntKind.i64 fun (j : Nat) => (S.at' x2 j).2.1,
 Col.int IntKind.i64 fun (j : Nat) => (S.at' x2 j).2.2.1,
 Col.int IntKind.i64 fun (j : Nat) => (S.at' x2 j).2.2.2])]]) (9))))
 (False))
set_option maxRecDepth 100000 in
theorem t9_0 (test : Bool → Prop → Prop → Prop) (Kst : KS) (Kret : KR) (al nl ml : Nat) (tl : Nat → Int) (am nm mm : Nat) (tm : Nat → Int) (x0 : Int) (x1 : Int) (x2 : List (Int × Int × Int × Int)) (x3 : List (Int × Int × Bool × Bool)) (x4 : List Int) (x5 : List Int) : run test Try.env true (xT test) true 400 ⟨9, hd Try.f9 0, zipT [1, 5, 6, 8, 9, 10, 11, 12, 13, 161, 162, 163] [PV.loose (PA.mk (1) (1) am (0)) nm,
 PV.ptr (PA.mk (2) (0) (0) (0)),
 PV.own (4) (4) (List.length x3), PV.int IntKind.i64 x0,
 PV.own (5) (1) (List.length x4), PV.own (6) (1) (List.length x5),
 PV.int IntKind.i64 x1, PV.unk, PV.unk, PV.unk, PV.unk, PV.unk], [[(2, (true, Blk.cells [PV.own (3) (4) (List.length x2)])), (3, (true, Blk.cols (List.length x2)
 [Col.int IntKind.i64 fun (j : Nat) => (S.at' x2 j).1,
 Col.int IntKind.i64 fun (j : Nat) => (S.at' x2 j).2.1,
 Col.int IntKind.i64 fun (j : Nat) => (S.at' x2 j).2.2.1,
 Col.int IntKind.i64 fun (j : Nat) => (S.at' x2 j).2.2.2])), (4, (true, Blk.cols (List.length x3)
 [Col.int IntKind.i64 fun (j : Nat) => (S.at' x3 j).1,
 Col.int IntKind.i64 fun (j : Nat) => (S.at' x3 j).2.1,
 Col.bool fun (j : Nat) => (S.at' x3 j).2.2.1,
 Col.bool fun (j : Nat) => (S.at' x3 j).2.2.2])), (5, (true, Blk.cols (List.length x4) [Col.int IntKind.i64 fun (j : Nat) => S.at' x4 j])), (6, (true, Blk.cols (List.length x5) [Col.int IntKind.i64 fun (j : Nat) => S.at' x5 j]))], [(0, (false, .cols ml [.int .u32 tl])), (1, (false, .cols mm [.int .u8 tm]))]], 7⟩ (proj 2 [1, 5, 6, 8, 9, 10, 11, 12, 13, 161, 162, 163] Kst Kret) =
  T9_0 test Kst Kret al nl ml tl am nm mm tm x0 x1 x2 x3 x4 x5 := by kernel_rfl
noncomputable def T9_1 (test : Bool → Prop → Prop → Prop) (Kst : KS) (Kret : KR) (al nl ml : Nat) (tl : Nat → Int) (am nm mm : Nat) (tm : Nat → Int) (x0 : Int) (x1 : Int) (x2 : Int) (x3 : Int) (x4 : List (Int × Int × Int × Int)) (x5 : List (Int × Int × Bool × Bool)) (x6 : List Int) (x7 : List Int) : Prop :=
  test (decide (x3 > (0 : Int)))
 (test (decide ((0 : Int) ≤ x1 ∧ x1 < (↑(List.length x7) : Int)))
 (test (decide (Int.toNat x1 < List.length x7))
 (test (decide ((0 : Int) ≤ x3 ∧ x3 < (↑(List.length x4) : Int)))
 (test (decide (Int.toNat x3 < List.length x4))
 (test (lim IntKind.i64 (S.at' x7 (Int.toNat x1) + (S.at' x4 (Int.toNat x3)).2.1))
 (test (decide ((0 : Int) ≤ x1 ∧ x1 < (↑(List.length x7) : Int)))
 (test (decide (Int.toNat x1 < List.length x7))
 (test (decide ((0 : Int) ≤ x3 ∧ x3 < (↑(List.length x4) : Int)))
 (test (decide (Int.toNat x3 < List.length x4))
 (test (lim IntKind.i64 (x2 + (S.at' x4 (Int.toNat x3)).2.2.1))
 (test (decide ((0 : Int) ≤ x3 ∧ x3 < (↑(List.length x4) : Int)))
 (test (decide (Int.toNat x3 < List.length x4))
 (Kst (hd Try.f9 1) ([PV.loose (PA.mk (1) (1) am (0)) nm,
 PV.ptr (PA.mk (2) (0) (0) (0)),
 PV.own (4) (4) (List.length x5), PV.int IntKind.i64 x0,
 PV.own (5) (1) (List.length x6), PV.own (6) (1) (List.length x7),
 PV.int IntKind.i64 x1,
 PV.int IntKind.i64 (x2 + (S.at' x4 (Int.toNat x3)).2.2.1),
 PV.int IntKind.i64 ((S.at' x4 (Int.toNat x3)).1), PV.unk, PV.unk, PV.unk]) ([[(1, false, Blk.cols mm [Col.int IntKind.u8 tm]),
 (0, false, Blk.cols ml [Col.int IntKind.u32 tl]),
 (6, true,
 Blk.cols (List.length x7)
 [Col.int IntKind.i64 fun (j : Nat) =>
 bif Nat.beq j (Int.toNat x1) then
 S.at' x7 (Int.toNat x1) + (S.at' x4 (Int.toNat x3)).2.1
 else S.at' x7 j]),
 (5, true,
 Blk.cols (List.length x6) [Col.int IntKind.i64 fun (j : Nat) => S.at' x6 j]),
 (4, true,
 Blk.cols (List.length x5)
 [Col.int IntKind.i64 fun (j : Nat) => (S.at' x5 j).1,
 Col.int IntKind.i64 fun (j : Nat) => (S.at' x5 j).2.1,
 Col.bool fun (j : Nat) => (S.at' x5 j).2.2.1,
 Col.bool fun (j : Nat) => (S.at' x5 j).2.2.2]),
 (2, true, Blk.cells [PV.own (3) (4) (List.length x4)]),
 (3, true,
 Blk.cols (List.length x4)
 [Col.int IntKind.i64 fun (j : Nat) => (S.at' x4 j).1,
 Col.int IntKind.i64 fun (j : Nat) => (S.at' x4 j).2.1,
 Col.int IntKind.i64 fun (j : Nat) => (S.at' x4 j).2.2.1,
 Col.int IntKind.i64 fun (j : Nat) => (S.at' x4 j).2.2.2])]]) (7))
 (False))
 (False))
 (False))
 (False))
 (False))
 (False))
 (False))
 (False))
 (False))
 (False))
 (False))
 (False))
 (test (decide ((0 : Int) ≤ x1 ∧ x1 < (↑(List.length x7) : Int)))
 (test (decide (Int.toNat x1 < List.length x7))
 (test (lim IntKind.i64 (S.at' x7 (Int.toNat x1) - x2))
 (test (decide ((0 : Int) ≤ x1 ∧ x1 < (↑(List.length x7) : Int)))
 (test (decide (Int.toNat x1 < List.length x7))
 (test (lim IntKind.i64 (x2 - S.at' x7 (Int.toNat x1)))
 (test (decide ((0 : Int) ≤ x1 ∧ x1 < (↑(List.length x7) : Int)))
 (test (decide (Int.toNat x1 < List.length x7))
 (test (lim IntKind.i64 (S.at' x7 (Int.toNat x1) + x2))
 (test (decide ((0 : Int) ≤ x1 ∧ x1 < (↑(List.length x6) : Int)))
 (test (decide (Int.toNat x1 < List.length x6))
 (test (decide (x1 < (↑nm : Int)))
 (test (decide
 (0 + List.length x4 ≤ List.length x4 ∧
 List.length x4 ≤ 1000000 ∧
 (S.treE (List.length x4) (fun (q : Nat) => (S.at' x4 q).1)
 (fun (q : Nat) => (S.at' x4 q).2.1)
 (fun (q : Nat) => (S.at' x4 q).2.2.1) fun (q : Nat) =>
 (S.at' x4 q).2.2.2) =
 (0 : Int) ∧
 (0 : Int) ≤ x1 ∧ x1 < (↑(List.length x4) : Int)))
 (test (lim IntKind.i64
 ((2 : Int) *
 S.dl (fun (q : Nat) => (S.at' x4 q).1)
 (fun (q : Nat) => (S.at' x4 q).2.2.2) (Int.toNat x1)))
 (test (decide ((0 : Int) ≤ x1 ∧ x1 < (↑(List.length x6) : Int)))
 (test (decide (Int.toNat x1 < List.length x6))
 (test (decide ((0 : Int) ≤ x1 ∧ x1 < (↑nm : Int)))
 (test (decide (Int.toNat x1 + am < mm))
 (test (lim IntKind.i64 (tm (Int.toNat x1 + am)))
 (test (lim IntKind.i64
 ((2 : Int) *
 ((2 : Int) *
 S.dl (fun (q : Nat) => (S.at' x4 q).1)
 (fun (q : Nat) => (S.at' x4 q).2.2.2) (Int.toNat x1))))
 (test (lim IntKind.i64
 ((2 : Int) *
 ((2 : Int) *
 S.dl (fun (q : Nat) => (S.at' x4 q).1)
 (fun (q : Nat) => (S.at' x4 q).2.2.2) (Int.toNat x1)) +
 (1 : Int)))
 (test (decide
 ((2 : Int) *
 ((2 : Int) *
 S.dl (fun (q : Nat) => (S.at' x4 q).1)
 (fun (q : Nat) => (S.at' x4 q).2.2.2) (Int.toNat x1)) +
 (1 : Int) =
 (0 : Int)))
 (False)
 (test (lim IntKind.i64
 ((bif Nat.beq (Int.toNat x1) (Int.toNat x1) then S.at' x7 (Int.toNat x1) + x2
 else S.at' x6 (Int.toNat x1)) +
 Int.tmod (tm (Int.toNat x1 + am))
 ((2 : Int) *
 ((2 : Int) *
 S.dl (fun (q : Nat) => (S.at' x4 q).1)
 (fun (q : Nat) => (S.at' x4 q).2.2.2) (Int.toNat x1)) +
 (1 : Int))))
 (test (lim IntKind.i64
 ((bif Nat.beq (Int.toNat x1) (Int.toNat x1) then S.at' x7 (Int.toNat x1) + x2
 else S.at' x6 (Int.toNat x1)) +
 Int.tmod (tm (Int.toNat x1 + am))
 ((2 : Int) *
 ((2 : Int) *
 S.dl (fun (q : Nat) => (S.at' x4 q).1)
 (fun (q : Nat) => (S.at' x4 q).2.2.2) (Int.toNat x1)) +
 (1 : Int)) -
 (2 : Int) *
 S.dl (fun (q : Nat) => (S.at' x4 q).1)
 (fun (q : Nat) => (S.at' x4 q).2.2.2) (Int.toNat x1)))
 (test (decide ((0 : Int) ≤ x1 ∧ x1 < (↑(List.length x6) : Int)))
 (test (decide (Int.toNat x1 < List.length x6))
 (test (lim IntKind.i64 (x1 + (1 : Int)))
 (Kst (hd Try.f9 0) ([PV.loose (PA.mk (1) (1) am (0)) nm,
 PV.ptr (PA.mk (2) (0) (0) (0)),
 PV.own (4) (4) (List.length x5),
 PV.int IntKind.i64
 (Max.max (Max.max x0 (S.at' x7 (Int.toNat x1) - x2)) (x2 - S.at' x7 (Int.toNat x1))),
 PV.own (5) (1) (List.length x6), PV.own (6) (1) (List.length x7),
 PV.int IntKind.i64 (x1 + (1 : Int)), PV.int IntKind.i64 x2, PV.int IntKind.i64 x3,
 PV.unk, PV.unk, PV.unk]) ([[(1, false, Blk.cols mm [Col.int IntKind.u8 tm]),
 (0, false, Blk.cols ml [Col.int IntKind.u32 tl]),
 (6, true,
 Blk.cols (List.length x7) [Col.int IntKind.i64 fun (j : Nat) => S.at' x7 j]),
 (5, true,
 Blk.cols (List.length x6)
 [Col.int IntKind.i64 fun (j : Nat) =>
 bif Nat.beq j (Int.toNat x1) then
 Max.max (0 : Int)
 ((bif Nat.beq (Int.toNat x1) (Int.toNat x1) then S.at' x7 (Int.toNat x1) + x2
 else S.at' x6 (Int.toNat x1)) +
 Int.tmod (tm (Int.toNat x1 + am))
 ((2 : Int) *
 ((2 : Int) *
 S.dl (fun (q : Nat) => (S.at' x4 q).1)
 (fun (q : Nat) => (S.at' x4 q).2.2.2) (Int.toNat x1)) +
 (1 : Int)) -
 (2 : Int) *
 S.dl (fun (q : Nat) => (S.at' x4 q).1)
 (fun (q : Nat) => (S.at' x4 q).2.2.2) (Int.toNat x1))
 else bif Nat.beq j (Int.toNat x1) then S.at' x7 (Int.toNat x1) + x2 else S.at' x6 j]),
 (4, true,
 Blk.cols (List.length x5)
 [Col.int IntKind.i64 fun (j : Nat) => (S.at' x5 j).1,
 Col.int IntKind.i64 fun (j : Nat) => (S.at' x5 j).2.1,
 Col.bool fun (j : Nat) => (S.at' x5 j).2.2.1,
 Col.bool fun (j : Nat) => (S.at' x5 j).2.2.2]),
 (2, true, Blk.cells [PV.own (3) (4) (List.length x4)]),
 (3, true,
 Blk.cols (List.length x4)
 [Col.int IntKind.i64 fun (j : Nat) => (S.at' x4 j).1,
 Col.int IntKind.i64 fun (j : Nat) => (S.at' x4 j).2.1,
 Col.int IntKind.i64 fun (j : Nat) => (S.at' x4 j).2.2.1,
 Col.int IntKind.i64 fun (j : Nat) => (S.at' x4 j).2.2.2])]]) (8))
 (False))
 (False))
 (False))
 (False))
 (False)))
 (False))
 (False))
 (False))
 (False))
 (False))
 (False))
 (False))
 (False))
 (False))
 (test (lim IntKind.i64 (x1 + (1 : Int)))
 (Kst (hd Try.f9 0) ([PV.loose (PA.mk (1) (1) am (0)) nm,
 PV.ptr (PA.mk (2) (0) (0) (0)),
 PV.own (4) (4) (List.length x5),
 PV.int IntKind.i64
 (Max.max (Max.max x0 (S.at' x7 (Int.toNat x1) - x2)) (x2 - S.at' x7 (Int.toNat x1))),
 PV.own (5) (1) (List.length x6), PV.own (6) (1) (List.length x7),
 PV.int IntKind.i64 (x1 + (1 : Int)), PV.int IntKind.i64 x2, PV.int IntKind.i64 x3,
 PV.unk, PV.unk, PV.unk]) ([[(1, false, Blk.cols mm [Col.int IntKind.u8 tm]),
 (0, false, Blk.cols ml [Col.int IntKind.u32 tl]),
 (6, true,
 Blk.cols (List.length x7) [Col.int IntKind.i64 fun (j : Nat) => S.at' x7 j]),
 (5, true,
 Blk.cols (List.length x6)
 [Col.int IntKind.i64 fun (j : Nat) =>
 bif Nat.beq j (Int.toNat x1) then S.at' x7 (Int.toNat x1) + x2 else S.at' x6 j]),
 (4, true,
 Blk.cols (List.length x5)
 [Col.int IntKind.i64 fun (j : Nat) => (S.at' x5 j).1,
 Col.int IntKind.i64 fun (j : Nat) => (S.at' x5 j).2.1,
 Col.bool fun (j : Nat) => (S.at' x5 j).2.2.1,
 Col.bool fun (j : Nat) => (S.at' x5 j).2.2.2]),
 (2, true, Blk.cells [PV.own (3) (4) (List.length x4)]),
 (3, true,
 Blk.cols (List.length x4)
 [Col.int IntKind.i64 fun (j : Nat) => (S.at' x4 j).1,
 Col.int IntKind.i64 fun (j : Nat) => (S.at' x4 j).2.1,
 Col.int IntKind.i64 fun (j : Nat) => (S.at' x4 j).2.2.1,
 Col.int IntKind.i64 fun (j : Nat) => (S.at' x4 j).2.2.2])]]) (7))
 (False)))
 (False))
 (False))
 (False))
 (False))
 (False))
 (False))
 (False))
 (False))
 (False))
 (False))
 (False))
set_option maxRecDepth 100000 in
theorem t9_1 (test : Bool → Prop → Prop → Prop) (Kst : KS) (Kret : KR) (al nl ml : Nat) (tl : Nat → Int) (am nm mm : Nat) (tm : Nat → Int) (x0 : Int) (x1 : Int) (x2 : Int) (x3 : Int) (x4 : List (Int × Int × Int × Int)) (x5 : List (Int × Int × Bool × Bool)) (x6 : List Int) (x7 : List Int) : run test Try.env true (xT test) true 400 ⟨9, hd Try.f9 1, zipT [1, 5, 6, 8, 9, 10, 11, 12, 13, 161, 162, 163] [PV.loose (PA.mk (1) (1) am (0)) nm,
 PV.ptr (PA.mk (2) (0) (0) (0)),
 PV.own (4) (4) (List.length x5), PV.int IntKind.i64 x0,
 PV.own (5) (1) (List.length x6), PV.own (6) (1) (List.length x7),
 PV.int IntKind.i64 x1, PV.int IntKind.i64 x2, PV.int IntKind.i64 x3, PV.unk,
 PV.unk, PV.unk], [[(2, (true, Blk.cells [PV.own (3) (4) (List.length x4)])), (3, (true, Blk.cols (List.length x4)
 [Col.int IntKind.i64 fun (j : Nat) => (S.at' x4 j).1,
 Col.int IntKind.i64 fun (j : Nat) => (S.at' x4 j).2.1,
 Col.int IntKind.i64 fun (j : Nat) => (S.at' x4 j).2.2.1,
 Col.int IntKind.i64 fun (j : Nat) => (S.at' x4 j).2.2.2])), (4, (true, Blk.cols (List.length x5)
 [Col.int IntKind.i64 fun (j : Nat) => (S.at' x5 j).1,
 Col.int IntKind.i64 fun (j : Nat) => (S.at' x5 j).2.1,
 Col.bool fun (j : Nat) => (S.at' x5 j).2.2.1,
 Col.bool fun (j : Nat) => (S.at' x5 j).2.2.2])), (5, (true, Blk.cols (List.length x6) [Col.int IntKind.i64 fun (j : Nat) => S.at' x6 j])), (6, (true, Blk.cols (List.length x7) [Col.int IntKind.i64 fun (j : Nat) => S.at' x7 j]))], [(0, (false, .cols ml [.int .u32 tl])), (1, (false, .cols mm [.int .u8 tm]))]], 7⟩ (proj 2 [1, 5, 6, 8, 9, 10, 11, 12, 13, 161, 162, 163] Kst Kret) =
  T9_1 test Kst Kret al nl ml tl am nm mm tm x0 x1 x2 x3 x4 x5 x6 x7 := by kernel_rfl
noncomputable def T9_2 (test : Bool → Prop → Prop → Prop) (Kst : KS) (Kret : KR) (al nl ml : Nat) (tl : Nat → Int) (am nm mm : Nat) (tm : Nat → Int) (x0 : Int) (x1 : Int) (x2 : List (Int × Int × Bool × Bool)) (x3 : List Int) (x4 : List (Int × Int × Bool × Bool)) : Prop :=
  test (decide (x1 < x0))
 (test (decide ((0 : Int) ≤ x1 ∧ x1 < (↑(List.length x4) : Int)))
 (test (decide (Int.toNat x1 < List.length x4))
 (test (decide (Int.toNat x1 < List.length x4))
 (test (decide (Int.toNat x1 < List.length x4))
 (test (decide (Int.toNat x1 < List.length x4))
 (test (decide ((0 : Int) ≤ x1 ∧ x1 < (↑(List.length x3) : Int)))
 (test (decide (Int.toNat x1 < List.length x3))
 (test (decide (S.at' x3 (Int.toNat x1) < (S.at' x4 (Int.toNat x1)).1))
 (Kret (PV.tf false) ([[(1, false, Blk.cols mm [Col.int IntKind.u8 tm]),
 (0, false, Blk.cols ml [Col.int IntKind.u32 tl])]]) (6))
 (test (decide ((0 : Int) ≤ x1 ∧ x1 < (↑(List.length x3) : Int)))
 (test (decide (Int.toNat x1 < List.length x3))
 (test (decide (S.at' x3 (Int.toNat x1) > (S.at' x4 (Int.toNat x1)).2.1))
 (Kret (PV.tf false) ([[(1, false, Blk.cols mm [Col.int IntKind.u8 tm]),
 (0, false, Blk.cols ml [Col.int IntKind.u32 tl])]]) (6))
 (test (decide ((0 : Int) ≤ x1 ∧ x1 < (↑(List.length x2) : Int)))
 (test (decide (Int.toNat x1 < List.length x2))
 (test (decide ((0 : Int) ≤ x1 ∧ x1 < (↑(List.length x2) : Int)))
 (test (decide (Int.toNat x1 < List.length x2))
 (test (lim IntKind.i64
 ((S.at' x2 (Int.toNat x1)).1 + (S.at' x2 (Int.toNat x1)).2.1))
 (test (decide ((0 : Int) ≤ x1 ∧ x1 < (↑(List.length x3) : Int)))
 (test (decide (Int.toNat x1 < List.length x3))
 (test (lim IntKind.i64 ((2 : Int) * S.at' x3 (Int.toNat x1)))
 (test ((S.at' x2 (Int.toNat x1)).1 + (S.at' x2 (Int.toNat x1)).2.1 !=
 (2 : Int) * S.at' x3 (Int.toNat x1))
 (Kret (PV.tf false) ([[(1, false, Blk.cols mm [Col.int IntKind.u8 tm]),
 (0, false, Blk.cols ml [Col.int IntKind.u32 tl])]]) (6))
 (test (lim IntKind.i64 (x1 + (1 : Int)))
 (Kst (hd Try.f9 2) ([PV.unk, PV.unk, PV.own (2) (4) (List.length x2), PV.unk, PV.unk,
 PV.own (3) (1) (List.length x3), PV.unk, PV.unk, PV.unk,
 PV.own (4) (4) (List.length x4), PV.int IntKind.i64 x0,
 PV.int IntKind.i64 (x1 + (1 : Int))]) ([[(1, false, Blk.cols mm [Col.int IntKind.u8 tm]),
 (0, false, Blk.cols ml [Col.int IntKind.u32 tl]),
 (4, true,
 Blk.cols (List.length x4)
 [Col.int IntKind.i64 fun (j : Nat) => (S.at' x4 j).1,
 Col.int IntKind.i64 fun (j : Nat) => (S.at' x4 j).2.1,
 Col.bool fun (j : Nat) => (S.at' x4 j).2.2.1,
 Col.bool fun (j : Nat) => (S.at' x4 j).2.2.2]),
 (3, true,
 Blk.cols (List.length x3) [Col.int IntKind.i64 fun (j : Nat) => S.at' x3 j]),
 (2, true,
 Blk.cols (List.length x2)
 [Col.int IntKind.i64 fun (j : Nat) => (S.at' x2 j).1,
 Col.int IntKind.i64 fun (j : Nat) => (S.at' x2 j).2.1,
 Col.bool fun (j : Nat) => (S.at' x2 j).2.2.1,
 Col.bool fun (j : Nat) => (S.at' x2 j).2.2.2])]]) (6))
 (False)))
 (False))
 (False))
 (False))
 (False))
 (False))
 (False))
 (False))
 (False)))
 (False))
 (False)))
 (False))
 (False))
 (False))
 (False))
 (False))
 (False))
 (False))
 (Kret (PV.tf true) ([[(1, false, Blk.cols mm [Col.int IntKind.u8 tm]),
 (0, false, Blk.cols ml [Col.int IntKind.u32 tl])]]) (5))
set_option maxRecDepth 100000 in
theorem t9_2 (test : Bool → Prop → Prop → Prop) (Kst : KS) (Kret : KR) (al nl ml : Nat) (tl : Nat → Int) (am nm mm : Nat) (tm : Nat → Int) (x0 : Int) (x1 : Int) (x2 : List (Int × Int × Bool × Bool)) (x3 : List Int) (x4 : List (Int × Int × Bool × Bool)) : run test Try.env true (xT test) true 400 ⟨9, hd Try.f9 2, zipT [1, 5, 6, 8, 9, 10, 11, 12, 13, 161, 162, 163] [PV.unk, PV.unk, PV.own (2) (4) (List.length x2), PV.unk, PV.unk,
 PV.own (3) (1) (List.length x3), PV.unk, PV.unk, PV.unk,
 PV.own (4) (4) (List.length x4), PV.int IntKind.i64 x0, PV.int IntKind.i64 x1], [[(2, (true, Blk.cols (List.length x2)
 [Col.int IntKind.i64 fun (j : Nat) => (S.at' x2 j).1,
 Col.int IntKind.i64 fun (j : Nat) => (S.at' x2 j).2.1,
 Col.bool fun (j : Nat) => (S.at' x2 j).2.2.1,
 Col.bool fun (j : Nat) => (S.at' x2 j).2.2.2])), (3, (true, Blk.cols (List.length x3) [Col.int IntKind.i64 fun (j : Nat) => S.at' x3 j])), (4, (true, Blk.cols (List.length x4)
 [Col.int IntKind.i64 fun (j : Nat) => (S.at' x4 j).1,
 Col.int IntKind.i64 fun (j : Nat) => (S.at' x4 j).2.1,
 Col.bool fun (j : Nat) => (S.at' x4 j).2.2.1,
 Col.bool fun (j : Nat) => (S.at' x4 j).2.2.2]))], [(0, (false, .cols ml [.int .u32 tl])), (1, (false, .cols mm [.int .u8 tm]))]], 5⟩ (proj 2 [1, 5, 6, 8, 9, 10, 11, 12, 13, 161, 162, 163] Kst Kret) =
  T9_2 test Kst Kret al nl ml tl am nm mm tm x0 x1 x2 x3 x4 := by kernel_rfl
set_option maxRecDepth 100000 in
theorem be9 (al nl ml : Nat) (tl : Nat → Int) (am nm mm : Nat) (tm : Nat → Int) (Kst : KS) (Kret : KR) (x : St9 ⊕ Rt9) (hS : HS 2 400 ((I9 al nl ml tl am nm mm tm)) Kst x) (hR : HR 2 400 ((V9 al nl ml tl am nm mm tm)) (fun r => [newL (2 + 1) ((N9 al nl ml tl am nm mm tm) r) ++ [(0, (false, .cols ml [.int .u32 tl])), (1, (false, .cols mm [.int .u8 tm]))]]) Kret x) (h : (bif (decide ((↑nl : Int) > (30 : Int)))
 then (some (.inr (true)))
 else (bif (decide ((↑nm : Int) > (40 : Int)))
 then (some (.inr (true)))
 else (bif (decide (al + nl ≤ ml ∧ nl ≤ 1000000 ∧ (S.u32s nl fun (q : Nat) => tl (q + al)) = true))
 then (bif (decide
 (0 + List.length (S.mdL nl fun (q : Nat) => tl (q + al)) ≤
 List.length (S.mdL nl fun (q : Nat) => tl (q + al)) ∧
 List.length (S.mdL nl fun (q : Nat) => tl (q + al)) ≤ 1000000))
 then (bif (Prod.fst
 (S.dlyS (List.length (S.mdL nl fun (q : Nat) => tl (q + al)))
 (fun (q : Nat) => (S.at' (S.mdL nl fun (q : Nat) => tl (q + al)) q).1)
 (fun (q : Nat) => (S.at' (S.mdL nl fun (q : Nat) => tl (q + al)) q).2.1)
 (fun (q : Nat) => (S.at' (S.mdL nl fun (q : Nat) => tl (q + al)) q).2.2.1)
 fun (q : Nat) => (S.at' (S.mdL nl fun (q : Nat) => tl (q + al)) q).2.2.2) !=
 (0 : Int))
 then (some (.inr (false)))
 else (bif ((↑(List.length
 (Prod.snd
 (S.dlyS (List.length (S.mdL nl fun (q : Nat) => tl (q + al)))
 (fun (q : Nat) => (S.at' (S.mdL nl fun (q : Nat) => tl (q + al)) q).1)
 (fun (q : Nat) => (S.at' (S.mdL nl fun (q : Nat) => tl (q + al)) q).2.1)
 (fun (q : Nat) =>
 (S.at' (S.mdL nl fun (q : Nat) => tl (q + al)) q).2.2.1)
 fun (q : Nat) =>
 (S.at' (S.mdL nl fun (q : Nat) => tl (q + al)) q).2.2.2))) :
 Int) !=
 (↑(List.length (S.mdL nl fun (q : Nat) => tl (q + al))) : Int))
 then (some (.inr (false)))
 else (bif (decide
 ((0 : Int) ≤ (↑(List.length (S.mdL nl fun (q : Nat) => tl (q + al))) : Int) ∧
 (↑(List.length (S.mdL nl fun (q : Nat) => tl (q + al))) : Int) ≤
 (↑(List.length (S.mdL nl fun (q : Nat) => tl (q + al))) : Int) ∧
 (↑(List.length (S.mdL nl fun (q : Nat) => tl (q + al))) : Int) ≤ (1000000 : Int)))
 then (some (.inl (.h0 ((0 : Int)) ((1 : Int)) (S.mdL nl fun (q : Nat) => tl (q + al)) (Prod.snd
 (S.dlyS (List.length (S.mdL nl fun (q : Nat) => tl (q + al)))
 (fun (q : Nat) => (S.at' (S.mdL nl fun (q : Nat) => tl (q + al)) q).1)
 (fun (q : Nat) => (S.at' (S.mdL nl fun (q : Nat) => tl (q + al)) q).2.1)
 (fun (q : Nat) => (S.at' (S.mdL nl fun (q : Nat) => tl (q + al)) q).2.2.1)
 fun (q : Nat) => (S.at' (S.mdL nl fun (q : Nat) => tl (q + al)) q).2.2.2)) (S.mkl (List.length (S.mdL nl fun (q : Nat) => tl (q + al))) fun (j : Nat) => (0 : Int)) (S.mkl (List.length (S.mdL nl fun (q : Nat) => tl (q + al))) fun (j : Nat) => (0 : Int)))))
 else (none))))
 else (none))
 else (none))) : Option (St9 ⊕ Rt9)) = some x) : Te9 cond Kst Kret al nl ml tl am nm mm tm := by
  unfold Te9
  exact cond_yes rfl (cond_yes rfl (bif_split h
   (fun c0 h => cond_yes rfl (cond_yes rfl (ret_at hR _ h (fun n => n) rfl rfl rfl (rn_bool_tf rfl) rfl (entl_bor (use_lo rfl) rfl rfl (entl_bor (use_lo rfl) rfl rfl entl_nil)))))
   (fun c0 h => bif_split h
   (fun c1 h => cond_yes rfl (cond_yes rfl (ret_at hR _ h (fun n => n) rfl rfl rfl (rn_bool_tf rfl) rfl (entl_bor (use_lo rfl) rfl rfl (entl_bor (use_lo rfl) rfl rfl entl_nil)))))
   (fun c1 h => bif_split h
   (fun c2 h => bif_split h
   (fun c3 h => bif_split h
   (fun c4 h => ret_at hR _ h (fun n => n) rfl rfl rfl (rn_bool_tf rfl) rfl (entl_bor (use_lo rfl) rfl rfl (entl_bor (use_lo rfl) rfl rfl entl_nil)))
   (fun c4 h => bif_split h
   (fun c5 h => ret_at hR _ h (fun n => n) rfl rfl rfl (rn_bool_tf rfl) rfl (entl_bor (use_lo rfl) rfl rfl (entl_bor (use_lo rfl) rfl rfl entl_nil)))
   (fun c5 h => bif_split h
   (fun c6 h => cond_yes c6 (stop_at hS _ h (fun n => bif Nat.beq n 2 then 5 else bif Nat.beq n 3 then 4 else bif Nat.beq n 4 then 7 else bif Nat.beq n 5 then 8 else bif Nat.beq n 6 then 9 else n) rfl rfl rfl ⟨(rn_loose (use_lo rfl) rfl rfl rfl), ⟨(rn_ptr (use_own rfl) rfl rfl), ⟨(rn_own (use_own rfl) rfl rfl), ⟨(rn_int rfl), ⟨(rn_own (use_own rfl) rfl mkl_len), ⟨(rn_own (use_own rfl) rfl mkl_len), ⟨(rn_int rfl), ⟨(rn_unk _), ⟨(rn_unk _), ⟨(rn_unk _), ⟨(rn_unk _), ⟨(rn_unk _), trivial⟩⟩⟩⟩⟩⟩⟩⟩⟩⟩⟩⟩ rfl (entl_b (use_own rfl) rfl (by simp) (rb_cells ⟨(rn_own (use_own rfl) rfl rfl), trivial⟩) (entl_new (use_own rfl) rfl (Nat.le_of_eq rfl) (rcs_int (fun _ _ => rfl) (rcs_int (fun _ _ => rfl) (rcs_int (fun _ _ => rfl) (rcs_int (fun _ _ => rfl) rcs_nil)))) (entl_new (use_own rfl) rfl (Nat.le_of_eq rfl) (rcs_int (fun _ _ => rfl) (rcs_int (fun _ _ => rfl) (rcs_bool (fun _ _ => rfl) (rcs_bool (fun _ _ => rfl) rcs_nil)))) (entl_new (use_own rfl) rfl (Nat.le_of_eq mkl_len) (rcs_int (fun _ hj => col_mkl (fun (t : Int) => t) hj) rcs_nil) (entl_new (use_own rfl) rfl (Nat.le_of_eq mkl_len) (rcs_int (fun _ hj => col_mkl (fun (t : Int) => t) hj) rcs_nil) (entl_bor (use_lo rfl) rfl rfl (entl_bor (use_lo rfl) rfl rfl entl_nil)))))))))
   (fun c6 h => no_some h))))
   (fun c3 h => no_some h))
   (fun c2 h => no_some h)))))
set_option maxRecDepth 100000 in
theorem b9_0 (al nl ml : Nat) (tl : Nat → Int) (am nm mm : Nat) (tm : Nat → Int) (Kst : KS) (Kret : KR) (x : St9 ⊕ Rt9) (hS : HS 2 400 ((I9 al nl ml tl am nm mm tm)) Kst x) (hR : HR 2 400 ((V9 al nl ml tl am nm mm tm)) (fun r => [newL (2 + 1) ((N9 al nl ml tl am nm mm tm) r) ++ [(0, (false, .cols ml [.int .u32 tl])), (1, (false, .cols mm [.int .u8 tm]))]]) Kret x) (x0 : Int) (x1 : Int) (x2 : List (Int × Int × Int × Int)) (x3 : List (Int × Int × Bool × Bool)) (x4 : List Int) (x5 : List Int) (h : (bif (decide (x1 < (↑(List.length x2) : Int)))
 then (some (.inl (.h1 (x0) (x1) ((0 : Int)) (x1) (x2) (x3) (x4) (x5))))
 else (bif (decide
 (0 + List.length x2 ≤ List.length x2 ∧
 List.length x2 ≤ 1000000 ∧ 0 + List.length x4 ≤ List.length x4 ∧ List.length x4 ≤ 1000000))
 then (bif (Prod.fst
 (S.meaS (List.length x2) (fun (q : Nat) => (S.at' x2 q).1)
 (fun (q : Nat) => (S.at' x2 q).2.1)
 (fun (q : Nat) => (S.at' x2 q).2.2.1)
 (fun (q : Nat) => (S.at' x2 q).2.2.2) (List.length x4)
 (fun (q : Nat) => S.at' x4 q) x0) !=
 (0 : Int))
 then (some (.inr (false)))
 else (bif ((↑(List.length
 (Prod.snd
 (S.meaS (List.length x2) (fun (q : Nat) => (S.at' x2 q).1)
 (fun (q : Nat) => (S.at' x2 q).2.1)
 (fun (q : Nat) => (S.at' x2 q).2.2.1)
 (fun (q : Nat) => (S.at' x2 q).2.2.2) (List.length x4)
 (fun (q : Nat) => S.at' x4 q) x0))) :
 Int) !=
 (↑(List.length x2) : Int))
 then (some (.inr (false)))
 else (some (.inl (.h2 ((↑(List.length
 (Prod.snd
 (S.meaS (List.length x2) (fun (q : Nat) => (S.at' x2 q).1)
 (fun (q : Nat) => (S.at' x2 q).2.1)
 (fun (q : Nat) => (S.at' x2 q).2.2.1)
 (fun (q : Nat) => (S.at' x2 q).2.2.2) (List.length x4)
 (fun (q : Nat) => S.at' x4 q) x0))) :
 Int)) ((0 : Int)) (x3) (x5) (Prod.snd
 (S.meaS (List.length x2) (fun (j : Nat) => (S.at' x2 j).1)
 (fun (j : Nat) => (S.at' x2 j).2.1)
 (fun (j : Nat) => (S.at' x2 j).2.2.1)
 (fun (j : Nat) => (S.at' x2 j).2.2.2) (List.length x4)
 (fun (j : Nat) => S.at' x4 j) x0)))))))
 else (none)) : Option (St9 ⊕ Rt9)) = some x) : T9_0 cond Kst Kret al nl ml tl am nm mm tm x0 x1 x2 x3 x4 x5 := by
  unfold T9_0
  exact bif_split h
   (fun c0 h => stop_at hS _ h (fun n => bif Nat.beq n 2 then 2 else bif Nat.beq n 3 then 3 else bif Nat.beq n 4 then 4 else bif Nat.beq n 5 then 5 else bif Nat.beq n 6 then 6 else n) rfl rfl rfl ⟨(rn_loose (use_lo rfl) rfl rfl rfl), ⟨(rn_ptr (use_own rfl) rfl rfl), ⟨(rn_own (use_own rfl) rfl rfl), ⟨(rn_int rfl), ⟨(rn_own (use_own rfl) rfl rfl), ⟨(rn_own (use_own rfl) rfl rfl), ⟨(rn_int rfl), ⟨(rn_int rfl), ⟨(rn_int rfl), ⟨(rn_unk _), ⟨(rn_unk _), ⟨(rn_unk _), trivial⟩⟩⟩⟩⟩⟩⟩⟩⟩⟩⟩⟩ rfl (entl_b (use_own rfl) rfl (by simp) (rb_cells ⟨(rn_own (use_own rfl) rfl rfl), trivial⟩) (entl_new (use_own rfl) rfl (Nat.le_of_eq rfl) (rcs_int (fun _ _ => rfl) (rcs_int (fun _ _ => rfl) (rcs_int (fun _ _ => rfl) (rcs_int (fun _ _ => rfl) rcs_nil)))) (entl_new (use_own rfl) rfl (Nat.le_of_eq rfl) (rcs_int (fun _ _ => rfl) (rcs_int (fun _ _ => rfl) (rcs_bool (fun _ _ => rfl) (rcs_bool (fun _ _ => rfl) rcs_nil)))) (entl_new (use_own rfl) rfl (Nat.le_of_eq rfl) (rcs_int (fun _ _ => rfl) rcs_nil) (entl_new (use_own rfl) rfl (Nat.le_of_eq rfl) (rcs_int (fun _ _ => rfl) rcs_nil) (entl_bor (use_lo rfl) rfl rfl (entl_bor (use_lo rfl) rfl rfl entl_nil))))))))
   (fun c0 h => bif_split h
   (fun c1 h => bif_split h
   (fun c2 h => ret_at hR _ h (fun n => n) rfl rfl rfl (rn_bool_tf rfl) rfl (entl_bor (use_lo rfl) rfl rfl (entl_bor (use_lo rfl) rfl rfl entl_nil)))
   (fun c2 h => bif_split h
   (fun c3 h => ret_at hR _ h (fun n => n) rfl rfl rfl (rn_bool_tf rfl) rfl (entl_bor (use_lo rfl) rfl rfl (entl_bor (use_lo rfl) rfl rfl entl_nil)))
   (fun c3 h => stop_at hS _ h (fun n => bif Nat.beq n 2 then 4 else bif Nat.beq n 3 then 6 else bif Nat.beq n 4 then 8 else n) rfl rfl rfl ⟨(rn_unk _), ⟨(rn_unk _), ⟨(rn_own (use_own rfl) rfl rfl), ⟨(rn_unk _), ⟨(rn_unk _), ⟨(rn_own (use_own rfl) rfl rfl), ⟨(rn_unk _), ⟨(rn_unk _), ⟨(rn_unk _), ⟨(rn_own (use_own rfl) rfl rfl), ⟨(rn_int rfl), ⟨(rn_int rfl), trivial⟩⟩⟩⟩⟩⟩⟩⟩⟩⟩⟩⟩ rfl (entl_new (use_own rfl) rfl (Nat.le_of_eq rfl) (rcs_int (fun _ _ => rfl) (rcs_int (fun _ _ => rfl) (rcs_bool (fun _ _ => rfl) (rcs_bool (fun _ _ => rfl) rcs_nil)))) (entl_new (use_own rfl) rfl (Nat.le_of_eq rfl) (rcs_int (fun _ _ => rfl) rcs_nil) (entl_new (use_own rfl) rfl (Nat.le_of_eq rfl) (rcs_int (fun _ _ => rfl) (rcs_int (fun _ _ => rfl) (rcs_bool (fun _ _ => rfl) (rcs_bool (fun _ _ => rfl) rcs_nil)))) (entl_bor (use_lo rfl) rfl rfl (entl_bor (use_lo rfl) rfl rfl entl_nil))))))))
   (fun c1 h => no_some h))
set_option maxRecDepth 100000 in
theorem b9_1 (al nl ml : Nat) (tl : Nat → Int) (am nm mm : Nat) (tm : Nat → Int) (Kst : KS) (Kret : KR) (x : St9 ⊕ Rt9) (hS : HS 2 400 ((I9 al nl ml tl am nm mm tm)) Kst x) (hR : HR 2 400 ((V9 al nl ml tl am nm mm tm)) (fun r => [newL (2 + 1) ((N9 al nl ml tl am nm mm tm) r) ++ [(0, (false, .cols ml [.int .u32 tl])), (1, (false, .cols mm [.int .u8 tm]))]]) Kret x) (x0 : Int) (x1 : Int) (x2 : Int) (x3 : Int) (x4 : List (Int × Int × Int × Int)) (x5 : List (Int × Int × Bool × Bool)) (x6 : List Int) (x7 : List Int) (h : (bif (decide (x3 > (0 : Int)))
 then (bif (decide ((0 : Int) ≤ x1 ∧ x1 < (↑(List.length x7) : Int)))
 then (bif (decide (Int.toNat x1 < List.length x7))
 then (bif (decide ((0 : Int) ≤ x3 ∧ x3 < (↑(List.length x4) : Int)))
 then (bif (decide (Int.toNat x3 < List.length x4))
 then (bif (lim IntKind.i64 (S.at' x7 (Int.toNat x1) + (S.at' x4 (Int.toNat x3)).2.1))
 then (bif (lim IntKind.i64 (x2 + (S.at' x4 (Int.toNat x3)).2.2.1))
 then (some (.inl (.h1 (x0) (x1) (x2 + (S.at' x4 (Int.toNat x3)).2.2.1) ((S.at' x4 (Int.toNat x3)).1) (x4) (x5) (x6) (S.mkl (List.length x7) fun (j : Nat) =>
 bif Nat.beq j (Int.toNat x1) then S.at' x7 (Int.toNat x1) + (S.at' x4 (Int.toNat x3)).2.1
 else S.at' x7 j))))
 else (none))
 else (none))
 else (none))
 else (none))
 else (none))
 else (none))
 else (bif (decide ((0 : Int) ≤ x1 ∧ x1 < (↑(List.length x7) : Int)))
 then (bif (decide (Int.toNat x1 < List.length x7))
 then (bif (lim IntKind.i64 (S.at' x7 (Int.toNat x1) - x2))
 then (bif (lim IntKind.i64 (x2 - S.at' x7 (Int.toNat x1)))
 then (bif (lim IntKind.i64 (S.at' x7 (Int.toNat x1) + x2))
 then (bif (decide ((0 : Int) ≤ x1 ∧ x1 < (↑(List.length x6) : Int)))
 then (bif (decide (Int.toNat x1 < List.length x6))
 then (bif (decide (x1 < (↑nm : Int)))
 then (bif (decide
 (0 + List.length x4 ≤ List.length x4 ∧
 List.length x4 ≤ 1000000 ∧
 (S.treE (List.length x4) (fun (q : Nat) => (S.at' x4 q).1)
 (fun (q : Nat) => (S.at' x4 q).2.1)
 (fun (q : Nat) => (S.at' x4 q).2.2.1) fun (q : Nat) =>
 (S.at' x4 q).2.2.2) =
 (0 : Int) ∧
 (0 : Int) ≤ x1 ∧ x1 < (↑(List.length x4) : Int)))
 then (bif (lim IntKind.i64
 ((2 : Int) *
 S.dl (fun (q : Nat) => (S.at' x4 q).1)
 (fun (q : Nat) => (S.at' x4 q).2.2.2) (Int.toNat x1)))
 then (bif (decide ((0 : Int) ≤ x1 ∧ x1 < (↑nm : Int)))
 then (bif (decide (Int.toNat x1 + am < mm))
 then (bif (lim IntKind.i64 (tm (Int.toNat x1 + am)))
 then (bif (lim IntKind.i64
 ((2 : Int) *
 ((2 : Int) *
 S.dl (fun (q : Nat) => (S.at' x4 q).1)
 (fun (q : Nat) => (S.at' x4 q).2.2.2) (Int.toNat x1))))
 then (bif (lim IntKind.i64
 ((2 : Int) *
 ((2 : Int) *
 S.dl (fun (q : Nat) => (S.at' x4 q).1)
 (fun (q : Nat) => (S.at' x4 q).2.2.2) (Int.toNat x1)) +
 (1 : Int)))
 then (bif (decide
 ((2 : Int) *
 ((2 : Int) *
 S.dl (fun (q : Nat) => (S.at' x4 q).1)
 (fun (q : Nat) => (S.at' x4 q).2.2.2) (Int.toNat x1)) +
 (1 : Int) =
 (0 : Int)))
 then (none)
 else (bif (lim IntKind.i64
 ((bif Nat.beq (Int.toNat x1) (Int.toNat x1) then S.at' x7 (Int.toNat x1) + x2
 else S.at' x6 (Int.toNat x1)) +
 Int.tmod (tm (Int.toNat x1 + am))
 ((2 : Int) *
 ((2 : Int) *
 S.dl (fun (q : Nat) => (S.at' x4 q).1)
 (fun (q : Nat) => (S.at' x4 q).2.2.2) (Int.toNat x1)) +
 (1 : Int))))
 then (bif (lim IntKind.i64
 ((bif Nat.beq (Int.toNat x1) (Int.toNat x1) then S.at' x7 (Int.toNat x1) + x2
 else S.at' x6 (Int.toNat x1)) +
 Int.tmod (tm (Int.toNat x1 + am))
 ((2 : Int) *
 ((2 : Int) *
 S.dl (fun (q : Nat) => (S.at' x4 q).1)
 (fun (q : Nat) => (S.at' x4 q).2.2.2) (Int.toNat x1)) +
 (1 : Int)) -
 (2 : Int) *
 S.dl (fun (q : Nat) => (S.at' x4 q).1)
 (fun (q : Nat) => (S.at' x4 q).2.2.2) (Int.toNat x1)))
 then (bif (lim IntKind.i64 (x1 + (1 : Int)))
 then (some (.inl (.h0 (Max.max (Max.max x0 (S.at' x7 (Int.toNat x1) - x2)) (x2 - S.at' x7 (Int.toNat x1))) (x1 + (1 : Int)) (x4) (x5) (S.mkl (List.length x6) fun (j : Nat) =>
 bif Nat.beq j (Int.toNat x1) then
 Max.max (0 : Int)
 ((bif Nat.beq (Int.toNat x1) (Int.toNat x1) then S.at' x7 (Int.toNat x1) + x2
 else S.at' x6 (Int.toNat x1)) +
 Int.tmod (tm (Int.toNat x1 + am))
 ((2 : Int) *
 ((2 : Int) *
 S.dl (fun (j : Nat) => (S.at' x4 j).1)
 (fun (j : Nat) => (S.at' x4 j).2.2.2) (Int.toNat x1)) +
 (1 : Int)) -
 (2 : Int) *
 S.dl (fun (j : Nat) => (S.at' x4 j).1)
 (fun (j : Nat) => (S.at' x4 j).2.2.2) (Int.toNat x1))
 else bif Nat.beq j (Int.toNat x1) then S.at' x7 (Int.toNat x1) + x2 else S.at' x6 j) (x7))))
 else (none))
 else (none))
 else (none)))
 else (none))
 else (none))
 else (none))
 else (none))
 else (none))
 else (none))
 else (none))
 else (bif (lim IntKind.i64 (x1 + (1 : Int)))
 then (some (.inl (.h0 (Max.max (Max.max x0 (S.at' x7 (Int.toNat x1) - x2)) (x2 - S.at' x7 (Int.toNat x1))) (x1 + (1 : Int)) (x4) (x5) (S.mkl (List.length x6) fun (j : Nat) =>
 bif Nat.beq j (Int.toNat x1) then S.at' x7 (Int.toNat x1) + x2 else S.at' x6 j) (x7))))
 else (none)))
 else (none))
 else (none))
 else (none))
 else (none))
 else (none))
 else (none))
 else (none)) : Option (St9 ⊕ Rt9)) = some x) : T9_1 cond Kst Kret al nl ml tl am nm mm tm x0 x1 x2 x3 x4 x5 x6 x7 := by
  unfold T9_1
  exact bif_split h
   (fun c0 h => bif_split h
   (fun c1 h => bif_split h
   (fun c2 h => bif_split h
   (fun c3 h => bif_split h
   (fun c4 h => bif_split h
   (fun c5 h => cond_yes c1 (cond_yes c2 (cond_yes c3 (cond_yes c4 (bif_split h
   (fun c6 h => cond_yes c3 (cond_yes c4 (stop_at hS _ h (fun n => bif Nat.beq n 2 then 2 else bif Nat.beq n 3 then 3 else bif Nat.beq n 4 then 4 else bif Nat.beq n 5 then 5 else bif Nat.beq n 6 then 6 else n) rfl rfl rfl ⟨(rn_loose (use_lo rfl) rfl rfl rfl), ⟨(rn_ptr (use_own rfl) rfl rfl), ⟨(rn_own (use_own rfl) rfl rfl), ⟨(rn_int rfl), ⟨(rn_own (use_own rfl) rfl rfl), ⟨(rn_own (use_own rfl) rfl mkl_len), ⟨(rn_int rfl), ⟨(rn_int rfl), ⟨(rn_int rfl), ⟨(rn_unk _), ⟨(rn_unk _), ⟨(rn_unk _), trivial⟩⟩⟩⟩⟩⟩⟩⟩⟩⟩⟩⟩ rfl (entl_b (use_own rfl) rfl (by simp) (rb_cells ⟨(rn_own (use_own rfl) rfl rfl), trivial⟩) (entl_new (use_own rfl) rfl (Nat.le_of_eq rfl) (rcs_int (fun _ _ => rfl) (rcs_int (fun _ _ => rfl) (rcs_int (fun _ _ => rfl) (rcs_int (fun _ _ => rfl) rcs_nil)))) (entl_new (use_own rfl) rfl (Nat.le_of_eq rfl) (rcs_int (fun _ _ => rfl) (rcs_int (fun _ _ => rfl) (rcs_bool (fun _ _ => rfl) (rcs_bool (fun _ _ => rfl) rcs_nil)))) (entl_new (use_own rfl) rfl (Nat.le_of_eq rfl) (rcs_int (fun _ _ => rfl) rcs_nil) (entl_new (use_own rfl) rfl (Nat.le_of_eq mkl_len) (rcs_int (fun _ hj => col_mkl (fun (t : Int) => t) hj) rcs_nil) (entl_bor (use_lo rfl) rfl rfl (entl_bor (use_lo rfl) rfl rfl entl_nil))))))))))
   (fun c6 h => no_some h))))))
   (fun c5 h => no_some h))
   (fun c4 h => no_some h))
   (fun c3 h => no_some h))
   (fun c2 h => no_some h))
   (fun c1 h => no_some h))
   (fun c0 h => bif_split h
   (fun c1 h => bif_split h
   (fun c2 h => bif_split h
   (fun c3 h => cond_yes c1 (cond_yes c2 (bif_split h
   (fun c4 h => cond_yes c1 (cond_yes c2 (bif_split h
   (fun c5 h => bif_split h
   (fun c6 h => bif_split h
   (fun c7 h => bif_split h
   (fun c8 h => bif_split h
   (fun c9 h => bif_split h
   (fun c10 h => cond_yes c6 (cond_yes c7 (bif_split h
   (fun c11 h => bif_split h
   (fun c12 h => bif_split h
   (fun c13 h => bif_split h
   (fun c14 h => bif_split h
   (fun c15 h => bif_split h
   (fun c16 h => no_some h)
   (fun c16 h => bif_split h
   (fun c17 h => bif_split h
   (fun c18 h => cond_yes c6 (cond_yes c7 (bif_split h
   (fun c19 h => stop_at hS _ h (fun n => bif Nat.beq n 2 then 2 else bif Nat.beq n 3 then 3 else bif Nat.beq n 4 then 4 else bif Nat.beq n 5 then 5 else bif Nat.beq n 6 then 6 else n) rfl rfl rfl ⟨(rn_loose (use_lo rfl) rfl rfl rfl), ⟨(rn_ptr (use_own rfl) rfl rfl), ⟨(rn_own (use_own rfl) rfl rfl), ⟨(rn_int rfl), ⟨(rn_own (use_own rfl) rfl mkl_len), ⟨(rn_own (use_own rfl) rfl rfl), ⟨(rn_int rfl), ⟨(rn_unk _), ⟨(rn_unk _), ⟨(rn_unk _), ⟨(rn_unk _), ⟨(rn_unk _), trivial⟩⟩⟩⟩⟩⟩⟩⟩⟩⟩⟩⟩ rfl (entl_b (use_own rfl) rfl (by simp) (rb_cells ⟨(rn_own (use_own rfl) rfl rfl), trivial⟩) (entl_new (use_own rfl) rfl (Nat.le_of_eq rfl) (rcs_int (fun _ _ => rfl) (rcs_int (fun _ _ => rfl) (rcs_int (fun _ _ => rfl) (rcs_int (fun _ _ => rfl) rcs_nil)))) (entl_new (use_own rfl) rfl (Nat.le_of_eq rfl) (rcs_int (fun _ _ => rfl) (rcs_int (fun _ _ => rfl) (rcs_bool (fun _ _ => rfl) (rcs_bool (fun _ _ => rfl) rcs_nil)))) (entl_new (use_own rfl) rfl (Nat.le_of_eq mkl_len) (rcs_int (fun _ hj => col_mkl (fun (t : Int) => t) hj) rcs_nil) (entl_new (use_own rfl) rfl (Nat.le_of_eq rfl) (rcs_int (fun _ _ => rfl) rcs_nil) (entl_bor (use_lo rfl) rfl rfl (entl_bor (use_lo rfl) rfl rfl entl_nil))))))))
   (fun c19 h => no_some h))))
   (fun c18 h => no_some h))
   (fun c17 h => no_some h)))
   (fun c15 h => no_some h))
   (fun c14 h => no_some h))
   (fun c13 h => no_some h))
   (fun c12 h => no_some h))
   (fun c11 h => no_some h))))
   (fun c10 h => no_some h))
   (fun c9 h => no_some h))
   (fun c8 h => bif_split h
   (fun c9 h => stop_at hS _ h (fun n => bif Nat.beq n 2 then 2 else bif Nat.beq n 3 then 3 else bif Nat.beq n 4 then 4 else bif Nat.beq n 5 then 5 else bif Nat.beq n 6 then 6 else n) rfl rfl rfl ⟨(rn_loose (use_lo rfl) rfl rfl rfl), ⟨(rn_ptr (use_own rfl) rfl rfl), ⟨(rn_own (use_own rfl) rfl rfl), ⟨(rn_int rfl), ⟨(rn_own (use_own rfl) rfl mkl_len), ⟨(rn_own (use_own rfl) rfl rfl), ⟨(rn_int rfl), ⟨(rn_unk _), ⟨(rn_unk _), ⟨(rn_unk _), ⟨(rn_unk _), ⟨(rn_unk _), trivial⟩⟩⟩⟩⟩⟩⟩⟩⟩⟩⟩⟩ rfl (entl_b (use_own rfl) rfl (by simp) (rb_cells ⟨(rn_own (use_own rfl) rfl rfl), trivial⟩) (entl_new (use_own rfl) rfl (Nat.le_of_eq rfl) (rcs_int (fun _ _ => rfl) (rcs_int (fun _ _ => rfl) (rcs_int (fun _ _ => rfl) (rcs_int (fun _ _ => rfl) rcs_nil)))) (entl_new (use_own rfl) rfl (Nat.le_of_eq rfl) (rcs_int (fun _ _ => rfl) (rcs_int (fun _ _ => rfl) (rcs_bool (fun _ _ => rfl) (rcs_bool (fun _ _ => rfl) rcs_nil)))) (entl_new (use_own rfl) rfl (Nat.le_of_eq mkl_len) (rcs_int (fun _ hj => col_mkl (fun (t : Int) => t) hj) rcs_nil) (entl_new (use_own rfl) rfl (Nat.le_of_eq rfl) (rcs_int (fun _ _ => rfl) rcs_nil) (entl_bor (use_lo rfl) rfl rfl (entl_bor (use_lo rfl) rfl rfl entl_nil))))))))
   (fun c9 h => no_some h)))
   (fun c7 h => no_some h))
   (fun c6 h => no_some h))
   (fun c5 h => no_some h))))
   (fun c4 h => no_some h))))
   (fun c3 h => no_some h))
   (fun c2 h => no_some h))
   (fun c1 h => no_some h))
set_option maxRecDepth 100000 in
theorem b9_2 (al nl ml : Nat) (tl : Nat → Int) (am nm mm : Nat) (tm : Nat → Int) (Kst : KS) (Kret : KR) (x : St9 ⊕ Rt9) (hS : HS 2 400 ((I9 al nl ml tl am nm mm tm)) Kst x) (hR : HR 2 400 ((V9 al nl ml tl am nm mm tm)) (fun r => [newL (2 + 1) ((N9 al nl ml tl am nm mm tm) r) ++ [(0, (false, .cols ml [.int .u32 tl])), (1, (false, .cols mm [.int .u8 tm]))]]) Kret x) (x0 : Int) (x1 : Int) (x2 : List (Int × Int × Bool × Bool)) (x3 : List Int) (x4 : List (Int × Int × Bool × Bool)) (h : (bif (decide (x1 < x0))
 then (bif (decide ((0 : Int) ≤ x1 ∧ x1 < (↑(List.length x4) : Int)))
 then (bif (decide (Int.toNat x1 < List.length x4))
 then (bif (decide ((0 : Int) ≤ x1 ∧ x1 < (↑(List.length x3) : Int)))
 then (bif (decide (Int.toNat x1 < List.length x3))
 then (bif (decide (S.at' x3 (Int.toNat x1) < (S.at' x4 (Int.toNat x1)).1))
 then (some (.inr (false)))
 else (bif (decide (S.at' x3 (Int.toNat x1) > (S.at' x4 (Int.toNat x1)).2.1))
 then (some (.inr (false)))
 else (bif (decide ((0 : Int) ≤ x1 ∧ x1 < (↑(List.length x2) : Int)))
 then (bif (decide (Int.toNat x1 < List.length x2))
 then (bif (lim IntKind.i64
 ((S.at' x2 (Int.toNat x1)).1 + (S.at' x2 (Int.toNat x1)).2.1))
 then (bif (lim IntKind.i64 ((2 : Int) * S.at' x3 (Int.toNat x1)))
 then (bif ((S.at' x2 (Int.toNat x1)).1 + (S.at' x2 (Int.toNat x1)).2.1 !=
 (2 : Int) * S.at' x3 (Int.toNat x1))
 then (some (.inr (false)))
 else (bif (lim IntKind.i64 (x1 + (1 : Int)))
 then (some (.inl (.h2 (x0) (x1 + (1 : Int)) (x2) (x3) (x4))))
 else (none)))
 else (none))
 else (none))
 else (none))
 else (none))))
 else (none))
 else (none))
 else (none))
 else (none))
 else (some (.inr (true))) : Option (St9 ⊕ Rt9)) = some x) : T9_2 cond Kst Kret al nl ml tl am nm mm tm x0 x1 x2 x3 x4 := by
  unfold T9_2
  exact bif_split h
   (fun c0 h => bif_split h
   (fun c1 h => bif_split h
   (fun c2 h => cond_yes c2 (cond_yes c2 (cond_yes c2 (bif_split h
   (fun c3 h => bif_split h
   (fun c4 h => bif_split h
   (fun c5 h => ret_at hR _ h (fun n => n) rfl rfl rfl (rn_bool_tf rfl) rfl (entl_bor (use_lo rfl) rfl rfl (entl_bor (use_lo rfl) rfl rfl entl_nil)))
   (fun c5 h => cond_yes c3 (cond_yes c4 (bif_split h
   (fun c6 h => ret_at hR _ h (fun n => n) rfl rfl rfl (rn_bool_tf rfl) rfl (entl_bor (use_lo rfl) rfl rfl (entl_bor (use_lo rfl) rfl rfl entl_nil)))
   (fun c6 h => bif_split h
   (fun c7 h => bif_split h
   (fun c8 h => cond_yes c7 (cond_yes c8 (bif_split h
   (fun c9 h => cond_yes c3 (cond_yes c4 (bif_split h
   (fun c10 h => bif_split h
   (fun c11 h => ret_at hR _ h (fun n => n) rfl rfl rfl (rn_bool_tf rfl) rfl (entl_bor (use_lo rfl) rfl rfl (entl_bor (use_lo rfl) rfl rfl entl_nil)))
   (fun c11 h => bif_split h
   (fun c12 h => stop_at hS _ h (fun n => bif Nat.beq n 2 then 2 else bif Nat.beq n 3 then 3 else bif Nat.beq n 4 then 4 else n) rfl rfl rfl ⟨(rn_unk _), ⟨(rn_unk _), ⟨(rn_own (use_own rfl) rfl rfl), ⟨(rn_unk _), ⟨(rn_unk _), ⟨(rn_own (use_own rfl) rfl rfl), ⟨(rn_unk _), ⟨(rn_unk _), ⟨(rn_unk _), ⟨(rn_own (use_own rfl) rfl rfl), ⟨(rn_int rfl), ⟨(rn_int rfl), trivial⟩⟩⟩⟩⟩⟩⟩⟩⟩⟩⟩⟩ rfl (entl_new (use_own rfl) rfl (Nat.le_of_eq rfl) (rcs_int (fun _ _ => rfl) (rcs_int (fun _ _ => rfl) (rcs_bool (fun _ _ => rfl) (rcs_bool (fun _ _ => rfl) rcs_nil)))) (entl_new (use_own rfl) rfl (Nat.le_of_eq rfl) (rcs_int (fun _ _ => rfl) rcs_nil) (entl_new (use_own rfl) rfl (Nat.le_of_eq rfl) (rcs_int (fun _ _ => rfl) (rcs_int (fun _ _ => rfl) (rcs_bool (fun _ _ => rfl) (rcs_bool (fun _ _ => rfl) rcs_nil)))) (entl_bor (use_lo rfl) rfl rfl (entl_bor (use_lo rfl) rfl rfl entl_nil))))))
   (fun c12 h => no_some h)))
   (fun c10 h => no_some h))))
   (fun c9 h => no_some h))))
   (fun c8 h => no_some h))
   (fun c7 h => no_some h))))))
   (fun c4 h => no_some h))
   (fun c3 h => no_some h)))))
   (fun c2 h => no_some h))
   (fun c1 h => no_some h))
   (fun c0 h => ret_at hR _ h (fun n => n) rfl rfl rfl (rn_bool_tf rfl) rfl (entl_bor (use_lo rfl) rfl rfl (entl_bor (use_lo rfl) rfl rfl entl_nil)))
theorem a9 (al nl ml : Nat) (tl : Nat → Int) (am nm mm : Nat) (tm : Nat → Int) {r : Rt9} (h : Goes ((q9 al nl ml tl am nm mm tm)) ((p9 al nl ml tl am nm mm tm)) r) : CallR Try.prog 9 [.loose ⟨0, 1, al, 0⟩ nl, .loose ⟨1, 1, am, 0⟩ nm] [[(0, (false, .cols ml [.int .u32 tl])), (1, (false, .cols mm [.int .u8 tm]))]] 2 ((V9 al nl ml tl am nm mm tm) r) ((fun r => [newL (2 + 1) ((N9 al nl ml tl am nm mm tm) r) ++ [(0, (false, .cols ml [.int .u32 tl])), (1, (false, .cols mm [.int .u8 tm]))]]) r) 400 ∧ ∃ F, Try.prog.funcs[9]? = some F ∧ F.body.isSome = true ∧ (F.name == "runtime.NumGoroutine") = false := by
  refine dec_calls (f := 9) (lo := 2) (hi := 400) (H := [[(0, (false, .cols ml [.int .u32 tl])), (1, (false, .cols mm [.int .u8 tm]))]]) (args := [.loose ⟨0, 1, al, 0⟩ nl, .loose ⟨1, 1, am, 0⟩ nm]) Try.envOk Try.mixed xT_ok ((I9 al nl ml tl am nm mm tm)) ((V9 al nl ml tl am nm mm tm)) (fun r => [newL (2 + 1) ((N9 al nl ml tl am nm mm tm) r) ++ [(0, (false, .cols ml [.int .u32 tl])), (1, (false, .cols mm [.int .u8 tm]))]]) (fn := mkFn Try.f9) (ts := [1, 5, 6, 8, 9, 10, 11, 12, 13, 161, 162, 163]) (n := 400) rfl (by decide) (by simp) (names_of rfl) ?_ ?_ ?_ h
  · intro s; cases s <;> exact ⟨hd_ok _ _, by simp [I9], names_of rfl, Nat.le_of_ble_eq_true rfl⟩
  · intro Kst Kret x hS hR h
    exact Holds.eq (te9 cond Kst Kret al nl ml tl am nm mm tm) (be9 al nl ml tl am nm mm tm Kst Kret x hS hR h)
  · intro Kst Kret x hS hR s h
    cases s with
    | h0 x0 x1 x2 x3 x4 x5 => exact Holds.eq (t9_0 cond Kst Kret al nl ml tl am nm mm tm x0 x1 x2 x3 x4 x5) (b9_0 al nl ml tl am nm mm tm Kst Kret x hS hR x0 x1 x2 x3 x4 x5 h)
    | h1 x0 x1 x2 x3 x4 x5 x6 x7 => exact Holds.eq (t9_1 cond Kst Kret al nl ml tl am nm mm tm x0 x1 x2 x3 x4 x5 x6 x7) (b9_1 al nl ml tl am nm mm tm Kst Kret x hS hR x0 x1 x2 x3 x4 x5 x6 x7 h)
    | h2 x0 x1 x2 x3 x4 => exact Holds.eq (t9_2 cond Kst Kret al nl ml tl am nm mm tm x0 x1 x2 x3 x4) (b9_2 al nl ml tl am nm mm tm Kst Kret x hS hR x0 x1 x2 x3 x4 h)
noncomputable def k9 : Con := ⟨9, [.one (.list [.int .u32]), .one (.list [.int .u8])], fun (x : (Nat × Nat × Nat × (Nat → Int) × Unit) × (Nat × Nat × Nat × (Nat → Int) × Unit) × Unit) => (fun (al nl ml : Nat) (tl : Nat → Int) (am nm mm : Nat) (tm : Nat → Int) => decide (al + nl ≤ ml ∧ am + nm ≤ mm ∧ S.u32s nl (fun q => tl (q + al)) = true ∧ S.bytes nm (fun q => tm (q + am)) = true)) x.1.1 x.1.2.1 x.1.2.2.1 x.1.2.2.2.1 x.2.1.1 x.2.1.2.1 x.2.1.2.2.1 x.2.1.2.2.2.1, fun (x : (Nat × Nat × Nat × (Nat → Int) × Unit) × (Nat × Nat × Nat × (Nat → Int) × Unit) × Unit) => (fun (al nl ml : Nat) (tl : Nat → Int) (am nm mm : Nat) (tm : Nat → Int) => (V9 al nl ml tl am nm mm tm) (true)) x.1.1 x.1.2.1 x.1.2.2.1 x.1.2.2.2.1 x.2.1.1 x.2.1.2.1 x.2.1.2.2.1 x.2.1.2.2.2.1, fun (x : (Nat × Nat × Nat × (Nat → Int) × Unit) × (Nat × Nat × Nat × (Nat → Int) × Unit) × Unit) => (fun (al nl ml : Nat) (tl : Nat → Int) (am nm mm : Nat) (tm : Nat → Int) => (N9 al nl ml tl am nm mm tm) (true)) x.1.1 x.1.2.1 x.1.2.2.1 x.1.2.2.2.1 x.2.1.1 x.2.1.2.1 x.2.1.2.2.1 x.2.1.2.2.2.1, fun _ _ => .dead⟩
theorem s9a (al nl ml : Nat) (tl : Nat → Int) (am nm mm : Nat) (tm : Nat → Int) {T : List (Int × Int × Int × Int)} (ht : S.treE T.length (fun q => (S.at' T q).1) (fun q => (S.at' T q).2.1) (fun q => (S.at' T q).2.2.1) (fun q => (S.at' T q).2.2.2) = 0) (hn : T.length ≤ 31) (hm : am + nm ≤ mm) (hby : S.bytes nm (fun q => tm (q + am)) = true) (i : Nat) (hi : i < T.length) (DY : List (Int × Int × Bool × Bool)) (a : Int) (hab : 0 ≤ a ∧ a ≤ 100000000) (Q : List Int) (hQ : Q = (S.mkl T.length fun q => if q < i then S.rndT (fun q => (S.at' T q).1) (fun q => (S.at' T q).2.1) (fun q => (S.at' T q).2.2.1) (fun q => (S.at' T q).2.2.2) (fun q => tm (q + am)) nm q else 0)) (R0 : Rt9) (hR : Comes (q9 al nl ml tl am nm mm tm) (.h0 (max (max a (S.dl (fun q => (S.at' T q).1) (fun q => (S.at' T q).2.1) i - S.dl (fun q => (S.at' T q).1) (fun q => (S.at' T q).2.2.1) i)) (S.dl (fun q => (S.at' T q).1) (fun q => (S.at' T q).2.2.1) i - S.dl (fun q => (S.at' T q).1) (fun q => (S.at' T q).2.1) i)) ((i : Int) + 1) T DY (S.mkl T.length fun q => if q < i + 1 then S.rndT (fun q => (S.at' T q).1) (fun q => (S.at' T q).2.1) (fun q => (S.at' T q).2.2.1) (fun q => (S.at' T q).2.2.2) (fun q => tm (q + am)) nm q else 0) (S.mkl T.length fun q => if q < i + 1 then S.dl (fun q => (S.at' T q).1) (fun q => (S.at' T q).2.1) q else 0)) R0) : ∀ y : Nat, y < T.length → ∀ (ua va : Int) (L : List Int), Holds (ua = S.dl (fun q => (S.at' T q).1) (fun q => (S.at' T q).2.2.1) i - S.dl (fun q => (S.at' T q).1) (fun q => (S.at' T q).2.2.1) y) → Holds (va = S.dl (fun q => (S.at' T q).1) (fun q => (S.at' T q).2.1) i - S.dl (fun q => (S.at' T q).1) (fun q => (S.at' T q).2.1) y) → Holds (L = S.mkl T.length fun q => if q < i then S.dl (fun q => (S.at' T q).1) (fun q => (S.at' T q).2.1) q else if q = i then va else 0) → Comes (q9 al nl ml tl am nm mm tm) (.h1 a (i : Int) ua (y : Int) T DY Q L) R0 := by
  obtain ⟨v1, v2, v3, v4, v5, v6⟩ := tre_ok ht
  have hdi := dl_bd3 ht (x := i) hi
  have hbb : Nat.beq i i = true := Nat.beq_refl i
  have hQl : Q.length = T.length := by rw [hQ]; exact mkl_len
  refine nrec (fun q => (S.at' T q).1) (fun hy ua va L eu ev eL => ?_) (fun y h0 ih hy ua va L eu ev eL => ?_)
  · have hLl : L.length = T.length := by rw [eL.get]; exact mkl_len
    have hLi : S.at' L i = va := by rw [eL.get, at_mkl hi, if_neg (Nat.lt_irrefl i), if_pos rfl]
    have eu := eu.get
    have ev := ev.get
    rw [dl_z] at eu ev
    have q1 : L = (S.mkl T.length fun q => if q < i + 1 then S.dl (fun q => (S.at' T q).1) (fun q => (S.at' T q).2.1) q else 0) := by
      rw [eL.get]
      refine mkl_congr fun j hj => ?_
      by_cases h1 : j < i
      · rw [if_pos h1, if_pos (by omega)]
      · by_cases h2 : j = i
        · subst h2; rw [if_neg h1, if_pos rfl, if_pos (by omega), ev]; omega
        · rw [if_neg h1, if_neg h2, if_neg (by omega)]
    have e1 : S.at' L i = S.dl (fun q => (S.at' T q).1) (fun q => (S.at' T q).2.1) i := by rw [hLi, ev]; omega
    have e2 : ua = S.dl (fun q => (S.at' T q).1) (fun q => (S.at' T q).2.2.1) i := by omega
    by_cases hc : i < nm
    · have hty := of_decide_eq_true hby i hc
      have htm := tmd hty.1 (show 0 < 2 * (2 * S.dl (fun q => (S.at' T q).1) (fun q => (S.at' T q).2.2.2) i) + 1 by omega)
      replace htm : 0 ≤ Int.tmod (tm (i + am)) (2 * (2 * S.dl (fun q => (S.at' T q).1) (fun q => (S.at' T q).2.2.2) i) + 1) ∧ Int.tmod (tm (i + am)) (2 * (2 * S.dl (fun q => (S.at' T q).1) (fun q => (S.at' T q).2.2.2) i) + 1) < 2 * (2 * S.dl (fun q => (S.at' T q).1) (fun q => (S.at' T q).2.2.2) i) + 1 := htm
      replace hty : 0 ≤ tm (i + am) ∧ tm (i + am) ≤ 255 := hty
      have q2 : (S.mkl Q.length fun j => bif Nat.beq j i then max 0 ((bif Nat.beq i i then S.at' L i + ua else S.at' Q i) + Int.tmod (tm (i + am)) (2 * (2 * S.dl (fun q => (S.at' T q).1) (fun q => (S.at' T q).2.2.2) i) + 1) - 2 * S.dl (fun q => (S.at' T q).1) (fun q => (S.at' T q).2.2.2) i) else bif Nat.beq j i then S.at' L i + ua else S.at' Q j) = (S.mkl T.length fun q => if q < i + 1 then S.rndT (fun q => (S.at' T q).1) (fun q => (S.at' T q).2.1) (fun q => (S.at' T q).2.2.1) (fun q => (S.at' T q).2.2.2) (fun q => tm (q + am)) nm q else 0) := by
        rw [hQl, hbb, cond_true, e1, e2, hQ]
        exact upd_step2 (g := S.rndT (fun q => (S.at' T q).1) (fun q => (S.at' T q).2.1) (fun q => (S.at' T q).2.2.1) (fun q => (S.at' T q).2.2.2) (fun q => tm (q + am)) nm) (by unfold S.rndT; rw [if_pos hc])
      have hR2 : Comes (q9 al nl ml tl am nm mm tm) (.h0 (max (max a (S.at' L i - ua)) (ua - S.at' L i)) ((i : Int) + 1) T DY (S.mkl Q.length fun j => bif Nat.beq j i then max 0 ((bif Nat.beq i i then S.at' L i + ua else S.at' Q i) + Int.tmod (tm (i + am)) (2 * (2 * S.dl (fun q => (S.at' T q).1) (fun q => (S.at' T q).2.2.2) i) + 1) - 2 * S.dl (fun q => (S.at' T q).1) (fun q => (S.at' T q).2.2.2) i) else bif Nat.beq j i then S.at' L i + ua else S.at' Q j) L) R0 := by
        rw [q2, e1, e2]; rw [q1]; exact hR
      apply Comes.of
      show Goes _ _ _
      (first | rw [q9] | unfold q9)
      repeat' first
        | with_reducible refine goes_if (fun h => ?_) (fun h => ?_) <;> (try simp only [lim64, decide_eq_true_eq, decide_eq_false_iff_not, Int.toNat_natCast, toNat_pred, toNat_succ, Option.getD_some, Option.getD_none, Bool.not_eq_true', Bool.not_eq_false', Bool.and_eq_true, Bool.or_eq_true, Bool.and_eq_false_iff, Bool.or_eq_false_iff, bne_iff_ne, beq_iff_eq, bne_eq_false_iff_eq, beq_eq_false_iff_ne, ne_eq, not_and, Int.not_le, Int.not_lt, ge_iff_le, gt_iff_lt, Nat.not_lt, Nat.not_le, Bool.not_eq_true, Bool.not_eq_false, Bool.true_eq_false, Bool.false_eq_true, not_false_eq_true, not_true_eq_false, hbb, cond_true] at h)
        | exact goes_none.mpr (by omega)
      all_goals first | (exfalso; omega) | exact hR2
    · have q3 : (S.mkl Q.length fun j => bif Nat.beq j i then S.at' L i + ua else S.at' Q j) = (S.mkl T.length fun q => if q < i + 1 then S.rndT (fun q => (S.at' T q).1) (fun q => (S.at' T q).2.1) (fun q => (S.at' T q).2.2.1) (fun q => (S.at' T q).2.2.2) (fun q => tm (q + am)) nm q else 0) := by
        rw [hQl, e1, e2, hQ]
        exact upd_step (g := S.rndT (fun q => (S.at' T q).1) (fun q => (S.at' T q).2.1) (fun q => (S.at' T q).2.2.1) (fun q => (S.at' T q).2.2.2) (fun q => tm (q + am)) nm) (by unfold S.rndT; rw [if_neg hc])
      have hR2 : Comes (q9 al nl ml tl am nm mm tm) (.h0 (max (max a (S.at' L i - ua)) (ua - S.at' L i)) ((i : Int) + 1) T DY (S.mkl Q.length fun j => bif Nat.beq j i then S.at' L i + ua else S.at' Q j) L) R0 := by
        rw [q3, e1, e2]; rw [q1]; exact hR
      apply Comes.of
      show Goes _ _ _
      (first | rw [q9] | unfold q9)
      repeat' first
        | with_reducible refine goes_if (fun h => ?_) (fun h => ?_) <;> (try simp only [lim64, decide_eq_true_eq, decide_eq_false_iff_not, Int.toNat_natCast, toNat_pred, toNat_succ, Option.getD_some, Option.getD_none, Bool.not_eq_true', Bool.not_eq_false', Bool.and_eq_true, Bool.or_eq_true, Bool.and_eq_false_iff, Bool.or_eq_false_iff, bne_iff_ne, beq_iff_eq, bne_eq_false_iff_eq, beq_eq_false_iff_ne, ne_eq, not_and, Int.not_le, Int.not_lt, ge_iff_le, gt_iff_lt, Nat.not_lt, Nat.not_le, Bool.not_eq_true, Bool.not_eq_false, Bool.true_eq_false, Bool.false_eq_true, not_false_eq_true, not_true_eq_false, hbb, cond_true] at h)
        | exact goes_none.mpr (by omega)
      all_goals first | (exfalso; omega) | exact hR2
  · have hLl : L.length = T.length := by rw [eL.get]; exact mkl_len
    have hLi : S.at' L i = va := by rw [eL.get, at_mkl hi, if_neg (Nat.lt_irrefl i), if_pos rfl]
    have e : (S.at' T y).1 = (S.par (fun q => (S.at' T q).1) y : Int) := par_is v4 h0 hy
    have hl := par_lt (p := (fun q => (S.at' T q).1)) h0
    have hdy := dl_bd3 ht (x := y) hy
    have hdp := dl_bd3 ht (x := S.par (fun q => (S.at' T q).1) y) (by omega)
    have d1 : S.dl (fun q => (S.at' T q).1) (fun q => (S.at' T q).2.1) y = (S.at' T y).2.1 + S.dl (fun q => (S.at' T q).1) (fun q => (S.at' T q).2.1) (S.par (fun q => (S.at' T q).1) y) := dl_pos h0
    have d2 : S.dl (fun q => (S.at' T q).1) (fun q => (S.at' T q).2.2.1) y = (S.at' T y).2.2.1 + S.dl (fun q => (S.at' T q).1) (fun q => (S.at' T q).2.2.1) (S.par (fun q => (S.at' T q).1) y) := dl_pos h0
    have hvy := v5 y hy
    have ih := ih (by omega) (ua + (S.at' T y).2.2.1) (S.at' L i + (S.at' T y).2.1) (S.mkl L.length fun j => bif Nat.beq j i then S.at' L i + (S.at' T y).2.1 else S.at' L j) ⟨by have := eu.get; omega⟩ ⟨by have := ev.get; omega⟩ ⟨by
      rw [hLl]
      refine mkl_congr fun j hj => ?_
      by_cases h1 : j = i
      · subst h1; rw [Nat.beq_refl, cond_true, if_neg (Nat.lt_irrefl _), if_pos rfl]
      · rw [nbeq_no h1, cond_false, if_neg h1, eL.get, at_mkl hj, if_neg h1]⟩
    rw [← e] at ih
    have eu := eu.get
    have ev := ev.get
    try dsimp only at hvy
    apply Comes.of
    show Goes _ _ _
    (first | rw [q9] | unfold q9)
    repeat' first
      | with_reducible refine goes_if (fun h => ?_) (fun h => ?_) <;> (try simp only [lim64, decide_eq_true_eq, decide_eq_false_iff_not, Int.toNat_natCast, toNat_pred, toNat_succ, Option.getD_some, Option.getD_none, Bool.not_eq_true', Bool.not_eq_false', Bool.and_eq_true, Bool.or_eq_true, Bool.and_eq_false_iff, Bool.or_eq_false_iff, bne_iff_ne, beq_iff_eq, bne_eq_false_iff_eq, beq_eq_false_iff_ne, ne_eq, not_and, Int.not_le, Int.not_lt, ge_iff_le, gt_iff_lt, Nat.not_lt, Nat.not_le, Bool.not_eq_true, Bool.not_eq_false, Bool.true_eq_false, Bool.false_eq_true, not_false_eq_true, not_true_eq_false] at h)
      | exact goes_none.mpr (by omega)
    all_goals first | (exfalso; omega) | exact ih
theorem s9c (al nl ml : Nat) (tl : Nat → Int) (am nm mm : Nat) (tm : Nat → Int) {T : List (Int × Int × Int × Int)} (ht : S.treE T.length (fun q => (S.at' T q).1) (fun q => (S.at' T q).2.1) (fun q => (S.at' T q).2.2.1) (fun q => (S.at' T q).2.2.2) = 0) (hn : T.length ≤ 31) (hm : am + nm ≤ mm) (hby : S.bytes nm (fun q => tm (q + am)) = true) {X1 : List (Int × Int × Bool × Bool)} (hX : X1.length = T.length) (hXv : ∀ q, q < T.length → (S.at' X1 q).1 ≤ S.dl (fun q => (S.at' T q).1) (fun q => (S.at' T q).2.1) q ∧ S.dl (fun q => (S.at' T q).1) (fun q => (S.at' T q).2.1) q ≤ (S.at' X1 q).2.1) {DY : List (Int × Int × Bool × Bool)} (hD : DY.length = T.length) (hDv : ∀ q, q < T.length → (S.at' DY q).1 + (S.at' DY q).2.1 = 2 * S.dl (fun q => (S.at' T q).1) (fun q => (S.at' T q).2.1) q ∧ (S.at' DY q).1 + (S.at' DY q).2.1 ≤ 1000000000 ∧ 0 ≤ (S.at' DY q).1 + (S.at' DY q).2.1) {L : List Int} (hL : L.length = T.length) (hLv : ∀ q, q < T.length → S.at' L q = S.dl (fun q => (S.at' T q).1) (fun q => (S.at' T q).2.1) q) : ∀ k i : Nat, i + k = T.length → Comes (q9 al nl ml tl am nm mm tm) (.h2 (T.length : Int) (i : Int) DY L X1) true := by
  intro k
  induction k with
  | zero =>
    intro i hi
    apply Comes.of
    show Goes _ _ _
    (first | rw [q9] | unfold q9)
    repeat' first
      | with_reducible refine goes_if (fun h => ?_) (fun h => ?_) <;> (try simp only [lim64, decide_eq_true_eq, decide_eq_false_iff_not, Int.toNat_natCast, toNat_pred, toNat_succ, Option.getD_some, Option.getD_none, Bool.not_eq_true', Bool.not_eq_false', Bool.and_eq_true, Bool.or_eq_true, Bool.and_eq_false_iff, Bool.or_eq_false_iff, bne_iff_ne, beq_iff_eq, bne_eq_false_iff_eq, beq_eq_false_iff_ne, ne_eq, not_and, Int.not_le, Int.not_lt, ge_iff_le, gt_iff_lt, Nat.not_lt, Nat.not_le, Bool.not_eq_true, Bool.not_eq_false, Bool.true_eq_false, Bool.false_eq_true, not_false_eq_true, not_true_eq_false] at h)
      | exact goes_none.mpr (by omega)
    all_goals first | (exfalso; omega) | exact goes_inr.mpr rfl
  | succ k ih =>
    intro i hi
    have ih := ih (i + 1) (by omega)
    have h1 := hXv i (by omega)
    have h2 := hDv i (by omega)
    have h3 := hLv i (by omega)
    rw [← h3] at h1 h2
    apply Comes.of
    show Goes _ _ _
    (first | rw [q9] | unfold q9)
    repeat' first
      | with_reducible refine goes_if (fun h => ?_) (fun h => ?_) <;> (try simp only [lim64, decide_eq_true_eq, decide_eq_false_iff_not, Int.toNat_natCast, toNat_pred, toNat_succ, Option.getD_some, Option.getD_none, Bool.not_eq_true', Bool.not_eq_false', Bool.and_eq_true, Bool.or_eq_true, Bool.and_eq_false_iff, Bool.or_eq_false_iff, bne_iff_ne, beq_iff_eq, bne_eq_false_iff_eq, beq_eq_false_iff_ne, ne_eq, not_and, Int.not_le, Int.not_lt, ge_iff_le, gt_iff_lt, Nat.not_lt, Nat.not_le, Bool.not_eq_true, Bool.not_eq_false, Bool.true_eq_false, Bool.false_eq_true, not_false_eq_true, not_true_eq_false] at h)
      | exact goes_none.mpr (by omega)
    all_goals first | (exfalso; omega) | exact ih
theorem s9b (al nl ml : Nat) (tl : Nat → Int) (am nm mm : Nat) (tm : Nat → Int) {T : List (Int × Int × Int × Int)} (ht : S.treE T.length (fun q => (S.at' T q).1) (fun q => (S.at' T q).2.1) (fun q => (S.at' T q).2.2.1) (fun q => (S.at' T q).2.2.2) = 0) (hn : T.length ≤ 31) (hm : am + nm ≤ mm) (hby : S.bytes nm (fun q => tm (q + am)) = true) {DY : List (Int × Int × Bool × Bool)} (hD : DY.length = T.length) (hDv : ∀ q, q < T.length → (S.at' DY q).1 + (S.at' DY q).2.1 = 2 * S.dl (fun q => (S.at' T q).1) (fun q => (S.at' T q).2.1) q ∧ (S.at' DY q).1 + (S.at' DY q).2.1 ≤ 1000000000 ∧ 0 ≤ (S.at' DY q).1 + (S.at' DY q).2.1) : ∀ k i : Nat, i + k = T.length → 1 ≤ i → Comes (q9 al nl ml tl am nm mm tm) (.h0 (S.asyN (fun q => (S.at' T q).1) (fun q => (S.at' T q).2.1) (fun q => (S.at' T q).2.2.1) i) (i : Int) T DY (S.mkl T.length fun q => if q < i then S.rndT (fun q => (S.at' T q).1) (fun q => (S.at' T q).2.1) (fun q => (S.at' T q).2.2.1) (fun q => (S.at' T q).2.2.2) (fun q => tm (q + am)) nm q else 0) (S.mkl T.length fun q => if q < i then S.dl (fun q => (S.at' T q).1) (fun q => (S.at' T q).2.1) q else 0)) true := by
  intro k
  induction k with
  | zero =>
    intro i hi h1
    obtain rfl : T.length = i := by omega
    have hbq := of_decide_eq_true hby
    have q1 : (S.mkl T.length fun q => if q < T.length then S.dl (fun q => (S.at' T q).1) (fun q => (S.at' T q).2.1) q else 0) = (S.mkl T.length (S.dl (fun q => (S.at' T q).1) (fun q => (S.at' T q).2.1))) := mkl_congr fun j hj => if_pos hj
    have q2 : (S.mkl T.length fun q => if q < T.length then S.rndT (fun q => (S.at' T q).1) (fun q => (S.at' T q).2.1) (fun q => (S.at' T q).2.2.1) (fun q => (S.at' T q).2.2.2) (fun q => tm (q + am)) nm q else 0) = S.mkl T.length (S.rndT (fun q => (S.at' T q).1) (fun q => (S.at' T q).2.1) (fun q => (S.at' T q).2.2.1) (fun q => (S.at' T q).2.2.2) (fun q => tm (q + am)) nm) := mkl_congr fun j hj => if_pos hj
    rw [q1, q2]
    obtain ⟨m1, m2⟩ := mea_is (y := (fun q => tm (q + am))) (m := nm) (r := fun q => S.at' (S.mkl T.length (S.rndT (fun q => (S.at' T q).1) (fun q => (S.at' T q).2.1) (fun q => (S.at' T q).2.2.1) (fun q => (S.at' T q).2.2.2) (fun q => tm (q + am)) nm)) q) ht (fun q hq => (hbq q hq).1) (fun q hq => at_mkl hq)
    have hLl : (S.mkl T.length (S.rndT (fun q => (S.at' T q).1) (fun q => (S.at' T q).2.1) (fun q => (S.at' T q).2.2.1) (fun q => (S.at' T q).2.2.2) (fun q => tm (q + am)) nm)).length = T.length := mkl_len
    have hDl : (S.mkl T.length (S.dl (fun q => (S.at' T q).1) (fun q => (S.at' T q).2.1))).length = T.length := mkl_len
    have hDn : ∀ q, q < T.length → S.at' (S.mkl T.length (S.dl (fun q => (S.at' T q).1) (fun q => (S.at' T q).2.1))) q = S.dl (fun q => (S.at' T q).1) (fun q => (S.at' T q).2.1) q := fun q hq => at_mkl hq
    generalize hQ : S.mkl T.length (S.rndT (fun q => (S.at' T q).1) (fun q => (S.at' T q).2.1) (fun q => (S.at' T q).2.2.1) (fun q => (S.at' T q).2.2.2) (fun q => tm (q + am)) nm) = Q at *
    generalize (S.mkl T.length (S.dl (fun q => (S.at' T q).1) (fun q => (S.at' T q).2.1))) = L at *
    generalize hX : (S.mkl T.length fun q => if q < 1 then ((0 : Int), (0 : Int), false, false) else S.meaT (fun q => (S.at' T q).1) (fun q => (S.at' T q).2.2.2) (fun q => S.at' Q q) (S.asyN (fun q => (S.at' T q).1) (fun q => (S.at' T q).2.1) (fun q => (S.at' T q).2.2.1) T.length) q) = X1 at *
    have hXl : X1.length = T.length := by rw [← hX]; exact mkl_len
    have hXv : ∀ q, q < T.length → (S.at' X1 q).1 ≤ S.dl (fun q => (S.at' T q).1) (fun q => (S.at' T q).2.1) q ∧ S.dl (fun q => (S.at' T q).1) (fun q => (S.at' T q).2.1) q ≤ (S.at' X1 q).2.1 := by
      intro q hq
      rw [← hX, at_mkl hq]
      by_cases h9 : q < 1
      · obtain rfl : q = 0 := by omega
        rw [if_pos (by decide), dl_z]; decide
      · rw [if_neg h9]; exact m2 q hq (by omega)
    have hz := s9c al nl ml tl am nm mm tm ht hn hm hby hXl hXv hD hDv hDl hDn T.length 0 (Nat.zero_add _)
    apply Comes.of
    show Goes _ _ _
    rw [q9]
    simp only [hLl, m1, hXl]
    repeat' first
      | with_reducible refine goes_if (fun h => ?_) (fun h => ?_) <;> (try simp only [lim64, decide_eq_true_eq, decide_eq_false_iff_not, Int.toNat_natCast, toNat_pred, toNat_succ, Option.getD_some, Option.getD_none, Bool.not_eq_true', Bool.not_eq_false', Bool.and_eq_true, Bool.or_eq_true, Bool.and_eq_false_iff, Bool.or_eq_false_iff, bne_iff_ne, beq_iff_eq, bne_eq_false_iff_eq, beq_eq_false_iff_ne, ne_eq, not_and, Int.not_le, Int.not_lt, ge_iff_le, gt_iff_lt, Nat.not_lt, Nat.not_le, Bool.not_eq_true, Bool.not_eq_false, Bool.true_eq_false, Bool.false_eq_true, not_false_eq_true, not_true_eq_false] at h)
      | exact goes_none.mpr (by omega)
    all_goals first | (exfalso; omega) | exact hz | (exfalso; simp_all; done)
  | succ k ih =>
    intro i hi h1
    have ih := ih (i + 1) (by omega) (by omega)
    obtain ⟨a1, a2⟩ := asy_ok ht (i := i) (by omega)
    have hs := s9a al nl ml tl am nm mm tm ht hn hm hby i (by omega) DY (S.asyN (fun q => (S.at' T q).1) (fun q => (S.at' T q).2.1) (fun q => (S.at' T q).2.2.1) i) (by omega) _ rfl true ih i (by omega) 0 0 (S.mkl T.length fun q => if q < i then S.dl (fun q => (S.at' T q).1) (fun q => (S.at' T q).2.1) q else 0) ⟨(Int.sub_self _).symm⟩ ⟨(Int.sub_self _).symm⟩ ⟨mkl_congr fun j hj => by
      by_cases h2 : j < i
      · rw [if_pos h2, if_pos h2]
      · rw [if_neg h2, if_neg h2, ite_self]⟩
    apply Comes.of
    show Goes _ _ _
    (first | rw [q9] | unfold q9)
    repeat' first
      | with_reducible refine goes_if (fun h => ?_) (fun h => ?_) <;> (try simp only [lim64, decide_eq_true_eq, decide_eq_false_iff_not, Int.toNat_natCast, toNat_pred, toNat_succ, Option.getD_some, Option.getD_none, Bool.not_eq_true', Bool.not_eq_false', Bool.and_eq_true, Bool.or_eq_true, Bool.and_eq_false_iff, Bool.or_eq_false_iff, bne_iff_ne, beq_iff_eq, bne_eq_false_iff_eq, beq_eq_false_iff_ne, ne_eq, not_and, Int.not_le, Int.not_lt, ge_iff_le, gt_iff_lt, Nat.not_lt, Nat.not_le, Bool.not_eq_true, Bool.not_eq_false, Bool.true_eq_false, Bool.false_eq_true, not_false_eq_true, not_true_eq_false] at h)
      | exact goes_none.mpr (by omega)
    all_goals first | (exfalso; omega) | exact hs
theorem s9 (al nl ml : Nat) (tl : Nat → Int) (am nm mm : Nat) (tm : Nat → Int) (hp : al + nl ≤ ml ∧ am + nm ≤ mm ∧ S.u32s nl (fun q => tl (q + al)) = true ∧ S.bytes nm (fun q => tm (q + am)) = true) : Goes ((q9 al nl ml tl am nm mm tm)) ((p9 al nl ml tl am nm mm tm)) (true) := by
  obtain ⟨hp1, hp2, hu, hby⟩ := hp
  have ht : S.treE (S.mdL nl (fun q => tl (q + al))).length (fun q => (S.at' (S.mdL nl (fun q => tl (q + al))) q).1) (fun q => (S.at' (S.mdL nl (fun q => tl (q + al))) q).2.1) (fun q => (S.at' (S.mdL nl (fun q => tl (q + al))) q).2.2.1) (fun q => (S.at' (S.mdL nl (fun q => tl (q + al))) q).2.2.2) = 0 := mdL_ok hu
  have hlen : (S.mdL nl (fun q => tl (q + al))).length = min nl 30 + 1 := mdL_len
  by_cases hn : nl ≤ 30
  · by_cases hm : nm ≤ 40
    · have hdl := dly_is ht
      have hx := s9b al nl ml tl am nm mm tm (T := (S.mdL nl (fun q => tl (q + al)))) ht (by omega) hp2 hby (DY := (S.mkl (S.mdL nl (fun q => tl (q + al))).length (S.dlyT (fun q => (S.at' (S.mdL nl (fun q => tl (q + al))) q).1) (fun q => (S.at' (S.mdL nl (fun q => tl (q + al))) q).2.1) (fun q => (S.at' (S.mdL nl (fun q => tl (q + al))) q).2.2.2)))) mkl_len (fun q hq => by
        have h4 := dl_bd ht (x := q) hq
        rw [at_mkl hq]; simp only [S.dlyT]; omega) ((S.mdL nl (fun q => tl (q + al))).length - 1) 1 (by omega) (by decide)
      have q1 : (S.mkl (S.mdL nl (fun q => tl (q + al))).length fun q => if q < 1 then S.dl (fun q => (S.at' (S.mdL nl (fun q => tl (q + al))) q).1) (fun q => (S.at' (S.mdL nl (fun q => tl (q + al))) q).2.1) q else 0) = S.mkl (S.mdL nl (fun q => tl (q + al))).length fun j => 0 := mkl_congr fun j hj => by
        split
        · obtain rfl : j = 0 := by omega
          exact dl_z
        · rfl
      have q2 : (S.mkl (S.mdL nl (fun q => tl (q + al))).length fun q => if q < 1 then S.rndT (fun q => (S.at' (S.mdL nl (fun q => tl (q + al))) q).1) (fun q => (S.at' (S.mdL nl (fun q => tl (q + al))) q).2.1) (fun q => (S.at' (S.mdL nl (fun q => tl (q + al))) q).2.2.1) (fun q => (S.at' (S.mdL nl (fun q => tl (q + al))) q).2.2.2) (fun q => tm (q + am)) nm q else 0) = S.mkl (S.mdL nl (fun q => tl (q + al))).length fun j => 0 := mkl_congr fun j hj => by
        split
        · obtain rfl : j = 0 := by omega
          unfold S.rndT
          rw [dl_z, dl_z, dl_z]
          split
          · rw [show Int.tmod ((fun q => tm (q + am)) 0) (2 * (2 * 0) + 1) = 0 from Int.tmod_one _]; decide
          · rfl
        · rfl
      have q3 : S.asyN (fun q => (S.at' (S.mdL nl (fun q => tl (q + al))) q).1) (fun q => (S.at' (S.mdL nl (fun q => tl (q + al))) q).2.1) (fun q => (S.at' (S.mdL nl (fun q => tl (q + al))) q).2.2.1) 1 = 0 := by
        show max (max 0 (_ - _)) (_ - _) = _
        rw [dl_z, dl_z]; decide
      rw [q1, q2, q3] at hx
      have hD : (S.mkl (S.mdL nl (fun q => tl (q + al))).length (S.dlyT (fun q => (S.at' (S.mdL nl (fun q => tl (q + al))) q).1) (fun q => (S.at' (S.mdL nl (fun q => tl (q + al))) q).2.1) (fun q => (S.at' (S.mdL nl (fun q => tl (q + al))) q).2.2.2))).length = (S.mdL nl (fun q => tl (q + al))).length := mkl_len
      unfold p9
      simp only [hu, hdl, ht, hby, and_true, true_and]
      repeat' first
        | with_reducible refine goes_if (fun h => ?_) (fun h => ?_) <;> (try simp only [lim64, decide_eq_true_eq, decide_eq_false_iff_not, Int.toNat_natCast, toNat_pred, toNat_succ, Option.getD_some, Option.getD_none, Bool.not_eq_true', Bool.not_eq_false', Bool.and_eq_true, Bool.or_eq_true, Bool.and_eq_false_iff, Bool.or_eq_false_iff, bne_iff_ne, beq_iff_eq, bne_eq_false_iff_eq, beq_eq_false_iff_ne, ne_eq, not_and, Int.not_le, Int.not_lt, ge_iff_le, gt_iff_lt, Nat.not_lt, Nat.not_le, Bool.not_eq_true, Bool.not_eq_false, Bool.true_eq_false, Bool.false_eq_true, not_false_eq_true, not_true_eq_false] at h)
        | exact goes_none.mpr (by omega)
      all_goals first | (exfalso; omega) | exact hx | (exfalso; simp_all; done)
    · unfold p9
      repeat' first
        | with_reducible exact goes_inr.mpr rfl
        | (refine goes_no ?_ ?_; focus (apply decide_eq_false; omega))
        | (refine goes_ok ?_ ?_; focus (apply decide_eq_true; omega))
  · unfold p9
    repeat' first
      | with_reducible exact goes_inr.mpr rfl
      | (refine goes_no ?_ ?_; focus (apply decide_eq_false; omega))
      | (refine goes_ok ?_ ?_; focus (apply decide_eq_true; omega))

theorem k9_ok : k9.ok Try.prog := by
  intro x hx
  obtain ⟨⟨al, nl, ml, tl, _⟩, ⟨am, nm, mm, tm, _⟩, _⟩ := x
  obtain ⟨h1, h2⟩ := a9 al nl ml tl am nm mm tm (s9 al nl ml tl am nm mm tm (of_dec hx rfl))
  exact ⟨⟨400, (by decide : 2 + 1 + 0 ≤ 400), h1⟩, h2⟩

theorem pre9 {x : SsI k9.ss} (hx : ssFits k9.ss x) : (0 + x.1.1 ≤ x.1.1) ∧ (0 + x.2.1.1 ≤ x.2.1.1) ∧ (S.u32s x.1.1 fun j => x.1.2.1 (j + 0)) = true ∧ (S.bytes x.2.1.1 fun j => x.2.1.2.1 (j + 0)) = true := by
  obtain ⟨⟨n, t, u'⟩, ⟨m, t2, u2⟩, u''⟩ := x
  obtain ⟨⟨hn, ht, -⟩, ⟨hn2, ht2, -⟩, -⟩ := hx
  exact ⟨Nat.le_of_eq (Nat.zero_add _), Nat.le_of_eq (Nat.zero_add _), u32s_mk ht, bytes_mk ht2⟩

end Go.Ev
