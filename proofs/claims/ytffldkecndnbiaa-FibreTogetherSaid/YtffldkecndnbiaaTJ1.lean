/-
  The law of Together: its machine.
-/
import Derived.Test.YtffldkecndnbiaaTJ0
namespace Go.Ev
open Go.Proofs
set_option linter.unusedVariables false
set_option linter.unusedSimpArgs false
set_option maxRecDepth 100000
inductive St8 where
  | h0 (x0 : Bool) (x1 : Int) (x2 : List (Int × Int × Int × Int)) (x3 : List Int) (x4 : List Int)
  | h1 (x0 : Bool) (x1 : Int) (x2 : Int) (x3 : Int) (x4 : Int) (x5 : Int) (x6 : List (Int × Int × Int × Int)) (x7 : List Int) (x8 : List Int)
  | h2 (x0 : Bool) (x1 : Int) (x2 : Int) (x3 : Int) (x4 : Int) (x5 : Int) (x6 : Int) (x7 : Int) (x8 : Int) (x9 : Int) (x10 : Int) (x11 : Int) (x12 : Int) (x13 : List (Int × Int × Int × Int)) (x14 : List Int) (x15 : List Int) (x16 : List Int)
  | h3 (x0 : Bool) (x1 : Int) (x2 : Int) (x3 : Int) (x4 : Int) (x5 : Int) (x6 : Int) (x7 : Int) (x8 : Int) (x9 : Int) (x10 : Int) (x11 : Int) (x12 : List (Int × Int × Int × Int)) (x13 : List Int) (x14 : List Int) (x15 : List Int)
abbrev Rt8 := Bool
noncomputable def V8 (al nl ml : Nat) (tl : Nat → Int) (am nm mm : Nat) (tm : Nat → Int) (r : Rt8) : PV := PV.bool r
noncomputable def N8 (al nl ml : Nat) (tl : Nat → Int) (am nm mm : Nat) (tm : Nat → Int) (r : Rt8) : List Blk := []
noncomputable def I8 (al nl ml : Nat) (tl : Nat → Int) (am nm mm : Nat) (tm : Nat → Int) : St8 → Hd
  | .h0 x0 x1 x2 x3 x4 => ⟨hd Try.f8 0, [PV.ptr (PA.mk (2) (0) (0) (0)),
 PV.own (4) (1) (List.length x3),
 PV.int IntKind.i64
 (Prod.fst
 (S.cmpS (List.length (S.mdL nl fun (q : Nat) => tl (q + al)))
 (fun (q : Nat) => (S.at' (S.mdL nl fun (q : Nat) => tl (q + al)) q).1)
 (fun (q : Nat) => (S.at' (S.mdL nl fun (q : Nat) => tl (q + al)) q).2.1)
 (fun (q : Nat) => (S.at' (S.mdL nl fun (q : Nat) => tl (q + al)) q).2.2.1)
 (fun (q : Nat) => (S.at' (S.mdL nl fun (q : Nat) => tl (q + al)) q).2.2.2)
 (1000000000 : Int))),
 PV.own (5) (1) (List.length x4), PV.bool x0, PV.unk, PV.unk, PV.unk,
 PV.unk, PV.unk, PV.unk, PV.unk, PV.unk,
 PV.own (5) (1) (List.length x4),
 PV.int IntKind.i64
 (↑(List.length
 (Prod.snd
 (S.leaS (List.length (S.mdL nl fun (q : Nat) => tl (q + al)))
 (fun (q : Nat) => (S.at' (S.mdL nl fun (q : Nat) => tl (q + al)) q).1)
 (fun (q : Nat) => (S.at' (S.mdL nl fun (q : Nat) => tl (q + al)) q).2.1)
 (fun (q : Nat) =>
 (S.at' (S.mdL nl fun (q : Nat) => tl (q + al)) q).2.2.1)
 fun (q : Nat) =>
 (S.at' (S.mdL nl fun (q : Nat) => tl (q + al)) q).2.2.2))) :
 Int),
 PV.int IntKind.i64 x1, PV.unk, PV.unk, PV.unk, PV.unk, PV.unk, PV.unk,
 PV.unk, PV.unk, PV.unk, PV.unk], [[(2, (true, Blk.cells [PV.own (3) (4) (List.length x2)])), (3, (true, Blk.cols (List.length x2)
 [Col.int IntKind.i64 fun (j : Nat) => (S.at' x2 j).1,
 Col.int IntKind.i64 fun (j : Nat) => (S.at' x2 j).2.1,
 Col.int IntKind.i64 fun (j : Nat) => (S.at' x2 j).2.2.1,
 Col.int IntKind.i64 fun (j : Nat) => (S.at' x2 j).2.2.2])), (4, (true, Blk.cols (List.length x3) [Col.int IntKind.i64 fun (j : Nat) => S.at' x3 j])), (5, (true, Blk.cols (List.length x4) [Col.int IntKind.i64 fun (j : Nat) => S.at' x4 j]))], [(0, (false, .cols ml [.int .u32 tl])), (1, (false, .cols mm [.int .u8 tm]))]], 6⟩
  | .h1 x0 x1 x2 x3 x4 x5 x6 x7 x8 => ⟨hd Try.f8 1, [PV.ptr (PA.mk (2) (0) (0) (0)),
 PV.own (4) (1) (List.length x7),
 PV.int IntKind.i64
 (Prod.fst
 (S.cmpS (List.length (S.mdL nl fun (q : Nat) => tl (q + al)))
 (fun (q : Nat) => (S.at' (S.mdL nl fun (q : Nat) => tl (q + al)) q).1)
 (fun (q : Nat) => (S.at' (S.mdL nl fun (q : Nat) => tl (q + al)) q).2.1)
 (fun (q : Nat) => (S.at' (S.mdL nl fun (q : Nat) => tl (q + al)) q).2.2.1)
 (fun (q : Nat) => (S.at' (S.mdL nl fun (q : Nat) => tl (q + al)) q).2.2.2)
 (1000000000 : Int))),
 PV.own (5) (1) (List.length x8), PV.bool x0, PV.int IntKind.i64 x1,
 PV.int IntKind.i64 x2, PV.unk, PV.unk, PV.unk, PV.unk, PV.unk, PV.unk,
 PV.own (5) (1) (List.length x8),
 PV.int IntKind.i64
 (↑(List.length
 (Prod.snd
 (S.leaS (List.length (S.mdL nl fun (q : Nat) => tl (q + al)))
 (fun (q : Nat) => (S.at' (S.mdL nl fun (q : Nat) => tl (q + al)) q).1)
 (fun (q : Nat) => (S.at' (S.mdL nl fun (q : Nat) => tl (q + al)) q).2.1)
 (fun (q : Nat) =>
 (S.at' (S.mdL nl fun (q : Nat) => tl (q + al)) q).2.2.1)
 fun (q : Nat) =>
 (S.at' (S.mdL nl fun (q : Nat) => tl (q + al)) q).2.2.2))) :
 Int),
 PV.int IntKind.i64 x3, PV.own (5) (1) (List.length x8), PV.int IntKind.i64 x4,
 PV.int IntKind.i64 x5, PV.unk, PV.unk, PV.unk, PV.unk, PV.unk, PV.unk,
 PV.unk], [[(2, (true, Blk.cells [PV.own (3) (4) (List.length x6)])), (3, (true, Blk.cols (List.length x6)
 [Col.int IntKind.i64 fun (j : Nat) => (S.at' x6 j).1,
 Col.int IntKind.i64 fun (j : Nat) => (S.at' x6 j).2.1,
 Col.int IntKind.i64 fun (j : Nat) => (S.at' x6 j).2.2.1,
 Col.int IntKind.i64 fun (j : Nat) => (S.at' x6 j).2.2.2])), (4, (true, Blk.cols (List.length x7) [Col.int IntKind.i64 fun (j : Nat) => S.at' x7 j])), (5, (true, Blk.cols (List.length x8) [Col.int IntKind.i64 fun (j : Nat) => S.at' x8 j]))], [(0, (false, .cols ml [.int .u32 tl])), (1, (false, .cols mm [.int .u8 tm]))]], 6⟩
  | .h2 x0 x1 x2 x3 x4 x5 x6 x7 x8 x9 x10 x11 x12 x13 x14 x15 x16 => ⟨hd Try.f8 2, [PV.ptr (PA.mk (2) (0) (0) (0)),
 PV.own (4) (1) (List.length x14),
 PV.int IntKind.i64
 (Prod.fst
 (S.cmpS (List.length (S.mdL nl fun (q : Nat) => tl (q + al)))
 (fun (q : Nat) => (S.at' (S.mdL nl fun (q : Nat) => tl (q + al)) q).1)
 (fun (q : Nat) => (S.at' (S.mdL nl fun (q : Nat) => tl (q + al)) q).2.1)
 (fun (q : Nat) => (S.at' (S.mdL nl fun (q : Nat) => tl (q + al)) q).2.2.1)
 (fun (q : Nat) => (S.at' (S.mdL nl fun (q : Nat) => tl (q + al)) q).2.2.2)
 (1000000000 : Int))),
 PV.own (5) (1) (List.length x15), PV.bool x0, PV.int IntKind.i64 x1,
 PV.int IntKind.i64 x2, PV.int IntKind.i64 x3, PV.int IntKind.i64 x4,
 PV.int IntKind.i64 x5, PV.own (6) (1) (List.length x16),
 PV.int IntKind.i64 x6, PV.unk, PV.own (5) (1) (List.length x15),
 PV.int IntKind.i64
 (↑(List.length
 (Prod.snd
 (S.leaS (List.length (S.mdL nl fun (q : Nat) => tl (q + al)))
 (fun (q : Nat) => (S.at' (S.mdL nl fun (q : Nat) => tl (q + al)) q).1)
 (fun (q : Nat) => (S.at' (S.mdL nl fun (q : Nat) => tl (q + al)) q).2.1)
 (fun (q : Nat) =>
 (S.at' (S.mdL nl fun (q : Nat) => tl (q + al)) q).2.2.1)
 fun (q : Nat) =>
 (S.at' (S.mdL nl fun (q : Nat) => tl (q + al)) q).2.2.2))) :
 Int),
 PV.int IntKind.i64 x7, PV.own (5) (1) (List.length x15),
 PV.int IntKind.i64 x8, PV.int IntKind.i64 x9, PV.int IntKind.i64 x10,
 PV.tf false, PV.int IntKind.i64 x11,
 PV.ptr (PA.mk (2) (0) (0) (0)),
 PV.own (3) (4) (List.length x13), PV.int IntKind.i64 x12, PV.tf false], [[(2, (true, Blk.cells [PV.own (3) (4) (List.length x13)])), (3, (true, Blk.cols (List.length x13)
 [Col.int IntKind.i64 fun (j : Nat) => (S.at' x13 j).1,
 Col.int IntKind.i64 fun (j : Nat) => (S.at' x13 j).2.1,
 Col.int IntKind.i64 fun (j : Nat) => (S.at' x13 j).2.2.1,
 Col.int IntKind.i64 fun (j : Nat) => (S.at' x13 j).2.2.2])), (4, (true, Blk.cols (List.length x14) [Col.int IntKind.i64 fun (j : Nat) => S.at' x14 j])), (5, (true, Blk.cols (List.length x15) [Col.int IntKind.i64 fun (j : Nat) => S.at' x15 j])), (6, (true, Blk.cols (List.length x16) [Col.int IntKind.i64 fun (j : Nat) => S.at' x16 j]))], [(0, (false, .cols ml [.int .u32 tl])), (1, (false, .cols mm [.int .u8 tm]))]], 7⟩
  | .h3 x0 x1 x2 x3 x4 x5 x6 x7 x8 x9 x10 x11 x12 x13 x14 x15 => ⟨hd Try.f8 3, [PV.ptr (PA.mk (2) (0) (0) (0)),
 PV.own (4) (1) (List.length x13),
 PV.int IntKind.i64
 (Prod.fst
 (S.cmpS (List.length (S.mdL nl fun (q : Nat) => tl (q + al)))
 (fun (q : Nat) => (S.at' (S.mdL nl fun (q : Nat) => tl (q + al)) q).1)
 (fun (q : Nat) => (S.at' (S.mdL nl fun (q : Nat) => tl (q + al)) q).2.1)
 (fun (q : Nat) => (S.at' (S.mdL nl fun (q : Nat) => tl (q + al)) q).2.2.1)
 (fun (q : Nat) => (S.at' (S.mdL nl fun (q : Nat) => tl (q + al)) q).2.2.2)
 (1000000000 : Int))),
 PV.own (5) (1) (List.length x14), PV.bool x0, PV.int IntKind.i64 x1,
 PV.int IntKind.i64 x2, PV.int IntKind.i64 x3, PV.unk, PV.int IntKind.i64 x4,
 PV.own (6) (1) (List.length x15), PV.unk, PV.int IntKind.i64 x5,
 PV.own (5) (1) (List.length x14),
 PV.int IntKind.i64
 (↑(List.length
 (Prod.snd
 (S.leaS (List.length (S.mdL nl fun (q : Nat) => tl (q + al)))
 (fun (q : Nat) => (S.at' (S.mdL nl fun (q : Nat) => tl (q + al)) q).1)
 (fun (q : Nat) => (S.at' (S.mdL nl fun (q : Nat) => tl (q + al)) q).2.1)
 (fun (q : Nat) =>
 (S.at' (S.mdL nl fun (q : Nat) => tl (q + al)) q).2.2.1)
 fun (q : Nat) =>
 (S.at' (S.mdL nl fun (q : Nat) => tl (q + al)) q).2.2.2))) :
 Int),
 PV.int IntKind.i64 x6, PV.own (5) (1) (List.length x14),
 PV.int IntKind.i64 x7, PV.int IntKind.i64 x8, PV.int IntKind.i64 x9,
 PV.tf false, PV.int IntKind.i64 x10,
 PV.ptr (PA.mk (2) (0) (0) (0)),
 PV.own (3) (4) (List.length x12), PV.int IntKind.i64 x11, PV.tf false], [[(2, (true, Blk.cells [PV.own (3) (4) (List.length x12)])), (3, (true, Blk.cols (List.length x12)
 [Col.int IntKind.i64 fun (j : Nat) => (S.at' x12 j).1,
 Col.int IntKind.i64 fun (j : Nat) => (S.at' x12 j).2.1,
 Col.int IntKind.i64 fun (j : Nat) => (S.at' x12 j).2.2.1,
 Col.int IntKind.i64 fun (j : Nat) => (S.at' x12 j).2.2.2])), (4, (true, Blk.cols (List.length x13) [Col.int IntKind.i64 fun (j : Nat) => S.at' x13 j])), (5, (true, Blk.cols (List.length x14) [Col.int IntKind.i64 fun (j : Nat) => S.at' x14 j])), (6, (true, Blk.cols (List.length x15) [Col.int IntKind.i64 fun (j : Nat) => S.at' x15 j]))], [(0, (false, .cols ml [.int .u32 tl])), (1, (false, .cols mm [.int .u8 tm]))]], 7⟩
noncomputable def q8 (al nl ml : Nat) (tl : Nat → Int) (am nm mm : Nat) (tm : Nat → Int) : St8 → Option (St8 ⊕ Rt8)
  | .h0 x0 x1 x2 x3 x4 => bif (decide
 (x1 <
 (↑(List.length
 (Prod.snd
 (S.leaS (List.length (S.mdL nl fun (q : Nat) => tl (q + al)))
 (fun (q : Nat) => (S.at' (S.mdL nl fun (q : Nat) => tl (q + al)) q).1)
 (fun (q : Nat) => (S.at' (S.mdL nl fun (q : Nat) => tl (q + al)) q).2.1)
 (fun (q : Nat) =>
 (S.at' (S.mdL nl fun (q : Nat) => tl (q + al)) q).2.2.1)
 fun (q : Nat) =>
 (S.at' (S.mdL nl fun (q : Nat) => tl (q + al)) q).2.2.2))) :
 Int)))
 then (bif (decide ((0 : Int) ≤ x1 ∧ x1 < (↑(List.length x4) : Int)))
 then (bif (decide (Int.toNat x1 < List.length x4))
 then (some (.inl (.h1 (x0) (x1) (S.at' x4 (Int.toNat x1)) (x1) ((↑(List.length x4) : Int)) ((0 : Int)) (x2) (x3) (x4))))
 else (none))
 else (none))
 else (bif (x0)
 then (some (.inr (true)))
 else (some (.inr (false))))
  | .h1 x0 x1 x2 x3 x4 x5 x6 x7 x8 => bif (decide (x5 < x4))
 then (bif (decide ((0 : Int) ≤ x5 ∧ x5 < (↑(List.length x8) : Int)))
 then (bif (decide (Int.toNat x5 < List.length x8))
 then (bif (decide (0 + List.length x6 ≤ List.length x6 ∧ List.length x6 ≤ 1000000))
 then (bif (Prod.snd
 (S.comS (List.length x6) (fun (q : Nat) => (S.at' x6 q).1)
 (fun (q : Nat) => (S.at' x6 q).2.1)
 (fun (q : Nat) => (S.at' x6 q).2.2.1)
 (fun (q : Nat) => (S.at' x6 q).2.2.2) x2 (S.at' x8 (Int.toNat x5))) !=
 (0 : Int))
 then (some (.inr (false)))
 else (bif (decide
 (Prod.fst
 (S.comS (List.length x6) (fun (q : Nat) => (S.at' x6 q).1)
 (fun (q : Nat) => (S.at' x6 q).2.1)
 (fun (q : Nat) => (S.at' x6 q).2.2.1)
 (fun (q : Nat) => (S.at' x6 q).2.2.2) x2 (S.at' x8 (Int.toNat x5))) <
 (0 : Int)))
 then (some (.inr (false)))
 else (bif (decide
 (Prod.fst
 (S.comS (List.length x6) (fun (q : Nat) => (S.at' x6 q).1)
 (fun (q : Nat) => (S.at' x6 q).2.1)
 (fun (q : Nat) => (S.at' x6 q).2.2.1)
 (fun (q : Nat) => (S.at' x6 q).2.2.2) x2 (S.at' x8 (Int.toNat x5))) ≥
 (↑(List.length x6) : Int)))
 then (some (.inr (false)))
 else (bif (x1 == x5)
 then (bif (lim IntKind.i64 (x5 + (1 : Int)))
 then (some (.inl (.h1 (x0) (x1) (x2) (x3) (x4) (x5 + (1 : Int)) (x6) (x7) (x8))))
 else (none))
 else (bif (decide
 ((0 : Int) ≤ (↑(List.length x6) : Int) ∧
 (↑(List.length x6) : Int) ≤ (↑(List.length x6) : Int) ∧ (↑(List.length x6) : Int) ≤ (1000000 : Int)))
 then (some (.inl (.h2 (x0) (x1) (x2) (x5) (S.at' x8 (Int.toNat x5)) (Prod.fst
 (S.comS (List.length x6) (fun (q : Nat) => (S.at' x6 q).1)
 (fun (q : Nat) => (S.at' x6 q).2.1)
 (fun (q : Nat) => (S.at' x6 q).2.2.1)
 (fun (q : Nat) => (S.at' x6 q).2.2.2) x2 (S.at' x8 (Int.toNat x5)))) (x2) (x3) (x4) (x5) (Prod.fst
 (S.comS (List.length x6) (fun (q : Nat) => (S.at' x6 q).1)
 (fun (q : Nat) => (S.at' x6 q).2.1)
 (fun (q : Nat) => (S.at' x6 q).2.2.1)
 (fun (q : Nat) => (S.at' x6 q).2.2.2) x2 (S.at' x8 (Int.toNat x5)))) (Prod.fst
 (S.comS (List.length x6) (fun (q : Nat) => (S.at' x6 q).1)
 (fun (q : Nat) => (S.at' x6 q).2.1)
 (fun (q : Nat) => (S.at' x6 q).2.2.1)
 (fun (q : Nat) => (S.at' x6 q).2.2.2) x2 (S.at' x8 (Int.toNat x5)))) ((↑(List.length x6) : Int)) (x6) (x7) (x8) (S.mkl (List.length x6) fun (j : Nat) => (0 : Int)))))
 else (none))))))
 else (none))
 else (none))
 else (none))
 else (bif (lim IntKind.i64 (x3 + (1 : Int)))
 then (some (.inl (.h0 (x0) (x3 + (1 : Int)) (x6) (x7) (x8))))
 else (none))
  | .h2 x0 x1 x2 x3 x4 x5 x6 x7 x8 x9 x10 x11 x12 x13 x14 x15 x16 => bif (decide (x6 > x5))
 then (bif (decide ((0 : Int) ≤ x6 ∧ x6 < (↑(List.length x13) : Int)))
 then (bif (decide (Int.toNat x6 < List.length x13))
 then (bif (decide ((0 : Int) ≤ x6 ∧ x6 < (↑(List.length x16) : Int)))
 then (bif (decide (Int.toNat x6 < List.length x16))
 then (some (.inl (.h2 (x0) (x1) (x2) (x3) (x4) (x5) ((S.at' x13 (Int.toNat x6)).1) (x7) (x8) (x9) (x10) (x11) (x12) (x13) (x14) (x15) (S.mkl (List.length x16) fun (j : Nat) =>
 bif Nat.beq j (Int.toNat x6) then (S.at' x13 (Int.toNat x6)).2.2.2
 else S.at' x16 j))))
 else (none))
 else (none))
 else (none))
 else (none))
 else (some (.inl (.h3 (x0) (x1) (x2) (x3) (x5) (x4) (x7) (x8) (x9) (x10) (x11) (x12) (x13) (x14) (x15) (x16))))
  | .h3 x0 x1 x2 x3 x4 x5 x6 x7 x8 x9 x10 x11 x12 x13 x14 x15 => bif (decide (x5 > x4))
 then (bif (decide ((0 : Int) ≤ x5 ∧ x5 < (↑(List.length x12) : Int)))
 then (bif (decide (Int.toNat x5 < List.length x12))
 then (bif (lim IntKind.i64 (-(S.at' x12 (Int.toNat x5)).2.2.2))
 then (bif (decide ((0 : Int) ≤ x5 ∧ x5 < (↑(List.length x15) : Int)))
 then (bif (decide (Int.toNat x5 < List.length x15))
 then (some (.inl (.h3 (x0) (x1) (x2) (x3) (x4) ((S.at' x12 (Int.toNat x5)).1) (x6) (x7) (x8) (x9) (x10) (x11) (x12) (x13) (x14) (S.mkl (List.length x15) fun (j : Nat) =>
 bif Nat.beq j (Int.toNat x5) then -(S.at' x12 (Int.toNat x5)).2.2.2
 else S.at' x15 j))))
 else (none))
 else (none))
 else (none))
 else (none))
 else (none))
 else (bif (decide
 (0 + List.length x12 ≤ List.length x12 ∧
 List.length x12 ≤ 1000000 ∧
 0 + List.length x13 ≤ List.length x13 ∧
 List.length x13 ≤ 1000000 ∧
 0 + List.length x15 ≤ List.length x15 ∧ List.length x15 ≤ 1000000))
 then (bif (Prod.fst
 (S.actS (List.length x12) (fun (q : Nat) => (S.at' x12 q).1)
 (fun (q : Nat) => (S.at' x12 q).2.1)
 (fun (q : Nat) => (S.at' x12 q).2.2.1)
 (fun (q : Nat) => (S.at' x12 q).2.2.2) (List.length x13)
 (fun (q : Nat) => S.at' x13 q) (1000 : Int) (List.length x15) fun (q : Nat) => S.at' x15 q) !=
 (0 : Int))
 then (some (.inr (false)))
 else (bif ((↑(List.length
 (Prod.snd
 (S.actS (List.length x12) (fun (q : Nat) => (S.at' x12 q).1)
 (fun (q : Nat) => (S.at' x12 q).2.1)
 (fun (q : Nat) => (S.at' x12 q).2.2.1)
 (fun (q : Nat) => (S.at' x12 q).2.2.2) (List.length x13)
 (fun (q : Nat) => S.at' x13 q) (1000 : Int) (List.length x15) fun (q : Nat) => S.at' x15 q))) :
 Int) !=
 (↑(List.length x14) : Int))
 then (some (.inr (false)))
 else (bif (x0)
 then (bif (lim IntKind.i64 (x8 + (1 : Int)))
 then (some (.inl (.h1 (true) (x1) (x2) (x6) (x7) (x8 + (1 : Int)) (x12) (x13) (x14))))
 else (none))
 else (bif (decide
 ((0 : Int) ≤ x1 ∧
 x1 <
 (↑(List.length
 (Prod.snd
 (S.actS (List.length x12) (fun (q : Nat) => (S.at' x12 q).1)
 (fun (q : Nat) => (S.at' x12 q).2.1)
 (fun (q : Nat) => (S.at' x12 q).2.2.1)
 (fun (q : Nat) => (S.at' x12 q).2.2.2) (List.length x13)
 (fun (q : Nat) => S.at' x13 q) (1000 : Int) (List.length x15) fun (q : Nat) =>
 S.at' x15 q))) :
 Int)))
 then (bif (decide
 (Int.toNat x1 <
 List.length
 (Prod.snd
 (S.actS (List.length x12) (fun (q : Nat) => (S.at' x12 q).1)
 (fun (q : Nat) => (S.at' x12 q).2.1)
 (fun (q : Nat) => (S.at' x12 q).2.2.1)
 (fun (q : Nat) => (S.at' x12 q).2.2.2) (List.length x13)
 (fun (q : Nat) => S.at' x13 q) (1000 : Int) (List.length x15) fun (q : Nat) => S.at' x15 q))))
 then (bif (decide
 ((0 : Int) ≤ x3 ∧
 x3 <
 (↑(List.length
 (Prod.snd
 (S.actS (List.length x12) (fun (q : Nat) => (S.at' x12 q).1)
 (fun (q : Nat) => (S.at' x12 q).2.1)
 (fun (q : Nat) => (S.at' x12 q).2.2.1)
 (fun (q : Nat) => (S.at' x12 q).2.2.2) (List.length x13)
 (fun (q : Nat) => S.at' x13 q) (1000 : Int) (List.length x15) fun (q : Nat) =>
 S.at' x15 q))) :
 Int)))
 then (bif (decide
 (Int.toNat x3 <
 List.length
 (Prod.snd
 (S.actS (List.length x12) (fun (q : Nat) => (S.at' x12 q).1)
 (fun (q : Nat) => (S.at' x12 q).2.1)
 (fun (q : Nat) => (S.at' x12 q).2.2.1)
 (fun (q : Nat) => (S.at' x12 q).2.2.2) (List.length x13)
 (fun (q : Nat) => S.at' x13 q) (1000 : Int) (List.length x15) fun (q : Nat) => S.at' x15 q))))
 then (bif (lim IntKind.i64
 (S.at'
 (Prod.snd
 (S.actS (List.length x12) (fun (q : Nat) => (S.at' x12 q).1)
 (fun (q : Nat) => (S.at' x12 q).2.1)
 (fun (q : Nat) => (S.at' x12 q).2.2.1)
 (fun (q : Nat) => (S.at' x12 q).2.2.2) (List.length x13)
 (fun (q : Nat) => S.at' x13 q) (1000 : Int) (List.length x15) fun (q : Nat) => S.at' x15 q))
 (Int.toNat x1) -
 S.at'
 (Prod.snd
 (S.actS (List.length x12) (fun (q : Nat) => (S.at' x12 q).1)
 (fun (q : Nat) => (S.at' x12 q).2.1)
 (fun (q : Nat) => (S.at' x12 q).2.2.1)
 (fun (q : Nat) => (S.at' x12 q).2.2.2) (List.length x13)
 (fun (q : Nat) => S.at' x13 q) (1000 : Int) (List.length x15) fun (q : Nat) => S.at' x15 q))
 (Int.toNat x3)))
 then (bif (S.at'
 (Prod.snd
 (S.actS (List.length x12) (fun (q : Nat) => (S.at' x12 q).1)
 (fun (q : Nat) => (S.at' x12 q).2.1)
 (fun (q : Nat) => (S.at' x12 q).2.2.1)
 (fun (q : Nat) => (S.at' x12 q).2.2.2) (List.length x13)
 (fun (q : Nat) => S.at' x13 q) (1000 : Int) (List.length x15) fun (q : Nat) => S.at' x15 q))
 (Int.toNat x1) -
 S.at'
 (Prod.snd
 (S.actS (List.length x12) (fun (q : Nat) => (S.at' x12 q).1)
 (fun (q : Nat) => (S.at' x12 q).2.1)
 (fun (q : Nat) => (S.at' x12 q).2.2.1)
 (fun (q : Nat) => (S.at' x12 q).2.2.2) (List.length x13)
 (fun (q : Nat) => S.at' x13 q) (1000 : Int) (List.length x15) fun (q : Nat) => S.at' x15 q))
 (Int.toNat x3) ==
 Prod.fst
 (S.cmpS (List.length (S.mdL nl fun (q : Nat) => tl (q + al)))
 (fun (q : Nat) => (S.at' (S.mdL nl fun (q : Nat) => tl (q + al)) q).1)
 (fun (q : Nat) => (S.at' (S.mdL nl fun (q : Nat) => tl (q + al)) q).2.1)
 (fun (q : Nat) => (S.at' (S.mdL nl fun (q : Nat) => tl (q + al)) q).2.2.1)
 (fun (q : Nat) => (S.at' (S.mdL nl fun (q : Nat) => tl (q + al)) q).2.2.2)
 (1000000000 : Int)))
 then (bif (lim IntKind.i64 (x8 + (1 : Int)))
 then (some (.inl (.h1 (true) (x1) (x2) (x6) (x7) (x8 + (1 : Int)) (x12) (x13) (x14))))
 else (none))
 else (bif (lim IntKind.i64 (x8 + (1 : Int)))
 then (some (.inl (.h1 (false) (x1) (x2) (x6) (x7) (x8 + (1 : Int)) (x12) (x13) (x14))))
 else (none)))
 else (none))
 else (none))
 else (none))
 else (none))
 else (none)))))
 else (none))
noncomputable def p8 (al nl ml : Nat) (tl : Nat → Int) (am nm mm : Nat) (tm : Nat → Int) : Option (St8 ⊕ Rt8) := bif (decide ((↑nl : Int) > (30 : Int)))
 then (some (.inr (true)))
 else (bif (decide ((↑nm : Int) > (40 : Int)))
 then (some (.inr (true)))
 else (bif (decide (al + nl ≤ ml ∧ nl ≤ 1000000 ∧ (S.u32s nl fun (q : Nat) => tl (q + al)) = true))
 then (bif (decide
 (0 + List.length (S.mdL nl fun (q : Nat) => tl (q + al)) ≤
 List.length (S.mdL nl fun (q : Nat) => tl (q + al)) ∧
 List.length (S.mdL nl fun (q : Nat) => tl (q + al)) ≤ 1000000))
 then (bif (decide
 ((0 : Int) ≤ (↑(List.length (S.mdL nl fun (q : Nat) => tl (q + al))) : Int) ∧
 (↑(List.length (S.mdL nl fun (q : Nat) => tl (q + al))) : Int) ≤
 (↑(List.length (S.mdL nl fun (q : Nat) => tl (q + al))) : Int) ∧
 (↑(List.length (S.mdL nl fun (q : Nat) => tl (q + al))) : Int) ≤ (1000000 : Int)))
 then (bif (decide
 (0 + List.length (S.mdL nl fun (q : Nat) => tl (q + al)) ≤
 List.length (S.mdL nl fun (q : Nat) => tl (q + al)) ∧
 List.length (S.mdL nl fun (q : Nat) => tl (q + al)) ≤ 1000000 ∧
 0 +
 List.length
 (Prod.snd
 (Prod.snd
 (S.cmpS (List.length (S.mdL nl fun (q : Nat) => tl (q + al)))
 (fun (q : Nat) => (S.at' (S.mdL nl fun (q : Nat) => tl (q + al)) q).1)
 (fun (q : Nat) => (S.at' (S.mdL nl fun (q : Nat) => tl (q + al)) q).2.1)
 (fun (q : Nat) =>
 (S.at' (S.mdL nl fun (q : Nat) => tl (q + al)) q).2.2.1)
 (fun (q : Nat) =>
 (S.at' (S.mdL nl fun (q : Nat) => tl (q + al)) q).2.2.2)
 (1000000000 : Int)))) ≤
 List.length
 (Prod.snd
 (Prod.snd
 (S.cmpS (List.length (S.mdL nl fun (q : Nat) => tl (q + al)))
 (fun (q : Nat) => (S.at' (S.mdL nl fun (q : Nat) => tl (q + al)) q).1)
 (fun (q : Nat) => (S.at' (S.mdL nl fun (q : Nat) => tl (q + al)) q).2.1)
 (fun (q : Nat) =>
 (S.at' (S.mdL nl fun (q : Nat) => tl (q + al)) q).2.2.1)
 (fun (q : Nat) =>
 (S.at' (S.mdL nl fun (q : Nat) => tl (q + al)) q).2.2.2)
 (1000000000 : Int)))) ∧
 List.length
 (Prod.snd
 (Prod.snd
 (S.cmpS (List.length (S.mdL nl fun (q : Nat) => tl (q + al)))
 (fun (q : Nat) => (S.at' (S.mdL nl fun (q : Nat) => tl (q + al)) q).1)
 (fun (q : Nat) => (S.at' (S.mdL nl fun (q : Nat) => tl (q + al)) q).2.1)
 (fun (q : Nat) =>
 (S.at' (S.mdL nl fun (q : Nat) => tl (q + al)) q).2.2.1)
 (fun (q : Nat) =>
 (S.at' (S.mdL nl fun (q : Nat) => tl (q + al)) q).2.2.2)
 (1000000000 : Int)))) ≤
 1000000 ∧
 0 + List.length (S.mdL nl fun (q : Nat) => tl (q + al)) ≤
 List.length (S.mdL nl fun (q : Nat) => tl (q + al)) ∧
 List.length (S.mdL nl fun (q : Nat) => tl (q + al)) ≤ 1000000))
 then (bif (decide
 (0 + List.length (S.mdL nl fun (q : Nat) => tl (q + al)) ≤
 List.length (S.mdL nl fun (q : Nat) => tl (q + al)) ∧
 List.length (S.mdL nl fun (q : Nat) => tl (q + al)) ≤ 1000000 ∧
 (S.treE (List.length (S.mdL nl fun (q : Nat) => tl (q + al)))
 (fun (q : Nat) => (S.at' (S.mdL nl fun (q : Nat) => tl (q + al)) q).1)
 (fun (q : Nat) => (S.at' (S.mdL nl fun (q : Nat) => tl (q + al)) q).2.1)
 (fun (q : Nat) =>
 (S.at' (S.mdL nl fun (q : Nat) => tl (q + al)) q).2.2.1)
 fun (q : Nat) =>
 (S.at' (S.mdL nl fun (q : Nat) => tl (q + al)) q).2.2.2) =
 (0 : Int) ∧
 am + nm ≤ mm ∧ nm ≤ 1000000 ∧ (S.bytes nm fun (q : Nat) => tm (q + am)) = true))
 then (bif (decide
 (0 + List.length (S.mdL nl fun (q : Nat) => tl (q + al)) ≤
 List.length (S.mdL nl fun (q : Nat) => tl (q + al)) ∧
 List.length (S.mdL nl fun (q : Nat) => tl (q + al)) ≤ 1000000 ∧
 0 +
 List.length
 (Prod.snd
 (Prod.snd
 (S.cmpS (List.length (S.mdL nl fun (q : Nat) => tl (q + al)))
 (fun (q : Nat) => (S.at' (S.mdL nl fun (q : Nat) => tl (q + al)) q).1)
 (fun (q : Nat) => (S.at' (S.mdL nl fun (q : Nat) => tl (q + al)) q).2.1)
 (fun (q : Nat) =>
 (S.at' (S.mdL nl fun (q : Nat) => tl (q + al)) q).2.2.1)
 (fun (q : Nat) =>
 (S.at' (S.mdL nl fun (q : Nat) => tl (q + al)) q).2.2.2)
 (1000000000 : Int)))) ≤
 List.length
 (Prod.snd
 (Prod.snd
 (S.cmpS (List.length (S.mdL nl fun (q : Nat) => tl (q + al)))
 (fun (q : Nat) => (S.at' (S.mdL nl fun (q : Nat) => tl (q + al)) q).1)
 (fun (q : Nat) => (S.at' (S.mdL nl fun (q : Nat) => tl (q + al)) q).2.1)
 (fun (q : Nat) =>
 (S.at' (S.mdL nl fun (q : Nat) => tl (q + al)) q).2.2.1)
 (fun (q : Nat) =>
 (S.at' (S.mdL nl fun (q : Nat) => tl (q + al)) q).2.2.2)
 (1000000000 : Int)))) ∧
 List.length
 (Prod.snd
 (Prod.snd
 (S.cmpS (List.length (S.mdL nl fun (q : Nat) => tl (q + al)))
 (fun (q : Nat) => (S.at' (S.mdL nl fun (q : Nat) => tl (q + al)) q).1)
 (fun (q : Nat) => (S.at' (S.mdL nl fun (q : Nat) => tl (q + al)) q).2.1)
 (fun (q : Nat) =>
 (S.at' (S.mdL nl fun (q : Nat) => tl (q + al)) q).2.2.1)
 (fun (q : Nat) =>
 (S.at' (S.mdL nl fun (q : Nat) => tl (q + al)) q).2.2.2)
 (1000000000 : Int)))) ≤
 1000000 ∧
 0 +
 List.length
 (S.sprL (List.length (S.mdL nl fun (q : Nat) => tl (q + al)))
 (fun (q : Nat) =>
 (S.at' (S.mdL nl fun (q : Nat) => tl (q + al)) q).2.2.2)
 nm fun (q : Nat) => tm (q + am)) ≤
 List.length
 (S.sprL (List.length (S.mdL nl fun (q : Nat) => tl (q + al)))
 (fun (q : Nat) =>
 (S.at' (S.mdL nl fun (q : Nat) => tl (q + al)) q).2.2.2)
 nm fun (q : Nat) => tm (q + am)) ∧
 List.length
 (S.sprL (List.length (S.mdL nl fun (q : Nat) => tl (q + al)))
 (fun (q : Nat) =>
 (S.at' (S.mdL nl fun (q : Nat) => tl (q + al)) q).2.2.2)
 nm fun (q : Nat) => tm (q + am)) ≤
 1000000))
 then (bif (Prod.fst
 (Prod.snd
 (S.cmpS (List.length (S.mdL nl fun (q : Nat) => tl (q + al)))
 (fun (q : Nat) => (S.at' (S.mdL nl fun (q : Nat) => tl (q + al)) q).1)
 (fun (q : Nat) => (S.at' (S.mdL nl fun (q : Nat) => tl (q + al)) q).2.1)
 (fun (q : Nat) => (S.at' (S.mdL nl fun (q : Nat) => tl (q + al)) q).2.2.1)
 (fun (q : Nat) => (S.at' (S.mdL nl fun (q : Nat) => tl (q + al)) q).2.2.2)
 (1000000000 : Int))) !=
 (0 : Int))
 then (some (.inr (false)))
 else (bif (Prod.fst
 (S.actS (List.length (S.mdL nl fun (q : Nat) => tl (q + al)))
 (fun (q : Nat) => (S.at' (S.mdL nl fun (q : Nat) => tl (q + al)) q).1)
 (fun (q : Nat) => (S.at' (S.mdL nl fun (q : Nat) => tl (q + al)) q).2.1)
 (fun (q : Nat) => (S.at' (S.mdL nl fun (q : Nat) => tl (q + al)) q).2.2.1)
 (fun (q : Nat) => (S.at' (S.mdL nl fun (q : Nat) => tl (q + al)) q).2.2.2)
 (List.length
 (Prod.snd
 (Prod.snd
 (S.cmpS (List.length (S.mdL nl fun (q : Nat) => tl (q + al)))
 (fun (q : Nat) => (S.at' (S.mdL nl fun (q : Nat) => tl (q + al)) q).1)
 (fun (q : Nat) => (S.at' (S.mdL nl fun (q : Nat) => tl (q + al)) q).2.1)
 (fun (q : Nat) =>
 (S.at' (S.mdL nl fun (q : Nat) => tl (q + al)) q).2.2.1)
 (fun (q : Nat) =>
 (S.at' (S.mdL nl fun (q : Nat) => tl (q + al)) q).2.2.2)
 (1000000000 : Int)))))
 (fun (q : Nat) =>
 S.at'
 (Prod.snd
 (Prod.snd
 (S.cmpS (List.length (S.mdL nl fun (q : Nat) => tl (q + al)))
 (fun (q : Nat) => (S.at' (S.mdL nl fun (q : Nat) => tl (q + al)) q).1)
 (fun (q : Nat) => (S.at' (S.mdL nl fun (q : Nat) => tl (q + al)) q).2.1)
 (fun (q : Nat) =>
 (S.at' (S.mdL nl fun (q : Nat) => tl (q + al)) q).2.2.1)
 (fun (q : Nat) =>
 (S.at' (S.mdL nl fun (q : Nat) => tl (q + al)) q).2.2.2)
 (1000000000 : Int))))
 q)
 (1000 : Int) (List.length (S.mdL nl fun (q : Nat) => tl (q + al))) fun (q : Nat) => (0 : Int)) !=
 (0 : Int))
 then (some (.inr (false)))
 else (bif (Prod.fst
 (S.actS (List.length (S.mdL nl fun (q : Nat) => tl (q + al)))
 (fun (q : Nat) => (S.at' (S.mdL nl fun (q : Nat) => tl (q + al)) q).1)
 (fun (q : Nat) => (S.at' (S.mdL nl fun (q : Nat) => tl (q + al)) q).2.1)
 (fun (q : Nat) => (S.at' (S.mdL nl fun (q : Nat) => tl (q + al)) q).2.2.1)
 (fun (q : Nat) => (S.at' (S.mdL nl fun (q : Nat) => tl (q + al)) q).2.2.2)
 (List.length
 (Prod.snd
 (Prod.snd
 (S.cmpS (List.length (S.mdL nl fun (q : Nat) => tl (q + al)))
 (fun (q : Nat) => (S.at' (S.mdL nl fun (q : Nat) => tl (q + al)) q).1)
 (fun (q : Nat) => (S.at' (S.mdL nl fun (q : Nat) => tl (q + al)) q).2.1)
 (fun (q : Nat) =>
 (S.at' (S.mdL nl fun (q : Nat) => tl (q + al)) q).2.2.1)
 (fun (q : Nat) =>
 (S.at' (S.mdL nl fun (q : Nat) => tl (q + al)) q).2.2.2)
 (1000000000 : Int)))))
 (fun (q : Nat) =>
 S.at'
 (Prod.snd
 (Prod.snd
 (S.cmpS (List.length (S.mdL nl fun (q : Nat) => tl (q + al)))
 (fun (q : Nat) => (S.at' (S.mdL nl fun (q : Nat) => tl (q + al)) q).1)
 (fun (q : Nat) => (S.at' (S.mdL nl fun (q : Nat) => tl (q + al)) q).2.1)
 (fun (q : Nat) =>
 (S.at' (S.mdL nl fun (q : Nat) => tl (q + al)) q).2.2.1)
 (fun (q : Nat) =>
 (S.at' (S.mdL nl fun (q : Nat) => tl (q + al)) q).2.2.2)
 (1000000000 : Int))))
 q)
 (1000 : Int)
 (List.length
 (S.sprL (List.length (S.mdL nl fun (q : Nat) => tl (q + al)))
 (fun (q : Nat) =>
 (S.at' (S.mdL nl fun (q : Nat) => tl (q + al)) q).2.2.2)
 nm fun (q : Nat) => tm (q + am)))
 fun (q : Nat) =>
 S.at'
 (S.sprL (List.length (S.mdL nl fun (q : Nat) => tl (q + al)))
 (fun (q : Nat) =>
 (S.at' (S.mdL nl fun (q : Nat) => tl (q + al)) q).2.2.2)
 nm fun (q : Nat) => tm (q + am))
 q) !=
 (0 : Int))
 then (some (.inr (false)))
 else (bif (Prod.fst
 (S.leaS (List.length (S.mdL nl fun (q : Nat) => tl (q + al)))
 (fun (q : Nat) => (S.at' (S.mdL nl fun (q : Nat) => tl (q + al)) q).1)
 (fun (q : Nat) => (S.at' (S.mdL nl fun (q : Nat) => tl (q + al)) q).2.1)
 (fun (q : Nat) => (S.at' (S.mdL nl fun (q : Nat) => tl (q + al)) q).2.2.1)
 fun (q : Nat) => (S.at' (S.mdL nl fun (q : Nat) => tl (q + al)) q).2.2.2) !=
 (0 : Int))
 then (some (.inr (false)))
 else (bif ((↑(List.length
 (Prod.snd
 (S.actS (List.length (S.mdL nl fun (q : Nat) => tl (q + al)))
 (fun (q : Nat) => (S.at' (S.mdL nl fun (q : Nat) => tl (q + al)) q).1)
 (fun (q : Nat) => (S.at' (S.mdL nl fun (q : Nat) => tl (q + al)) q).2.1)
 (fun (q : Nat) =>
 (S.at' (S.mdL nl fun (q : Nat) => tl (q + al)) q).2.2.1)
 (fun (q : Nat) =>
 (S.at' (S.mdL nl fun (q : Nat) => tl (q + al)) q).2.2.2)
 (List.length
 (Prod.snd
 (Prod.snd
 (S.cmpS (List.length (S.mdL nl fun (q : Nat) => tl (q + al)))
 (fun (q : Nat) => (S.at' (S.mdL nl fun (q : Nat) => tl (q + al)) q).1)
 (fun (q : Nat) => (S.at' (S.mdL nl fun (q : Nat) => tl (q + al)) q).2.1)
 (fun (q : Nat) =>
 (S.at' (S.mdL nl fun (q : Nat) => tl (q + al)) q).2.2.1)
 (fun (q : Nat) =>
 (S.at' (S.mdL nl fun (q : Nat) => tl (q + al)) q).2.2.2)
 (1000000000 : Int)))))
 (fun (q : Nat) =>
 S.at'
 (Prod.snd
 (Prod.snd
 (S.cmpS (List.length (S.mdL nl fun (q : Nat) => tl (q + al)))
 (fun (q : Nat) => (S.at' (S.mdL nl fun (q : Nat) => tl (q + al)) q).1)
 (fun (q : Nat) =>
 (S.at' (S.mdL nl fun (q : Nat) => tl (q + al)) q).2.1)
 (fun (q : Nat) =>
 (S.at' (S.mdL nl fun (q : Nat) => tl (q + al)) q).2.2.1)
 (fun (q : Nat) =>
 (S.at' (S.mdL nl fun (q : Nat) => tl (q + al)) q).2.2.2)
 (1000000000 : Int))))
 q)
 (1000 : Int) (List.length (S.mdL nl fun (q : Nat) => tl (q + al))) fun (q : Nat) => (0 : Int)))) :
 Int) !=
 (↑(List.length
 (Prod.snd
 (S.leaS (List.length (S.mdL nl fun (q : Nat) => tl (q + al)))
 (fun (q : Nat) => (S.at' (S.mdL nl fun (q : Nat) => tl (q + al)) q).1)
 (fun (q : Nat) => (S.at' (S.mdL nl fun (q : Nat) => tl (q + al)) q).2.1)
 (fun (q : Nat) =>
 (S.at' (S.mdL nl fun (q : Nat) => tl (q + al)) q).2.2.1)
 fun (q : Nat) =>
 (S.at' (S.mdL nl fun (q : Nat) => tl (q + al)) q).2.2.2))) :
 Int))
 then (some (.inr (false)))
 else (bif ((↑(List.length
 (Prod.snd
 (S.actS (List.length (S.mdL nl fun (q : Nat) => tl (q + al)))
 (fun (q : Nat) => (S.at' (S.mdL nl fun (q : Nat) => tl (q + al)) q).1)
 (fun (q : Nat) => (S.at' (S.mdL nl fun (q : Nat) => tl (q + al)) q).2.1)
 (fun (q : Nat) =>
 (S.at' (S.mdL nl fun (q : Nat) => tl (q + al)) q).2.2.1)
 (fun (q : Nat) =>
 (S.at' (S.mdL nl fun (q : Nat) => tl (q + al)) q).2.2.2)
 (List.length
 (Prod.snd
 (Prod.snd
 (S.cmpS (List.length (S.mdL nl fun (q : Nat) => tl (q + al)))
 (fun (q : Nat) => (S.at' (S.mdL nl fun (q : Nat) => tl (q + al)) q).1)
 (fun (q : Nat) => (S.at' (S.mdL nl fun (q : Nat) => tl (q + al)) q).2.1)
 (fun (q : Nat) =>
 (S.at' (S.mdL nl fun (q : Nat) => tl (q + al)) q).2.2.1)
 (fun (q : Nat) =>
 (S.at' (S.mdL nl fun (q : Nat) => tl (q + al)) q).2.2.2)
 (1000000000 : Int)))))
 (fun (q : Nat) =>
 S.at'
 (Prod.snd
 (Prod.snd
 (S.cmpS (List.length (S.mdL nl fun (q : Nat) => tl (q + al)))
 (fun (q : Nat) => (S.at' (S.mdL nl fun (q : Nat) => tl (q + al)) q).1)
 (fun (q : Nat) =>
 (S.at' (S.mdL nl fun (q : Nat) => tl (q + al)) q).2.1)
 (fun (q : Nat) =>
 (S.at' (S.mdL nl fun (q : Nat) => tl (q + al)) q).2.2.1)
 (fun (q : Nat) =>
 (S.at' (S.mdL nl fun (q : Nat) => tl (q + al)) q).2.2.2)
 (1000000000 : Int))))
 q)
 (1000 : Int)
 (List.length
 (S.sprL (List.length (S.mdL nl fun (q : Nat) => tl (q + al)))
 (fun (q : Nat) =>
 (S.at' (S.mdL nl fun (q : Nat) => tl (q + al)) q).2.2.2)
 nm fun (q : Nat) => tm (q + am)))
 fun (q : Nat) =>
 S.at'
 (S.sprL (List.length (S.mdL nl fun (q : Nat) => tl (q + al)))
 (fun (q : Nat) =>
 (S.at' (S.mdL nl fun (q : Nat) => tl (q + al)) q).2.2.2)
 nm fun (q : Nat) => tm (q + am))
 q))) :
 Int) !=
 (↑(List.length
 (Prod.snd
 (S.leaS (List.length (S.mdL nl fun (q : Nat) => tl (q + al)))
 (fun (q : Nat) => (S.at' (S.mdL nl fun (q : Nat) => tl (q + al)) q).1)
 (fun (q : Nat) => (S.at' (S.mdL nl fun (q : Nat) => tl (q + al)) q).2.1)
 (fun (q : Nat) =>
 (S.at' (S.mdL nl fun (q : Nat) => tl (q + al)) q).2.2.1)
 fun (q : Nat) =>
 (S.at' (S.mdL nl fun (q : Nat) => tl (q + al)) q).2.2.2))) :
 Int))
 then (some (.inr (false)))
 else (bif ((↑(List.length
 (Prod.snd
 (S.leaS (List.length (S.mdL nl fun (q : Nat) => tl (q + al)))
 (fun (q : Nat) => (S.at' (S.mdL nl fun (q : Nat) => tl (q + al)) q).1)
 (fun (q : Nat) => (S.at' (S.mdL nl fun (q : Nat) => tl (q + al)) q).2.1)
 (fun (q : Nat) =>
 (S.at' (S.mdL nl fun (q : Nat) => tl (q + al)) q).2.2.1)
 fun (q : Nat) =>
 (S.at' (S.mdL nl fun (q : Nat) => tl (q + al)) q).2.2.2))) :
 Int) ==
 (0 : Int))
 then (some (.inr (false)))
 else (bif (decide
 (0 +
 List.length
 (Prod.snd
 (S.actS (List.length (S.mdL nl fun (q : Nat) => tl (q + al)))
 (fun (q : Nat) => (S.at' (S.mdL nl fun (q : Nat) => tl (q + al)) q).1)
 (fun (q : Nat) => (S.at' (S.mdL nl fun (q : Nat) => tl (q + al)) q).2.1)
 (fun (q : Nat) =>
 (S.at' (S.mdL nl fun (q : Nat) => tl (q + al)) q).2.2.1)
 (fun (q : Nat) =>
 (S.at' (S.mdL nl fun (q : Nat) => tl (q + al)) q).2.2.2)
 (List.length
 (Prod.snd
 (Prod.snd
 (S.cmpS (List.length (S.mdL nl fun (q : Nat) => tl (q + al)))
 (fun (q : Nat) => (S.at' (S.mdL nl fun (q : Nat) => tl (q + al)) q).1)
 (fun (q : Nat) =>
 (S.at' (S.mdL nl fun (q : Nat) => tl (q + al)) q).2.1)
 (fun (q : Nat) =>
 (S.at' (S.mdL nl fun (q : Nat) => tl (q + al)) q).2.2.1)
 (fun (q : Nat) =>
 (S.at' (S.mdL nl fun (q : Nat) => tl (q + al)) q).2.2.2)
 (1000000000 : Int)))))
 (fun (q : Nat) =>
 S.at'
 (Prod.snd
 (Prod.snd
 (S.cmpS (List.length (S.mdL nl fun (q : Nat) => tl (q + al)))
 (fun (q : Nat) => (S.at' (S.mdL nl fun (q : Nat) => tl (q + al)) q).1)
 (fun (q : Nat) =>
 (S.at' (S.mdL nl fun (q : Nat) => tl (q + al)) q).2.1)
 (fun (q : Nat) =>
 (S.at' (S.mdL nl fun (q : Nat) => tl (q + al)) q).2.2.1)
 (fun (q : Nat) =>
 (S.at' (S.mdL nl fun (q : Nat) => tl (q + al)) q).2.2.2)
 (1000000000 : Int))))
 q)
 (1000 : Int) (List.length (S.mdL nl fun (q : Nat) => tl (q + al))) fun (q : Nat) => (0 : Int))) ≤
 List.length
 (Prod.snd
 (S.actS (List.length (S.mdL nl fun (q : Nat) => tl (q + al)))
 (fun (q : Nat) => (S.at' (S.mdL nl fun (q : Nat) => tl (q + al)) q).1)
 (fun (q : Nat) => (S.at' (S.mdL nl fun (q : Nat) => tl (q + al)) q).2.1)
 (fun (q : Nat) =>
 (S.at' (S.mdL nl fun (q : Nat) => tl (q + al)) q).2.2.1)
 (fun (q : Nat) =>
 (S.at' (S.mdL nl fun (q : Nat) => tl (q + al)) q).2.2.2)
 (List.length
 (Prod.snd
 (Prod.snd
 (S.cmpS (List.length (S.mdL nl fun (q : Nat) => tl (q + al)))
 (fun (q : Nat) => (S.at' (S.mdL nl fun (q : Nat) => tl (q + al)) q).1)
 (fun (q : Nat) => (S.at' (S.mdL nl fun (q : Nat) => tl (q + al)) q).2.1)
 (fun (q : Nat) =>
 (S.at' (S.mdL nl fun (q : Nat) => tl (q + al)) q).2.2.1)
 (fun (q : Nat) =>
 (S.at' (S.mdL nl fun (q : Nat) => tl (q + al)) q).2.2.2)
 (1000000000 : Int)))))
 (fun (q : Nat) =>
 S.at'
 (Prod.snd
 (Prod.snd
 (S.cmpS (List.length (S.mdL nl fun (q : Nat) => tl (q + al)))
 (fun (q : Nat) => (S.at' (S.mdL nl fun (q : Nat) => tl (q + al)) q).1)
 (fun (q : Nat) =>
 (S.at' (S.mdL nl fun (q : Nat) => tl (q + al)) q).2.1)
 (fun (q : Nat) =>
 (S.at' (S.mdL nl fun (q : Nat) => tl (q + al)) q).2.2.1)
 (fun (q : Nat) =>
 (S.at' (S.mdL nl fun (q : Nat) => tl (q + al)) q).2.2.2)
 (1000000000 : Int))))
 q)
 (1000 : Int) (List.length (S.mdL nl fun (q : Nat) => tl (q + al))) fun (q : Nat) => (0 : Int))) ∧
 List.length
 (Prod.snd
 (S.actS (List.length (S.mdL nl fun (q : Nat) => tl (q + al)))
 (fun (q : Nat) => (S.at' (S.mdL nl fun (q : Nat) => tl (q + al)) q).1)
 (fun (q : Nat) => (S.at' (S.mdL nl fun (q : Nat) => tl (q + al)) q).2.1)
 (fun (q : Nat) =>
 (S.at' (S.mdL nl fun (q : Nat) => tl (q + al)) q).2.2.1)
 (fun (q : Nat) =>
 (S.at' (S.mdL nl fun (q : Nat) => tl (q + al)) q).2.2.2)
 (List.length
 (Prod.snd
 (Prod.snd
 (S.cmpS (List.length (S.mdL nl fun (q : Nat) => tl (q + al)))
 (fun (q : Nat) => (S.at' (S.mdL nl fun (q : Nat) => tl (q + al)) q).1)
 (fun (q : Nat) =>
 (S.at' (S.mdL nl fun (q : Nat) => tl (q + al)) q).2.1)
 (fun (q : Nat) =>
 (S.at' (S.mdL nl fun (q : Nat) => tl (q + al)) q).2.2.1)
 (fun (q : Nat) =>
 (S.at' (S.mdL nl fun (q : Nat) => tl (q + al)) q).2.2.2)
 (1000000000 : Int)))))
 (fun (q : Nat) =>
 S.at'
 (Prod.snd
 (Prod.snd
 (S.cmpS (List.length (S.mdL nl fun (q : Nat) => tl (q + al)))
 (fun (q : Nat) => (S.at' (S.mdL nl fun (q : Nat) => tl (q + al)) q).1)
 (fun (q : Nat) =>
 (S.at' (S.mdL nl fun (q : Nat) => tl (q + al)) q).2.1)
 (fun (q : Nat) =>
 (S.at' (S.mdL nl fun (q : Nat) => tl (q + al)) q).2.2.1)
 (fun (q : Nat) =>
 (S.at' (S.mdL nl fun (q : Nat) => tl (q + al)) q).2.2.2)
 (1000000000 : Int))))
 q)
 (1000 : Int) (List.length (S.mdL nl fun (q : Nat) => tl (q + al))) fun (q : Nat) => (0 : Int))) ≤
 1000000 ∧
 0 <
 List.length
 (Prod.snd
 (S.actS (List.length (S.mdL nl fun (q : Nat) => tl (q + al)))
 (fun (q : Nat) => (S.at' (S.mdL nl fun (q : Nat) => tl (q + al)) q).1)
 (fun (q : Nat) => (S.at' (S.mdL nl fun (q : Nat) => tl (q + al)) q).2.1)
 (fun (q : Nat) =>
 (S.at' (S.mdL nl fun (q : Nat) => tl (q + al)) q).2.2.1)
 (fun (q : Nat) =>
 (S.at' (S.mdL nl fun (q : Nat) => tl (q + al)) q).2.2.2)
 (List.length
 (Prod.snd
 (Prod.snd
 (S.cmpS (List.length (S.mdL nl fun (q : Nat) => tl (q + al)))
 (fun (q : Nat) => (S.at' (S.mdL nl fun (q : Nat) => tl (q + al)) q).1)
 (fun (q : Nat) =>
 (S.at' (S.mdL nl fun (q : Nat) => tl (q + al)) q).2.1)
 (fun (q : Nat) =>
 (S.at' (S.mdL nl fun (q : Nat) => tl (q + al)) q).2.2.1)
 (fun (q : Nat) =>
 (S.at' (S.mdL nl fun (q : Nat) => tl (q + al)) q).2.2.2)
 (1000000000 : Int)))))
 (fun (q : Nat) =>
 S.at'
 (Prod.snd
 (Prod.snd
 (S.cmpS (List.length (S.mdL nl fun (q : Nat) => tl (q + al)))
 (fun (q : Nat) => (S.at' (S.mdL nl fun (q : Nat) => tl (q + al)) q).1)
 (fun (q : Nat) =>
 (S.at' (S.mdL nl fun (q : Nat) => tl (q + al)) q).2.1)
 (fun (q : Nat) =>
 (S.at' (S.mdL nl fun (q : Nat) => tl (q + al)) q).2.2.1)
 (fun (q : Nat) =>
 (S.at' (S.mdL nl fun (q : Nat) => tl (q + al)) q).2.2.2)
 (1000000000 : Int))))
 q)
 (1000 : Int) (List.length (S.mdL nl fun (q : Nat) => tl (q + al))) fun (q : Nat) => (0 : Int)))))
 then (bif (S.minN
 (fun (j : Nat) =>
 S.at'
 (Prod.snd
 (S.actS (List.length (S.mdL nl fun (q : Nat) => tl (q + al)))
 (fun (q : Nat) => (S.at' (S.mdL nl fun (q : Nat) => tl (q + al)) q).1)
 (fun (q : Nat) => (S.at' (S.mdL nl fun (q : Nat) => tl (q + al)) q).2.1)
 (fun (q : Nat) =>
 (S.at' (S.mdL nl fun (q : Nat) => tl (q + al)) q).2.2.1)
 (fun (q : Nat) =>
 (S.at' (S.mdL nl fun (q : Nat) => tl (q + al)) q).2.2.2)
 (List.length
 (Prod.snd
 (Prod.snd
 (S.cmpS (List.length (S.mdL nl fun (q : Nat) => tl (q + al)))
 (fun (q : Nat) => (S.at' (S.mdL nl fun (q : Nat) => tl (q + al)) q).1)
 (fun (q : Nat) => (S.at' (S.mdL nl fun (q : Nat) => tl (q + al)) q).2.1)
 (fun (q : Nat) =>
 (S.at' (S.mdL nl fun (q : Nat) => tl (q + al)) q).2.2.1)
 (fun (q : Nat) =>
 (S.at' (S.mdL nl fun (q : Nat) => tl (q + al)) q).2.2.2)
 (1000000000 : Int)))))
 (fun (q : Nat) =>
 S.at'
 (Prod.snd
 (Prod.snd
 (S.cmpS (List.length (S.mdL nl fun (q : Nat) => tl (q + al)))
 (fun (q : Nat) => (S.at' (S.mdL nl fun (q : Nat) => tl (q + al)) q).1)
 (fun (q : Nat) =>
 (S.at' (S.mdL nl fun (q : Nat) => tl (q + al)) q).2.1)
 (fun (q : Nat) =>
 (S.at' (S.mdL nl fun (q : Nat) => tl (q + al)) q).2.2.1)
 (fun (q : Nat) =>
 (S.at' (S.mdL nl fun (q : Nat) => tl (q + al)) q).2.2.2)
 (1000000000 : Int))))
 q)
 (1000 : Int) (List.length (S.mdL nl fun (q : Nat) => tl (q + al))) fun (q : Nat) => (0 : Int)))
 j)
 (List.length
 (Prod.snd
 (S.actS (List.length (S.mdL nl fun (q : Nat) => tl (q + al)))
 (fun (q : Nat) => (S.at' (S.mdL nl fun (q : Nat) => tl (q + al)) q).1)
 (fun (q : Nat) => (S.at' (S.mdL nl fun (q : Nat) => tl (q + al)) q).2.1)
 (fun (q : Nat) =>
 (S.at' (S.mdL nl fun (q : Nat) => tl (q + al)) q).2.2.1)
 (fun (q : Nat) =>
 (S.at' (S.mdL nl fun (q : Nat) => tl (q + al)) q).2.2.2)
 (List.length
 (Prod.snd
 (Prod.snd
 (S.cmpS (List.length (S.mdL nl fun (q : Nat) => tl (q + al)))
 (fun (q : Nat) => (S.at' (S.mdL nl fun (q : Nat) => tl (q + al)) q).1)
 (fun (q : Nat) => (S.at' (S.mdL nl fun (q : Nat) => tl (q + al)) q).2.1)
 (fun (q : Nat) =>
 (S.at' (S.mdL nl fun (q : Nat) => tl (q + al)) q).2.2.1)
 (fun (q : Nat) =>
 (S.at' (S.mdL nl fun (q : Nat) => tl (q + al)) q).2.2.2)
 (1000000000 : Int)))))
 (fun (q : Nat) =>
 S.at'
 (Prod.snd
 (Prod.snd
 (S.cmpS (List.length (S.mdL nl fun (q : Nat) => tl (q + al)))
 (fun (q : Nat) => (S.at' (S.mdL nl fun (q : Nat) => tl (q + al)) q).1)
 (fun (q : Nat) =>
 (S.at' (S.mdL nl fun (q : Nat) => tl (q + al)) q).2.1)
 (fun (q : Nat) =>
 (S.at' (S.mdL nl fun (q : Nat) => tl (q + al)) q).2.2.1)
 (fun (q : Nat) =>
 (S.at' (S.mdL nl fun (q : Nat) => tl (q + al)) q).2.2.2)
 (1000000000 : Int))))
 q)
 (1000 : Int) (List.length (S.mdL nl fun (q : Nat) => tl (q + al))) fun (q : Nat) => (0 : Int))) -
 1) !=
 S.maxN
 (fun (j : Nat) =>
 S.at'
 (Prod.snd
 (S.actS (List.length (S.mdL nl fun (q : Nat) => tl (q + al)))
 (fun (q : Nat) => (S.at' (S.mdL nl fun (q : Nat) => tl (q + al)) q).1)
 (fun (q : Nat) => (S.at' (S.mdL nl fun (q : Nat) => tl (q + al)) q).2.1)
 (fun (q : Nat) =>
 (S.at' (S.mdL nl fun (q : Nat) => tl (q + al)) q).2.2.1)
 (fun (q : Nat) =>
 (S.at' (S.mdL nl fun (q : Nat) => tl (q + al)) q).2.2.2)
 (List.length
 (Prod.snd
 (Prod.snd
 (S.cmpS (List.length (S.mdL nl fun (q : Nat) => tl (q + al)))
 (fun (q : Nat) => (S.at' (S.mdL nl fun (q : Nat) => tl (q + al)) q).1)
 (fun (q : Nat) => (S.at' (S.mdL nl fun (q : Nat) => tl (q + al)) q).2.1)
 (fun (q : Nat) =>
 (S.at' (S.mdL nl fun (q : Nat) => tl (q + al)) q).2.2.1)
 (fun (q : Nat) =>
 (S.at' (S.mdL nl fun (q : Nat) => tl (q + al)) q).2.2.2)
 (1000000000 : Int)))))
 (fun (q : Nat) =>
 S.at'
 (Prod.snd
 (Prod.snd
 (S.cmpS (List.length (S.mdL nl fun (q : Nat) => tl (q + al)))
 (fun (q : Nat) => (S.at' (S.mdL nl fun (q : Nat) => tl (q + al)) q).1)
 (fun (q : Nat) =>
 (S.at' (S.mdL nl fun (q : Nat) => tl (q + al)) q).2.1)
 (fun (q : Nat) =>
 (S.at' (S.mdL nl fun (q : Nat) => tl (q + al)) q).2.2.1)
 (fun (q : Nat) =>
 (S.at' (S.mdL nl fun (q : Nat) => tl (q + al)) q).2.2.2)
 (1000000000 : Int))))
 q)
 (1000 : Int) (List.length (S.mdL nl fun (q : Nat) => tl (q + al))) fun (q : Nat) => (0 : Int)))
 j)
 (List.length
 (Prod.snd
 (S.actS (List.length (S.mdL nl fun (q : Nat) => tl (q + al)))
 (fun (q : Nat) => (S.at' (S.mdL nl fun (q : Nat) => tl (q + al)) q).1)
 (fun (q : Nat) => (S.at' (S.mdL nl fun (q : Nat) => tl (q + al)) q).2.1)
 (fun (q : Nat) =>
 (S.at' (S.mdL nl fun (q : Nat) => tl (q + al)) q).2.2.1)
 (fun (q : Nat) =>
 (S.at' (S.mdL nl fun (q : Nat) => tl (q + al)) q).2.2.2)
 (List.length
 (Prod.snd
 (Prod.snd
 (S.cmpS (List.length (S.mdL nl fun (q : Nat) => tl (q + al)))
 (fun (q : Nat) => (S.at' (S.mdL nl fun (q : Nat) => tl (q + al)) q).1)
 (fun (q : Nat) => (S.at' (S.mdL nl fun (q : Nat) => tl (q + al)) q).2.1)
 (fun (q : Nat) =>
 (S.at' (S.mdL nl fun (q : Nat) => tl (q + al)) q).2.2.1)
 (fun (q : Nat) =>
 (S.at' (S.mdL nl fun (q : Nat) => tl (q + al)) q).2.2.2)
 (1000000000 : Int)))))
 (fun (q : Nat) =>
 S.at'
 (Prod.snd
 (Prod.snd
 (S.cmpS (List.length (S.mdL nl fun (q : Nat) => tl (q + al)))
 (fun (q : Nat) => (S.at' (S.mdL nl fun (q : Nat) => tl (q + al)) q).1)
 (fun (q : Nat) =>
 (S.at' (S.mdL nl fun (q : Nat) => tl (q + al)) q).2.1)
 (fun (q : Nat) =>
 (S.at' (S.mdL nl fun (q : Nat) => tl (q + al)) q).2.2.1)
 (fun (q : Nat) =>
 (S.at' (S.mdL nl fun (q : Nat) => tl (q + al)) q).2.2.2)
 (1000000000 : Int))))
 q)
 (1000 : Int) (List.length (S.mdL nl fun (q : Nat) => tl (q + al))) fun (q : Nat) => (0 : Int))) -
 1))
 then (some (.inr (false)))
 else (bif (decide
 (0 +
 List.length
 (Prod.snd
 (S.actS (List.length (S.mdL nl fun (q : Nat) => tl (q + al)))
 (fun (q : Nat) => (S.at' (S.mdL nl fun (q : Nat) => tl (q + al)) q).1)
 (fun (q : Nat) => (S.at' (S.mdL nl fun (q : Nat) => tl (q + al)) q).2.1)
 (fun (q : Nat) =>
 (S.at' (S.mdL nl fun (q : Nat) => tl (q + al)) q).2.2.1)
 (fun (q : Nat) =>
 (S.at' (S.mdL nl fun (q : Nat) => tl (q + al)) q).2.2.2)
 (List.length
 (Prod.snd
 (Prod.snd
 (S.cmpS (List.length (S.mdL nl fun (q : Nat) => tl (q + al)))
 (fun (q : Nat) => (S.at' (S.mdL nl fun (q : Nat) => tl (q + al)) q).1)
 (fun (q : Nat) =>
 (S.at' (S.mdL nl fun (q : Nat) => tl (q + al)) q).2.1)
 (fun (q : Nat) =>
 (S.at' (S.mdL nl fun (q : Nat) => tl (q + al)) q).2.2.1)
 (fun (q : Nat) =>
 (S.at' (S.mdL nl fun (q : Nat) => tl (q + al)) q).2.2.2)
 (1000000000 : Int)))))
 (fun (q : Nat) =>
 S.at'
 (Prod.snd
 (Prod.snd
 (S.cmpS (List.length (S.mdL nl fun (q : Nat) => tl (q + al)))
 (fun (q : Nat) => (S.at' (S.mdL nl fun (q : Nat) => tl (q + al)) q).1)
 (fun (q : Nat) =>
 (S.at' (S.mdL nl fun (q : Nat) => tl (q + al)) q).2.1)
 (fun (q : Nat) =>
 (S.at' (S.mdL nl fun (q : Nat) => tl (q + al)) q).2.2.1)
 (fun (q : Nat) =>
 (S.at' (S.mdL nl fun (q : Nat) => tl (q + al)) q).2.2.2)
 (1000000000 : Int))))
 q)
 (1000 : Int)
 (List.length
 (S.sprL (List.length (S.mdL nl fun (q : Nat) => tl (q + al)))
 (fun (q : Nat) =>
 (S.at' (S.mdL nl fun (q : Nat) => tl (q + al)) q).2.2.2)
 nm fun (q : Nat) => tm (q + am)))
 fun (q : Nat) =>
 S.at'
 (S.sprL (List.length (S.mdL nl fun (q : Nat) => tl (q + al)))
 (fun (q : Nat) =>
 (S.at' (S.mdL nl fun (q : Nat) => tl (q + al)) q).2.2.2)
 nm fun (q : Nat) => tm (q + am))
 q)) ≤
 List.length
 (Prod.snd
 (S.actS (List.length (S.mdL nl fun (q : Nat) => tl (q + al)))
 (fun (q : Nat) => (S.at' (S.mdL nl fun (q : Nat) => tl (q + al)) q).1)
 (fun (q : Nat) => (S.at' (S.mdL nl fun (q : Nat) => tl (q + al)) q).2.1)
 (fun (q : Nat) =>
 (S.at' (S.mdL nl fun (q : Nat) => tl (q + al)) q).2.2.1)
 (fun (q : Nat) =>
 (S.at' (S.mdL nl fun (q : Nat) => tl (q + al)) q).2.2.2)
 (List.length
 (Prod.snd
 (Prod.snd
 (S.cmpS (List.length (S.mdL nl fun (q : Nat) => tl (q + al)))
 (fun (q : Nat) => (S.at' (S.mdL nl fun (q : Nat) => tl (q + al)) q).1)
 (fun (q : Nat) => (S.at' (S.mdL nl fun (q : Nat) => tl (q + al)) q).2.1)
 (fun (q : Nat) =>
 (S.at' (S.mdL nl fun (q : Nat) => tl (q + al)) q).2.2.1)
 (fun (q : Nat) =>
 (S.at' (S.mdL nl fun (q : Nat) => tl (q + al)) q).2.2.2)
 (1000000000 : Int)))))
 (fun (q : Nat) =>
 S.at'
 (Prod.snd
 (Prod.snd
 (S.cmpS (List.length (S.mdL nl fun (q : Nat) => tl (q + al)))
 (fun (q : Nat) => (S.at' (S.mdL nl fun (q : Nat) => tl (q + al)) q).1)
 (fun (q : Nat) =>
 (S.at' (S.mdL nl fun (q : Nat) => tl (q + al)) q).2.1)
 (fun (q : Nat) =>
 (S.at' (S.mdL nl fun (q : Nat) => tl (q + al)) q).2.2.1)
 (fun (q : Nat) =>
 (S.at' (S.mdL nl fun (q : Nat) => tl (q + al)) q).2.2.2)
 (1000000000 : Int))))
 q)
 (1000 : Int)
 (List.length
 (S.sprL (List.length (S.mdL nl fun (q : Nat) => tl (q + al)))
 (fun (q : Nat) =>
 (S.at' (S.mdL nl fun (q : Nat) => tl (q + al)) q).2.2.2)
 nm fun (q : Nat) => tm (q + am)))
 fun (q : Nat) =>
 S.at'
 (S.sprL (List.length (S.mdL nl fun (q : Nat) => tl (q + al)))
 (fun (q : Nat) =>
 (S.at' (S.mdL nl fun (q : Nat) => tl (q + al)) q).2.2.2)
 nm fun (q : Nat) => tm (q + am))
 q)) ∧
 List.length
 (Prod.snd
 (S.actS (List.length (S.mdL nl fun (q : Nat) => tl (q + al)))
 (fun (q : Nat) => (S.at' (S.mdL nl fun (q : Nat) => tl (q + al)) q).1)
 (fun (q : Nat) => (S.at' (S.mdL nl fun (q : Nat) => tl (q + al)) q).2.1)
 (fun (q : Nat) =>
 (S.at' (S.mdL nl fun (q : Nat) => tl (q + al)) q).2.2.1)
 (fun (q : Nat) =>
 (S.at' (S.mdL nl fun (q : Nat) => tl (q + al)) q).2.2.2)
 (List.length
 (Prod.snd
 (Prod.snd
 (S.cmpS (List.length (S.mdL nl fun (q : Nat) => tl (q + al)))
 (fun (q : Nat) => (S.at' (S.mdL nl fun (q : Nat) => tl (q + al)) q).1)
 (fun (q : Nat) =>
 (S.at' (S.mdL nl fun (q : Nat) => tl (q + al)) q).2.1)
 (fun (q : Nat) =>
 (S.at' (S.mdL nl fun (q : Nat) => tl (q + al)) q).2.2.1)
 (fun (q : Nat) =>
 (S.at' (S.mdL nl fun (q : Nat) => tl (q + al)) q).2.2.2)
 (1000000000 : Int)))))
 (fun (q : Nat) =>
 S.at'
 (Prod.snd
 (Prod.snd
 (S.cmpS (List.length (S.mdL nl fun (q : Nat) => tl (q + al)))
 (fun (q : Nat) => (S.at' (S.mdL nl fun (q : Nat) => tl (q + al)) q).1)
 (fun (q : Nat) =>
 (S.at' (S.mdL nl fun (q : Nat) => tl (q + al)) q).2.1)
 (fun (q : Nat) =>
 (S.at' (S.mdL nl fun (q : Nat) => tl (q + al)) q).2.2.1)
 (fun (q : Nat) =>
 (S.at' (S.mdL nl fun (q : Nat) => tl (q + al)) q).2.2.2)
 (1000000000 : Int))))
 q)
 (1000 : Int)
 (List.length
 (S.sprL (List.length (S.mdL nl fun (q : Nat) => tl (q + al)))
 (fun (q : Nat) =>
 (S.at' (S.mdL nl fun (q : Nat) => tl (q + al)) q).2.2.2)
 nm fun (q : Nat) => tm (q + am)))
 fun (q : Nat) =>
 S.at'
 (S.sprL (List.length (S.mdL nl fun (q : Nat) => tl (q + al)))
 (fun (q : Nat) =>
 (S.at' (S.mdL nl fun (q : Nat) => tl (q + al)) q).2.2.2)
 nm fun (q : Nat) => tm (q + am))
 q)) ≤
 1000000 ∧
 0 <
 List.length
 (Prod.snd
 (S.actS (List.length (S.mdL nl fun (q : Nat) => tl (q + al)))
 (fun (q : Nat) => (S.at' (S.mdL nl fun (q : Nat) => tl (q + al)) q).1)
 (fun (q : Nat) => (S.at' (S.mdL nl fun (q : Nat) => tl (q + al)) q).2.1)
 (fun (q : Nat) =>
 (S.at' (S.mdL nl fun (q : Nat) => tl (q + al)) q).2.2.1)
 (fun (q : Nat) =>
 (S.at' (S.mdL nl fun (q : Nat) => tl (q + al)) q).2.2.2)
 (List.length
 (Prod.snd
 (Prod.snd
 (S.cmpS (List.length (S.mdL nl fun (q : Nat) => tl (q + al)))
 (fun (q : Nat) => (S.at' (S.mdL nl fun (q : Nat) => tl (q + al)) q).1)
 (fun (q : Nat) =>
 (S.at' (S.mdL nl fun (q : Nat) => tl (q + al)) q).2.1)
 (fun (q : Nat) =>
 (S.at' (S.mdL nl fun (q : Nat) => tl (q + al)) q).2.2.1)
 (fun (q : Nat) =>
 (S.at' (S.mdL nl fun (q : Nat) => tl (q + al)) q).2.2.2)
 (1000000000 : Int)))))
 (fun (q : Nat) =>
 S.at'
 (Prod.snd
 (Prod.snd
 (S.cmpS (List.length (S.mdL nl fun (q : Nat) => tl (q + al)))
 (fun (q : Nat) => (S.at' (S.mdL nl fun (q : Nat) => tl (q + al)) q).1)
 (fun (q : Nat) =>
 (S.at' (S.mdL nl fun (q : Nat) => tl (q + al)) q).2.1)
 (fun (q : Nat) =>
 (S.at' (S.mdL nl fun (q : Nat) => tl (q + al)) q).2.2.1)
 (fun (q : Nat) =>
 (S.at' (S.mdL nl fun (q : Nat) => tl (q + al)) q).2.2.2)
 (1000000000 : Int))))
 q)
 (1000 : Int)
 (List.length
 (S.sprL (List.length (S.mdL nl fun (q : Nat) => tl (q + al)))
 (fun (q : Nat) =>
 (S.at' (S.mdL nl fun (q : Nat) => tl (q + al)) q).2.2.2)
 nm fun (q : Nat) => tm (q + am)))
 fun (q : Nat) =>
 S.at'
 (S.sprL (List.length (S.mdL nl fun (q : Nat) => tl (q + al)))
 (fun (q : Nat) =>
 (S.at' (S.mdL nl fun (q : Nat) => tl (q + al)) q).2.2.2)
 nm fun (q : Nat) => tm (q + am))
 q))))
 then (bif (lim IntKind.i64
 (S.maxN
 (fun (j : Nat) =>
 S.at'
 (Prod.snd
 (S.actS (List.length (S.mdL nl fun (q : Nat) => tl (q + al)))
 (fun (q : Nat) => (S.at' (S.mdL nl fun (q : Nat) => tl (q + al)) q).1)
 (fun (q : Nat) => (S.at' (S.mdL nl fun (q : Nat) => tl (q + al)) q).2.1)
 (fun (q : Nat) =>
 (S.at' (S.mdL nl fun (q : Nat) => tl (q + al)) q).2.2.1)
 (fun (q : Nat) =>
 (S.at' (S.mdL nl fun (q : Nat) => tl (q + al)) q).2.2.2)
 (List.length
 (Prod.snd
 (Prod.snd
 (S.cmpS (List.length (S.mdL nl fun (q : Nat) => tl (q + al)))
 (fun (q : Nat) => (S.at' (S.mdL nl fun (q : Nat) => tl (q + al)) q).1)
 (fun (q : Nat) =>
 (S.at' (S.mdL nl fun (q : Nat) => tl (q + al)) q).2.1)
 (fun (q : Nat) =>
 (S.at' (S.mdL nl fun (q : Nat) => tl (q + al)) q).2.2.1)
 (fun (q : Nat) =>
 (S.at' (S.mdL nl fun (q : Nat) => tl (q + al)) q).2.2.2)
 (1000000000 : Int)))))
 (fun (q : Nat) =>
 S.at'
 (Prod.snd
 (Prod.snd
 (S.cmpS (List.length (S.mdL nl fun (q : Nat) => tl (q + al)))
 (fun (q : Nat) => (S.at' (S.mdL nl fun (q : Nat) => tl (q + al)) q).1)
 (fun (q : Nat) =>
 (S.at' (S.mdL nl fun (q : Nat) => tl (q + al)) q).2.1)
 (fun (q : Nat) =>
 (S.at' (S.mdL nl fun (q : Nat) => tl (q + al)) q).2.2.1)
 (fun (q : Nat) =>
 (S.at' (S.mdL nl fun (q : Nat) => tl (q + al)) q).2.2.2)
 (1000000000 : Int))))
 q)
 (1000 : Int)
 (List.length
 (S.sprL (List.length (S.mdL nl fun (q : Nat) => tl (q + al)))
 (fun (q : Nat) =>
 (S.at' (S.mdL nl fun (q : Nat) => tl (q + al)) q).2.2.2)
 nm fun (q : Nat) => tm (q + am)))
 fun (q : Nat) =>
 S.at'
 (S.sprL (List.length (S.mdL nl fun (q : Nat) => tl (q + al)))
 (fun (q : Nat) =>
 (S.at' (S.mdL nl fun (q : Nat) => tl (q + al)) q).2.2.2)
 nm fun (q : Nat) => tm (q + am))
 q))
 j)
 (List.length
 (Prod.snd
 (S.actS (List.length (S.mdL nl fun (q : Nat) => tl (q + al)))
 (fun (q : Nat) => (S.at' (S.mdL nl fun (q : Nat) => tl (q + al)) q).1)
 (fun (q : Nat) => (S.at' (S.mdL nl fun (q : Nat) => tl (q + al)) q).2.1)
 (fun (q : Nat) =>
 (S.at' (S.mdL nl fun (q : Nat) => tl (q + al)) q).2.2.1)
 (fun (q : Nat) =>
 (S.at' (S.mdL nl fun (q : Nat) => tl (q + al)) q).2.2.2)
 (List.length
 (Prod.snd
 (Prod.snd
 (S.cmpS (List.length (S.mdL nl fun (q : Nat) => tl (q + al)))
 (fun (q : Nat) => (S.at' (S.mdL nl fun (q : Nat) => tl (q + al)) q).1)
 (fun (q : Nat) =>
 (S.at' (S.mdL nl fun (q : Nat) => tl (q + al)) q).2.1)
 (fun (q : Nat) =>
 (S.at' (S.mdL nl fun (q : Nat) => tl (q + al)) q).2.2.1)
 (fun (q : Nat) =>
 (S.at' (S.mdL nl fun (q : Nat) => tl (q + al)) q).2.2.2)
 (1000000000 : Int)))))
 (fun (q : Nat) =>
 S.at'
 (Prod.snd
 (Prod.snd
 (S.cmpS (List.length (S.mdL nl fun (q : Nat) => tl (q + al)))
 (fun (q : Nat) => (S.at' (S.mdL nl fun (q : Nat) => tl (q + al)) q).1)
 (fun (q : Nat) =>
 (S.at' (S.mdL nl fun (q : Nat) => tl (q + al)) q).2.1)
 (fun (q : Nat) =>
 (S.at' (S.mdL nl fun (q : Nat) => tl (q + al)) q).2.2.1)
 (fun (q : Nat) =>
 (S.at' (S.mdL nl fun (q : Nat) => tl (q + al)) q).2.2.2)
 (1000000000 : Int))))
 q)
 (1000 : Int)
 (List.length
 (S.sprL (List.length (S.mdL nl fun (q : Nat) => tl (q + al)))
 (fun (q : Nat) =>
 (S.at' (S.mdL nl fun (q : Nat) => tl (q + al)) q).2.2.2)
 nm fun (q : Nat) => tm (q + am)))
 fun (q : Nat) =>
 S.at'
 (S.sprL (List.length (S.mdL nl fun (q : Nat) => tl (q + al)))
 (fun (q : Nat) =>
 (S.at' (S.mdL nl fun (q : Nat) => tl (q + al)) q).2.2.2)
 nm fun (q : Nat) => tm (q + am))
 q)) -
 1) -
 S.minN
 (fun (j : Nat) =>
 S.at'
 (Prod.snd
 (S.actS (List.length (S.mdL nl fun (q : Nat) => tl (q + al)))
 (fun (q : Nat) => (S.at' (S.mdL nl fun (q : Nat) => tl (q + al)) q).1)
 (fun (q : Nat) => (S.at' (S.mdL nl fun (q : Nat) => tl (q + al)) q).2.1)
 (fun (q : Nat) =>
 (S.at' (S.mdL nl fun (q : Nat) => tl (q + al)) q).2.2.1)
 (fun (q : Nat) =>
 (S.at' (S.mdL nl fun (q : Nat) => tl (q + al)) q).2.2.2)
 (List.length
 (Prod.snd
 (Prod.snd
 (S.cmpS (List.length (S.mdL nl fun (q : Nat) => tl (q + al)))
 (fun (q : Nat) => (S.at' (S.mdL nl fun (q : Nat) => tl (q + al)) q).1)
 (fun (q : Nat) =>
 (S.at' (S.mdL nl fun (q : Nat) => tl (q + al)) q).2.1)
 (fun (q : Nat) =>
 (S.at' (S.mdL nl fun (q : Nat) => tl (q + al)) q).2.2.1)
 (fun (q : Nat) =>
 (S.at' (S.mdL nl fun (q : Nat) => tl (q + al)) q).2.2.2)
 (1000000000 : Int)))))
 (fun (q : Nat) =>
 S.at'
 (Prod.snd
 (Prod.snd
 (S.cmpS (List.length (S.mdL nl fun (q : Nat) => tl (q + al)))
 (fun (q : Nat) => (S.at' (S.mdL nl fun (q : Nat) => tl (q + al)) q).1)
 (fun (q : Nat) =>
 (S.at' (S.mdL nl fun (q : Nat) => tl (q + al)) q).2.1)
 (fun (q : Nat) =>
 (S.at' (S.mdL nl fun (q : Nat) => tl (q + al)) q).2.2.1)
 (fun (q : Nat) =>
 (S.at' (S.mdL nl fun (q : Nat) => tl (q + al)) q).2.2.2)
 (1000000000 : Int))))
 q)
 (1000 : Int)
 (List.length
 (S.sprL (List.length (S.mdL nl fun (q : Nat) => tl (q + al)))
 (fun (q : Nat) =>
 (S.at' (S.mdL nl fun (q : Nat) => tl (q + al)) q).2.2.2)
 nm fun (q : Nat) => tm (q + am)))
 fun (q : Nat) =>
 S.at'
 (S.sprL (List.length (S.mdL nl fun (q : Nat) => tl (q + al)))
 (fun (q : Nat) =>
 (S.at' (S.mdL nl fun (q : Nat) => tl (q + al)) q).2.2.2)
 nm fun (q : Nat) => tm (q + am))
 q))
 j)
 (List.length
 (Prod.snd
 (S.actS (List.length (S.mdL nl fun (q : Nat) => tl (q + al)))
 (fun (q : Nat) => (S.at' (S.mdL nl fun (q : Nat) => tl (q + al)) q).1)
 (fun (q : Nat) => (S.at' (S.mdL nl fun (q : Nat) => tl (q + al)) q).2.1)
 (fun (q : Nat) =>
 (S.at' (S.mdL nl fun (q : Nat) => tl (q + al)) q).2.2.1)
 (fun (q : Nat) =>
 (S.at' (S.mdL nl fun (q : Nat) => tl (q + al)) q).2.2.2)
 (List.length
 (Prod.snd
 (Prod.snd
 (S.cmpS (List.length (S.mdL nl fun (q : Nat) => tl (q + al)))
 (fun (q : Nat) => (S.at' (S.mdL nl fun (q : Nat) => tl (q + al)) q).1)
 (fun (q : Nat) =>
 (S.at' (S.mdL nl fun (q : Nat) => tl (q + al)) q).2.1)
 (fun (q : Nat) =>
 (S.at' (S.mdL nl fun (q : Nat) => tl (q + al)) q).2.2.1)
 (fun (q : Nat) =>
 (S.at' (S.mdL nl fun (q : Nat) => tl (q + al)) q).2.2.2)
 (1000000000 : Int)))))
 (fun (q : Nat) =>
 S.at'
 (Prod.snd
 (Prod.snd
 (S.cmpS (List.length (S.mdL nl fun (q : Nat) => tl (q + al)))
 (fun (q : Nat) => (S.at' (S.mdL nl fun (q : Nat) => tl (q + al)) q).1)
 (fun (q : Nat) =>
 (S.at' (S.mdL nl fun (q : Nat) => tl (q + al)) q).2.1)
 (fun (q : Nat) =>
 (S.at' (S.mdL nl fun (q : Nat) => tl (q + al)) q).2.2.1)
 (fun (q : Nat) =>
 (S.at' (S.mdL nl fun (q : Nat) => tl (q + al)) q).2.2.2)
 (1000000000 : Int))))
 q)
 (1000 : Int)
 (List.length
 (S.sprL (List.length (S.mdL nl fun (q : Nat) => tl (q + al)))
 (fun (q : Nat) =>
 (S.at' (S.mdL nl fun (q : Nat) => tl (q + al)) q).2.2.2)
 nm fun (q : Nat) => tm (q + am)))
 fun (q : Nat) =>
 S.at'
 (S.sprL (List.length (S.mdL nl fun (q : Nat) => tl (q + al)))
 (fun (q : Nat) =>
 (S.at' (S.mdL nl fun (q : Nat) => tl (q + al)) q).2.2.2)
 nm fun (q : Nat) => tm (q + am))
 q)) -
 1)))
 then (bif (decide
 (S.maxN
 (fun (j : Nat) =>
 S.at'
 (Prod.snd
 (S.actS (List.length (S.mdL nl fun (q : Nat) => tl (q + al)))
 (fun (q : Nat) => (S.at' (S.mdL nl fun (q : Nat) => tl (q + al)) q).1)
 (fun (q : Nat) => (S.at' (S.mdL nl fun (q : Nat) => tl (q + al)) q).2.1)
 (fun (q : Nat) =>
 (S.at' (S.mdL nl fun (q : Nat) => tl (q + al)) q).2.2.1)
 (fun (q : Nat) =>
 (S.at' (S.mdL nl fun (q : Nat) => tl (q + al)) q).2.2.2)
 (List.length
 (Prod.snd
 (Prod.snd
 (S.cmpS (List.length (S.mdL nl fun (q : Nat) => tl (q + al)))
 (fun (q : Nat) => (S.at' (S.mdL nl fun (q : Nat) => tl (q + al)) q).1)
 (fun (q : Nat) =>
 (S.at' (S.mdL nl fun (q : Nat) => tl (q + al)) q).2.1)
 (fun (q : Nat) =>
 (S.at' (S.mdL nl fun (q : Nat) => tl (q + al)) q).2.2.1)
 (fun (q : Nat) =>
 (S.at' (S.mdL nl fun (q : Nat) => tl (q + al)) q).2.2.2)
 (1000000000 : Int)))))
 (fun (q : Nat) =>
 S.at'
 (Prod.snd
 (Prod.snd
 (S.cmpS (List.length (S.mdL nl fun (q : Nat) => tl (q + al)))
 (fun (q : Nat) => (S.at' (S.mdL nl fun (q : Nat) => tl (q + al)) q).1)
 (fun (q : Nat) =>
 (S.at' (S.mdL nl fun (q : Nat) => tl (q + al)) q).2.1)
 (fun (q : Nat) =>
 Prod.fst
 ((S.at' (S.mdL nl fun (q : Nat) => tl (q + al)) q).2.2))
 (fun (q : Nat) =>
 Prod.snd
 ((S.at' (S.mdL nl fun (q : Nat) => tl (q + al)) q).2.2))
 (1000000000 : Int))))
 q)
 (1000 : Int)
 (List.length
 (S.sprL (List.length (S.mdL nl fun (q : Nat) => tl (q + al)))
 (fun (q : Nat) =>
 (S.at' (S.mdL nl fun (q : Nat) => tl (q + al)) q).2.2.2)
 nm fun (q : Nat) => tm (q + am)))
 fun (q : Nat) =>
 S.at'
 (S.sprL (List.length (S.mdL nl fun (q : Nat) => tl (q + al)))
 (fun (q : Nat) =>
 (S.at' (S.mdL nl fun (q : Nat) => tl (q + al)) q).2.2.2)
 nm fun (q : Nat) => tm (q + am))
 q))
 j)
 (List.length
 (Prod.snd
 (S.actS (List.length (S.mdL nl fun (q : Nat) => tl (q + al)))
 (fun (q : Nat) => (S.at' (S.mdL nl fun (q : Nat) => tl (q + al)) q).1)
 (fun (q : Nat) => (S.at' (S.mdL nl fun (q : Nat) => tl (q + al)) q).2.1)
 (fun (q : Nat) =>
 (S.at' (S.mdL nl fun (q : Nat) => tl (q + al)) q).2.2.1)
 (fun (q : Nat) =>
 (S.at' (S.mdL nl fun (q : Nat) => tl (q + al)) q).2.2.2)
 (List.length
 (Prod.snd
 (Prod.snd
 (S.cmpS (List.length (S.mdL nl fun (q : Nat) => tl (q + al)))
 (fun (q : Nat) => (S.at' (S.mdL nl fun (q : Nat) => tl (q + al)) q).1)
 (fun (q : Nat) =>
 (S.at' (S.mdL nl fun (q : Nat) => tl (q + al)) q).2.1)
 (fun (q : Nat) =>
 (S.at' (S.mdL nl fun (q : Nat) => tl (q + al)) q).2.2.1)
 (fun (q : Nat) =>
 (S.at' (S.mdL nl fun (q : Nat) => tl (q + al)) q).2.2.2)
 (1000000000 : Int)))))
 (fun (q : Nat) =>
 S.at'
 (Prod.snd
 (Prod.snd
 (S.cmpS (List.length (S.mdL nl fun (q : Nat) => tl (q + al)))
 (fun (q : Nat) => (S.at' (S.mdL nl fun (q : Nat) => tl (q + al)) q).1)
 (fun (q : Nat) =>
 (S.at' (S.mdL nl fun (q : Nat) => tl (q + al)) q).2.1)
 (fun (q : Nat) =>
 Prod.fst
 ((S.at' (S.mdL nl fun (q : Nat) => tl (q + al)) q).2.2))
 (fun (q : Nat) =>
 Prod.snd
 ((S.at' (S.mdL nl fun (q : Nat) => tl (q + al)) q).2.2))
 (1000000000 : Int))))
 q)
 (1000 : Int)
 (List.length
 (S.sprL (List.length (S.mdL nl fun (q : Nat) => tl (q + al)))
 (fun (q : Nat) =>
 (S.at' (S.mdL nl fun (q : Nat) => tl (q + al)) q).2.2.2)
 nm fun (q : Nat) => tm (q + am)))
 fun (q : Nat) =>
 S.at'
 (S.sprL (List.length (S.mdL nl fun (q : Nat) => tl (q + al)))
 (fun (q : Nat) =>
 (S.at' (S.mdL nl fun (q : Nat) => tl (q + al)) q).2.2.2)
 nm fun (q : Nat) => tm (q + am))
 q)) -
 1) -
 S.minN
 (fun (j : Nat) =>
 S.at'
 (Prod.snd
 (S.actS (List.length (S.mdL nl fun (q : Nat) => tl (q + al)))
 (fun (q : Nat) => (S.at' (S.mdL nl fun (q : Nat) => tl (q + al)) q).1)
 (fun (q : Nat) => (S.at' (S.mdL nl fun (q : Nat) => tl (q + al)) q).2.1)
 (fun (q : Nat) =>
 (S.at' (S.mdL nl fun (q : Nat) => tl (q + al)) q).2.2.1)
 (fun (q : Nat) =>
 (S.at' (S.mdL nl fun (q : Nat) => tl (q + al)) q).2.2.2)
 (List.length
 (Prod.snd
 (Prod.snd
 (S.cmpS (List.length (S.mdL nl fun (q : Nat) => tl (q + al)))
 (fun (q : Nat) => (S.at' (S.mdL nl fun (q : Nat) => tl (q + al)) q).1)
 (fun (q : Nat) =>
 (S.at' (S.mdL nl fun (q : Nat) => tl (q + al)) q).2.1)
 (fun (q : Nat) =>
 (S.at' (S.mdL nl fun (q : Nat) => tl (q + al)) q).2.2.1)
 (fun (q : Nat) =>
 (S.at' (S.mdL nl fun (q : Nat) => tl (q + al)) q).2.2.2)
 (1000000000 : Int)))))
 (fun (q : Nat) =>
 S.at'
 (Prod.snd
 (Prod.snd
 (S.cmpS (List.length (S.mdL nl fun (q : Nat) => tl (q + al)))
 (fun (q : Nat) => (S.at' (S.mdL nl fun (q : Nat) => tl (q + al)) q).1)
 (fun (q : Nat) =>
 (S.at' (S.mdL nl fun (q : Nat) => tl (q + al)) q).2.1)
 (fun (q : Nat) =>
 Prod.fst
 ((S.at' (S.mdL nl fun (q : Nat) => tl (q + al)) q).2.2))
 (fun (q : Nat) =>
 Prod.snd
 ((S.at' (S.mdL nl fun (q : Nat) => tl (q + al)) q).2.2))
 (1000000000 : Int))))
 q)
 (1000 : Int)
 (List.length
 (S.sprL (List.length (S.mdL nl fun (q : Nat) => tl (q + al)))
 (fun (q : Nat) =>
 (S.at' (S.mdL nl fun (q : Nat) => tl (q + al)) q).2.2.2)
 nm fun (q : Nat) => tm (q + am)))
 fun (q : Nat) =>
 S.at'
 (S.sprL (List.length (S.mdL nl fun (q : Nat) => tl (q + al)))
 (fun (q : Nat) =>
 (S.at' (S.mdL nl fun (q : Nat) => tl (q + al)) q).2.2.2)
 nm fun (q : Nat) => tm (q + am))
 q))
 j)
 (List.length
 (Prod.snd
 (S.actS (List.length (S.mdL nl fun (q : Nat) => tl (q + al)))
 (fun (q : Nat) => (S.at' (S.mdL nl fun (q : Nat) => tl (q + al)) q).1)
 (fun (q : Nat) => (S.at' (S.mdL nl fun (q : Nat) => tl (q + al)) q).2.1)
 (fun (q : Nat) =>
 (S.at' (S.mdL nl fun (q : Nat) => tl (q + al)) q).2.2.1)
 (fun (q : Nat) =>
 (S.at' (S.mdL nl fun (q : Nat) => tl (q + al)) q).2.2.2)
 (List.length
 (Prod.snd
 (Prod.snd
 (S.cmpS (List.length (S.mdL nl fun (q : Nat) => tl (q + al)))
 (fun (q : Nat) => (S.at' (S.mdL nl fun (q : Nat) => tl (q + al)) q).1)
 (fun (q : Nat) =>
 (S.at' (S.mdL nl fun (q : Nat) => tl (q + al)) q).2.1)
 (fun (q : Nat) =>
 (S.at' (S.mdL nl fun (q : Nat) => tl (q + al)) q).2.2.1)
 (fun (q : Nat) =>
 (S.at' (S.mdL nl fun (q : Nat) => tl (q + al)) q).2.2.2)
 (1000000000 : Int)))))
 (fun (q : Nat) =>
 S.at'
 (Prod.snd
 (Prod.snd
 (S.cmpS (List.length (S.mdL nl fun (q : Nat) => tl (q + al)))
 (fun (q : Nat) => (S.at' (S.mdL nl fun (q : Nat) => tl (q + al)) q).1)
 (fun (q : Nat) =>
 (S.at' (S.mdL nl fun (q : Nat) => tl (q + al)) q).2.1)
 (fun (q : Nat) =>
 Prod.fst
 ((S.at' (S.mdL nl fun (q : Nat) => tl (q + al)) q).2.2))
 (fun (q : Nat) =>
 Prod.snd
 ((S.at' (S.mdL nl fun (q : Nat) => tl (q + al)) q).2.2))
 (1000000000 : Int))))
 q)
 (1000 : Int)
 (List.length
 (S.sprL (List.length (S.mdL nl fun (q : Nat) => tl (q + al)))
 (fun (q : Nat) =>
 (S.at' (S.mdL nl fun (q : Nat) => tl (q + al)) q).2.2.2)
 nm fun (q : Nat) => tm (q + am)))
 fun (q : Nat) =>
 S.at'
 (S.sprL (List.length (S.mdL nl fun (q : Nat) => tl (q + al)))
 (fun (q : Nat) =>
 (S.at' (S.mdL nl fun (q : Nat) => tl (q + al)) q).2.2.2)
 nm fun (q : Nat) => tm (q + am))
 q)) -
 1) >
 Prod.fst
 (S.cmpS (List.length (S.mdL nl fun (q : Nat) => tl (q + al)))
 (fun (q : Nat) => (S.at' (S.mdL nl fun (q : Nat) => tl (q + al)) q).1)
 (fun (q : Nat) => (S.at' (S.mdL nl fun (q : Nat) => tl (q + al)) q).2.1)
 (fun (q : Nat) => (S.at' (S.mdL nl fun (q : Nat) => tl (q + al)) q).2.2.1)
 (fun (q : Nat) => (S.at' (S.mdL nl fun (q : Nat) => tl (q + al)) q).2.2.2)
 (1000000000 : Int))))
 then (some (.inr (false)))
 else (bif ((↑(List.length
 (Prod.snd
 (S.leaS (List.length (S.mdL nl fun (q : Nat) => tl (q + al)))
 (fun (q : Nat) => (S.at' (S.mdL nl fun (q : Nat) => tl (q + al)) q).1)
 (fun (q : Nat) => (S.at' (S.mdL nl fun (q : Nat) => tl (q + al)) q).2.1)
 (fun (q : Nat) =>
 (S.at' (S.mdL nl fun (q : Nat) => tl (q + al)) q).2.2.1)
 fun (q : Nat) =>
 (S.at' (S.mdL nl fun (q : Nat) => tl (q + al)) q).2.2.2))) :
 Int) ==
 (1 : Int))
 then (bif (Prod.fst
 (S.cmpS (List.length (S.mdL nl fun (q : Nat) => tl (q + al)))
 (fun (q : Nat) => (S.at' (S.mdL nl fun (q : Nat) => tl (q + al)) q).1)
 (fun (q : Nat) => (S.at' (S.mdL nl fun (q : Nat) => tl (q + al)) q).2.1)
 (fun (q : Nat) => (S.at' (S.mdL nl fun (q : Nat) => tl (q + al)) q).2.2.1)
 (fun (q : Nat) => (S.at' (S.mdL nl fun (q : Nat) => tl (q + al)) q).2.2.2)
 (1000000000 : Int)) ==
 (0 : Int))
 then (some (.inl (.h0 (true) ((0 : Int)) (S.mdL nl fun (q : Nat) => tl (q + al)) (Prod.snd
 (Prod.snd
 (S.cmpS (List.length (S.mdL nl fun (q : Nat) => tl (q + al)))
 (fun (q : Nat) => (S.at' (S.mdL nl fun (q : Nat) => tl (q + al)) q).1)
 (fun (q : Nat) => (S.at' (S.mdL nl fun (q : Nat) => tl (q + al)) q).2.1)
 (fun (q : Nat) => (S.at' (S.mdL nl fun (q : Nat) => tl (q + al)) q).2.2.1)
 (fun (q : Nat) => (S.at' (S.mdL nl fun (q : Nat) => tl (q + al)) q).2.2.2)
 (1000000000 : Int)))) (Prod.snd
 (S.leaS (List.length (S.mdL nl fun (q : Nat) => tl (q + al)))
 (fun (q : Nat) => (S.at' (S.mdL nl fun (q : Nat) => tl (q + al)) q).1)
 (fun (q : Nat) => (S.at' (S.mdL nl fun (q : Nat) => tl (q + al)) q).2.1)
 (fun (q : Nat) => (S.at' (S.mdL nl fun (q : Nat) => tl (q + al)) q).2.2.1)
 fun (q : Nat) => (S.at' (S.mdL nl fun (q : Nat) => tl (q + al)) q).2.2.2)))))
 else (some (.inl (.h0 (false) ((0 : Int)) (S.mdL nl fun (q : Nat) => tl (q + al)) (Prod.snd
 (Prod.snd
 (S.cmpS (List.length (S.mdL nl fun (q : Nat) => tl (q + al)))
 (fun (q : Nat) => (S.at' (S.mdL nl fun (q : Nat) => tl (q + al)) q).1)
 (fun (q : Nat) => (S.at' (S.mdL nl fun (q : Nat) => tl (q + al)) q).2.1)
 (fun (q : Nat) => (S.at' (S.mdL nl fun (q : Nat) => tl (q + al)) q).2.2.1)
 (fun (q : Nat) => (S.at' (S.mdL nl fun (q : Nat) => tl (q + al)) q).2.2.2)
 (1000000000 : Int)))) (Prod.snd
 (S.leaS (List.length (S.mdL nl fun (q : Nat) => tl (q + al)))
 (fun (q : Nat) => (S.at' (S.mdL nl fun (q : Nat) => tl (q + al)) q).1)
 (fun (q : Nat) => (S.at' (S.mdL nl fun (q : Nat) => tl (q + al)) q).2.1)
 (fun (q : Nat) => (S.at' (S.mdL nl fun (q : Nat) => tl (q + al)) q).2.2.1)
 fun (q : Nat) => (S.at' (S.mdL nl fun (q : Nat) => tl (q + al)) q).2.2.2))))))
 else (some (.inl (.h0 (false) ((0 : Int)) (S.mdL nl fun (q : Nat) => tl (q + al)) (Prod.snd
 (Prod.snd
 (S.cmpS (List.length (S.mdL nl fun (q : Nat) => tl (q + al)))
 (fun (q : Nat) => (S.at' (S.mdL nl fun (q : Nat) => tl (q + al)) q).1)
 (fun (q : Nat) => (S.at' (S.mdL nl fun (q : Nat) => tl (q + al)) q).2.1)
 (fun (q : Nat) => (S.at' (S.mdL nl fun (q : Nat) => tl (q + al)) q).2.2.1)
 (fun (q : Nat) => (S.at' (S.mdL nl fun (q : Nat) => tl (q + al)) q).2.2.2)
 (1000000000 : Int)))) (Prod.snd
 (S.leaS (List.length (S.mdL nl fun (q : Nat) => tl (q + al)))
 (fun (q : Nat) => (S.at' (S.mdL nl fun (q : Nat) => tl (q + al)) q).1)
 (fun (q : Nat) => (S.at' (S.mdL nl fun (q : Nat) => tl (q + al)) q).2.1)
 (fun (q : Nat) => (S.at' (S.mdL nl fun (q : Nat) => tl (q + al)) q).2.2.1)
 fun (q : Nat) => (S.at' (S.mdL nl fun (q : Nat) => tl (q + al)) q).2.2.2)))))))
 else (none))
 else (none)))
 else (none)))))))))
 else (none))
 else (none))
 else (none))
 else (none))
 else (none))
 else (none)))
noncomputable def Te8 (test : Bool → Prop → Prop → Prop) (Kst : KS) (Kret : KR) (al nl ml : Nat) (tl : Nat → Int) (am nm mm : Nat) (tm : Nat → Int) : Prop :=
  test (true)
 (test (true)
 (test (decide ((↑nl : Int) > (30 : Int)))
 (test (true)
 (test (true)
 (Kret (PV.tf true) ([[(1, false, Blk.cols mm [Col.int IntKind.u8 tm]),
 (0, false, Blk.cols ml [Col.int IntKind.u32 tl])]]) (4))
 (Kret (PV.tf false) ([[(1, false, Blk.cols mm [Col.int IntKind.u8 tm]),
 (0, false, Blk.cols ml [Col.int IntKind.u32 tl])]]) (4)))
 (False))
 (test (decide ((↑nm : Int) > (40 : Int)))
 (test (true)
 (test (true)
 (Kret (PV.tf true) ([[(1, false, Blk.cols mm [Col.int IntKind.u8 tm]),
 (0, false, Blk.cols ml [Col.int IntKind.u32 tl])]]) (4))
 (Kret (PV.tf false) ([[(1, false, Blk.cols mm [Col.int IntKind.u8 tm]),
 (0, false, Blk.cols ml [Col.int IntKind.u32 tl])]]) (4)))
 (False))
 (test (decide (al + nl ≤ ml ∧ nl ≤ 1000000 ∧ (S.u32s nl fun (q : Nat) => tl (q + al)) = true))
 (test (decide
 (0 + List.length (S.mdL nl fun (q : Nat) => tl (q + al)) ≤
 List.length (S.mdL nl fun (q : Nat) => tl (q + al)) ∧
 List.length (S.mdL nl fun (q : Nat) => tl (q + al)) ≤ 1000000))
 (test (decide
 ((0 : Int) ≤ (↑(List.length (S.mdL nl fun (q : Nat) => tl (q + al))) : Int) ∧
 (↑(List.length (S.mdL nl fun (q : Nat) => tl (q + al))) : Int) ≤
 (↑(List.length (S.mdL nl fun (q : Nat) => tl (q + al))) : Int) ∧
 (↑(List.length (S.mdL nl fun (q : Nat) => tl (q + al))) : Int) ≤ (1000000 : Int)))
 (test (decide
 (0 + List.length (S.mdL nl fun (q : Nat) => tl (q + al)) ≤
 List.length (S.mdL nl fun (q : Nat) => tl (q + al)) ∧
 List.length (S.mdL nl fun (q : Nat) => tl (q + al)) ≤ 1000000 ∧
 0 +
 List.length
 (Prod.snd
 (Prod.snd
 (S.cmpS (List.length (S.mdL nl fun (q : Nat) => tl (q + al)))
 (fun (q : Nat) => (S.at' (S.mdL nl fun (q : Nat) => tl (q + al)) q).1)
 (fun (q : Nat) => (S.at' (S.mdL nl fun (q : Nat) => tl (q + al)) q).2.1)
 (fun (q : Nat) =>
 (S.at' (S.mdL nl fun (q : Nat) => tl (q + al)) q).2.2.1)
 (fun (q : Nat) =>
 (S.at' (S.mdL nl fun (q : Nat) => tl (q + al)) q).2.2.2)
 (1000000000 : Int)))) ≤
 List.length
 (Prod.snd
 (Prod.snd
 (S.cmpS (List.length (S.mdL nl fun (q : Nat) => tl (q + al)))
 (fun (q : Nat) => (S.at' (S.mdL nl fun (q : Nat) => tl (q + al)) q).1)
 (fun (q : Nat) => (S.at' (S.mdL nl fun (q : Nat) => tl (q + al)) q).2.1)
 (fun (q : Nat) =>
 (S.at' (S.mdL nl fun (q : Nat) => tl (q + al)) q).2.2.1)
 (fun (q : Nat) =>
 (S.at' (S.mdL nl fun (q : Nat) => tl (q + al)) q).2.2.2)
 (1000000000 : Int)))) ∧
 List.length
 (Prod.snd
 (Prod.snd
 (S.cmpS (List.length (S.mdL nl fun (q : Nat) => tl (q + al)))
 (fun (q : Nat) => (S.at' (S.mdL nl fun (q : Nat) => tl (q + al)) q).1)
 (fun (q : Nat) => (S.at' (S.mdL nl fun (q : Nat) => tl (q + al)) q).2.1)
 (fun (q : Nat) =>
 (S.at' (S.mdL nl fun (q : Nat) => tl (q + al)) q).2.2.1)
 (fun (q : Nat) =>
 (S.at' (S.mdL nl fun (q : Nat) => tl (q + al)) q).2.2.2)
 (1000000000 : Int)))) ≤
 1000000 ∧
 0 + List.length (S.mdL nl fun (q : Nat) => tl (q + al)) ≤
 List.length (S.mdL nl fun (q : Nat) => tl (q + al)) ∧
 List.length (S.mdL nl fun (q : Nat) => tl (q + al)) ≤ 1000000))
 (test (decide
 (0 + List.length (S.mdL nl fun (q : Nat) => tl (q + al)) ≤
 List.length (S.mdL nl fun (q : Nat) => tl (q + al)) ∧
 List.length (S.mdL nl fun (q : Nat) => tl (q + al)) ≤ 1000000 ∧
 (S.treE (List.length (S.mdL nl fun (q : Nat) => tl (q + al)))
 (fun (q : Nat) => (S.at' (S.mdL nl fun (q : Nat) => tl (q + al)) q).1)
 (fun (q : Nat) => (S.at' (S.mdL nl fun (q : Nat) => tl (q + al)) q).2.1)
 (fun (q : Nat) =>
 (S.at' (S.mdL nl fun (q : Nat) => tl (q + al)) q).2.2.1)
 fun (q : Nat) =>
 (S.at' (S.mdL nl fun (q : Nat) => tl (q + al)) q).2.2.2) =
 (0 : Int) ∧
 am + nm ≤ mm ∧ nm ≤ 1000000 ∧ (S.bytes nm fun (q : Nat) => tm (q + am)) = true))
 (test (decide
 (0 + List.length (S.mdL nl fun (q : Nat) => tl (q + al)) ≤
 List.length (S.mdL nl fun (q : Nat) => tl (q + al)) ∧
 List.length (S.mdL nl fun (q : Nat) => tl (q + al)) ≤ 1000000 ∧
 0 +
 List.length
 (Prod.snd
 (Prod.snd
 (S.cmpS (List.length (S.mdL nl fun (q : Nat) => tl (q + al)))
 (fun (q : Nat) => (S.at' (S.mdL nl fun (q : Nat) => tl (q + al)) q).1)
 (fun (q : Nat) => (S.at' (S.mdL nl fun (q : Nat) => tl (q + al)) q).2.1)
 (fun (q : Nat) =>
 (S.at' (S.mdL nl fun (q : Nat) => tl (q + al)) q).2.2.1)
 (fun (q : Nat) =>
 (S.at' (S.mdL nl fun (q : Nat) => tl (q + al)) q).2.2.2)
 (1000000000 : Int)))) ≤
 List.length
 (Prod.snd
 (Prod.snd
 (S.cmpS (List.length (S.mdL nl fun (q : Nat) => tl (q + al)))
 (fun (q : Nat) => (S.at' (S.mdL nl fun (q : Nat) => tl (q + al)) q).1)
 (fun (q : Nat) => (S.at' (S.mdL nl fun (q : Nat) => tl (q + al)) q).2.1)
 (fun (q : Nat) =>
 (S.at' (S.mdL nl fun (q : Nat) => tl (q + al)) q).2.2.1)
 (fun (q : Nat) =>
 (S.at' (S.mdL nl fun (q : Nat) => tl (q + al)) q).2.2.2)
 (1000000000 : Int)))) ∧
 List.length
 (Prod.snd
 (Prod.snd
 (S.cmpS (List.length (S.mdL nl fun (q : Nat) => tl (q + al)))
 (fun (q : Nat) => (S.at' (S.mdL nl fun (q : Nat) => tl (q + al)) q).1)
 (fun (q : Nat) => (S.at' (S.mdL nl fun (q : Nat) => tl (q + al)) q).2.1)
 (fun (q : Nat) =>
 (S.at' (S.mdL nl fun (q : Nat) => tl (q + al)) q).2.2.1)
 (fun (q : Nat) =>
 (S.at' (S.mdL nl fun (q : Nat) => tl (q + al)) q).2.2.2)
 (1000000000 : Int)))) ≤
 1000000 ∧
 0 +
 List.length
 (S.sprL (List.length (S.mdL nl fun (q : Nat) => tl (q + al)))
 (fun (q : Nat) =>
 (S.at' (S.mdL nl fun (q : Nat) => tl (q + al)) q).2.2.2)
 nm fun (q : Nat) => tm (q + am)) ≤
 List.length
 (S.sprL (List.length (S.mdL nl fun (q : Nat) => tl (q + al)))
 (fun (q : Nat) =>
 (S.at' (S.mdL nl fun (q : Nat) => tl (q + al)) q).2.2.2)
 nm fun (q : Nat) => tm (q + am)) ∧
 List.length
 (S.sprL (List.length (S.mdL nl fun (q : Nat) => tl (q + al)))
 (fun (q : Nat) =>
 (S.at' (S.mdL nl fun (q : Nat) => tl (q + al)) q).2.2.2)
 nm fun (q : Nat) => tm (q + am)) ≤
 1000000))
 (test (decide
 (0 + List.length (S.mdL nl fun (q : Nat) => tl (q + al)) ≤
 List.length (S.mdL nl fun (q : Nat) => tl (q + al)) ∧
 List.length (S.mdL nl fun (q : Nat) => tl (q + al)) ≤ 1000000))
 (test (Prod.fst
 (Prod.snd
 (S.cmpS (List.length (S.mdL nl fun (q : Nat) => tl (q + al)))
 (fun (q : Nat) => (S.at' (S.mdL nl fun (q : Nat) => tl (q + al)) q).1)
 (fun (q : Nat) => (S.at' (S.mdL nl fun (q : Nat) => tl (q + al)) q).2.1)
 (fun (q : Nat) => (S.at' (S.mdL nl fun (q : Nat) => tl (q + al)) q).2.2.1)
 (fun (q : Nat) => (S.at' (S.mdL nl fun (q : Nat) => tl (q + al)) q).2.2.2)
 (1000000000 : Int))) !=
 (0 : Int))
 (Kret (PV.tf false) ([[(1, false, Blk.cols mm [Col.int IntKind.u8 tm]),
 (0, false, Blk.cols ml [Col.int IntKind.u32 tl])]]) (17))
 (test (Prod.fst
 (S.actS (List.length (S.mdL nl fun (q : Nat) => tl (q + al)))
 (fun (q : Nat) => (S.at' (S.mdL nl fun (q : Nat) => tl (q + al)) q).1)
 (fun (q : Nat) => (S.at' (S.mdL nl fun (q : Nat) => tl (q + al)) q).2.1)
 (fun (q : Nat) => (S.at' (S.mdL nl fun (q : Nat) => tl (q + al)) q).2.2.1)
 (fun (q : Nat) => (S.at' (S.mdL nl fun (q : Nat) => tl (q + al)) q).2.2.2)
 (List.length
 (Prod.snd
 (Prod.snd
 (S.cmpS (List.length (S.mdL nl fun (q : Nat) => tl (q + al)))
 (fun (q : Nat) => (S.at' (S.mdL nl fun (q : Nat) => tl (q + al)) q).1)
 (fun (q : Nat) => (S.at' (S.mdL nl fun (q : Nat) => tl (q + al)) q).2.1)
 (fun (q : Nat) =>
 (S.at' (S.mdL nl fun (q : Nat) => tl (q + al)) q).2.2.1)
 (fun (q : Nat) =>
 (S.at' (S.mdL nl fun (q : Nat) => tl (q + al)) q).2.2.2)
 (1000000000 : Int)))))
 (fun (q : Nat) =>
 S.at'
 (Prod.snd
 (Prod.snd
 (S.cmpS (List.length (S.mdL nl fun (q : Nat) => tl (q + al)))
 (fun (q : Nat) => (S.at' (S.mdL nl fun (q : Nat) => tl (q + al)) q).1)
 (fun (q : Nat) => (S.at' (S.mdL nl fun (q : Nat) => tl (q + al)) q).2.1)
 (fun (q : Nat) =>
 (S.at' (S.mdL nl fun (q : Nat) => tl (q + al)) q).2.2.1)
 (fun (q : Nat) =>
 (S.at' (S.mdL nl fun (q : Nat) => tl (q + al)) q).2.2.2)
 (1000000000 : Int))))
 q)
 (1000 : Int) (List.length (S.mdL nl fun (q : Nat) => tl (q + al))) fun (q : Nat) => (0 : Int)) !=
 (0 : Int))
 (Kret (PV.tf false) ([[(1, false, Blk.cols mm [Col.int IntKind.u8 tm]),
 (0, false, Blk.cols ml [Col.int IntKind.u32 tl])]]) (17))
 (test (Prod.fst
 (S.actS (List.length (S.mdL nl fun (q : Nat) => tl (q + al)))
 (fun (q : Nat) => (S.at' (S.mdL nl fun (q : Nat) => tl (q + al)) q).1)
 (fun (q : Nat) => (S.at' (S.mdL nl fun (q : Nat) => tl (q + al)) q).2.1)
 (fun (q : Nat) => (S.at' (S.mdL nl fun (q : Nat) => tl (q + al)) q).2.2.1)
 (fun (q : Nat) => (S.at' (S.mdL nl fun (q : Nat) => tl (q + al)) q).2.2.2)
 (List.length
 (Prod.snd
 (Prod.snd
 (S.cmpS (List.length (S.mdL nl fun (q : Nat) => tl (q + al)))
 (fun (q : Nat) => (S.at' (S.mdL nl fun (q : Nat) => tl (q + al)) q).1)
 (fun (q : Nat) => (S.at' (S.mdL nl fun (q : Nat) => tl (q + al)) q).2.1)
 (fun (q : Nat) =>
 (S.at' (S.mdL nl fun (q : Nat) => tl (q + al)) q).2.2.1)
 (fun (q : Nat) =>
 (S.at' (S.mdL nl fun (q : Nat) => tl (q + al)) q).2.2.2)
 (1000000000 : Int)))))
 (fun (q : Nat) =>
 S.at'
 (Prod.snd
 (Prod.snd
 (S.cmpS (List.length (S.mdL nl fun (q : Nat) => tl (q + al)))
 (fun (q : Nat) => (S.at' (S.mdL nl fun (q : Nat) => tl (q + al)) q).1)
 (fun (q : Nat) => (S.at' (S.mdL nl fun (q : Nat) => tl (q + al)) q).2.1)
 (fun (q : Nat) =>
 (S.at' (S.mdL nl fun (q : Nat) => tl (q + al)) q).2.2.1)
 (fun (q : Nat) =>
 (S.at' (S.mdL nl fun (q : Nat) => tl (q + al)) q).2.2.2)
 (1000000000 : Int))))
 q)
 (1000 : Int)
 (List.length
 (S.sprL (List.length (S.mdL nl fun (q : Nat) => tl (q + al)))
 (fun (q : Nat) =>
 (S.at' (S.mdL nl fun (q : Nat) => tl (q + al)) q).2.2.2)
 nm fun (q : Nat) => tm (q + am)))
 fun (q : Nat) =>
 S.at'
 (S.sprL (List.length (S.mdL nl fun (q : Nat) => tl (q + al)))
 (fun (q : Nat) =>
 (S.at' (S.mdL nl fun (q : Nat) => tl (q + al)) q).2.2.2)
 nm fun (q : Nat) => tm (q + am))
 q) !=
 (0 : Int))
 (Kret (PV.tf false) ([[(1, false, Blk.cols mm [Col.int IntKind.u8 tm]),
 (0, false, Blk.cols ml [Col.int IntKind.u32 tl])]]) (17))
 (test (Prod.fst
 (S.leaS (List.length (S.mdL nl fun (q : Nat) => tl (q + al)))
 (fun (q : Nat) => (S.at' (S.mdL nl fun (q : Nat) => tl (q + al)) q).1)
 (fun (q : Nat) => (S.at' (S.mdL nl fun (q : Nat) => tl (q + al)) q).2.1)
 (fun (q : Nat) => (S.at' (S.mdL nl fun (q : Nat) => tl (q + al)) q).2.2.1)
 fun (q : Nat) => (S.at' (S.mdL nl fun (q : Nat) => tl (q + al)) q).2.2.2) !=
 (0 : Int))
 (Kret (PV.tf false) ([[(1, false, Blk.cols mm [Col.int IntKind.u8 tm]),
 (0, false, Blk.cols ml [Col.int IntKind.u32 tl])]]) (17))
 (test ((↑(List.length
 (Prod.snd
 (S.actS (List.length (S.mdL nl fun (q : Nat) => tl (q + al)))
 (fun (q : Nat) => (S.at' (S.mdL nl fun (q : Nat) => tl (q + al)) q).1)
 (fun (q : Nat) => (S.at' (S.mdL nl fun (q : Nat) => tl (q + al)) q).2.1)
 (fun (q : Nat) =>
 (S.at' (S.mdL nl fun (q : Nat) => tl (q + al)) q).2.2.1)
 (fun (q : Nat) =>
 (S.at' (S.mdL nl fun (q : Nat) => tl (q + al)) q).2.2.2)
 (List.length
 (Prod.snd
 (Prod.snd
 (S.cmpS (List.length (S.mdL nl fun (q : Nat) => tl (q + al)))
 (fun (q : Nat) => (S.at' (S.mdL nl fun (q : Nat) => tl (q + al)) q).1)
 (fun (q : Nat) => (S.at' (S.mdL nl fun (q : Nat) => tl (q + al)) q).2.1)
 (fun (q : Nat) =>
 (S.at' (S.mdL nl fun (q : Nat) => tl (q + al)) q).2.2.1)
 (fun (q : Nat) =>
 (S.at' (S.mdL nl fun (q : Nat) => tl (q + al)) q).2.2.2)
 (1000000000 : Int)))))
 (fun (q : Nat) =>
 S.at'
 (Prod.snd
 (Prod.snd
 (S.cmpS (List.length (S.mdL nl fun (q : Nat) => tl (q + al)))
 (fun (q : Nat) => (S.at' (S.mdL nl fun (q : Nat) => tl (q + al)) q).1)
 (fun (q : Nat) =>
 (S.at' (S.mdL nl fun (q : Nat) => tl (q + al)) q).2.1)
 (fun (q : Nat) =>
 (S.at' (S.mdL nl fun (q : Nat) => tl (q + al)) q).2.2.1)
 (fun (q : Nat) =>
 (S.at' (S.mdL nl fun (q : Nat) => tl (q + al)) q).2.2.2)
 (1000000000 : Int))))
 q)
 (1000 : Int) (List.length (S.mdL nl fun (q : Nat) => tl (q + al))) fun (q : Nat) => (0 : Int)))) :
 Int) !=
 (↑(List.length
 (Prod.snd
 (S.leaS (List.length (S.mdL nl fun (q : Nat) => tl (q + al)))
 (fun (q : Nat) => (S.at' (S.mdL nl fun (q : Nat) => tl (q + al)) q).1)
 (fun (q : Nat) => (S.at' (S.mdL nl fun (q : Nat) => tl (q + al)) q).2.1)
 (fun (q : Nat) =>
 (S.at' (S.mdL nl fun (q : Nat) => tl (q + al)) q).2.2.1)
 fun (q : Nat) =>
 (S.at' (S.mdL nl fun (q : Nat) => tl (q + al)) q).2.2.2))) :
 Int))
 (Kret (PV.tf false) ([[(1, false, Blk.cols mm [Col.int IntKind.u8 tm]),
 (0, false, Blk.cols ml [Col.int IntKind.u32 tl])]]) (17))
 (test ((↑(List.length
 (Prod.snd
 (S.actS (List.length (S.mdL nl fun (q : Nat) => tl (q + al)))
 (fun (q : Nat) => (S.at' (S.mdL nl fun (q : Nat) => tl (q + al)) q).1)
 (fun (q : Nat) => (S.at' (S.mdL nl fun (q : Nat) => tl (q + al)) q).2.1)
 (fun (q : Nat) =>
 (S.at' (S.mdL nl fun (q : Nat) => tl (q + al)) q).2.2.1)
 (fun (q : Nat) =>
 (S.at' (S.mdL nl fun (q : Nat) => tl (q + al)) q).2.2.2)
 (List.length
 (Prod.snd
 (Prod.snd
 (S.cmpS (List.length (S.mdL nl fun (q : Nat) => tl (q + al)))
 (fun (q : Nat) => (S.at' (S.mdL nl fun (q : Nat) => tl (q + al)) q).1)
 (fun (q : Nat) => (S.at' (S.mdL nl fun (q : Nat) => tl (q + al)) q).2.1)
 (fun (q : Nat) =>
 (S.at' (S.mdL nl fun (q : Nat) => tl (q + al)) q).2.2.1)
 (fun (q : Nat) =>
 (S.at' (S.mdL nl fun (q : Nat) => tl (q + al)) q).2.2.2)
 (1000000000 : Int)))))
 (fun (q : Nat) =>
 S.at'
 (Prod.snd
 (Prod.snd
 (S.cmpS (List.length (S.mdL nl fun (q : Nat) => tl (q + al)))
 (fun (q : Nat) => (S.at' (S.mdL nl fun (q : Nat) => tl (q + al)) q).1)
 (fun (q : Nat) =>
 (S.at' (S.mdL nl fun (q : Nat) => tl (q + al)) q).2.1)
 (fun (q : Nat) =>
 (S.at' (S.mdL nl fun (q : Nat) => tl (q + al)) q).2.2.1)
 (fun (q : Nat) =>
 (S.at' (S.mdL nl fun (q : Nat) => tl (q + al)) q).2.2.2)
 (1000000000 : Int))))
 q)
 (1000 : Int)
 (List.length
 (S.sprL (List.length (S.mdL nl fun (q : Nat) => tl (q + al)))
 (fun (q : Nat) =>
 (S.at' (S.mdL nl fun (q : Nat) => tl (q + al)) q).2.2.2)
 nm fun (q : Nat) => tm (q + am)))
 fun (q : Nat) =>
 S.at'
 (S.sprL (List.length (S.mdL nl fun (q : Nat) => tl (q + al)))
 (fun (q : Nat) =>
 (S.at' (S.mdL nl fun (q : Nat) => tl (q + al)) q).2.2.2)
 nm fun (q : Nat) => tm (q + am))
 q))) :
 Int) !=
 (↑(List.length
 (Prod.snd
 (S.leaS (List.length (S.mdL nl fun (q : Nat) => tl (q + al)))
 (fun (q : Nat) => (S.at' (S.mdL nl fun (q : Nat) => tl (q + al)) q).1)
 (fun (q : Nat) => (S.at' (S.mdL nl fun (q : Nat) => tl (q + al)) q).2.1)
 (fun (q : Nat) =>
 (S.at' (S.mdL nl fun (q : Nat) => tl (q + al)) q).2.2.1)
 fun (q : Nat) =>
 (S.at' (S.mdL nl fun (q : Nat) => tl (q + al)) q).2.2.2))) :
 Int))
 (Kret (PV.tf false) ([[(1, false, Blk.cols mm [Col.int IntKind.u8 tm]),
 (0, false, Blk.cols ml [Col.int IntKind.u32 tl])]]) (17))
 (test ((↑(List.length
 (Prod.snd
 (S.leaS (List.length (S.mdL nl fun (q : Nat) => tl (q + al)))
 (fun (q : Nat) => (S.at' (S.mdL nl fun (q : Nat) => tl (q + al)) q).1)
 (fun (q : Nat) => (S.at' (S.mdL nl fun (q : Nat) => tl (q + al)) q).2.1)
 (fun (q : Nat) =>
 (S.at' (S.mdL nl fun (q : Nat) => tl (q + al)) q).2.2.1)
 fun (q : Nat) =>
 (S.at' (S.mdL nl fun (q : Nat) => tl (q + al)) q).2.2.2))) :
 Int) ==
 (0 : Int))
 (Kret (PV.tf false) ([[(1, false, Blk.cols mm [Col.int IntKind.u8 tm]),
 (0, false, Blk.cols ml [Col.int IntKind.u32 tl])]]) (17))
 (test (decide
 (0 +
 List.length
 (Prod.snd
 (S.actS (List.length (S.mdL nl fun (q : Nat) => tl (q + al)))
 (fun (q : Nat) => (S.at' (S.mdL nl fun (q : Nat) => tl (q + al)) q).1)
 (fun (q : Nat) => (S.at' (S.mdL nl fun (q : Nat) => tl (q + al)) q).2.1)
 (fun (q : Nat) =>
 (S.at' (S.mdL nl fun (q : Nat) => tl (q + al)) q).2.2.1)
 (fun (q : Nat) =>
 (S.at' (S.mdL nl fun (q : Nat) => tl (q + al)) q).2.2.2)
 (List.length
 (Prod.snd
 (Prod.snd
 (S.cmpS (List.length (S.mdL nl fun (q : Nat) => tl (q + al)))
 (fun (q : Nat) => (S.at' (S.mdL nl fun (q : Nat) => tl (q + al)) q).1)
 (fun (q : Nat) =>
 (S.at' (S.mdL nl fun (q : Nat) => tl (q + al)) q).2.1)
 (fun (q : Nat) =>
 (S.at' (S.mdL nl fun (q : Nat) => tl (q + al)) q).2.2.1)
 (fun (q : Nat) =>
 (S.at' (S.mdL nl fun (q : Nat) => tl (q + al)) q).2.2.2)
 (1000000000 : Int)))))
 (fun (q : Nat) =>
 S.at'
 (Prod.snd
 (Prod.snd
 (S.cmpS (List.length (S.mdL nl fun (q : Nat) => tl (q + al)))
 (fun (q : Nat) => (S.at' (S.mdL nl fun (q : Nat) => tl (q + al)) q).1)
 (fun (q : Nat) =>
 (S.at' (S.mdL nl fun (q : Nat) => tl (q + al)) q).2.1)
 (fun (q : Nat) =>
 (S.at' (S.mdL nl fun (q : Nat) => tl (q + al)) q).2.2.1)
 (fun (q : Nat) =>
 (S.at' (S.mdL nl fun (q : Nat) => tl (q + al)) q).2.2.2)
 (1000000000 : Int))))
 q)
 (1000 : Int) (List.length (S.mdL nl fun (q : Nat) => tl (q + al))) fun (q : Nat) => (0 : Int))) ≤
 List.length
 (Prod.snd
 (S.actS (List.length (S.mdL nl fun (q : Nat) => tl (q + al)))
 (fun (q : Nat) => (S.at' (S.mdL nl fun (q : Nat) => tl (q + al)) q).1)
 (fun (q : Nat) => (S.at' (S.mdL nl fun (q : Nat) => tl (q + al)) q).2.1)
 (fun (q : Nat) =>
 (S.at' (S.mdL nl fun (q : Nat) => tl (q + al)) q).2.2.1)
 (fun (q : Nat) =>
 (S.at' (S.mdL nl fun (q : Nat) => tl (q + al)) q).2.2.2)
 (List.length
 (Prod.snd
 (Prod.snd
 (S.cmpS (List.length (S.mdL nl fun (q : Nat) => tl (q + al)))
 (fun (q : Nat) => (S.at' (S.mdL nl fun (q : Nat) => tl (q + al)) q).1)
 (fun (q : Nat) => (S.at' (S.mdL nl fun (q : Nat) => tl (q + al)) q).2.1)
 (fun (q : Nat) =>
 (S.at' (S.mdL nl fun (q : Nat) => tl (q + al)) q).2.2.1)
 (fun (q : Nat) =>
 (S.at' (S.mdL nl fun (q : Nat) => tl (q + al)) q).2.2.2)
 (1000000000 : Int)))))
 (fun (q : Nat) =>
 S.at'
 (Prod.snd
 (Prod.snd
 (S.cmpS (List.length (S.mdL nl fun (q : Nat) => tl (q + al)))
 (fun (q : Nat) => (S.at' (S.mdL nl fun (q : Nat) => tl (q + al)) q).1)
 (fun (q : Nat) =>
 (S.at' (S.mdL nl fun (q : Nat) => tl (q + al)) q).2.1)
 (fun (q : Nat) =>
 (S.at' (S.mdL nl fun (q : Nat) => tl (q + al)) q).2.2.1)
 (fun (q : Nat) =>
 (S.at' (S.mdL nl fun (q : Nat) => tl (q + al)) q).2.2.2)
 (1000000000 : Int))))
 q)
 (1000 : Int) (List.length (S.mdL nl fun (q : Nat) => tl (q + al))) fun (q : Nat) => (0 : Int))) ∧
 List.length
 (Prod.snd
 (S.actS (List.length (S.mdL nl fun (q : Nat) => tl (q + al)))
 (fun (q : Nat) => (S.at' (S.mdL nl fun (q : Nat) => tl (q + al)) q).1)
 (fun (q : Nat) => (S.at' (S.mdL nl fun (q : Nat) => tl (q + al)) q).2.1)
 (fun (q : Nat) =>
 (S.at' (S.mdL nl fun (q : Nat) => tl (q + al)) q).2.2.1)
 (fun (q : Nat) =>
 (S.at' (S.mdL nl fun (q : Nat) => tl (q + al)) q).2.2.2)
 (List.length
 (Prod.snd
 (Prod.snd
 (S.cmpS (List.length (S.mdL nl fun (q : Nat) => tl (q + al)))
 (fun (q : Nat) => (S.at' (S.mdL nl fun (q : Nat) => tl (q + al)) q).1)
 (fun (q : Nat) =>
 (S.at' (S.mdL nl fun (q : Nat) => tl (q + al)) q).2.1)
 (fun (q : Nat) =>
 (S.at' (S.mdL nl fun (q : Nat) => tl (q + al)) q).2.2.1)
 (fun (q : Nat) =>
 (S.at' (S.mdL nl fun (q : Nat) => tl (q + al)) q).2.2.2)
 (1000000000 : Int)))))
 (fun (q : Nat) =>
 S.at'
 (Prod.snd
 (Prod.snd
 (S.cmpS (List.length (S.mdL nl fun (q : Nat) => tl (q + al)))
 (fun (q : Nat) => (S.at' (S.mdL nl fun (q : Nat) => tl (q + al)) q).1)
 (fun (q : Nat) =>
 (S.at' (S.mdL nl fun (q : Nat) => tl (q + al)) q).2.1)
 (fun (q : Nat) =>
 (S.at' (S.mdL nl fun (q : Nat) => tl (q + al)) q).2.2.1)
 (fun (q : Nat) =>
 (S.at' (S.mdL nl fun (q : Nat) => tl (q + al)) q).2.2.2)
 (1000000000 : Int))))
 q)
 (1000 : Int) (List.length (S.mdL nl fun (q : Nat) => tl (q + al))) fun (q : Nat) => (0 : Int))) ≤
 1000000 ∧
 0 <
 List.length
 (Prod.snd
 (S.actS (List.length (S.mdL nl fun (q : Nat) => tl (q + al)))
 (fun (q : Nat) => (S.at' (S.mdL nl fun (q : Nat) => tl (q + al)) q).1)
 (fun (q : Nat) => (S.at' (S.mdL nl fun (q : Nat) => tl (q + al)) q).2.1)
 (fun (q : Nat) =>
 (S.at' (S.mdL nl fun (q : Nat) => tl (q + al)) q).2.2.1)
 (fun (q : Nat) =>
 (S.at' (S.mdL nl fun (q : Nat) => tl (q + al)) q).2.2.2)
 (List.length
 (Prod.snd
 (Prod.snd
 (S.cmpS (List.length (S.mdL nl fun (q : Nat) => tl (q + al)))
 (fun (q : Nat) => (S.at' (S.mdL nl fun (q : Nat) => tl (q + al)) q).1)
 (fun (q : Nat) =>
 (S.at' (S.mdL nl fun (q : Nat) => tl (q + al)) q).2.1)
 (fun (q : Nat) =>
 (S.at' (S.mdL nl fun (q : Nat) => tl (q + al)) q).2.2.1)
 (fun (q : Nat) =>
 (S.at' (S.mdL nl fun (q : Nat) => tl (q + al)) q).2.2.2)
 (1000000000 : Int)))))
 (fun (q : Nat) =>
 S.at'
 (Prod.snd
 (Prod.snd
 (S.cmpS (List.length (S.mdL nl fun (q : Nat) => tl (q + al)))
 (fun (q : Nat) => (S.at' (S.mdL nl fun (q : Nat) => tl (q + al)) q).1)
 (fun (q : Nat) =>
 (S.at' (S.mdL nl fun (q : Nat) => tl (q + al)) q).2.1)
 (fun (q : Nat) =>
 (S.at' (S.mdL nl fun (q : Nat) => tl (q + al)) q).2.2.1)
 (fun (q : Nat) =>
 (S.at' (S.mdL nl fun (q : Nat) => tl (q + al)) q).2.2.2)
 (1000000000 : Int))))
 q)
 (1000 : Int) (List.length (S.mdL nl fun (q : Nat) => tl (q + al))) fun (q : Nat) => (0 : Int)))))
 (test (decide
 (0 +
 List.length
 (Prod.snd
 (S.actS (List.length (S.mdL nl fun (q : Nat) => tl (q + al)))
 (fun (q : Nat) => (S.at' (S.mdL nl fun (q : Nat) => tl (q + al)) q).1)
 (fun (q : Nat) => (S.at' (S.mdL nl fun (q : Nat) => tl (q + al)) q).2.1)
 (fun (q : Nat) =>
 (S.at' (S.mdL nl fun (q : Nat) => tl (q + al)) q).2.2.1)
 (fun (q : Nat) =>
 (S.at' (S.mdL nl fun (q : Nat) => tl (q + al)) q).2.2.2)
 (List.length
 (Prod.snd
 (Prod.snd
 (S.cmpS (List.length (S.mdL nl fun (q : Nat) => tl (q + al)))
 (fun (q : Nat) => (S.at' (S.mdL nl fun (q : Nat) => tl (q + al)) q).1)
 (fun (q : Nat) =>
 (S.at' (S.mdL nl fun (q : Nat) => tl (q + al)) q).2.1)
 (fun (q : Nat) =>
 (S.at' (S.mdL nl fun (q : Nat) => tl (q + al)) q).2.2.1)
 (fun (q : Nat) =>
 (S.at' (S.mdL nl fun (q : Nat) => tl (q + al)) q).2.2.2)
 (1000000000 : Int)))))
 (fun (q : Nat) =>
 S.at'
 (Prod.snd
 (Prod.snd
 (S.cmpS (List.length (S.mdL nl fun (q : Nat) => tl (q + al)))
 (fun (q : Nat) => (S.at' (S.mdL nl fun (q : Nat) => tl (q + al)) q).1)
 (fun (q : Nat) =>
 (S.at' (S.mdL nl fun (q : Nat) => tl (q + al)) q).2.1)
 (fun (q : Nat) =>
 (S.at' (S.mdL nl fun (q : Nat) => tl (q + al)) q).2.2.1)
 (fun (q : Nat) =>
 (S.at' (S.mdL nl fun (q : Nat) => tl (q + al)) q).2.2.2)
 (1000000000 : Int))))
 q)
 (1000 : Int) (List.length (S.mdL nl fun (q : Nat) => tl (q + al))) fun (q : Nat) => (0 : Int))) ≤
 List.length
 (Prod.snd
 (S.actS (List.length (S.mdL nl fun (q : Nat) => tl (q + al)))
 (fun (q : Nat) => (S.at' (S.mdL nl fun (q : Nat) => tl (q + al)) q).1)
 (fun (q : Nat) => (S.at' (S.mdL nl fun (q : Nat) => tl (q + al)) q).2.1)
 (fun (q : Nat) =>
 (S.at' (S.mdL nl fun (q : Nat) => tl (q + al)) q).2.2.1)
 (fun (q : Nat) =>
 (S.at' (S.mdL nl fun (q : Nat) => tl (q + al)) q).2.2.2)
 (List.length
 (Prod.snd
 (Prod.snd
 (S.cmpS (List.length (S.mdL nl fun (q : Nat) => tl (q + al)))
 (fun (q : Nat) => (S.at' (S.mdL nl fun (q : Nat) => tl (q + al)) q).1)
 (fun (q : Nat) => (S.at' (S.mdL nl fun (q : Nat) => tl (q + al)) q).2.1)
 (fun (q : Nat) =>
 (S.at' (S.mdL nl fun (q : Nat) => tl (q + al)) q).2.2.1)
 (fun (q : Nat) =>
 (S.at' (S.mdL nl fun (q : Nat) => tl (q + al)) q).2.2.2)
 (1000000000 : Int)))))
 (fun (q : Nat) =>
 S.at'
 (Prod.snd
 (Prod.snd
 (S.cmpS (List.length (S.mdL nl fun (q : Nat) => tl (q + al)))
 (fun (q : Nat) => (S.at' (S.mdL nl fun (q : Nat) => tl (q + al)) q).1)
 (fun (q : Nat) =>
 (S.at' (S.mdL nl fun (q : Nat) => tl (q + al)) q).2.1)
 (fun (q : Nat) =>
 (S.at' (S.mdL nl fun (q : Nat) => tl (q + al)) q).2.2.1)
 (fun (q : Nat) =>
 (S.at' (S.mdL nl fun (q : Nat) => tl (q + al)) q).2.2.2)
 (1000000000 : Int))))
 q)
 (1000 : Int) (List.length (S.mdL nl fun (q : Nat) => tl (q + al))) fun (q : Nat) => (0 : Int))) ∧
 List.length
 (Prod.snd
 (S.actS (List.length (S.mdL nl fun (q : Nat) => tl (q + al)))
 (fun (q : Nat) => (S.at' (S.mdL nl fun (q : Nat) => tl (q + al)) q).1)
 (fun (q : Nat) => (S.at' (S.mdL nl fun (q : Nat) => tl (q + al)) q).2.1)
 (fun (q : Nat) =>
 (S.at' (S.mdL nl fun (q : Nat) => tl (q + al)) q).2.2.1)
 (fun (q : Nat) =>
 (S.at' (S.mdL nl fun (q : Nat) => tl (q + al)) q).2.2.2)
 (List.length
 (Prod.snd
 (Prod.snd
 (S.cmpS (List.length (S.mdL nl fun (q : Nat) => tl (q + al)))
 (fun (q : Nat) => (S.at' (S.mdL nl fun (q : Nat) => tl (q + al)) q).1)
 (fun (q : Nat) =>
 (S.at' (S.mdL nl fun (q : Nat) => tl (q + al)) q).2.1)
 (fun (q : Nat) =>
 (S.at' (S.mdL nl fun (q : Nat) => tl (q + al)) q).2.2.1)
 (fun (q : Nat) =>
 (S.at' (S.mdL nl fun (q : Nat) => tl (q + al)) q).2.2.2)
 (1000000000 : Int)))))
 (fun (q : Nat) =>
 S.at'
 (Prod.snd
 (Prod.snd
 (S.cmpS (List.length (S.mdL nl fun (q : Nat) => tl (q + al)))
 (fun (q : Nat) => (S.at' (S.mdL nl fun (q : Nat) => tl (q + al)) q).1)
 (fun (q : Nat) =>
 (S.at' (S.mdL nl fun (q : Nat) => tl (q + al)) q).2.1)
 (fun (q : Nat) =>
 (S.at' (S.mdL nl fun (q : Nat) => tl (q + al)) q).2.2.1)
 (fun (q : Nat) =>
 (S.at' (S.mdL nl fun (q : Nat) => tl (q + al)) q).2.2.2)
 (1000000000 : Int))))
 q)
 (1000 : Int) (List.length (S.mdL nl fun (q : Nat) => tl (q + al))) fun (q : Nat) => (0 : Int))) ≤
 1000000 ∧
 0 <
 List.length
 (Prod.snd
 (S.actS (List.length (S.mdL nl fun (q : Nat) => tl (q + al)))
 (fun (q : Nat) => (S.at' (S.mdL nl fun (q : Nat) => tl (q + al)) q).1)
 (fun (q : Nat) => (S.at' (S.mdL nl fun (q : Nat) => tl (q + al)) q).2.1)
 (fun (q : Nat) =>
 (S.at' (S.mdL nl fun (q : Nat) => tl (q + al)) q).2.2.1)
 (fun (q : Nat) =>
 (S.at' (S.mdL nl fun (q : Nat) => tl (q + al)) q).2.2.2)
 (List.length
 (Prod.snd
 (Prod.snd
 (S.cmpS (List.length (S.mdL nl fun (q : Nat) => tl (q + al)))
 (fun (q : Nat) => (S.at' (S.mdL nl fun (q : Nat) => tl (q + al)) q).1)
 (fun (q : Nat) =>
 (S.at' (S.mdL nl fun (q : Nat) => tl (q + al)) q).2.1)
 (fun (q : Nat) =>
 (S.at' (S.mdL nl fun (q : Nat) => tl (q + al)) q).2.2.1)
 (fun (q : Nat) =>
 (S.at' (S.mdL nl fun (q : Nat) => tl (q + al)) q).2.2.2)
 (1000000000 : Int)))))
 (fun (q : Nat) =>
 S.at'
 (Prod.snd
 (Prod.snd
 (S.cmpS (List.length (S.mdL nl fun (q : Nat) => tl (q + al)))
 (fun (q : Nat) => (S.at' (S.mdL nl fun (q : Nat) => tl (q + al)) q).1)
 (fun (q : Nat) =>
 (S.at' (S.mdL nl fun (q : Nat) => tl (q + al)) q).2.1)
 (fun (q : Nat) =>
 (S.at' (S.mdL nl fun (q : Nat) => tl (q + al)) q).2.2.1)
 (fun (q : Nat) =>
 (S.at' (S.mdL nl fun (q : Nat) => tl (q + al)) q).2.2.2)
 (1000000000 : Int))))
 q)
 (1000 : Int) (List.length (S.mdL nl fun (q : Nat) => tl (q + al))) fun (q : Nat) => (0 : Int)))))
 (test (S.minN
 (fun (j : Nat) =>
 S.at'
 (Prod.snd
 (S.actS (List.length (S.mdL nl fun (q : Nat) => tl (q + al)))
 (fun (q : Nat) => (S.at' (S.mdL nl fun (q : Nat) => tl (q + al)) q).1)
 (fun (q : Nat) => (S.at' (S.mdL nl fun (q : Nat) => tl (q + al)) q).2.1)
 (fun (q : Nat) =>
 (S.at' (S.mdL nl fun (q : Nat) => tl (q + al)) q).2.2.1)
 (fun (q : Nat) =>
 (S.at' (S.mdL nl fun (q : Nat) => tl (q + al)) q).2.2.2)
 (List.length
 (Prod.snd
 (Prod.snd
 (S.cmpS (List.length (S.mdL nl fun (q : Nat) => tl (q + al)))
 (fun (q : Nat) => (S.at' (S.mdL nl fun (q : Nat) => tl (q + al)) q).1)
 (fun (q : Nat) => (S.at' (S.mdL nl fun (q : Nat) => tl (q + al)) q).2.1)
 (fun (q : Nat) =>
 (S.at' (S.mdL nl fun (q : Nat) => tl (q + al)) q).2.2.1)
 (fun (q : Nat) =>
 (S.at' (S.mdL nl fun (q : Nat) => tl (q + al)) q).2.2.2)
 (1000000000 : Int)))))
 (fun (q : Nat) =>
 S.at'
 (Prod.snd
 (Prod.snd
 (S.cmpS (List.length (S.mdL nl fun (q : Nat) => tl (q + al)))
 (fun (q : Nat) => (S.at' (S.mdL nl fun (q : Nat) => tl (q + al)) q).1)
 (fun (q : Nat) =>
 (S.at' (S.mdL nl fun (q : Nat) => tl (q + al)) q).2.1)
 (fun (q : Nat) =>
 (S.at' (S.mdL nl fun (q : Nat) => tl (q + al)) q).2.2.1)
 (fun (q : Nat) =>
 (S.at' (S.mdL nl fun (q : Nat) => tl (q + al)) q).2.2.2)
 (1000000000 : Int))))
 q)
 (1000 : Int) (List.length (S.mdL nl fun (q : Nat) => tl (q + al))) fun (q : Nat) => (0 : Int)))
 j)
 (List.length
 (Prod.snd
 (S.actS (List.length (S.mdL nl fun (q : Nat) => tl (q + al)))
 (fun (q : Nat) => (S.at' (S.mdL nl fun (q : Nat) => tl (q + al)) q).1)
 (fun (q : Nat) => (S.at' (S.mdL nl fun (q : Nat) => tl (q + al)) q).2.1)
 (fun (q : Nat) =>
 (S.at' (S.mdL nl fun (q : Nat) => tl (q + al)) q).2.2.1)
 (fun (q : Nat) =>
 (S.at' (S.mdL nl fun (q : Nat) => tl (q + al)) q).2.2.2)
 (List.length
 (Prod.snd
 (Prod.snd
 (S.cmpS (List.length (S.mdL nl fun (q : Nat) => tl (q + al)))
 (fun (q : Nat) => (S.at' (S.mdL nl fun (q : Nat) => tl (q + al)) q).1)
 (fun (q : Nat) => (S.at' (S.mdL nl fun (q : Nat) => tl (q + al)) q).2.1)
 (fun (q : Nat) =>
 (S.at' (S.mdL nl fun (q : Nat) => tl (q + al)) q).2.2.1)
 (fun (q : Nat) =>
 (S.at' (S.mdL nl fun (q : Nat) => tl (q + al)) q).2.2.2)
 (1000000000 : Int)))))
 (fun (q : Nat) =>
 S.at'
 (Prod.snd
 (Prod.snd
 (S.cmpS (List.length (S.mdL nl fun (q : Nat) => tl (q + al)))
 (fun (q : Nat) => (S.at' (S.mdL nl fun (q : Nat) => tl (q + al)) q).1)
 (fun (q : Nat) =>
 (S.at' (S.mdL nl fun (q : Nat) => tl (q + al)) q).2.1)
 (fun (q : Nat) =>
 (S.at' (S.mdL nl fun (q : Nat) => tl (q + al)) q).2.2.1)
 (fun (q : Nat) =>
 (S.at' (S.mdL nl fun (q : Nat) => tl (q + al)) q).2.2.2)
 (1000000000 : Int))))
 q)
 (1000 : Int) (List.length (S.mdL nl fun (q : Nat) => tl (q + al))) fun (q : Nat) => (0 : Int))) -
 1) !=
 S.maxN
 (fun (j : Nat) =>
 S.at'
 (Prod.snd
 (S.actS (List.length (S.mdL nl fun (q : Nat) => tl (q + al)))
 (fun (q : Nat) => (S.at' (S.mdL nl fun (q : Nat) => tl (q + al)) q).1)
 (fun (q : Nat) => (S.at' (S.mdL nl fun (q : Nat) => tl (q + al)) q).2.1)
 (fun (q : Nat) =>
 (S.at' (S.mdL nl fun (q : Nat) => tl (q + al)) q).2.2.1)
 (fun (q : Nat) =>
 (S.at' (S.mdL nl fun (q : Nat) => tl (q + al)) q).2.2.2)
 (List.length
 (Prod.snd
 (Prod.snd
 (S.cmpS (List.length (S.mdL nl fun (q : Nat) => tl (q + al)))
 (fun (q : Nat) => (S.at' (S.mdL nl fun (q : Nat) => tl (q + al)) q).1)
 (fun (q : Nat) => (S.at' (S.mdL nl fun (q : Nat) => tl (q + al)) q).2.1)
 (fun (q : Nat) =>
 (S.at' (S.mdL nl fun (q : Nat) => tl (q + al)) q).2.2.1)
 (fun (q : Nat) =>
 (S.at' (S.mdL nl fun (q : Nat) => tl (q + al)) q).2.2.2)
 (1000000000 : Int)))))
 (fun (q : Nat) =>
 S.at'
 (Prod.snd
 (Prod.snd
 (S.cmpS (List.length (S.mdL nl fun (q : Nat) => tl (q + al)))
 (fun (q : Nat) => (S.at' (S.mdL nl fun (q : Nat) => tl (q + al)) q).1)
 (fun (q : Nat) =>
 (S.at' (S.mdL nl fun (q : Nat) => tl (q + al)) q).2.1)
 (fun (q : Nat) =>
 (S.at' (S.mdL nl fun (q : Nat) => tl (q + al)) q).2.2.1)
 (fun (q : Nat) =>
 (S.at' (S.mdL nl fun (q : Nat) => tl (q + al)) q).2.2.2)
 (1000000000 : Int))))
 q)
 (1000 : Int) (List.length (S.mdL nl fun (q : Nat) => tl (q + al))) fun (q : Nat) => (0 : Int)))
 j)
 (List.length
 (Prod.snd
 (S.actS (List.length (S.mdL nl fun (q : Nat) => tl (q + al)))
 (fun (q : Nat) => (S.at' (S.mdL nl fun (q : Nat) => tl (q + al)) q).1)
 (fun (q : Nat) => (S.at' (S.mdL nl fun (q : Nat) => tl (q + al)) q).2.1)
 (fun (q : Nat) =>
 (S.at' (S.mdL nl fun (q : Nat) => tl (q + al)) q).2.2.1)
 (fun (q : Nat) =>
 (S.at' (S.mdL nl fun (q : Nat) => tl (q + al)) q).2.2.2)
 (List.length
 (Prod.snd
 (Prod.snd
 (S.cmpS (List.length (S.mdL nl fun (q : Nat) => tl (q + al)))
 (fun (q : Nat) => (S.at' (S.mdL nl fun (q : Nat) => tl (q + al)) q).1)
 (fun (q : Nat) => (S.at' (S.mdL nl fun (q : Nat) => tl (q + al)) q).2.1)
 (fun (q : Nat) =>
 (S.at' (S.mdL nl fun (q : Nat) => tl (q + al)) q).2.2.1)
 (fun (q : Nat) =>
 (S.at' (S.mdL nl fun (q : Nat) => tl (q + al)) q).2.2.2)
 (1000000000 : Int)))))
 (fun (q : Nat) =>
 S.at'
 (Prod.snd
 (Prod.snd
 (S.cmpS (List.length (S.mdL nl fun (q : Nat) => tl (q + al)))
 (fun (q : Nat) => (S.at' (S.mdL nl fun (q : Nat) => tl (q + al)) q).1)
 (fun (q : Nat) =>
 (S.at' (S.mdL nl fun (q : Nat) => tl (q + al)) q).2.1)
 (fun (q : Nat) =>
 (S.at' (S.mdL nl fun (q : Nat) => tl (q + al)) q).2.2.1)
 (fun (q : Nat) =>
 (S.at' (S.mdL nl fun (q : Nat) => tl (q + al)) q).2.2.2)
 (1000000000 : Int))))
 q)
 (1000 : Int) (List.length (S.mdL nl fun (q : Nat) => tl (q + al))) fun (q : Nat) => (0 : Int))) -
 1))
 (Kret (PV.tf false) ([[(1, false, Blk.cols mm [Col.int IntKind.u8 tm]),
 (0, false, Blk.cols ml [Col.int IntKind.u32 tl])]]) (19))
 (test (decide
 (0 +
 List.length
 (Prod.snd
 (S.actS (List.length (S.mdL nl fun (q : Nat) => tl (q + al)))
 (fun (q : Nat) => (S.at' (S.mdL nl fun (q : Nat) => tl (q + al)) q).1)
 (fun (q : Nat) => (S.at' (S.mdL nl fun (q : Nat) => tl (q + al)) q).2.1)
 (fun (q : Nat) =>
 (S.at' (S.mdL nl fun (q : Nat) => tl (q + al)) q).2.2.1)
 (fun (q : Nat) =>
 (S.at' (S.mdL nl fun (q : Nat) => tl (q + al)) q).2.2.2)
 (List.length
 (Prod.snd
 (Prod.snd
 (S.cmpS (List.length (S.mdL nl fun (q : Nat) => tl (q + al)))
 (fun (q : Nat) => (S.at' (S.mdL nl fun (q : Nat) => tl (q + al)) q).1)
 (fun (q : Nat) =>
 (S.at' (S.mdL nl fun (q : Nat) => tl (q + al)) q).2.1)
 (fun (q : Nat) =>
 (S.at' (S.mdL nl fun (q : Nat) => tl (q + al)) q).2.2.1)
 (fun (q : Nat) =>
 (S.at' (S.mdL nl fun (q : Nat) => tl (q + al)) q).2.2.2)
 (1000000000 : Int)))))
 (fun (q : Nat) =>
 S.at'
 (Prod.snd
 (Prod.snd
 (S.cmpS (List.length (S.mdL nl fun (q : Nat) => tl (q + al)))
 (fun (q : Nat) => (S.at' (S.mdL nl fun (q : Nat) => tl (q + al)) q).1)
 (fun (q : Nat) =>
 (S.at' (S.mdL nl fun (q : Nat) => tl (q + al)) q).2.1)
 (fun (q : Nat) =>
 (S.at' (S.mdL nl fun (q : Nat) => tl (q + al)) q).2.2.1)
 (fun (q : Nat) =>
 (S.at' (S.mdL nl fun (q : Nat) => tl (q + al)) q).2.2.2)
 (1000000000 : Int))))
 q)
 (1000 : Int)
 (List.length
 (S.sprL (List.length (S.mdL nl fun (q : Nat) => tl (q + al)))
 (fun (q : Nat) =>
 (S.at' (S.mdL nl fun (q : Nat) => tl (q + al)) q).2.2.2)
 nm fun (q : Nat) => tm (q + am)))
 fun (q : Nat) =>
 S.at'
 (S.sprL (List.length (S.mdL nl fun (q : Nat) => tl (q + al)))
 (fun (q : Nat) =>
 (S.at' (S.mdL nl fun (q : Nat) => tl (q + al)) q).2.2.2)
 nm fun (q : Nat) => tm (q + am))
 q)) ≤
 List.length
 (Prod.snd
 (S.actS (List.length (S.mdL nl fun (q : Nat) => tl (q + al)))
 (fun (q : Nat) => (S.at' (S.mdL nl fun (q : Nat) => tl (q + al)) q).1)
 (fun (q : Nat) => (S.at' (S.mdL nl fun (q : Nat) => tl (q + al)) q).2.1)
 (fun (q : Nat) =>
 (S.at' (S.mdL nl fun (q : Nat) => tl (q + al)) q).2.2.1)
 (fun (q : Nat) =>
 (S.at' (S.mdL nl fun (q : Nat) => tl (q + al)) q).2.2.2)
 (List.length
 (Prod.snd
 (Prod.snd
 (S.cmpS (List.length (S.mdL nl fun (q : Nat) => tl (q + al)))
 (fun (q : Nat) => (S.at' (S.mdL nl fun (q : Nat) => tl (q + al)) q).1)
 (fun (q : Nat) => (S.at' (S.mdL nl fun (q : Nat) => tl (q + al)) q).2.1)
 (fun (q : Nat) =>
 (S.at' (S.mdL nl fun (q : Nat) => tl (q + al)) q).2.2.1)
 (fun (q : Nat) =>
 (S.at' (S.mdL nl fun (q : Nat) => tl (q + al)) q).2.2.2)
 (1000000000 : Int)))))
 (fun (q : Nat) =>
 S.at'
 (Prod.snd
 (Prod.snd
 (S.cmpS (List.length (S.mdL nl fun (q : Nat) => tl (q + al)))
 (fun (q : Nat) => (S.at' (S.mdL nl fun (q : Nat) => tl (q + al)) q).1)
 (fun (q : Nat) =>
 (S.at' (S.mdL nl fun (q : Nat) => tl (q + al)) q).2.1)
 (fun (q : Nat) =>
 (S.at' (S.mdL nl fun (q : Nat) => tl (q + al)) q).2.2.1)
 (fun (q : Nat) =>
 (S.at' (S.mdL nl fun (q : Nat) => tl (q + al)) q).2.2.2)
 (1000000000 : Int))))
 q)
 (1000 : Int)
 (List.length
 (S.sprL (List.length (S.mdL nl fun (q : Nat) => tl (q + al)))
 (fun (q : Nat) =>
 (S.at' (S.mdL nl fun (q : Nat) => tl (q + al)) q).2.2.2)
 nm fun (q : Nat) => tm (q + am)))
 fun (q : Nat) =>
 S.at'
 (S.sprL (List.length (S.mdL nl fun (q : Nat) => tl (q + al)))
 (fun (q : Nat) =>
 (S.at' (S.mdL nl fun (q : Nat) => tl (q + al)) q).2.2.2)
 nm fun (q : Nat) => tm (q + am))
 q)) ∧
 List.length
 (Prod.snd
 (S.actS (List.length (S.mdL nl fun (q : Nat) => tl (q + al)))
 (fun (q : Nat) => (S.at' (S.mdL nl fun (q : Nat) => tl (q + al)) q).1)
 (fun (q : Nat) => (S.at' (S.mdL nl fun (q : Nat) => tl (q + al)) q).2.1)
 (fun (q : Nat) =>
 (S.at' (S.mdL nl fun (q : Nat) => tl (q + al)) q).2.2.1)
 (fun (q : Nat) =>
 (S.at' (S.mdL nl fun (q : Nat) => tl (q + al)) q).2.2.2)
 (List.length
 (Prod.snd
 (Prod.snd
 (S.cmpS (List.length (S.mdL nl fun (q : Nat) => tl (q + al)))
 (fun (q : Nat) => (S.at' (S.mdL nl fun (q : Nat) => tl (q + al)) q).1)
 (fun (q : Nat) =>
 (S.at' (S.mdL nl fun (q : Nat) => tl (q + al)) q).2.1)
 (fun (q : Nat) =>
 (S.at' (S.mdL nl fun (q : Nat) => tl (q + al)) q).2.2.1)
 (fun (q : Nat) =>
 (S.at' (S.mdL nl fun (q : Nat) => tl (q + al)) q).2.2.2)
 (1000000000 : Int)))))
 (fun (q : Nat) =>
 S.at'
 (Prod.snd
 (Prod.snd
 (S.cmpS (List.length (S.mdL nl fun (q : Nat) => tl (q + al)))
 (fun (q : Nat) => (S.at' (S.mdL nl fun (q : Nat) => tl (q + al)) q).1)
 (fun (q : Nat) =>
 (S.at' (S.mdL nl fun (q : Nat) => tl (q + al)) q).2.1)
 (fun (q : Nat) =>
 (S.at' (S.mdL nl fun (q : Nat) => tl (q + al)) q).2.2.1)
 (fun (q : Nat) =>
 (S.at' (S.mdL nl fun (q : Nat) => tl (q + al)) q).2.2.2)
 (1000000000 : Int))))
 q)
 (1000 : Int)
 (List.length
 (S.sprL (List.length (S.mdL nl fun (q : Nat) => tl (q + al)))
 (fun (q : Nat) =>
 (S.at' (S.mdL nl fun (q : Nat) => tl (q + al)) q).2.2.2)
 nm fun (q : Nat) => tm (q + am)))
 fun (q : Nat) =>
 S.at'
 (S.sprL (List.length (S.mdL nl fun (q : Nat) => tl (q + al)))
 (fun (q : Nat) =>
 (S.at' (S.mdL nl fun (q : Nat) => tl (q + al)) q).2.2.2)
 nm fun (q : Nat) => tm (q + am))
 q)) ≤
 1000000 ∧
 0 <
 List.length
 (Prod.snd
 (S.actS (List.length (S.mdL nl fun (q : Nat) => tl (q + al)))
 (fun (q : Nat) => (S.at' (S.mdL nl fun (q : Nat) => tl (q + al)) q).1)
 (fun (q : Nat) => (S.at' (S.mdL nl fun (q : Nat) => tl (q + al)) q).2.1)
 (fun (q : Nat) =>
 (S.at' (S.mdL nl fun (q : Nat) => tl (q + al)) q).2.2.1)
 (fun (q : Nat) =>
 (S.at' (S.mdL nl fun (q : Nat) => tl (q + al)) q).2.2.2)
 (List.length
 (Prod.snd
 (Prod.snd
 (S.cmpS (List.length (S.mdL nl fun (q : Nat) => tl (q + al)))
 (fun (q : Nat) => (S.at' (S.mdL nl fun (q : Nat) => tl (q + al)) q).1)
 (fun (q : Nat) =>
 (S.at' (S.mdL nl fun (q : Nat) => tl (q + al)) q).2.1)
 (fun (q : Nat) =>
 (S.at' (S.mdL nl fun (q : Nat) => tl (q + al)) q).2.2.1)
 (fun (q : Nat) =>
 (S.at' (S.mdL nl fun (q : Nat) => tl (q + al)) q).2.2.2)
 (1000000000 : Int)))))
 (fun (q : Nat) =>
 S.at'
 (Prod.snd
 (Prod.snd
 (S.cmpS (List.length (S.mdL nl fun (q : Nat) => tl (q + al)))
 (fun (q : Nat) => (S.at' (S.mdL nl fun (q : Nat) => tl (q + al)) q).1)
 (fun (q : Nat) =>
 (S.at' (S.mdL nl fun (q : Nat) => tl (q + al)) q).2.1)
 (fun (q : Nat) =>
 (S.at' (S.mdL nl fun (q : Nat) => tl (q + al)) q).2.2.1)
 (fun (q : Nat) =>
 (S.at' (S.mdL nl fun (q : Nat) => tl (q + al)) q).2.2.2)
 (1000000000 : Int))))
 q)
 (1000 : Int)
 (List.length
 (S.sprL (List.length (S.mdL nl fun (q : Nat) => tl (q + al)))
 (fun (q : Nat) =>
 (S.at' (S.mdL nl fun (q : Nat) => tl (q + al)) q).2.2.2)
 nm fun (q : Nat) => tm (q + am)))
 fun (q : Nat) =>
 S.at'
 (S.sprL (List.length (S.mdL nl fun (q : Nat) => tl (q + al)))
 (fun (q : Nat) =>
 (S.at' (S.mdL nl fun (q : Nat) => tl (q + al)) q).2.2.2)
 nm fun (q : Nat) => tm (q + am))
 q))))
 (test (decide
 (0 +
 List.length
 (Prod.snd
 (S.actS (List.length (S.mdL nl fun (q : Nat) => tl (q + al)))
 (fun (q : Nat) => (S.at' (S.mdL nl fun (q : Nat) => tl (q + al)) q).1)
 (fun (q : Nat) => (S.at' (S.mdL nl fun (q : Nat) => tl (q + al)) q).2.1)
 (fun (q : Nat) =>
 (S.at' (S.mdL nl fun (q : Nat) => tl (q + al)) q).2.2.1)
 (fun (q : Nat) =>
 (S.at' (S.mdL nl fun (q : Nat) => tl (q + al)) q).2.2.2)
 (List.length
 (Prod.snd
 (Prod.snd
 (S.cmpS (List.length (S.mdL nl fun (q : Nat) => tl (q + al)))
 (fun (q : Nat) => (S.at' (S.mdL nl fun (q : Nat) => tl (q + al)) q).1)
 (fun (q : Nat) =>
 (S.at' (S.mdL nl fun (q : Nat) => tl (q + al)) q).2.1)
 (fun (q : Nat) =>
 (S.at' (S.mdL nl fun (q : Nat) => tl (q + al)) q).2.2.1)
 (fun (q : Nat) =>
 (S.at' (S.mdL nl fun (q : Nat) => tl (q + al)) q).2.2.2)
 (1000000000 : Int)))))
 (fun (q : Nat) =>
 S.at'
 (Prod.snd
 (Prod.snd
 (S.cmpS (List.length (S.mdL nl fun (q : Nat) => tl (q + al)))
 (fun (q : Nat) => (S.at' (S.mdL nl fun (q : Nat) => tl (q + al)) q).1)
 (fun (q : Nat) =>
 (S.at' (S.mdL nl fun (q : Nat) => tl (q + al)) q).2.1)
 (fun (q : Nat) =>
 (S.at' (S.mdL nl fun (q : Nat) => tl (q + al)) q).2.2.1)
 (fun (q : Nat) =>
 (S.at' (S.mdL nl fun (q : Nat) => tl (q + al)) q).2.2.2)
 (1000000000 : Int))))
 q)
 (1000 : Int)
 (List.length
 (S.sprL (List.length (S.mdL nl fun (q : Nat) => tl (q + al)))
 (fun (q : Nat) =>
 (S.at' (S.mdL nl fun (q : Nat) => tl (q + al)) q).2.2.2)
 nm fun (q : Nat) => tm (q + am)))
 fun (q : Nat) =>
 S.at'
 (S.sprL (List.length (S.mdL nl fun (q : Nat) => tl (q + al)))
 (fun (q : Nat) =>
 (S.at' (S.mdL nl fun (q : Nat) => tl (q + al)) q).2.2.2)
 nm fun (q : Nat) => tm (q + am))
 q)) ≤
 List.length
 (Prod.snd
 (S.actS (List.length (S.mdL nl fun (q : Nat) => tl (q + al)))
 (fun (q : Nat) => (S.at' (S.mdL nl fun (q : Nat) => tl (q + al)) q).1)
 (fun (q : Nat) => (S.at' (S.mdL nl fun (q : Nat) => tl (q + al)) q).2.1)
 (fun (q : Nat) =>
 (S.at' (S.mdL nl fun (q : Nat) => tl (q + al)) q).2.2.1)
 (fun (q : Nat) =>
 (S.at' (S.mdL nl fun (q : Nat) => tl (q + al)) q).2.2.2)
 (List.length
 (Prod.snd
 (Prod.snd
 (S.cmpS (List.length (S.mdL nl fun (q : Nat) => tl (q + al)))
 (fun (q : Nat) => (S.at' (S.mdL nl fun (q : Nat) => tl (q + al)) q).1)
 (fun (q : Nat) => (S.at' (S.mdL nl fun (q : Nat) => tl (q + al)) q).2.1)
 (fun (q : Nat) =>
 (S.at' (S.mdL nl fun (q : Nat) => tl (q + al)) q).2.2.1)
 (fun (q : Nat) =>
 (S.at' (S.mdL nl fun (q : Nat) => tl (q + al)) q).2.2.2)
 (1000000000 : Int)))))
 (fun (q : Nat) =>
 S.at'
 (Prod.snd
 (Prod.snd
 (S.cmpS (List.length (S.mdL nl fun (q : Nat) => tl (q + al)))
 (fun (q : Nat) => (S.at' (S.mdL nl fun (q : Nat) => tl (q + al)) q).1)
 (fun (q : Nat) =>
 (S.at' (S.mdL nl fun (q : Nat) => tl (q + al)) q).2.1)
 (fun (q : Nat) =>
 (S.at' (S.mdL nl fun (q : Nat) => tl (q + al)) q).2.2.1)
 (fun (q : Nat) =>
 (S.at' (S.mdL nl fun (q : Nat) => tl (q + al)) q).2.2.2)
 (1000000000 : Int))))
 q)
 (1000 : Int)
 (List.length
 (S.sprL (List.length (S.mdL nl fun (q : Nat) => tl (q + al)))
 (fun (q : Nat) =>
 (S.at' (S.mdL nl fun (q : Nat) => tl (q + al)) q).2.2.2)
 nm fun (q : Nat) => tm (q + am)))
 fun (q : Nat) =>
 S.at'
 (S.sprL (List.length (S.mdL nl fun (q : Nat) => tl (q + al)))
 (fun (q : Nat) =>
 (S.at' (S.mdL nl fun (q : Nat) => tl (q + al)) q).2.2.2)
 nm fun (q : Nat) => tm (q + am))
 q)) ∧
 List.length
 (Prod.snd
 (S.actS (List.length (S.mdL nl fun (q : Nat) => tl (q + al)))
 (fun (q : Nat) => (S.at' (S.mdL nl fun (q : Nat) => tl (q + al)) q).1)
 (fun (q : Nat) => (S.at' (S.mdL nl fun (q : Nat) => tl (q + al)) q).2.1)
 (fun (q : Nat) =>
 (S.at' (S.mdL nl fun (q : Nat) => tl (q + al)) q).2.2.1)
 (fun (q : Nat) =>
 (S.at' (S.mdL nl fun (q : Nat) => tl (q + al)) q).2.2.2)
 (List.length
 (Prod.snd
 (Prod.snd
 (S.cmpS (List.length (S.mdL nl fun (q : Nat) => tl (q + al)))
 (fun (q : Nat) => (S.at' (S.mdL nl fun (q : Nat) => tl (q + al)) q).1)
 (fun (q : Nat) =>
 (S.at' (S.mdL nl fun (q : Nat) => tl (q + al)) q).2.1)
 (fun (q : Nat) =>
 (S.at' (S.mdL nl fun (q : Nat) => tl (q + al)) q).2.2.1)
 (fun (q : Nat) =>
 (S.at' (S.mdL nl fun (q : Nat) => tl (q + al)) q).2.2.2)
 (1000000000 : Int)))))
 (fun (q : Nat) =>
 S.at'
 (Prod.snd
 (Prod.snd
 (S.cmpS (List.length (S.mdL nl fun (q : Nat) => tl (q + al)))
 (fun (q : Nat) => (S.at' (S.mdL nl fun (q : Nat) => tl (q + al)) q).1)
 (fun (q : Nat) =>
 (S.at' (S.mdL nl fun (q : Nat) => tl (q + al)) q).2.1)
 (fun (q : Nat) =>
 (S.at' (S.mdL nl fun (q : Nat) => tl (q + al)) q).2.2.1)
 (fun (q : Nat) =>
 (S.at' (S.mdL nl fun (q : Nat) => tl (q + al)) q).2.2.2)
 (1000000000 : Int))))
 q)
 (1000 : Int)
 (List.length
 (S.sprL (List.length (S.mdL nl fun (q : Nat) => tl (q + al)))
 (fun (q : Nat) =>
 (S.at' (S.mdL nl fun (q : Nat) => tl (q + al)) q).2.2.2)
 nm fun (q : Nat) => tm (q + am)))
 fun (q : Nat) =>
 S.at'
 (S.sprL (List.length (S.mdL nl fun (q : Nat) => tl (q + al)))
 (fun (q : Nat) =>
 (S.at' (S.mdL nl fun (q : Nat) => tl (q + al)) q).2.2.2)
 nm fun (q : Nat) => tm (q + am))
 q)) ≤
 1000000 ∧
 0 <
 List.length
 (Prod.snd
 (S.actS (List.length (S.mdL nl fun (q : Nat) => tl (q + al)))
 (fun (q : Nat) => (S.at' (S.mdL nl fun (q : Nat) => tl (q + al)) q).1)
 (fun (q : Nat) => (S.at' (S.mdL nl fun (q : Nat) => tl (q + al)) q).2.1)
 (fun (q : Nat) =>
 (S.at' (S.mdL nl fun (q : Nat) => tl (q + al)) q).2.2.1)
 (fun (q : Nat) =>
 (S.at' (S.mdL nl fun (q : Nat) => tl (q + al)) q).2.2.2)
 (List.length
 (Prod.snd
 (Prod.snd
 (S.cmpS (List.length (S.mdL nl fun (q : Nat) => tl (q + al)))
 (fun (q : Nat) => (S.at' (S.mdL nl fun (q : Nat) => tl (q + al)) q).1)
 (fun (q : Nat) =>
 (S.at' (S.mdL nl fun (q : Nat) => tl (q + al)) q).2.1)
 (fun (q : Nat) =>
 (S.at' (S.mdL nl fun (q : Nat) => tl (q + al)) q).2.2.1)
 (fun (q : Nat) =>
 (S.at' (S.mdL nl fun (q : Nat) => tl (q + al)) q).2.2.2)
 (1000000000 : Int)))))
 (fun (q : Nat) =>
 S.at'
 (Prod.snd
 (Prod.snd
 (S.cmpS (List.length (S.mdL nl fun (q : Nat) => tl (q + al)))
 (fun (q : Nat) => (S.at' (S.mdL nl fun (q : Nat) => tl (q + al)) q).1)
 (fun (q : Nat) =>
 (S.at' (S.mdL nl fun (q : Nat) => tl (q + al)) q).2.1)
 (fun (q : Nat) =>
 (S.at' (S.mdL nl fun (q : Nat) => tl (q + al)) q).2.2.1)
 (fun (q : Nat) =>
 (S.at' (S.mdL nl fun (q : Nat) => tl (q + al)) q).2.2.2)
 (1000000000 : Int))))
 q)
 (1000 : Int)
 (List.length
 (S.sprL (List.length (S.mdL nl fun (q : Nat) => tl (q + al)))
 (fun (q : Nat) =>
 (S.at' (S.mdL nl fun (q : Nat) => tl (q + al)) q).2.2.2)
 nm fun (q : Nat) => tm (q + am)))
 fun (q : Nat) =>
 S.at'
 (S.sprL (List.length (S.mdL nl fun (q : Nat) => tl (q + al)))
 (fun (q : Nat) =>
 (S.at' (S.mdL nl fun (q : Nat) => tl (q + al)) q).2.2.2)
 nm fun (q : Nat) => tm (q + am))
 q))))
 (test (lim IntKind.i64
 (S.maxN
 (fun (j : Nat) =>
 S.at'
 (Prod.snd
 (S.actS (List.length (S.mdL nl fun (q : Nat) => tl (q + al)))
 (fun (q : Nat) => (S.at' (S.mdL nl fun (q : Nat) => tl (q + al)) q).1)
 (fun (q : Nat) => (S.at' (S.mdL nl fun (q : Nat) => tl (q + al)) q).2.1)
 (fun (q : Nat) =>
 (S.at' (S.mdL nl fun (q : Nat) => tl (q + al)) q).2.2.1)
 (fun (q : Nat) =>
 (S.at' (S.mdL nl fun (q : Nat) => tl (q + al)) q).2.2.2)
 (List.length
 (Prod.snd
 (Prod.snd
 (S.cmpS (List.length (S.mdL nl fun (q : Nat) => tl (q + al)))
 (fun (q : Nat) => (S.at' (S.mdL nl fun (q : Nat) => tl (q + al)) q).1)
 (fun (q : Nat) =>
 (S.at' (S.mdL nl fun (q : Nat) => tl (q + al)) q).2.1)
 (fun (q : Nat) =>
 (S.at' (S.mdL nl fun (q : Nat) => tl (q + al)) q).2.2.1)
 (fun (q : Nat) =>
 (S.at' (S.mdL nl fun (q : Nat) => tl (q + al)) q).2.2.2)
 (1000000000 : Int)))))
 (fun (q : Nat) =>
 S.at'
 (Prod.snd
 (Prod.snd
 (S.cmpS (List.length (S.mdL nl fun (q : Nat) => tl (q + al)))
 (fun (q : Nat) => (S.at' (S.mdL nl fun (q : Nat) => tl (q + al)) q).1)
 (fun (q : Nat) =>
 (S.at' (S.mdL nl fun (q : Nat) => tl (q + al)) q).2.1)
 (fun (q : Nat) =>
 (S.at' (S.mdL nl fun (q : Nat) => tl (q + al)) q).2.2.1)
 (fun (q : Nat) =>
 (S.at' (S.mdL nl fun (q : Nat) => tl (q + al)) q).2.2.2)
 (1000000000 : Int))))
 q)
 (1000 : Int)
 (List.length
 (S.sprL (List.length (S.mdL nl fun (q : Nat) => tl (q + al)))
 (fun (q : Nat) =>
 (S.at' (S.mdL nl fun (q : Nat) => tl (q + al)) q).2.2.2)
 nm fun (q : Nat) => tm (q + am)))
 fun (q : Nat) =>
 S.at'
 (S.sprL (List.length (S.mdL nl fun (q : Nat) => tl (q + al)))
 (fun (q : Nat) =>
 (S.at' (S.mdL nl fun (q : Nat) => tl (q + al)) q).2.2.2)
 nm fun (q : Nat) => tm (q + am))
 q))
 j)
 (List.length
 (Prod.snd
 (S.actS (List.length (S.mdL nl fun (q : Nat) => tl (q + al)))
 (fun (q : Nat) => (S.at' (S.mdL nl fun (q : Nat) => tl (q + al)) q).1)
 (fun (q : Nat) => (S.at' (S.mdL nl fun (q : Nat) => tl (q + al)) q).2.1)
 (fun (q : Nat) =>
 (S.at' (S.mdL nl fun (q : Nat) => tl (q + al)) q).2.2.1)
 (fun (q : Nat) =>
 (S.at' (S.mdL nl fun (q : Nat) => tl (q + al)) q).2.2.2)
 (List.length
 (Prod.snd
 (Prod.snd
 (S.cmpS (List.length (S.mdL nl fun (q : Nat) => tl (q + al)))
 (fun (q : Nat) => (S.at' (S.mdL nl fun (q : Nat) => tl (q + al)) q).1)
 (fun (q : Nat) =>
 (S.at' (S.mdL nl fun (q : Nat) => tl (q + al)) q).2.1)
 (fun (q : Nat) =>
 (S.at' (S.mdL nl fun (q : Nat) => tl (q + al)) q).2.2.1)
 (fun (q : Nat) =>
 (S.at' (S.mdL nl fun (q : Nat) => tl (q + al)) q).2.2.2)
 (1000000000 : Int)))))
 (fun (q : Nat) =>
 S.at'
 (Prod.snd
 (Prod.snd
 (S.cmpS (List.length (S.mdL nl fun (q : Nat) => tl (q + al)))
 (fun (q : Nat) => (S.at' (S.mdL nl fun (q : Nat) => tl (q + al)) q).1)
 (fun (q : Nat) =>
 (S.at' (S.mdL nl fun (q : Nat) => tl (q + al)) q).2.1)
 (fun (q : Nat) =>
 (S.at' (S.mdL nl fun (q : Nat) => tl (q + al)) q).2.2.1)
 (fun (q : Nat) =>
 (S.at' (S.mdL nl fun (q : Nat) => tl (q + al)) q).2.2.2)
 (1000000000 : Int))))
 q)
 (1000 : Int)
 (List.length
 (S.sprL (List.length (S.mdL nl fun (q : Nat) => tl (q + al)))
 (fun (q : Nat) =>
 (S.at' (S.mdL nl fun (q : Nat) => tl (q + al)) q).2.2.2)
 nm fun (q : Nat) => tm (q + am)))
 fun (q : Nat) =>
 S.at'
 (S.sprL (List.length (S.mdL nl fun (q : Nat) => tl (q + al)))
 (fun (q : Nat) =>
 (S.at' (S.mdL nl fun (q : Nat) => tl (q + al)) q).2.2.2)
 nm fun (q : Nat) => tm (q + am))
 q)) -
 1) -
 S.minN
 (fun (j : Nat) =>
 S.at'
 (Prod.snd
 (S.actS (List.length (S.mdL nl fun (q : Nat) => tl (q + al)))
 (fun (q : Nat) => (S.at' (S.mdL nl fun (q : Nat) => tl (q + al)) q).1)
 (fun (q : Nat) => (S.at' (S.mdL nl fun (q : Nat) => tl (q + al)) q).2.1)
 (fun (q : Nat) =>
 (S.at' (S.mdL nl fun (q : Nat) => tl (q + al)) q).2.2.1)
 (fun (q : Nat) =>
 (S.at' (S.mdL nl fun (q : Nat) => tl (q + al)) q).2.2.2)
 (List.length
 (Prod.snd
 (Prod.snd
 (S.cmpS (List.length (S.mdL nl fun (q : Nat) => tl (q + al)))
 (fun (q : Nat) => (S.at' (S.mdL nl fun (q : Nat) => tl (q + al)) q).1)
 (fun (q : Nat) =>
 (S.at' (S.mdL nl fun (q : Nat) => tl (q + al)) q).2.1)
 (fun (q : Nat) =>
 (S.at' (S.mdL nl fun (q : Nat) => tl (q + al)) q).2.2.1)
 (fun (q : Nat) =>
 (S.at' (S.mdL nl fun (q : Nat) => tl (q + al)) q).2.2.2)
 (1000000000 : Int)))))
 (fun (q : Nat) =>
 S.at'
 (Prod.snd
 (Prod.snd
 (S.cmpS (List.length (S.mdL nl fun (q : Nat) => tl (q + al)))
 (fun (q : Nat) => (S.at' (S.mdL nl fun (q : Nat) => tl (q + al)) q).1)
 (fun (q : Nat) =>
 (S.at' (S.mdL nl fun (q : Nat) => tl (q + al)) q).2.1)
 (fun (q : Nat) =>
 (S.at' (S.mdL nl fun (q : Nat) => tl (q + al)) q).2.2.1)
 (fun (q : Nat) =>
 (S.at' (S.mdL nl fun (q : Nat) => tl (q + al)) q).2.2.2)
 (1000000000 : Int))))
 q)
 (1000 : Int)
 (List.length
 (S.sprL (List.length (S.mdL nl fun (q : Nat) => tl (q + al)))
 (fun (q : Nat) =>
 (S.at' (S.mdL nl fun (q : Nat) => tl (q + al)) q).2.2.2)
 nm fun (q : Nat) => tm (q + am)))
 fun (q : Nat) =>
 S.at'
 (S.sprL (List.length (S.mdL nl fun (q : Nat) => tl (q + al)))
 (fun (q : Nat) =>
 (S.at' (S.mdL nl fun (q : Nat) => tl (q + al)) q).2.2.2)
 nm fun (q : Nat) => tm (q + am))
 q))
 j)
 (List.length
 (Prod.snd
 (S.actS (List.length (S.mdL nl fun (q : Nat) => tl (q + al)))
 (fun (q : Nat) => (S.at' (S.mdL nl fun (q : Nat) => tl (q + al)) q).1)
 (fun (q : Nat) => (S.at' (S.mdL nl fun (q : Nat) => tl (q + al)) q).2.1)
 (fun (q : Nat) =>
 (S.at' (S.mdL nl fun (q : Nat) => tl (q + al)) q).2.2.1)
 (fun (q : Nat) =>
 (S.at' (S.mdL nl fun (q : Nat) => tl (q + al)) q).2.2.2)
 (List.length
 (Prod.snd
 (Prod.snd
 (S.cmpS (List.length (S.mdL nl fun (q : Nat) => tl (q + al)))
 (fun (q : Nat) => (S.at' (S.mdL nl fun (q : Nat) => tl (q + al)) q).1)
 (fun (q : Nat) =>
 (S.at' (S.mdL nl fun (q : Nat) => tl (q + al)) q).2.1)
 (fun (q : Nat) =>
 (S.at' (S.mdL nl fun (q : Nat) => tl (q + al)) q).2.2.1)
 (fun (q : Nat) =>
 (S.at' (S.mdL nl fun (q : Nat) => tl (q + al)) q).2.2.2)
 (1000000000 : Int)))))
 (fun (q : Nat) =>
 S.at'
 (Prod.snd
 (Prod.snd
 (S.cmpS (List.length (S.mdL nl fun (q : Nat) => tl (q + al)))
 (fun (q : Nat) => (S.at' (S.mdL nl fun (q : Nat) => tl (q + al)) q).1)
 (fun (q : Nat) =>
 (S.at' (S.mdL nl fun (q : Nat) => tl (q + al)) q).2.1)
 (fun (q : Nat) =>
 (S.at' (S.mdL nl fun (q : Nat) => tl (q + al)) q).2.2.1)
 (fun (q : Nat) =>
 (S.at' (S.mdL nl fun (q : Nat) => tl (q + al)) q).2.2.2)
 (1000000000 : Int))))
 q)
 (1000 : Int)
 (List.length
 (S.sprL (List.length (S.mdL nl fun (q : Nat) => tl (q + al)))
 (fun (q : Nat) =>
 (S.at' (S.mdL nl fun (q : Nat) => tl (q + al)) q).2.2.2)
 nm fun (q : Nat) => tm (q + am)))
 fun (q : Nat) =>
 S.at'
 (S.sprL (List.length (S.mdL nl fun (q : Nat) => tl (q + al)))
 (fun (q : Nat) =>
 (S.at' (S.mdL nl fun (q : Nat) => tl (q + al)) q).2.2.2)
 nm fun (q : Nat) => tm (q + am))
 q)) -
 1)))
 (test (decide
 (S.maxN
 (fun (j : Nat) =>
 S.at'
 (Prod.snd
 (S.actS (List.length (S.mdL nl fun (q : Nat) => tl (q + al)))
 (fun (q : Nat) => (S.at' (S.mdL nl fun (q : Nat) => tl (q + al)) q).1)
 (fun (q : Nat) => (S.at' (S.mdL nl fun (q : Nat) => tl (q + al)) q).2.1)
 (fun (q : Nat) =>
 (S.at' (S.mdL nl fun (q : Nat) => tl (q + al)) q).2.2.1)
 (fun (q : Nat) =>
 (S.at' (S.mdL nl fun (q : Nat) => tl (q + al)) q).2.2.2)
 (List.length
 (Prod.snd
 (Prod.snd
 (S.cmpS (List.length (S.mdL nl fun (q : Nat) => tl (q + al)))
 (fun (q : Nat) => (S.at' (S.mdL nl fun (q : Nat) => tl (q + al)) q).1)
 (fun (q : Nat) =>
 (S.at' (S.mdL nl fun (q : Nat) => tl (q + al)) q).2.1)
 (fun (q : Nat) =>
 (S.at' (S.mdL nl fun (q : Nat) => tl (q + al)) q).2.2.1)
 (fun (q : Nat) =>
 (S.at' (S.mdL nl fun (q : Nat) => tl (q + al)) q).2.2.2)
 (1000000000 : Int)))))
 (fun (q : Nat) =>
 S.at'
 (Prod.snd
 (Prod.snd
 (S.cmpS (List.length (S.mdL nl fun (q : Nat) => tl (q + al)))
 (fun (q : Nat) => (S.at' (S.mdL nl fun (q : Nat) => tl (q + al)) q).1)
 (fun (q : Nat) =>
 (S.at' (S.mdL nl fun (q : Nat) => tl (q + al)) q).2.1)
 (fun (q : Nat) =>
 Prod.fst
 ((S.at' (S.mdL nl fun (q : Nat) => tl (q + al)) q).2.2))
 (fun (q : Nat) =>
 Prod.snd
 ((S.at' (S.mdL nl fun (q : Nat) => tl (q + al)) q).2.2))
 (1000000000 : Int))))
 q)
 (1000 : Int)
 (List.length
 (S.sprL (List.length (S.mdL nl fun (q : Nat) => tl (q + al)))
 (fun (q : Nat) =>
 (S.at' (S.mdL nl fun (q : Nat) => tl (q + al)) q).2.2.2)
 nm fun (q : Nat) => tm (q + am)))
 fun (q : Nat) =>
 S.at'
 (S.sprL (List.length (S.mdL nl fun (q : Nat) => tl (q + al)))
 (fun (q : Nat) =>
 (S.at' (S.mdL nl fun (q : Nat) => tl (q + al)) q).2.2.2)
 nm fun (q : Nat) => tm (q + am))
 q))
 j)
 (List.length
 (Prod.snd
 (S.actS (List.length (S.mdL nl fun (q : Nat) => tl (q + al)))
 (fun (q : Nat) => (S.at' (S.mdL nl fun (q : Nat) => tl (q + al)) q).1)
 (fun (q : Nat) => (S.at' (S.mdL nl fun (q : Nat) => tl (q + al)) q).2.1)
 (fun (q : Nat) =>
 (S.at' (S.mdL nl fun (q : Nat) => tl (q + al)) q).2.2.1)
 (fun (q : Nat) =>
 (S.at' (S.mdL nl fun (q : Nat) => tl (q + al)) q).2.2.2)
 (List.length
 (Prod.snd
 (Prod.snd
 (S.cmpS (List.length (S.mdL nl fun (q : Nat) => tl (q + al)))
 (fun (q : Nat) => (S.at' (S.mdL nl fun (q : Nat) => tl (q + al)) q).1)
 (fun (q : Nat) =>
 (S.at' (S.mdL nl fun (q : Nat) => tl (q + al)) q).2.1)
 (fun (q : Nat) =>
 (S.at' (S.mdL nl fun (q : Nat) => tl (q + al)) q).2.2.1)
 (fun (q : Nat) =>
 (S.at' (S.mdL nl fun (q : Nat) => tl (q + al)) q).2.2.2)
 (1000000000 : Int)))))
 (fun (q : Nat) =>
 S.at'
 (Prod.snd
 (Prod.snd
 (S.cmpS (List.length (S.mdL nl fun (q : Nat) => tl (q + al)))
 (fun (q : Nat) => (S.at' (S.mdL nl fun (q : Nat) => tl (q + al)) q).1)
 (fun (q : Nat) =>
 (S.at' (S.mdL nl fun (q : Nat) => tl (q + al)) q).2.1)
 (fun (q : Nat) =>
 Prod.fst
 ((S.at' (S.mdL nl fun (q : Nat) => tl (q + al)) q).2.2))
 (fun (q : Nat) =>
 Prod.snd
 ((S.at' (S.mdL nl fun (q : Nat) => tl (q + al)) q).2.2))
 (1000000000 : Int))))
 q)
 (1000 : Int)
 (List.length
 (S.sprL (List.length (S.mdL nl fun (q : Nat) => tl (q + al)))
 (fun (q : Nat) =>
 (S.at' (S.mdL nl fun (q : Nat) => tl (q + al)) q).2.2.2)
 nm fun (q : Nat) => tm (q + am)))
 fun (q : Nat) =>
 S.at'
 (S.sprL (List.length (S.mdL nl fun (q : Nat) => tl (q + al)))
 (fun (q : Nat) =>
 (S.at' (S.mdL nl fun (q : Nat) => tl (q + al)) q).2.2.2)
 nm fun (q : Nat) => tm (q + am))
 q)) -
 1) -
 S.minN
 (fun (j : Nat) =>
 S.at'
 (Prod.snd
 (S.actS (List.length (S.mdL nl fun (q : Nat) => tl (q + al)))
 (fun (q : Nat) => (S.at' (S.mdL nl fun (q : Nat) => tl (q + al)) q).1)
 (fun (q : Nat) => (S.at' (S.mdL nl fun (q : Nat) => tl (q + al)) q).2.1)
 (fun (q : Nat) =>
 (S.at' (S.mdL nl fun (q : Nat) => tl (q + al)) q).2.2.1)
 (fun (q : Nat) =>
 (S.at' (S.mdL nl fun (q : Nat) => tl (q + al)) q).2.2.2)
 (List.length
 (Prod.snd
 (Prod.snd
 (S.cmpS (List.length (S.mdL nl fun (q : Nat) => tl (q + al)))
 (fun (q : Nat) => (S.at' (S.mdL nl fun (q : Nat) => tl (q + al)) q).1)
 (fun (q : Nat) =>
 (S.at' (S.mdL nl fun (q : Nat) => tl (q + al)) q).2.1)
 (fun (q : Nat) =>
 (S.at' (S.mdL nl fun (q : Nat) => tl (q + al)) q).2.2.1)
 (fun (q : Nat) =>
 (S.at' (S.mdL nl fun (q : Nat) => tl (q + al)) q).2.2.2)
 (1000000000 : Int)))))
 (fun (q : Nat) =>
 S.at'
 (Prod.snd
 (Prod.snd
 (S.cmpS (List.length (S.mdL nl fun (q : Nat) => tl (q + al)))
 (fun (q : Nat) => (S.at' (S.mdL nl fun (q : Nat) => tl (q + al)) q).1)
 (fun (q : Nat) =>
 (S.at' (S.mdL nl fun (q : Nat) => tl (q + al)) q).2.1)
 (fun (q : Nat) =>
 Prod.fst
 ((S.at' (S.mdL nl fun (q : Nat) => tl (q + al)) q).2.2))
 (fun (q : Nat) =>
 Prod.snd
 ((S.at' (S.mdL nl fun (q : Nat) => tl (q + al)) q).2.2))
 (1000000000 : Int))))
 q)
 (1000 : Int)
 (List.length
 (S.sprL (List.length (S.mdL nl fun (q : Nat) => tl (q + al)))
 (fun (q : Nat) =>
 (S.at' (S.mdL nl fun (q : Nat) => tl (q + al)) q).2.2.2)
 nm fun (q : Nat) => tm (q + am)))
 fun (q : Nat) =>
 S.at'
 (S.sprL (List.length (S.mdL nl fun (q : Nat) => tl (q + al)))
 (fun (q : Nat) =>
 (S.at' (S.mdL nl fun (q : Nat) => tl (q + al)) q).2.2.2)
 nm fun (q : Nat) => tm (q + am))
 q))
 j)
 (List.length
 (Prod.snd
 (S.actS (List.length (S.mdL nl fun (q : Nat) => tl (q + al)))
 (fun (q : Nat) => (S.at' (S.mdL nl fun (q : Nat) => tl (q + al)) q).1)
 (fun (q : Nat) => (S.at' (S.mdL nl fun (q : Nat) => tl (q + al)) q).2.1)
 (fun (q : Nat) =>
 (S.at' (S.mdL nl fun (q : Nat) => tl (q + al)) q).2.2.1)
 (fun (q : Nat) =>
 (S.at' (S.mdL nl fun (q : Nat) => tl (q + al)) q).2.2.2)
 (List.length
 (Prod.snd
 (Prod.snd
 (S.cmpS (List.length (S.mdL nl fun (q : Nat) => tl (q + al)))
 (fun (q : Nat) => (S.at' (S.mdL nl fun (q : Nat) => tl (q + al)) q).1)
 (fun (q : Nat) =>
 (S.at' (S.mdL nl fun (q : Nat) => tl (q + al)) q).2.1)
 (fun (q : Nat) =>
 (S.at' (S.mdL nl fun (q : Nat) => tl (q + al)) q).2.2.1)
 (fun (q : Nat) =>
 (S.at' (S.mdL nl fun (q : Nat) => tl (q + al)) q).2.2.2)
 (1000000000 : Int)))))
 (fun (q : Nat) =>
 S.at'
 (Prod.snd
 (Prod.snd
 (S.cmpS (List.length (S.mdL nl fun (q : Nat) => tl (q + al)))
 (fun (q : Nat) => (S.at' (S.mdL nl fun (q : Nat) => tl (q + al)) q).1)
 (fun (q : Nat) =>
 (S.at' (S.mdL nl fun (q : Nat) => tl (q + al)) q).2.1)
 (fun (q : Nat) =>
 Prod.fst
 ((S.at' (S.mdL nl fun (q : Nat) => tl (q + al)) q).2.2))
 (fun (q : Nat) =>
 Prod.snd
 ((S.at' (S.mdL nl fun (q : Nat) => tl (q + al)) q).2.2))
 (1000000000 : Int))))
 q)
 (1000 : Int)
 (List.length
 (S.sprL (List.length (S.mdL nl fun (q : Nat) => tl (q + al)))
 (fun (q : Nat) =>
 (S.at' (S.mdL nl fun (q : Nat) => tl (q + al)) q).2.2.2)
 nm fun (q : Nat) => tm (q + am)))
 fun (q : Nat) =>
 S.at'
 (S.sprL (List.length (S.mdL nl fun (q : Nat) => tl (q + al)))
 (fun (q : Nat) =>
 (S.at' (S.mdL nl fun (q : Nat) => tl (q + al)) q).2.2.2)
 nm fun (q : Nat) => tm (q + am))
 q)) -
 1) >
 Prod.fst
 (S.cmpS (List.length (S.mdL nl fun (q : Nat) => tl (q + al)))
 (fun (q : Nat) => (S.at' (S.mdL nl fun (q : Nat) => tl (q + al)) q).1)
 (fun (q : Nat) => (S.at' (S.mdL nl fun (q : Nat) => tl (q + al)) q).2.1)
 (fun (q : Nat) => (S.at' (S.mdL nl fun (q : Nat) => tl (q + al)) q).2.2.1)
 (fun (q : Nat) => (S.at' (S.mdL nl fun (q : Nat) => tl (q + al)) q).2.2.2)
 (1000000000 : Int))))
 (Kret (PV.tf false) ([[(1, false, Blk.cols mm [Col.int IntKind.u8 tm]),
 (0, false, Blk.cols ml [Col.int IntKind.u32 tl])]]) (21))
 (test ((↑(List.length
 (Prod.snd
 (S.leaS (List.length (S.mdL nl fun (q : Nat) => tl (q + al)))
 (fun (q : Nat) => (S.at' (S.mdL nl fun (q : Nat) => tl (q + al)) q).1)
 (fun (q : Nat) => (S.at' (S.mdL nl fun (q : Nat) => tl (q + al)) q).2.1)
 (fun (q : Nat) =>
 (S.at' (S.mdL nl fun (q : Nat) => tl (q + al)) q).2.2.1)
 fun (q : Nat) =>
 (S.at' (S.mdL nl fun (q : Nat) => tl (q + al)) q).2.2.2))) :
 Int) ==
 (1 : Int))
 (test (Prod.fst
 (S.cmpS (List.length (S.mdL nl fun (q : Nat) => tl (q + al)))
 (fun (q : Nat) => (S.at' (S.mdL nl fun (q : Nat) => tl (q + al)) q).1)
 (fun (q : Nat) => (S.at' (S.mdL nl fun (q : Nat) => tl (q + al)) q).2.1)
 (fun (q : Nat) => (S.at' (S.mdL nl fun (q : Nat) => tl (q + al)) q).2.2.1)
 (fun (q : Nat) => (S.at' (S.mdL nl fun (q : Nat) => tl (q + al)) q).2.2.2)
 (1000000000 : Int)) ==
 (0 : Int))
 (Kst (hd Try.f8 0) ([PV.ptr (PA.mk (5) (0) (0) (0)),
 PV.own (7) (1)
 (List.length
 (Prod.snd
 (Prod.snd
 (S.cmpS (List.length (S.mdL nl fun (q : Nat) => tl (q + al)))
 (fun (q : Nat) => (S.at' (S.mdL nl fun (q : Nat) => tl (q + al)) q).1)
 (fun (q : Nat) => (S.at' (S.mdL nl fun (q : Nat) => tl (q + al)) q).2.1)
 (fun (q : Nat) =>
 (S.at' (S.mdL nl fun (q : Nat) => tl (q + al)) q).2.2.1)
 (fun (q : Nat) =>
 (S.at' (S.mdL nl fun (q : Nat) => tl (q + al)) q).2.2.2)
 (1000000000 : Int))))),
 PV.int IntKind.i64
 (Prod.fst
 (S.cmpS (List.length (S.mdL nl fun (q : Nat) => tl (q + al)))
 (fun (q : Nat) => (S.at' (S.mdL nl fun (q : Nat) => tl (q + al)) q).1)
 (fun (q : Nat) => (S.at' (S.mdL nl fun (q : Nat) => tl (q + al)) q).2.1)
 (fun (q : Nat) => (S.at' (S.mdL nl fun (q : Nat) => tl (q + al)) q).2.2.1)
 (fun (q : Nat) => (S.at' (S.mdL nl fun (q : Nat) => tl (q + al)) q).2.2.2)
 (1000000000 : Int))),
 PV.own (16) (1)
 (List.length
 (Prod.snd
 (S.leaS (List.length (S.mdL nl fun (q : Nat) => tl (q + al)))
 (fun (q : Nat) => (S.at' (S.mdL nl fun (q : Nat) => tl (q + al)) q).1)
 (fun (q : Nat) => (S.at' (S.mdL nl fun (q : Nat) => tl (q + al)) q).2.1)
 (fun (q : Nat) =>
 (S.at' (S.mdL nl fun (q : Nat) => tl (q + al)) q).2.2.1)
 fun (q : Nat) =>
 (S.at' (S.mdL nl fun (q : Nat) => tl (q + al)) q).2.2.2))),
 PV.tf true, PV.unk, PV.unk, PV.unk, PV.unk, PV.unk, PV.unk,
 PV.unk, PV.unk,
 PV.own (16) (1)
 (List.length
 (Prod.snd
 (S.leaS (List.length (S.mdL nl fun (q : Nat) => tl (q + al)))
 (fun (q : Nat) => (S.at' (S.mdL nl fun (q : Nat) => tl (q + al)) q).1)
 (fun (q : Nat) => (S.at' (S.mdL nl fun (q : Nat) => tl (q + al)) q).2.1)
 (fun (q : Nat) =>
 (S.at' (S.mdL nl fun (q : Nat) => tl (q + al)) q).2.2.1)
 fun (q : Nat) =>
 (S.at' (S.mdL nl fun (q : Nat) => tl (q + al)) q).2.2.2))),
 PV.int IntKind.i64
 (↑(List.length
 (Prod.snd
 (S.leaS (List.length (S.mdL nl fun (q : Nat) => tl (q + al)))
 (fun (q : Nat) => (S.at' (S.mdL nl fun (q : Nat) => tl (q + al)) q).1)
 (fun (q : Nat) => (S.at' (S.mdL nl fun (q : Nat) => tl (q + al)) q).2.1)
 (fun (q : Nat) =>
 (S.at' (S.mdL nl fun (q : Nat) => tl (q + al)) q).2.2.1)
 fun (q : Nat) =>
 (S.at' (S.mdL nl fun (q : Nat) => tl (q + al)) q).2.2.2))) :
 Int),
 PV.int IntKind.i64 (0 : Int), PV.unk, PV.unk, PV.unk, PV.unk, PV.unk,
 PV.unk, PV.unk, PV.unk, PV.unk, PV.unk]) ([[(1, false, Blk.cols mm [Col.int IntKind.u8 tm]),
 (0, false, Blk.cols ml [Col.int IntKind.u32 tl]),
 (16, true,
 Blk.cols
 (List.length
 (Prod.snd
 (S.leaS (List.length (S.mdL nl fun (q : Nat) => tl (q + al)))
 (fun (q : Nat) => (S.at' (S.mdL nl fun (q : Nat) => tl (q + al)) q).1)
 (fun (q : Nat) => (S.at' (S.mdL nl fun (q : Nat) => tl (q + al)) q).2.1)
 (fun (q : Nat) =>
 (S.at' (S.mdL nl fun (q : Nat) => tl (q + al)) q).2.2.1)
 fun (q : Nat) =>
 (S.at' (S.mdL nl fun (q : Nat) => tl (q + al)) q).2.2.2)))
 [Col.int IntKind.i64 fun (j : Nat) =>
 S.at'
 (Prod.snd
 (S.leaS (List.length (S.mdL nl fun (q : Nat) => tl (q + al)))
 (fun (q : Nat) => (S.at' (S.mdL nl fun (q : Nat) => tl (q + al)) q).1)
 (fun (q : Nat) => (S.at' (S.mdL nl fun (q : Nat) => tl (q + al)) q).2.1)
 (fun (q : Nat) =>
 (S.at' (S.mdL nl fun (q : Nat) => tl (q + al)) q).2.2.1)
 fun (q : Nat) =>
 (S.at' (S.mdL nl fun (q : Nat) => tl (q + al)) q).2.2.2))
 j]),
 (7, true,
 Blk.cols
 (List.length
 (Prod.snd
 (Prod.snd
 (S.cmpS (List.length (S.mdL nl fun (q : Nat) => tl (q + al)))
 (fun (q : Nat) => (S.at' (S.mdL nl fun (q : Nat) => tl (q + al)) q).1)
 (fun (q : Nat) => (S.at' (S.mdL nl fun (q : Nat) => tl (q + al)) q).2.1)
 (fun (q : Nat) =>
 (S.at' (S.mdL nl fun (q : Nat) => tl (q + al)) q).2.2.1)
 (fun (q : Nat) =>
 (S.at' (S.mdL nl fun (q : Nat) => tl (q + al)) q).2.2.2)
 (1000000000 : Int)))))
 [Col.int IntKind.i64 fun (j : Nat) =>
 S.at'
 (Prod.snd
 (Prod.snd
 (S.cmpS (List.length (S.mdL nl fun (q : Nat) => tl (q + al)))
 (fun (q : Nat) => (S.at' (S.mdL nl fun (q : Nat) => tl (q + al)) q).1)
 (fun (q : Nat) => (S.at' (S.mdL nl fun (q : Nat) => tl (q + al)) q).2.1)
 (fun (q : Nat) =>
 (S.at' (S.mdL nl fun (q : Nat) => tl (q + al)) q).2.2.1)
 (fun (q : Nat) =>
 (S.at' (S.mdL nl fun (q : Nat) => tl (q + al)) q).2.2.2)
 (1000000000 : Int))))
 j]),
 (5, true,
 Blk.cells
 [PV.own (4) (4) (List.length (S.mdL nl fun (q : Nat) => tl (q + al)))]),
 (4, true,
 Blk.cols (List.length (S.mdL nl fun (q : Nat) => tl (q + al)))
 [Col.int IntKind.i64 fun (j : Nat) =>
 (S.at' (S.mdL nl fun (q : Nat) => tl (q + al)) j).1,
 Col.int IntKind.i64 fun (j : Nat) =>
 (S.at' (S.mdL nl fun (q : Nat) => tl (q + al)) j).2.1,
 Col.int IntKind.i64 fun (j : Nat) =>
 (S.at' (S.mdL nl fun (q : Nat) => tl (q + al)) j).2.2.1,
 Col.int IntKind.i64 fun (j : Nat) =>
 (S.at' (S.mdL nl fun (q : Nat) => tl (q + al)) j).2.2.2])]]) (21))
 (Kst (hd Try.f8 0) ([PV.ptr (PA.mk (5) (0) (0) (0)),
 PV.own (7) (1)
 (List.length
 (Prod.snd
 (Prod.snd
 (S.cmpS (List.length (S.mdL nl fun (q : Nat) => tl (q + al)))
 (fun (q : Nat) => (S.at' (S.mdL nl fun (q : Nat) => tl (q + al)) q).1)
 (fun (q : Nat) => (S.at' (S.mdL nl fun (q : Nat) => tl (q + al)) q).2.1)
 (fun (q : Nat) =>
 (S.at' (S.mdL nl fun (q : Nat) => tl (q + al)) q).2.2.1)
 (fun (q : Nat) =>
 (S.at' (S.mdL nl fun (q : Nat) => tl (q + al)) q).2.2.2)
 (1000000000 : Int))))),
 PV.int IntKind.i64
 (Prod.fst
 (S.cmpS (List.length (S.mdL nl fun (q : Nat) => tl (q + al)))
 (fun (q : Nat) => (S.at' (S.mdL nl fun (q : Nat) => tl (q + al)) q).1)
 (fun (q : Nat) => (S.at' (S.mdL nl fun (q : Nat) => tl (q + al)) q).2.1)
 (fun (q : Nat) => (S.at' (S.mdL nl fun (q : Nat) => tl (q + al)) q).2.2.1)
 (fun (q : Nat) => (S.at' (S.mdL nl fun (q : Nat) => tl (q + al)) q).2.2.2)
 (1000000000 : Int))),
 PV.own (16) (1)
 (List.length
 (Prod.snd
 (S.leaS (List.length (S.mdL nl fun (q : Nat) => tl (q + al)))
 (fun (q : Nat) => (S.at' (S.mdL nl fun (q : Nat) => tl (q + al)) q).1)
 (fun (q : Nat) => (S.at' (S.mdL nl fun (q : Nat) => tl (q + al)) q).2.1)
 (fun (q : Nat) =>
 (S.at' (S.mdL nl fun (q : Nat) => tl (q + al)) q).2.2.1)
 fun (q : Nat) =>
 (S.at' (S.mdL nl fun (q : Nat) => tl (q + al)) q).2.2.2))),
 PV.tf false, PV.unk, PV.unk, PV.unk, PV.unk, PV.unk, PV.unk,
 PV.unk, PV.unk,
 PV.own (16) (1)
 (List.length
 (Prod.snd
 (S.leaS (List.length (S.mdL nl fun (q : Nat) => tl (q + al)))
 (fun (q : Nat) => (S.at' (S.mdL nl fun (q : Nat) => tl (q + al)) q).1)
 (fun (q : Nat) => (S.at' (S.mdL nl fun (q : Nat) => tl (q + al)) q).2.1)
 (fun (q : Nat) =>
 (S.at' (S.mdL nl fun (q : Nat) => tl (q + al)) q).2.2.1)
 fun (q : Nat) =>
 (S.at' (S.mdL nl fun (q : Nat) => tl (q + al)) q).2.2.2))),
 PV.int IntKind.i64
 (↑(List.length
 (Prod.snd
 (S.leaS (List.length (S.mdL nl fun (q : Nat) => tl (q + al)))
 (fun (q : Nat) => (S.at' (S.mdL nl fun (q : Nat) => tl (q + al)) q).1)
 (fun (q : Nat) => (S.at' (S.mdL nl fun (q : Nat) => tl (q + al)) q).2.1)
 (fun (q : Nat) =>
 (S.at' (S.mdL nl fun (q : Nat) => tl (q + al)) q).2.2.1)
 fun (q : Nat) =>
 (S.at' (S.mdL nl fun (q : Nat) => tl (q + al)) q).2.2.2))) :
 Int),
 PV.int IntKind.i64 (0 : Int), PV.unk, PV.unk, PV.unk, PV.unk, PV.unk,
 PV.unk, PV.unk, PV.unk, PV.unk, PV.unk]) ([[(1, false, Blk.cols mm [Col.int IntKind.u8 tm]),
 (0, false, Blk.cols ml [Col.int IntKind.u32 tl]),
 (16, true,
 Blk.cols
 (List.length
 (Prod.snd
 (S.leaS (List.length (S.mdL nl fun (q : Nat) => tl (q + al)))
 (fun (q : Nat) => (S.at' (S.mdL nl fun (q : Nat) => tl (q + al)) q).1)
 (fun (q : Nat) => (S.at' (S.mdL nl fun (q : Nat) => tl (q + al)) q).2.1)
 (fun (q : Nat) =>
 (S.at' (S.mdL nl fun (q : Nat) => tl (q + al)) q).2.2.1)
 fun (q : Nat) =>
 (S.at' (S.mdL nl fun (q : Nat) => tl (q + al)) q).2.2.2)))
 [Col.int IntKind.i64 fun (j : Nat) =>
 S.at'
 (Prod.snd
 (S.leaS (List.length (S.mdL nl fun (q : Nat) => tl (q + al)))
 (fun (q : Nat) => (S.at' (S.mdL nl fun (q : Nat) => tl (q + al)) q).1)
 (fun (q : Nat) => (S.at' (S.mdL nl fun (q : Nat) => tl (q + al)) q).2.1)
 (fun (q : Nat) =>
 (S.at' (S.mdL nl fun (q : Nat) => tl (q + al)) q).2.2.1)
 fun (q : Nat) =>
 (S.at' (S.mdL nl fun (q : Nat) => tl (q + al)) q).2.2.2))
 j]),
 (7, true,
 Blk.cols
 (List.length
 (Prod.snd
 (Prod.snd
 (S.cmpS (List.length (S.mdL nl fun (q : Nat) => tl (q + al)))
 (fun (q : Nat) => (S.at' (S.mdL nl fun (q : Nat) => tl (q + al)) q).1)
 (fun (q : Nat) => (S.at' (S.mdL nl fun (q : Nat) => tl (q + al)) q).2.1)
 (fun (q : Nat) =>
 (S.at' (S.mdL nl fun (q : Nat) => tl (q + al)) q).2.2.1)
 (fun (q : Nat) =>
 (S.at' (S.mdL nl fun (q : Nat) => tl (q + al)) q).2.2.2)
 (1000000000 : Int)))))
 [Col.int IntKind.i64 fun (j : Nat) =>
 S.at'
 (Prod.snd
 (Prod.snd
 (S.cmpS (List.length (S.mdL nl fun (q : Nat) => tl (q + al)))
 (fun (q : Nat) => (S.at' (S.mdL nl fun (q : Nat) => tl (q + al)) q).1)
 (fun (q : Nat) => (S.at' (S.mdL nl fun (q : Nat) => tl (q + al)) q).2.1)
 (fun (q : Nat) =>
 (S.at' (S.mdL nl fun (q : Nat) => tl (q + al)) q).2.2.1)
 (fun (q : Nat) =>
 (S.at' (S.mdL nl fun (q : Nat) => tl (q + al)) q).2.2.2)
 (1000000000 : Int))))
 j]),
 (5, true,
 Blk.cells
 [PV.own (4) (4) (List.length (S.mdL nl fun (q : Nat) => tl (q + al)))]),
 (4, true,
 Blk.cols (List.length (S.mdL nl fun (q : Nat) => tl (q + al)))
 [Col.int IntKind.i64 fun (j : Nat) =>
 (S.at' (S.mdL nl fun (q : Nat) => tl (q + al)) j).1,
 Col.int IntKind.i64 fun (j : Nat) =>
 (S.at' (S.mdL nl fun (q : Nat) => tl (q + al)) j).2.1,
 Col.int IntKind.i64 fun (j : Nat) =>
 (S.at' (S.mdL nl fun (q : Nat) => tl (q + al)) j).2.2.1,
 Col.int IntKind.i64 fun (j : Nat) =>
 (S.at' (S.mdL nl fun (q : Nat) => tl (q + al)) j).2.2.2])]]) (21)))
 (Kst (hd Try.f8 0) ([PV.ptr (PA.mk (5) (0) (0) (0)),
 PV.own (7) (1)
 (List.length
 (Prod.snd
 (Prod.snd
 (S.cmpS (List.length (S.mdL nl fun (q : Nat) => tl (q + al)))
 (fun (q : Nat) => (S.at' (S.mdL nl fun (q : Nat) => tl (q + al)) q).1)
 (fun (q : Nat) => (S.at' (S.mdL nl fun (q : Nat) => tl (q + al)) q).2.1)
 (fun (q : Nat) =>
 (S.at' (S.mdL nl fun (q : Nat) => tl (q + al)) q).2.2.1)
 (fun (q : Nat) =>
 (S.at' (S.mdL nl fun (q : Nat) => tl (q + al)) q).2.2.2)
 (1000000000 : Int))))),
 PV.int IntKind.i64
 (Prod.fst
 (S.cmpS (List.length (S.mdL nl fun (q : Nat) => tl (q + al)))
 (fun (q : Nat) => (S.at' (S.mdL nl fun (q : Nat) => tl (q + al)) q).1)
 (fun (q : Nat) => (S.at' (S.mdL nl fun (q : Nat) => tl (q + al)) q).2.1)
 (fun (q : Nat) => (S.at' (S.mdL nl fun (q : Nat) => tl (q + al)) q).2.2.1)
 (fun (q : Nat) => (S.at' (S.mdL nl fun (q : Nat) => tl (q + al)) q).2.2.2)
 (1000000000 : Int))),
 PV.own (16) (1)
 (List.length
 (Prod.snd
 (S.leaS (List.length (S.mdL nl fun (q : Nat) => tl (q + al)))
 (fun (q : Nat) => (S.at' (S.mdL nl fun (q : Nat) => tl (q + al)) q).1)
 (fun (q : Nat) => (S.at' (S.mdL nl fun (q : Nat) => tl (q + al)) q).2.1)
 (fun (q : Nat) =>
 (S.at' (S.mdL nl fun (q : Nat) => tl (q + al)) q).2.2.1)
 fun (q : Nat) =>
 (S.at' (S.mdL nl fun (q : Nat) => tl (q + al)) q).2.2.2))),
 PV.tf false, PV.unk, PV.unk, PV.unk, PV.unk, PV.unk, PV.unk,
 PV.unk, PV.unk,
 PV.own (16) (1)
 (List.length
 (Prod.snd
 (S.leaS (List.length (S.mdL nl fun (q : Nat) => tl (q + al)))
 (fun (q : Nat) => (S.at' (S.mdL nl fun (q : Nat) => tl (q + al)) q).1)
 (fun (q : Nat) => (S.at' (S.mdL nl fun (q : Nat) => tl (q + al)) q).2.1)
 (fun (q : Nat) =>
 (S.at' (S.mdL nl fun (q : Nat) => tl (q + al)) q).2.2.1)
 fun (q : Nat) =>
 (S.at' (S.mdL nl fun (q : Nat) => tl (q + al)) q).2.2.2))),
 PV.int IntKind.i64
 (↑(List.length
 (Prod.snd
 (S.leaS (List.length (S.mdL nl fun (q : Nat) => tl (q + al)))
 (fun (q : Nat) => (S.at' (S.mdL nl fun (q : Nat) => tl (q + al)) q).1)
 (fun (q : Nat) => (S.at' (S.mdL nl fun (q : Nat) => tl (q + al)) q).2.1)
 (fun (q : Nat) =>
 (S.at' (S.mdL nl fun (q : Nat) => tl (q + al)) q).2.2.1)
 fun (q : Nat) =>
 (S.at' (S.mdL nl fun (q : Nat) => tl (q + al)) q).2.2.2))) :
 Int),
 PV.int IntKind.i64 (0 : Int), PV.unk, PV.unk, PV.unk, PV.unk, PV.unk,
 PV.unk, PV.unk, PV.unk, PV.unk, PV.unk]) ([[(1, false, Blk.cols mm [Col.int IntKind.u8 tm]),
 (0, false, Blk.cols ml [Col.int IntKind.u32 tl]),
 (16, true,
 Blk.cols
 (List.length
 (Prod.snd
 (S.leaS (List.length (S.mdL nl fun (q : Nat) => tl (q + al)))
 (fun (q : Nat) => (S.at' (S.mdL nl fun (q : Nat) => tl (q + al)) q).1)
 (fun (q : Nat) => (S.at' (S.mdL nl fun (q : Nat) => tl (q + al)) q).2.1)
 (fun (q : Nat) =>
 (S.at' (S.mdL nl fun (q : Nat) => tl (q + al)) q).2.2.1)
 fun (q : Nat) =>
 (S.at' (S.mdL nl fun (q : Nat) => tl (q + al)) q).2.2.2)))
 [Col.int IntKind.i64 fun (j : Nat) =>
 S.at'
 (Prod.snd
 (S.leaS (List.length (S.mdL nl fun (q : Nat) => tl (q + al)))
 (fun (q : Nat) => (S.at' (S.mdL nl fun (q : Nat) => tl (q + al)) q).1)
 (fun (q : Nat) => (S.at' (S.mdL nl fun (q : Nat) => tl (q + al)) q).2.1)
 (fun (q : Nat) =>
 (S.at' (S.mdL nl fun (q : Nat) => tl (q + al)) q).2.2.1)
 fun (q : Nat) =>
 (S.at' (S.mdL nl fun (q : Nat) => tl (q + al)) q).2.2.2))
 j]),
 (7, true,
 Blk.cols
 (List.length
 (Prod.snd
 (Prod.snd
 (S.cmpS (List.length (S.mdL nl fun (q : Nat) => tl (q + al)))
 (fun (q : Nat) => (S.at' (S.mdL nl fun (q : Nat) => tl (q + al)) q).1)
 (fun (q : Nat) => (S.at' (S.mdL nl fun (q : Nat) => tl (q + al)) q).2.1)
 (fun (q : Nat) =>
 (S.at' (S.mdL nl fun (q : Nat) => tl (q + al)) q).2.2.1)
 (fun (q : Nat) =>
 (S.at' (S.mdL nl fun (q : Nat) => tl (q + al)) q).2.2.2)
 (1000000000 : Int)))))
 [Col.int IntKind.i64 fun (j : Nat) =>
 S.at'
 (Prod.snd
 (Prod.snd
 (S.cmpS (List.length (S.mdL nl fun (q : Nat) => tl (q + al)))
 (fun (q : Nat) => (S.at' (S.mdL nl fun (q : Nat) => tl (q + al)) q).1)
 (fun (q : Nat) => (S.at' (S.mdL nl fun (q : Nat) => tl (q + al)) q).2.1)
 (fun (q : Nat) =>
 (S.at' (S.mdL nl fun (q : Nat) => tl (q + al)) q).2.2.1)
 (fun (q : Nat) =>
 (S.at' (S.mdL nl fun (q : Nat) => tl (q + al)) q).2.2.2)
 (1000000000 : Int))))
 j]),
 (5, true,
 Blk.cells
 [PV.own (4) (4) (List.length (S.mdL nl fun (q : Nat) => tl (q + al)))]),
 (4, true,
 Blk.cols (List.length (S.mdL nl fun (q : Nat) => tl (q + al)))
 [Col.int IntKind.i64 fun (j : Nat) =>
 (S.at' (S.mdL nl fun (q : Nat) => tl (q + al)) j).1,
 Col.int IntKind.i64 fun (j : Nat) =>
 (S.at' (S.mdL nl fun (q : Nat) => tl (q + al)) j).2.1,
 Col.int IntKind.i64 fun (j : Nat) =>
 (S.at' (S.mdL nl fun (q : Nat) => tl (q + al)) j).2.2.1,
 Col.int IntKind.i64 fun (j : Nat) =>
 (S.at' (S.mdL nl fun (q : Nat) => tl (q + al)) j).2.2.2])]]) (21))))
 (False))
 (False))
 (False)))
 (False))
 (False)))))))))
 (False))
 (False))
 (False))
 (False))
 (False))
 (False))
 (False))))
 (test (true)
 (test (true)
 (Kret (PV.tf true) ([[(1, false, Blk.cols mm [Col.int IntKind.u8 tm]),
 (0, false, Blk.cols ml [Col.int IntKind.u32 tl])]]) (4))
 (Kret (PV.tf false) ([[(1, false, Blk.cols mm [Col.int IntKind.u8 tm]),
 (0, false, Blk.cols ml [Col.int IntKind.u32 tl])]]) (4)))
 (False)))
 (False)
set_option maxRecDepth 100000 in
theorem te8 (test : Bool → Prop → Prop → Prop) (Kst : KS) (Kret : KR) (al nl ml : Nat) (tl : Nat → Int) (am nm mm : Nat) (tm : Nat → Int) : run test Try.env true (xQ test) true 400 ⟨8, [.cd (mkFn Try.f8).body], argT 0 [.loose ⟨0, 1, al, 0⟩ nl, .loose ⟨1, 1, am, 0⟩ nm], [[], [(0, (false, .cols ml [.int .u32 tl])), (1, (false, .cols mm [.int .u8 tm]))]], 2⟩ (proj 2 [5, 6, 7, 13, 15, 16, 17, 18, 19, 20, 22, 23, 24, 126, 127, 128, 133, 134, 135, 150, 151, 154, 155, 156, 157, 158] Kst Kret) =
  Te8 test Kst Kret al nl ml tl am nm mm tm := by kernel_rfl
noncomputable def T8_0 (test : Bool → Prop → Prop → Prop) (Kst : KS) (Kret : KR) (al nl ml : Nat) (tl : Nat → Int) (am nm mm : Nat) (tm : Nat → Int) (x0 : Bool) (x1 : Int) (x2 : List (Int × Int × Int × Int)) (x3 : List Int) (x4 : List Int) : Prop :=
  test (decide
 (x1 <
 (↑(List.length
 (Prod.snd
 (S.leaS (List.length (S.mdL nl fun (q : Nat) => tl (q + al)))
 (fun (q : Nat) => (S.at' (S.mdL nl fun (q : Nat) => tl (q + al)) q).1)
 (fun (q : Nat) => (S.at' (S.mdL nl fun (q : Nat) => tl (q + al)) q).2.1)
 (fun (q : Nat) =>
 (S.at' (S.mdL nl fun (q : Nat) => tl (q + al)) q).2.2.1)
 fun (q : Nat) =>
 (S.at' (S.mdL nl fun (q : Nat) => tl (q + al)) q).2.2.2))) :
 Int)))
 (test (decide ((0 : Int) ≤ x1 ∧ x1 < (↑(List.length x4) : Int)))
 (test (decide (Int.toNat x1 < List.length x4))
 (Kst (hd Try.f8 1) ([PV.ptr (PA.mk (2) (0) (0) (0)),
 PV.own (4) (1) (List.length x3),
 PV.int IntKind.i64
 (Prod.fst
 (S.cmpS (List.length (S.mdL nl fun (q : Nat) => tl (q + al)))
 (fun (q : Nat) => (S.at' (S.mdL nl fun (q : Nat) => tl (q + al)) q).1)
 (fun (q : Nat) => (S.at' (S.mdL nl fun (q : Nat) => tl (q + al)) q).2.1)
 (fun (q : Nat) => (S.at' (S.mdL nl fun (q : Nat) => tl (q + al)) q).2.2.1)
 (fun (q : Nat) => (S.at' (S.mdL nl fun (q : Nat) => tl (q + al)) q).2.2.2)
 (1000000000 : Int))),
 PV.own (5) (1) (List.length x4), PV.bool x0, PV.int IntKind.i64 x1,
 PV.int IntKind.i64 (S.at' x4 (Int.toNat x1)), PV.unk, PV.unk, PV.unk, PV.unk,
 PV.unk, PV.unk, PV.own (5) (1) (List.length x4),
 PV.int IntKind.i64
 (↑(List.length
 (Prod.snd
 (S.leaS (List.length (S.mdL nl fun (q : Nat) => tl (q + al)))
 (fun (q : Nat) => (S.at' (S.mdL nl fun (q : Nat) => tl (q + al)) q).1)
 (fun (q : Nat) => (S.at' (S.mdL nl fun (q : Nat) => tl (q + al)) q).2.1)
 (fun (q : Nat) =>
 (S.at' (S.mdL nl fun (q : Nat) => tl (q + al)) q).2.2.1)
 fun (q : Nat) =>
 (S.at' (S.mdL nl fun (q : Nat) => tl (q + al)) q).2.2.2))) :
 Int),
 PV.int IntKind.i64 x1, PV.own (5) (1) (List.length x4),
 PV.int IntKind.i64 (↑(List.length x4) : Int), PV.int IntKind.i64 (0 : Int), PV.unk,
 PV.unk, PV.unk, PV.unk, PV.unk, PV.unk, PV.unk]) ([[(1, false, Blk.cols mm [Col.int IntKind.u8 tm]),
 (0, false, Blk.cols ml [Col.int IntKind.u32 tl]),
 (5, true,
 Blk.cols (List.length x4) [Col.int IntKind.i64 fun (j : Nat) => S.at' x4 j]),
 (4, true,
 Blk.cols (List.length x3) [Col.int IntKind.i64 fun (j : Nat) => S.at' x3 j]),
 (2, true, Blk.cells [PV.own (3) (4) (List.length x2)]),
 (3, true,
 Blk.cols (List.length x2)
 [Col.int IntKind.i64 fun (j : Nat) => (S.at' x2 j).1,
 Col.int IntKind.i64 fun (j : Nat) => (S.at' x2 j).2.1,
 Col.int IntKind.i64 fun (j : Nat) => (S.at' x2 j).2.2.1,
 Col.int IntKind.i64 fun (j : Nat) => (S.at' x2 j).2.2.2])]]) (6))
 (False))
 (False))
 (test (x0)
 (Kret (PV.tf true) ([[(1, false, Blk.cols mm [Col.int IntKind.u8 tm]),
 (0, false, Blk.cols ml [Col.int IntKind.u32 tl])]]) (6))
 (Kret (PV.tf false) ([[(1, false, Blk.cols mm [Col.int IntKind.u8 tm]),
 (0, false, Blk.cols ml [Col.int IntKind.u32 tl])]]) (6)))
set_option maxRecDepth 100000 in
theorem t8_0 (test : Bool → Prop → Prop → Prop) (Kst : KS) (Kret : KR) (al nl ml : Nat) (tl : Nat → Int) (am nm mm : Nat) (tm : Nat → Int) (x0 : Bool) (x1 : Int) (x2 : List (Int × Int × Int × Int)) (x3 : List Int) (x4 : List Int) : run test Try.env true (xQ test) true 400 ⟨8, hd Try.f8 0, zipT [5, 6, 7, 13, 15, 16, 17, 18, 19, 20, 22, 23, 24, 126, 127, 128, 133, 134, 135, 150, 151, 154, 155, 156, 157, 158] [PV.ptr (PA.mk (2) (0) (0) (0)),
 PV.own (4) (1) (List.length x3),
 PV.int IntKind.i64
 (Prod.fst
 (S.cmpS (List.length (S.mdL nl fun (q : Nat) => tl (q + al)))
 (fun (q : Nat) => (S.at' (S.mdL nl fun (q : Nat) => tl (q + al)) q).1)
 (fun (q : Nat) => (S.at' (S.mdL nl fun (q : Nat) => tl (q + al)) q).2.1)
 (fun (q : Nat) => (S.at' (S.mdL nl fun (q : Nat) => tl (q + al)) q).2.2.1)
 (fun (q : Nat) => (S.at' (S.mdL nl fun (q : Nat) => tl (q + al)) q).2.2.2)
 (1000000000 : Int))),
 PV.own (5) (1) (List.length x4), PV.bool x0, PV.unk, PV.unk, PV.unk,
 PV.unk, PV.unk, PV.unk, PV.unk, PV.unk,
 PV.own (5) (1) (List.length x4),
 PV.int IntKind.i64
 (↑(List.length
 (Prod.snd
 (S.leaS (List.length (S.mdL nl fun (q : Nat) => tl (q + al)))
 (fun (q : Nat) => (S.at' (S.mdL nl fun (q : Nat) => tl (q + al)) q).1)
 (fun (q : Nat) => (S.at' (S.mdL nl fun (q : Nat) => tl (q + al)) q).2.1)
 (fun (q : Nat) =>
 (S.at' (S.mdL nl fun (q : Nat) => tl (q + al)) q).2.2.1)
 fun (q : Nat) =>
 (S.at' (S.mdL nl fun (q : Nat) => tl (q + al)) q).2.2.2))) :
 Int),
 PV.int IntKind.i64 x1, PV.unk, PV.unk, PV.unk, PV.unk, PV.unk, PV.unk,
 PV.unk, PV.unk, PV.unk, PV.unk], [[(2, (true, Blk.cells [PV.own (3) (4) (List.length x2)])), (3, (true, Blk.cols (List.length x2)
 [Col.int IntKind.i64 fun (j : Nat) => (S.at' x2 j).1,
 Col.int IntKind.i64 fun (j : Nat) => (S.at' x2 j).2.1,
 Col.int IntKind.i64 fun (j : Nat) => (S.at' x2 j).2.2.1,
 Col.int IntKind.i64 fun (j : Nat) => (S.at' x2 j).2.2.2])), (4, (true, Blk.cols (List.length x3) [Col.int IntKind.i64 fun (j : Nat) => S.at' x3 j])), (5, (true, Blk.cols (List.length x4) [Col.int IntKind.i64 fun (j : Nat) => S.at' x4 j]))], [(0, (false, .cols ml [.int .u32 tl])), (1, (false, .cols mm [.int .u8 tm]))]], 6⟩ (proj 2 [5, 6, 7, 13, 15, 16, 17, 18, 19, 20, 22, 23, 24, 126, 127, 128, 133, 134, 135, 150, 151, 154, 155, 156, 157, 158] Kst Kret) =
  T8_0 test Kst Kret al nl ml tl am nm mm tm x0 x1 x2 x3 x4 := by kernel_rfl
noncomputable def T8_1 (test : Bool → Prop → Prop → Prop) (Kst : KS) (Kret : KR) (al nl ml : Nat) (tl : Nat → Int) (am nm mm : Nat) (tm : Nat → Int) (x0 : Bool) (x1 : Int) (x2 : Int) (x3 : Int) (x4 : Int) (x5 : Int) (x6 : List (Int × Int × Int × Int)) (x7 : List Int) (x8 : List Int) : Prop :=
  test (decide (x5 < x4))
 (test (decide ((0 : Int) ≤ x5 ∧ x5 < (↑(List.length x8) : Int)))
 (test (decide (Int.toNat x5 < List.length x8))
 (test (decide (0 + List.length x6 ≤ List.length x6 ∧ List.length x6 ≤ 1000000))
 (test (Prod.snd
 (S.comS (List.length x6) (fun (q : Nat) => (S.at' x6 q).1)
 (fun (q : Nat) => (S.at' x6 q).2.1)
 (fun (q : Nat) => (S.at' x6 q).2.2.1)
 (fun (q : Nat) => (S.at' x6 q).2.2.2) x2 (S.at' x8 (Int.toNat x5))) !=
 (0 : Int))
 (Kret (PV.tf false) ([[(1, false, Blk.cols mm [Col.int IntKind.u8 tm]),
 (0, false, Blk.cols ml [Col.int IntKind.u32 tl])]]) (7))
 (test (decide
 (Prod.fst
 (S.comS (List.length x6) (fun (q : Nat) => (S.at' x6 q).1)
 (fun (q : Nat) => (S.at' x6 q).2.1)
 (fun (q : Nat) => (S.at' x6 q).2.2.1)
 (fun (q : Nat) => (S.at' x6 q).2.2.2) x2 (S.at' x8 (Int.toNat x5))) <
 (0 : Int)))
 (Kret (PV.tf false) ([[(1, false, Blk.cols mm [Col.int IntKind.u8 tm]),
 (0, false, Blk.cols ml [Col.int IntKind.u32 tl])]]) (7))
 (test (decide
 (Prod.fst
 (S.comS (List.length x6) (fun (q : Nat) => (S.at' x6 q).1)
 (fun (q : Nat) => (S.at' x6 q).2.1)
 (fun (q : Nat) => (S.at' x6 q).2.2.1)
 (fun (q : Nat) => (S.at' x6 q).2.2.2) x2 (S.at' x8 (Int.toNat x5))) ≥
 (↑(List.length x6) : Int)))
 (Kret (PV.tf false) ([[(1, false, Blk.cols mm [Col.int IntKind.u8 tm]),
 (0, false, Blk.cols ml [Col.int IntKind.u32 tl])]]) (7))
 (test (x1 == x5)
 (test (lim IntKind.i64 (x5 + (1 : Int)))
 (Kst (hd Try.f8 1) ([PV.ptr (PA.mk (2) (0) (0) (0)),
 PV.own (4) (1) (List.length x7),
 PV.int IntKind.i64
 (Prod.fst
 (S.cmpS (List.length (S.mdL nl fun (q : Nat) => tl (q + al)))
 (fun (q : Nat) => (S.at' (S.mdL nl fun (q : Nat) => tl (q + al)) q).1)
 (fun (q : Nat) => (S.at' (S.mdL nl fun (q : Nat) => tl (q + al)) q).2.1)
 (fun (q : Nat) => (S.at' (S.mdL nl fun (q : Nat) => tl (q + al)) q).2.2.1)
 (fun (q : Nat) => (S.at' (S.mdL nl fun (q : Nat) => tl (q + al)) q).2.2.2)
 (1000000000 : Int))),
 PV.own (5) (1) (List.length x8), PV.bool x0, PV.int IntKind.i64 x1,
 PV.int IntKind.i64 x2, PV.int IntKind.i64 x5,
 PV.int IntKind.i64 (S.at' x8 (Int.toNat x5)),
 PV.int IntKind.i64
 (Prod.fst
 (S.comS (List.length x6) (fun (q : Nat) => (S.at' x6 q).1)
 (fun (q : Nat) => (S.at' x6 q).2.1)
 (fun (q : Nat) => (S.at' x6 q).2.2.1)
 (fun (q : Nat) => (S.at' x6 q).2.2.2) x2 (S.at' x8 (Int.toNat x5)))),
 PV.unk, PV.unk, PV.unk, PV.own (5) (1) (List.length x8),
 PV.int IntKind.i64
 (↑(List.length
 (Prod.snd
 (S.leaS (List.length (S.mdL nl fun (q : Nat) => tl (q + al)))
 (fun (q : Nat) => (S.at' (S.mdL nl fun (q : Nat) => tl (q + al)) q).1)
 (fun (q : Nat) => (S.at' (S.mdL nl fun (q : Nat) => tl (q + al)) q).2.1)
 (fun (q : Nat) =>
 (S.at' (S.mdL nl fun (q : Nat) => tl (q + al)) q).2.2.1)
 fun (q : Nat) =>
 (S.at' (S.mdL nl fun (q : Nat) => tl (q + al)) q).2.2.2))) :
 Int),
 PV.int IntKind.i64 x3, PV.own (5) (1) (List.length x8), PV.int IntKind.i64 x4,
 PV.int IntKind.i64 (x5 + (1 : Int)),
 PV.int IntKind.i64
 (Prod.fst
 (S.comS (List.length x6) (fun (q : Nat) => (S.at' x6 q).1)
 (fun (q : Nat) => (S.at' x6 q).2.1)
 (fun (q : Nat) => (S.at' x6 q).2.2.1)
 (fun (q : Nat) => (S.at' x6 q).2.2.2) x2 (S.at' x8 (Int.toNat x5)))),
 PV.tf false,
 PV.int IntKind.i64
 (Prod.fst
 (S.comS (List.length x6) (fun (q : Nat) => (S.at' x6 q).1)
 (fun (q : Nat) => (S.at' x6 q).2.1)
 (fun (q : Nat) => (S.at' x6 q).2.2.1)
 (fun (q : Nat) => (S.at' x6 q).2.2.2) x2 (S.at' x8 (Int.toNat x5)))),
 PV.ptr (PA.mk (2) (0) (0) (0)),
 PV.own (3) (4) (List.length x6), PV.int IntKind.i64 (↑(List.length x6) : Int),
 PV.tf false]) ([[(1, false, Blk.cols mm [Col.int IntKind.u8 tm]),
 (0, false, Blk.cols ml [Col.int IntKind.u32 tl]),
 (3, true,
 Blk.cols (List.length x6)
 [Col.int IntKind.i64 fun (j : Nat) => (S.at' x6 j).1,
 Col.int IntKind.i64 fun (j : Nat) => (S.at' x6 j).2.1,
 Col.int IntKind.i64 fun (j : Nat) => (S.at' x6 j).2.2.1,
 Col.int IntKind.i64 fun (j : Nat) => (S.at' x6 j).2.2.2]),
 (2, true, Blk.cells [PV.own (3) (4) (List.length x6)]),
 (5, true,
 Blk.cols (List.length x8) [Col.int IntKind.i64 fun (j : Nat) => S.at' x8 j]),
 (4, true,
 Blk.cols (List.length x7) [Col.int IntKind.i64 fun (j : Nat) => S.at' x7 j])]]) (7))
 (False))
 (test (decide
 ((0 : Int) ≤ (↑(List.length x6) : Int) ∧
 (↑(List.length x6) : Int) ≤ (↑(List.length x6) : Int) ∧ (↑(List.length x6) : Int) ≤ (1000000 : Int)))
 (Kst (hd Try.f8 2) ([PV.ptr (PA.mk (2) (0) (0) (0)),
 PV.own (4) (1) (List.length x7),
 PV.int IntKind.i64
 (Prod.fst
 (S.cmpS (List.length (S.mdL nl fun (q : Nat) => tl (q + al)))
 (fun (q : Nat) => (S.at' (S.mdL nl fun (q : Nat) => tl (q + al)) q).1)
 (fun (q : Nat) => (S.at' (S.mdL nl fun (q : Nat) => tl (q + al)) q).2.1)
 (fun (q : Nat) => (S.at' (S.mdL nl fun (q : Nat) => tl (q + al)) q).2.2.1)
 (fun (q : Nat) => (S.at' (S.mdL nl fun (q : Nat) => tl (q + al)) q).2.2.2)
 (1000000000 : Int))),
 PV.own (5) (1) (List.length x8), PV.bool x0, PV.int IntKind.i64 x1,
 PV.int IntKind.i64 x2, PV.int IntKind.i64 x5,
 PV.int IntKind.i64 (S.at' x8 (Int.toNat x5)),
 PV.int IntKind.i64
 (Prod.fst
 (S.comS (List.length x6) (fun (q : Nat) => (S.at' x6 q).1)
 (fun (q : Nat) => (S.at' x6 q).2.1)
 (fun (q : Nat) => (S.at' x6 q).2.2.1)
 (fun (q : Nat) => (S.at' x6 q).2.2.2) x2 (S.at' x8 (Int.toNat x5)))),
 PV.own (7) (1) (List.length x6), PV.int IntKind.i64 x2, PV.unk,
 PV.own (5) (1) (List.length x8),
 PV.int IntKind.i64
 (↑(List.length
 (Prod.snd
 (S.leaS (List.length (S.mdL nl fun (q : Nat) => tl (q + al)))
 (fun (q : Nat) => (S.at' (S.mdL nl fun (q : Nat) => tl (q + al)) q).1)
 (fun (q : Nat) => (S.at' (S.mdL nl fun (q : Nat) => tl (q + al)) q).2.1)
 (fun (q : Nat) =>
 (S.at' (S.mdL nl fun (q : Nat) => tl (q + al)) q).2.2.1)
 fun (q : Nat) =>
 (S.at' (S.mdL nl fun (q : Nat) => tl (q + al)) q).2.2.2))) :
 Int),
 PV.int IntKind.i64 x3, PV.own (5) (1) (List.length x8), PV.int IntKind.i64 x4,
 PV.int IntKind.i64 x5,
 PV.int IntKind.i64
 (Prod.fst
 (S.comS (List.length x6) (fun (q : Nat) => (S.at' x6 q).1)
 (fun (q : Nat) => (S.at' x6 q).2.1)
 (fun (q : Nat) => (S.at' x6 q).2.2.1)
 (fun (q : Nat) => (S.at' x6 q).2.2.2) x2 (S.at' x8 (Int.toNat x5)))),
 PV.tf false,
 PV.int IntKind.i64
 (Prod.fst
 (S.comS (List.length x6) (fun (q : Nat) => (S.at' x6 q).1)
 (fun (q : Nat) => (S.at' x6 q).2.1)
 (fun (q : Nat) => (S.at' x6 q).2.2.1)
 (fun (q : Nat) => (S.at' x6 q).2.2.2) x2 (S.at' x8 (Int.toNat x5)))),
 PV.ptr (PA.mk (2) (0) (0) (0)),
 PV.own (3) (4) (List.length x6), PV.int IntKind.i64 (↑(List.length x6) : Int),
 PV.tf false]) ([[(1, false, Blk.cols mm [Col.int IntKind.u8 tm]),
 (0, false, Blk.cols ml [Col.int IntKind.u32 tl]),
 (3, true,
 Blk.cols (List.length x6)
 [Col.int IntKind.i64 fun (j : Nat) => (S.at' x6 j).1,
 Col.int IntKind.i64 fun (j : Nat) => (S.at' x6 j).2.1,
 Col.int IntKind.i64 fun (j : Nat) => (S.at' x6 j).2.2.1,
 Col.int IntKind.i64 fun (j : Nat) => (S.at' x6 j).2.2.2]),
 (2, true, Blk.cells [PV.own (3) (4) (List.length x6)]),
 (5, true,
 Blk.cols (List.length x8) [Col.int IntKind.i64 fun (j : Nat) => S.at' x8 j]),
 (7, true, Blk.cols (List.length x6) [Col.int IntKind.i64 fun (x : Nat) => (0 : Int)]),
 (4, true,
 Blk.cols (List.length x7) [Col.int IntKind.i64 fun (j : Nat) => S.at' x7 j])]]) (8))
 (False))))))
 (False))
 (False))
 (False))
 (test (lim IntKind.i64 (x3 + (1 : Int)))
 (Kst (hd Try.f8 0) ([PV.ptr (PA.mk (2) (0) (0) (0)),
 PV.own (4) (1) (List.length x7),
 PV.int IntKind.i64
 (Prod.fst
 (S.cmpS (List.length (S.mdL nl fun (q : Nat) => tl (q + al)))
 (fun (q : Nat) => (S.at' (S.mdL nl fun (q : Nat) => tl (q + al)) q).1)
 (fun (q : Nat) => (S.at' (S.mdL nl fun (q : Nat) => tl (q + al)) q).2.1)
 (fun (q : Nat) => (S.at' (S.mdL nl fun (q : Nat) => tl (q + al)) q).2.2.1)
 (fun (q : Nat) => (S.at' (S.mdL nl fun (q : Nat) => tl (q + al)) q).2.2.2)
 (1000000000 : Int))),
 PV.own (5) (1) (List.length x8), PV.bool x0, PV.int IntKind.i64 x1,
 PV.int IntKind.i64 x2, PV.unk, PV.unk, PV.unk, PV.unk, PV.unk, PV.unk,
 PV.own (5) (1) (List.length x8),
 PV.int IntKind.i64
 (↑(List.length
 (Prod.snd
 (S.leaS (List.length (S.mdL nl fun (q : Nat) => tl (q + al)))
 (fun (q : Nat) => (S.at' (S.mdL nl fun (q : Nat) => tl (q + al)) q).1)
 (fun (q : Nat) => (S.at' (S.mdL nl fun (q : Nat) => tl (q + al)) q).2.1)
 (fun (q : Nat) =>
 (S.at' (S.mdL nl fun (q : Nat) => tl (q + al)) q).2.2.1)
 fun (q : Nat) =>
 (S.at' (S.mdL nl fun (q : Nat) => tl (q + al)) q).2.2.2))) :
 Int),
 PV.int IntKind.i64 (x3 + (1 : Int)), PV.own (5) (1) (List.length x8),
 PV.int IntKind.i64 x4, PV.int IntKind.i64 x5, PV.unk, PV.unk, PV.unk,
 PV.unk, PV.unk, PV.unk, PV.unk]) ([[(1, false, Blk.cols mm [Col.int IntKind.u8 tm]),
 (0, false, Blk.cols ml [Col.int IntKind.u32 tl]),
 (5, true,
 Blk.cols (List.length x8) [Col.int IntKind.i64 fun (j : Nat) => S.at' x8 j]),
 (4, true,
 Blk.cols (List.length x7) [Col.int IntKind.i64 fun (j : Nat) => S.at' x7 j]),
 (2, true, Blk.cells [PV.own (3) (4) (List.length x6)]),
 (3, true,
 Blk.cols (List.length x6)
 [Col.int IntKind.i64 fun (j : Nat) => (S.at' x6 j).1,
 Col.int IntKind.i64 fun (j : Nat) => (S.at' x6 j).2.1,
 Col.int IntKind.i64 fun (j : Nat) => (S.at' x6 j).2.2.1,
 Col.int IntKind.i64 fun (j : Nat) => (S.at' x6 j).2.2.2])]]) (6))
 (False))
set_option maxRecDepth 100000 in
theorem t8_1 (test : Bool → Prop → Prop → Prop) (Kst : KS) (Kret : KR) (al nl ml : Nat) (tl : Nat → Int) (am nm mm : Nat) (tm : Nat → Int) (x0 : Bool) (x1 : Int) (x2 : Int) (x3 : Int) (x4 : Int) (x5 : Int) (x6 : List (Int × Int × Int × Int)) (x7 : List Int) (x8 : List Int) : run test Try.env true (xQ test) true 400 ⟨8, hd Try.f8 1, zipT [5, 6, 7, 13, 15, 16, 17, 18, 19, 20, 22, 23, 24, 126, 127, 128, 133, 134, 135, 150, 151, 154, 155, 156, 157, 158] [PV.ptr (PA.mk (2) (0) (0) (0)),
 PV.own (4) (1) (List.length x7),
 PV.int IntKind.i64
 (Prod.fst
 (S.cmpS (List.length (S.mdL nl fun (q : Nat) => tl (q + al)))
 (fun (q : Nat) => (S.at' (S.mdL nl fun (q : Nat) => tl (q + al)) q).1)
 (fun (q : Nat) => (S.at' (S.mdL nl fun (q : Nat) => tl (q + al)) q).2.1)
 (fun (q : Nat) => (S.at' (S.mdL nl fun (q : Nat) => tl (q + al)) q).2.2.1)
 (fun (q : Nat) => (S.at' (S.mdL nl fun (q : Nat) => tl (q + al)) q).2.2.2)
 (1000000000 : Int))),
 PV.own (5) (1) (List.length x8), PV.bool x0, PV.int IntKind.i64 x1,
 PV.int IntKind.i64 x2, PV.unk, PV.unk, PV.unk, PV.unk, PV.unk, PV.unk,
 PV.own (5) (1) (List.length x8),
 PV.int IntKind.i64
 (↑(List.length
 (Prod.snd
 (S.leaS (List.length (S.mdL nl fun (q : Nat) => tl (q + al)))
 (fun (q : Nat) => (S.at' (S.mdL nl fun (q : Nat) => tl (q + al)) q).1)
 (fun (q : Nat) => (S.at' (S.mdL nl fun (q : Nat) => tl (q + al)) q).2.1)
 (fun (q : Nat) =>
 (S.at' (S.mdL nl fun (q : Nat) => tl (q + al)) q).2.2.1)
 fun (q : Nat) =>
 (S.at' (S.mdL nl fun (q : Nat) => tl (q + al)) q).2.2.2))) :
 Int),
 PV.int IntKind.i64 x3, PV.own (5) (1) (List.length x8), PV.int IntKind.i64 x4,
 PV.int IntKind.i64 x5, PV.unk, PV.unk, PV.unk, PV.unk, PV.unk, PV.unk,
 PV.unk], [[(2, (true, Blk.cells [PV.own (3) (4) (List.length x6)])), (3, (true, Blk.cols (List.length x6)
 [Col.int IntKind.i64 fun (j : Nat) => (S.at' x6 j).1,
 Col.int IntKind.i64 fun (j : Nat) => (S.at' x6 j).2.1,
 Col.int IntKind.i64 fun (j : Nat) => (S.at' x6 j).2.2.1,
 Col.int IntKind.i64 fun (j : Nat) => (S.at' x6 j).2.2.2])), (4, (true, Blk.cols (List.length x7) [Col.int IntKind.i64 fun (j : Nat) => S.at' x7 j])), (5, (true, Blk.cols (List.length x8) [Col.int IntKind.i64 fun (j : Nat) => S.at' x8 j]))], [(0, (false, .cols ml [.int .u32 tl])), (1, (false, .cols mm [.int .u8 tm]))]], 6⟩ (proj 2 [5, 6, 7, 13, 15, 16, 17, 18, 19, 20, 22, 23, 24, 126, 127, 128, 133, 134, 135, 150, 151, 154, 155, 156, 157, 158] Kst Kret) =
  T8_1 test Kst Kret al nl ml tl am nm mm tm x0 x1 x2 x3 x4 x5 x6 x7 x8 := by kernel_rfl
noncomputable def T8_2 (test : Bool → Prop → Prop → Prop) (Kst : KS) (Kret : KR) (al nl ml : Nat) (tl : Nat → Int) (am nm mm : Nat) (tm : Nat → Int) (x0 : Bool) (x1 : Int) (x2 : Int) (x3 : Int) (x4 : Int) (x5 : Int) (x6 : Int) (x7 : Int) (x8 : Int) (x9 : Int) (x10 : Int) (x11 : Int) (x12 : Int) (x13 : List (Int × Int × Int × Int)) (x14 : List Int) (x15 : List Int) (x16 : List Int) : Prop :=
  test (decide (x6 > x5))
 (test (decide ((0 : Int) ≤ x6 ∧ x6 < (↑(List.length x13) : Int)))
 (test (decide (Int.toNat x6 < List.length x13))
 (test (decide ((0 : Int) ≤ x6 ∧ x6 < (↑(List.length x16) : Int)))
 (test (decide (Int.toNat x6 < List.length x16))
 (test (decide ((0 : Int) ≤ x6 ∧ x6 < (↑(List.length x13) : Int)))
 (test (decide (Int.toNat x6 < List.length x13))
 (Kst (hd Try.f8 2) ([PV.ptr (PA.mk (2) (0) (0) (0)),
 PV.own (4) (1) (List.length x14),
 PV.int IntKind.i64
 (Prod.fst
 (S.cmpS (List.length (S.mdL nl fun (q : Nat) => tl (q + al)))
 (fun (q : Nat) => (S.at' (S.mdL nl fun (q : Nat) => tl (q + al)) q).1)
 (fun (q : Nat) => (S.at' (S.mdL nl fun (q : Nat) => tl (q + al)) q).2.1)
 (fun (q : Nat) => (S.at' (S.mdL nl fun (q : Nat) => tl (q + al)) q).2.2.1)
 (fun (q : Nat) => (S.at' (S.mdL nl fun (q : Nat) => tl (q + al)) q).2.2.2)
 (1000000000 : Int))),
 PV.own (5) (1) (List.length x15), PV.bool x0, PV.int IntKind.i64 x1,
 PV.int IntKind.i64 x2, PV.int IntKind.i64 x3, PV.int IntKind.i64 x4,
 PV.int IntKind.i64 x5, PV.own (6) (1) (List.length x16),
 PV.int IntKind.i64 ((S.at' x13 (Int.toNat x6)).1), PV.unk,
 PV.own (5) (1) (List.length x15),
 PV.int IntKind.i64
 (↑(List.length
 (Prod.snd
 (S.leaS (List.length (S.mdL nl fun (q : Nat) => tl (q + al)))
 (fun (q : Nat) => (S.at' (S.mdL nl fun (q : Nat) => tl (q + al)) q).1)
 (fun (q : Nat) => (S.at' (S.mdL nl fun (q : Nat) => tl (q + al)) q).2.1)
 (fun (q : Nat) =>
 (S.at' (S.mdL nl fun (q : Nat) => tl (q + al)) q).2.2.1)
 fun (q : Nat) =>
 (S.at' (S.mdL nl fun (q : Nat) => tl (q + al)) q).2.2.2))) :
 Int),
 PV.int IntKind.i64 x7, PV.own (5) (1) (List.length x15),
 PV.int IntKind.i64 x8, PV.int IntKind.i64 x9, PV.int IntKind.i64 x10,
 PV.tf false, PV.int IntKind.i64 x11,
 PV.ptr (PA.mk (2) (0) (0) (0)),
 PV.own (3) (4) (List.length x13), PV.int IntKind.i64 x12, PV.tf false]) ([[(1, false, Blk.cols mm [Col.int IntKind.u8 tm]),
 (0, false, Blk.cols ml [Col.int IntKind.u32 tl]),
 (3, true,
 Blk.cols (List.length x13)
 [Col.int IntKind.i64 fun (j : Nat) => (S.at' x13 j).1,
 Col.int IntKind.i64 fun (j : Nat) => (S.at' x13 j).2.1,
 Col.int IntKind.i64 fun (j : Nat) => (S.at' x13 j).2.2.1,
 Col.int IntKind.i64 fun (j : Nat) => (S.at' x13 j).2.2.2]),
 (2, true, Blk.cells [PV.own (3) (4) (List.length x13)]),
 (5, true,
 Blk.cols (List.length x15) [Col.int IntKind.i64 fun (j : Nat) => S.at' x15 j]),
 (6, true,
 Blk.cols (List.length x16)
 [Col.int IntKind.i64 fun (j : Nat) =>
 bif Nat.beq j (Int.toNat x6) then (S.at' x13 (Int.toNat x6)).2.2.2
 else S.at' x16 j]),
 (4, true,
 Blk.cols (List.length x14) [Col.int IntKind.i64 fun (j : Nat) => S.at' x14 j])]]) (7))
 (False))
 (False))
 (False))
 (False))
 (False))
 (False))
 (Kst (hd Try.f8 3) ([PV.ptr (PA.mk (2) (0) (0) (0)),
 PV.own (4) (1) (List.length x14),
 PV.int IntKind.i64
 (Prod.fst
 (S.cmpS (List.length (S.mdL nl fun (q : Nat) => tl (q + al)))
 (fun (q : Nat) => (S.at' (S.mdL nl fun (q : Nat) => tl (q + al)) q).1)
 (fun (q : Nat) => (S.at' (S.mdL nl fun (q : Nat) => tl (q + al)) q).2.1)
 (fun (q : Nat) => (S.at' (S.mdL nl fun (q : Nat) => tl (q + al)) q).2.2.1)
 (fun (q : Nat) => (S.at' (S.mdL nl fun (q : Nat) => tl (q + al)) q).2.2.2)
 (1000000000 : Int))),
 PV.own (5) (1) (List.length x15), PV.bool x0, PV.int IntKind.i64 x1,
 PV.int IntKind.i64 x2, PV.int IntKind.i64 x3, PV.int IntKind.i64 x4,
 PV.int IntKind.i64 x5, PV.own (6) (1) (List.length x16),
 PV.int IntKind.i64 x6, PV.int IntKind.i64 x4,
 PV.own (5) (1) (List.length x15),
 PV.int IntKind.i64
 (↑(List.length
 (Prod.snd
 (S.leaS (List.length (S.mdL nl fun (q : Nat) => tl (q + al)))
 (fun (q : Nat) => (S.at' (S.mdL nl fun (q : Nat) => tl (q + al)) q).1)
 (fun (q : Nat) => (S.at' (S.mdL nl fun (q : Nat) => tl (q + al)) q).2.1)
 (fun (q : Nat) =>
 (S.at' (S.mdL nl fun (q : Nat) => tl (q + al)) q).2.2.1)
 fun (q : Nat) =>
 (S.at' (S.mdL nl fun (q : Nat) => tl (q + al)) q).2.2.2))) :
 Int),
 PV.int IntKind.i64 x7, PV.own (5) (1) (List.length x15),
 PV.int IntKind.i64 x8, PV.int IntKind.i64 x9, PV.int IntKind.i64 x10,
 PV.tf false, PV.int IntKind.i64 x11,
 PV.ptr (PA.mk (2) (0) (0) (0)),
 PV.own (3) (4) (List.length x13), PV.int IntKind.i64 x12, PV.tf false]) ([[(1, false, Blk.cols mm [Col.int IntKind.u8 tm]),
 (0, false, Blk.cols ml [Col.int IntKind.u32 tl]),
 (3, true,
 Blk.cols (List.length x13)
 [Col.int IntKind.i64 fun (j : Nat) => (S.at' x13 j).1,
 Col.int IntKind.i64 fun (j : Nat) => (S.at' x13 j).2.1,
 Col.int IntKind.i64 fun (j : Nat) => (S.at' x13 j).2.2.1,
 Col.int IntKind.i64 fun (j : Nat) => (S.at' x13 j).2.2.2]),
 (2, true, Blk.cells [PV.own (3) (4) (List.length x13)]),
 (5, true,
 Blk.cols (List.length x15) [Col.int IntKind.i64 fun (j : Nat) => S.at' x15 j]),
 (6, true,
 Blk.cols (List.length x16) [Col.int IntKind.i64 fun (j : Nat) => S.at' x16 j]),
 (4, true,
 Blk.cols (List.length x14) [Col.int IntKind.i64 fun (j : Nat) => S.at' x14 j])]]) (7))
set_option maxRecDepth 100000 in
theorem t8_2 (test : Bool → Prop → Prop → Prop) (Kst : KS) (Kret : KR) (al nl ml : Nat) (tl : Nat → Int) (am nm mm : Nat) (tm : Nat → Int) (x0 : Bool) (x1 : Int) (x2 : Int) (x3 : Int) (x4 : Int) (x5 : Int) (x6 : Int) (x7 : Int) (x8 : Int) (x9 : Int) (x10 : Int) (x11 : Int) (x12 : Int) (x13 : List (Int × Int × Int × Int)) (x14 : List Int) (x15 : List Int) (x16 : List Int) : run test Try.env true (xQ test) true 400 ⟨8, hd Try.f8 2, zipT [5, 6, 7, 13, 15, 16, 17, 18, 19, 20, 22, 23, 24, 126, 127, 128, 133, 134, 135, 150, 151, 154, 155, 156, 157, 158] [PV.ptr (PA.mk (2) (0) (0) (0)),
 PV.own (4) (1) (List.length x14),
 PV.int IntKind.i64
 (Prod.fst
 (S.cmpS (List.length (S.mdL nl fun (q : Nat) => tl (q + al)))
 (fun (q : Nat) => (S.at' (S.mdL nl fun (q : Nat) => tl (q + al)) q).1)
 (fun (q : Nat) => (S.at' (S.mdL nl fun (q : Nat) => tl (q + al)) q).2.1)
 (fun (q : Nat) => (S.at' (S.mdL nl fun (q : Nat) => tl (q + al)) q).2.2.1)
 (fun (q : Nat) => (S.at' (S.mdL nl fun (q : Nat) => tl (q + al)) q).2.2.2)
 (1000000000 : Int))),
 PV.own (5) (1) (List.length x15), PV.bool x0, PV.int IntKind.i64 x1,
 PV.int IntKind.i64 x2, PV.int IntKind.i64 x3, PV.int IntKind.i64 x4,
 PV.int IntKind.i64 x5, PV.own (6) (1) (List.length x16),
 PV.int IntKind.i64 x6, PV.unk, PV.own (5) (1) (List.length x15),
 PV.int IntKind.i64
 (↑(List.length
 (Prod.snd
 (S.leaS (List.length (S.mdL nl fun (q : Nat) => tl (q + al)))
 (fun (q : Nat) => (S.at' (S.mdL nl fun (q : Nat) => tl (q + al)) q).1)
 (fun (q : Nat) => (S.at' (S.mdL nl fun (q : Nat) => tl (q + al)) q).2.1)
 (fun (q : Nat) =>
 (S.at' (S.mdL nl fun (q : Nat) => tl (q + al)) q).2.2.1)
 fun (q : Nat) =>
 (S.at' (S.mdL nl fun (q : Nat) => tl (q + al)) q).2.2.2))) :
 Int),
 PV.int IntKind.i64 x7, PV.own (5) (1) (List.length x15),
 PV.int IntKind.i64 x8, PV.int IntKind.i64 x9, PV.int IntKind.i64 x10,
 PV.tf false, PV.int IntKind.i64 x11,
 PV.ptr (PA.mk (2) (0) (0) (0)),
 PV.own (3) (4) (List.length x13), PV.int IntKind.i64 x12, PV.tf false], [[(2, (true, Blk.cells [PV.own (3) (4) (List.length x13)])), (3, (true, Blk.cols (List.length x13)
 [Col.int IntKind.i64 fun (j : Nat) => (S.at' x13 j).1,
 Col.int IntKind.i64 fun (j : Nat) => (S.at' x13 j).2.1,
 Col.int IntKind.i64 fun (j : Nat) => (S.at' x13 j).2.2.1,
 Col.int IntKind.i64 fun (j : Nat) => (S.at' x13 j).2.2.2])), (4, (true, Blk.cols (List.length x14) [Col.int IntKind.i64 fun (j : Nat) => S.at' x14 j])), (5, (true, Blk.cols (List.length x15) [Col.int IntKind.i64 fun (j : Nat) => S.at' x15 j])), (6, (true, Blk.cols (List.length x16) [Col.int IntKind.i64 fun (j : Nat) => S.at' x16 j]))], [(0, (false, .cols ml [.int .u32 tl])), (1, (false, .cols mm [.int .u8 tm]))]], 7⟩ (proj 2 [5, 6, 7, 13, 15, 16, 17, 18, 19, 20, 22, 23, 24, 126, 127, 128, 133, 134, 135, 150, 151, 154, 155, 156, 157, 158] Kst Kret) =
  T8_2 test Kst Kret al nl ml tl am nm mm tm x0 x1 x2 x3 x4 x5 x6 x7 x8 x9 x10 x11 x12 x13 x14 x15 x16 := by kernel_rfl
noncomputable def T8_3 (test : Bool → Prop → Prop → Prop) (Kst : KS) (Kret : KR) (al nl ml : Nat) (tl : Nat → Int) (am nm mm : Nat) (tm : Nat → Int) (x0 : Bool) (x1 : Int) (x2 : Int) (x3 : Int) (x4 : Int) (x5 : Int) (x6 : Int) (x7 : Int) (x8 : Int) (x9 : Int) (x10 : Int) (x11 : Int) (x12 : List (Int × Int × Int × Int)) (x13 : List Int) (x14 : List Int) (x15 : List Int) : Prop :=
  test (decide (x5 > x4))
 (test (decide ((0 : Int) ≤ x5 ∧ x5 < (↑(List.length x12) : Int)))
 (test (decide (Int.toNat x5 < List.length x12))
 (test (lim IntKind.i64 (-(S.at' x12 (Int.toNat x5)).2.2.2))
 (test (decide ((0 : Int) ≤ x5 ∧ x5 < (↑(List.length x15) : Int)))
 (test (decide (Int.toNat x5 < List.length x15))
 (test (decide ((0 : Int) ≤ x5 ∧ x5 < (↑(List.length x12) : Int)))
 (test (decide (Int.toNat x5 < List.length x12))
 (Kst (hd Try.f8 3) ([PV.ptr (PA.mk (2) (0) (0) (0)),
 PV.own (4) (1) (List.length x13),
 PV.int IntKind.i64
 (Prod.fst
 (S.cmpS (List.length (S.mdL nl fun (q : Nat) => tl (q + al)))
 (fun (q : Nat) => (S.at' (S.mdL nl fun (q : Nat) => tl (q + al)) q).1)
 (fun (q : Nat) => (S.at' (S.mdL nl fun (q : Nat) => tl (q + al)) q).2.1)
 (fun (q : Nat) => (S.at' (S.mdL nl fun (q : Nat) => tl (q + al)) q).2.2.1)
 (fun (q : Nat) => (S.at' (S.mdL nl fun (q : Nat) => tl (q + al)) q).2.2.2)
 (1000000000 : Int))),
 PV.own (5) (1) (List.length x14), PV.bool x0, PV.int IntKind.i64 x1,
 PV.int IntKind.i64 x2, PV.int IntKind.i64 x3, PV.unk, PV.int IntKind.i64 x4,
 PV.own (6) (1) (List.length x15), PV.unk,
 PV.int IntKind.i64 ((S.at' x12 (Int.toNat x5)).1),
 PV.own (5) (1) (List.length x14),
 PV.int IntKind.i64
 (↑(List.length
 (Prod.snd
 (S.leaS (List.length (S.mdL nl fun (q : Nat) => tl (q + al)))
 (fun (q : Nat) => (S.at' (S.mdL nl fun (q : Nat) => tl (q + al)) q).1)
 (fun (q : Nat) => (S.at' (S.mdL nl fun (q : Nat) => tl (q + al)) q).2.1)
 (fun (q : Nat) =>
 (S.at' (S.mdL nl fun (q : Nat) => tl (q + al)) q).2.2.1)
 fun (q : Nat) =>
 (S.at' (S.mdL nl fun (q : Nat) => tl (q + al)) q).2.2.2))) :
 Int),
 PV.int IntKind.i64 x6, PV.own (5) (1) (List.length x14),
 PV.int IntKind.i64 x7, PV.int IntKind.i64 x8, PV.int IntKind.i64 x9,
 PV.tf false, PV.int IntKind.i64 x10,
 PV.ptr (PA.mk (2) (0) (0) (0)),
 PV.own (3) (4) (List.length x12), PV.int IntKind.i64 x11, PV.tf false]) ([[(1, false, Blk.cols mm [Col.int IntKind.u8 tm]),
 (0, false, Blk.cols ml [Col.int IntKind.u32 tl]),
 (3, true,
 Blk.cols (List.length x12)
 [Col.int IntKind.i64 fun (j : Nat) => (S.at' x12 j).1,
 Col.int IntKind.i64 fun (j : Nat) => (S.at' x12 j).2.1,
 Col.int IntKind.i64 fun (j : Nat) => (S.at' x12 j).2.2.1,
 Col.int IntKind.i64 fun (j : Nat) => (S.at' x12 j).2.2.2]),
 (2, true, Blk.cells [PV.own (3) (4) (List.length x12)]),
 (5, true,
 Blk.cols (List.length x14) [Col.int IntKind.i64 fun (j : Nat) => S.at' x14 j]),
 (6, true,
 Blk.cols (List.length x15)
 [Col.int IntKind.i64 fun (j : Nat) =>
 bif Nat.beq j (Int.toNat x5) then -(S.at' x12 (Int.toNat x5)).2.2.2
 else S.at' x15 j]),
 (4, true,
 Blk.cols (List.length x13) [Col.int IntKind.i64 fun (j : Nat) => S.at' x13 j])]]) (7))
 (False))
 (False))
 (False))
 (False))
 (False))
 (False))
 (False))
 (test (decide
 (0 + List.length x12 ≤ List.length x12 ∧
 List.length x12 ≤ 1000000 ∧
 0 + List.length x13 ≤ List.length x13 ∧
 List.length x13 ≤ 1000000 ∧
 0 + List.length x15 ≤ List.length x15 ∧ List.length x15 ≤ 1000000))
 (test (Prod.fst
 (S.actS (List.length x12) (fun (q : Nat) => (S.at' x12 q).1)
 (fun (q : Nat) => (S.at' x12 q).2.1)
 (fun (q : Nat) => (S.at' x12 q).2.2.1)
 (fun (q : Nat) => (S.at' x12 q).2.2.2) (List.length x13)
 (fun (q : Nat) => S.at' x13 q) (1000 : Int) (List.length x15) fun (q : Nat) => S.at' x15 q) !=
 (0 : Int))
 (Kret (PV.tf false) ([[(1, false, Blk.cols mm [Col.int IntKind.u8 tm]),
 (0, false, Blk.cols ml [Col.int IntKind.u32 tl])]]) (9))
 (test ((↑(List.length
 (Prod.snd
 (S.actS (List.length x12) (fun (q : Nat) => (S.at' x12 q).1)
 (fun (q : Nat) => (S.at' x12 q).2.1)
 (fun (q : Nat) => (S.at' x12 q).2.2.1)
 (fun (q : Nat) => (S.at' x12 q).2.2.2) (List.length x13)
 (fun (q : Nat) => S.at' x13 q) (1000 : Int) (List.length x15) fun (q : Nat) => S.at' x15 q))) :
 Int) !=
 (↑(List.length x14) : Int))
 (Kret (PV.tf false) ([[(1, false, Blk.cols mm [Col.int IntKind.u8 tm]),
 (0, false, Blk.cols ml [Col.int IntKind.u32 tl])]]) (9))
 (test (x0)
 (test (lim IntKind.i64 (x8 + (1 : Int)))
 (Kst (hd Try.f8 1) ([PV.ptr (PA.mk (2) (0) (0) (0)),
 PV.own (4) (1) (List.length x13),
 PV.int IntKind.i64
 (Prod.fst
 (S.cmpS (List.length (S.mdL nl fun (q : Nat) => tl (q + al)))
 (fun (q : Nat) => (S.at' (S.mdL nl fun (q : Nat) => tl (q + al)) q).1)
 (fun (q : Nat) => (S.at' (S.mdL nl fun (q : Nat) => tl (q + al)) q).2.1)
 (fun (q : Nat) => (S.at' (S.mdL nl fun (q : Nat) => tl (q + al)) q).2.2.1)
 (fun (q : Nat) => (S.at' (S.mdL nl fun (q : Nat) => tl (q + al)) q).2.2.2)
 (1000000000 : Int))),
 PV.own (5) (1) (List.length x14), PV.tf true, PV.int IntKind.i64 x1,
 PV.int IntKind.i64 x2, PV.int IntKind.i64 x3, PV.unk, PV.int IntKind.i64 x4,
 PV.own (6) (1) (List.length x15), PV.unk, PV.int IntKind.i64 x5,
 PV.own (5) (1) (List.length x14),
 PV.int IntKind.i64
 (↑(List.length
 (Prod.snd
 (S.leaS (List.length (S.mdL nl fun (q : Nat) => tl (q + al)))
 (fun (q : Nat) => (S.at' (S.mdL nl fun (q : Nat) => tl (q + al)) q).1)
 (fun (q : Nat) => (S.at' (S.mdL nl fun (q : Nat) => tl (q + al)) q).2.1)
 (fun (q : Nat) =>
 (S.at' (S.mdL nl fun (q : Nat) => tl (q + al)) q).2.2.1)
 fun (q : Nat) =>
 (S.at' (S.mdL nl fun (q : Nat) => tl (q + al)) q).2.2.2))) :
 Int),
 PV.int IntKind.i64 x6, PV.own (5) (1) (List.length x14),
 PV.int IntKind.i64 x7, PV.int IntKind.i64 (x8 + (1 : Int)), PV.int IntKind.i64 x9,
 PV.tf false, PV.int IntKind.i64 x10,
 PV.ptr (PA.mk (2) (0) (0) (0)),
 PV.own (3) (4) (List.length x12), PV.int IntKind.i64 x11, PV.tf false]) ([[(1, false, Blk.cols mm [Col.int IntKind.u8 tm]),
 (0, false, Blk.cols ml [Col.int IntKind.u32 tl]),
 (3, true,
 Blk.cols (List.length x12)
 [Col.int IntKind.i64 fun (j : Nat) => (S.at' x12 j).1,
 Col.int IntKind.i64 fun (j : Nat) => (S.at' x12 j).2.1,
 Col.int IntKind.i64 fun (j : Nat) => (S.at' x12 j).2.2.1,
 Col.int IntKind.i64 fun (j : Nat) => (S.at' x12 j).2.2.2]),
 (2, true, Blk.cells [PV.own (3) (4) (List.length x12)]),
 (5, true,
 Blk.cols (List.length x14) [Col.int IntKind.i64 fun (j : Nat) => S.at' x14 j]),
 (6, true,
 Blk.cols (List.length x15) [Col.int IntKind.i64 fun (j : Nat) => S.at' x15 j]),
 (4, true,
 Blk.cols (List.length x13) [Col.int IntKind.i64 fun (j : Nat) => S.at' x13 j])]]) (9))
 (False))
 (test (decide
 ((0 : Int) ≤ x1 ∧
 x1 <
 (↑(List.length
 (Prod.snd
 (S.actS (List.length x12) (fun (q : Nat) => (S.at' x12 q).1)
 (fun (q : Nat) => (S.at' x12 q).2.1)
 (fun (q : Nat) => (S.at' x12 q).2.2.1)
 (fun (q : Nat) => (S.at' x12 q).2.2.2) (List.length x13)
 (fun (q : Nat) => S.at' x13 q) (1000 : Int) (List.length x15) fun (q : Nat) =>
 S.at' x15 q))) :
 Int)))
 (test (decide
 (Int.toNat x1 <
 List.length
 (Prod.snd
 (S.actS (List.length x12) (fun (q : Nat) => (S.at' x12 q).1)
 (fun (q : Nat) => (S.at' x12 q).2.1)
 (fun (q : Nat) => (S.at' x12 q).2.2.1)
 (fun (q : Nat) => (S.at' x12 q).2.2.2) (List.length x13)
 (fun (q : Nat) => S.at' x13 q) (1000 : Int) (List.length x15) fun (q : Nat) => S.at' x15 q))))
 (test (decide
 ((0 : Int) ≤ x3 ∧
 x3 <
 (↑(List.length
 (Prod.snd
 (S.actS (List.length x12) (fun (q : Nat) => (S.at' x12 q).1)
 (fun (q : Nat) => (S.at' x12 q).2.1)
 (fun (q : Nat) => (S.at' x12 q).2.2.1)
 (fun (q : Nat) => (S.at' x12 q).2.2.2) (List.length x13)
 (fun (q : Nat) => S.at' x13 q) (1000 : Int) (List.length x15) fun (q : Nat) =>
 S.at' x15 q))) :
 Int)))
 (test (decide
 (Int.toNat x3 <
 List.length
 (Prod.snd
 (S.actS (List.length x12) (fun (q : Nat) => (S.at' x12 q).1)
 (fun (q : Nat) => (S.at' x12 q).2.1)
 (fun (q : Nat) => (S.at' x12 q).2.2.1)
 (fun (q : Nat) => (S.at' x12 q).2.2.2) (List.length x13)
 (fun (q : Nat) => S.at' x13 q) (1000 : Int) (List.length x15) fun (q : Nat) => S.at' x15 q))))
 (test (lim IntKind.i64
 (S.at'
 (Prod.snd
 (S.actS (List.length x12) (fun (q : Nat) => (S.at' x12 q).1)
 (fun (q : Nat) => (S.at' x12 q).2.1)
 (fun (q : Nat) => (S.at' x12 q).2.2.1)
 (fun (q : Nat) => (S.at' x12 q).2.2.2) (List.length x13)
 (fun (q : Nat) => S.at' x13 q) (1000 : Int) (List.length x15) fun (q : Nat) => S.at' x15 q))
 (Int.toNat x1) -
 S.at'
 (Prod.snd
 (S.actS (List.length x12) (fun (q : Nat) => (S.at' x12 q).1)
 (fun (q : Nat) => (S.at' x12 q).2.1)
 (fun (q : Nat) => (S.at' x12 q).2.2.1)
 (fun (q : Nat) => (S.at' x12 q).2.2.2) (List.length x13)
 (fun (q : Nat) => S.at' x13 q) (1000 : Int) (List.length x15) fun (q : Nat) => S.at' x15 q))
 (Int.toNat x3)))
 (test (S.at'
 (Prod.snd
 (S.actS (List.length x12) (fun (q : Nat) => (S.at' x12 q).1)
 (fun (q : Nat) => (S.at' x12 q).2.1)
 (fun (q : Nat) => (S.at' x12 q).2.2.1)
 (fun (q : Nat) => (S.at' x12 q).2.2.2) (List.length x13)
 (fun (q : Nat) => S.at' x13 q) (1000 : Int) (List.length x15) fun (q : Nat) => S.at' x15 q))
 (Int.toNat x1) -
 S.at'
 (Prod.snd
 (S.actS (List.length x12) (fun (q : Nat) => (S.at' x12 q).1)
 (fun (q : Nat) => (S.at' x12 q).2.1)
 (fun (q : Nat) => (S.at' x12 q).2.2.1)
 (fun (q : Nat) => (S.at' x12 q).2.2.2) (List.length x13)
 (fun (q : Nat) => S.at' x13 q) (1000 : Int) (List.length x15) fun (q : Nat) => S.at' x15 q))
 (Int.toNat x3) ==
 Prod.fst
 (S.cmpS (List.length (S.mdL nl fun (q : Nat) => tl (q + al)))
 (fun (q : Nat) => (S.at' (S.mdL nl fun (q : Nat) => tl (q + al)) q).1)
 (fun (q : Nat) => (S.at' (S.mdL nl fun (q : Nat) => tl (q + al)) q).2.1)
 (fun (q : Nat) => (S.at' (S.mdL nl fun (q : Nat) => tl (q + al)) q).2.2.1)
 (fun (q : Nat) => (S.at' (S.mdL nl fun (q : Nat) => tl (q + al)) q).2.2.2)
 (1000000000 : Int)))
 (test (lim IntKind.i64 (x8 + (1 : Int)))
 (Kst (hd Try.f8 1) ([PV.ptr (PA.mk (2) (0) (0) (0)),
 PV.own (4) (1) (List.length x13),
 PV.int IntKind.i64
 (Prod.fst
 (S.cmpS (List.length (S.mdL nl fun (q : Nat) => tl (q + al)))
 (fun (q : Nat) => (S.at' (S.mdL nl fun (q : Nat) => tl (q + al)) q).1)
 (fun (q : Nat) => (S.at' (S.mdL nl fun (q : Nat) => tl (q + al)) q).2.1)
 (fun (q : Nat) => (S.at' (S.mdL nl fun (q : Nat) => tl (q + al)) q).2.2.1)
 (fun (q : Nat) => (S.at' (S.mdL nl fun (q : Nat) => tl (q + al)) q).2.2.2)
 (1000000000 : Int))),
 PV.own (5) (1) (List.length x14), PV.tf true, PV.int IntKind.i64 x1,
 PV.int IntKind.i64 x2, PV.int IntKind.i64 x3, PV.unk, PV.int IntKind.i64 x4,
 PV.own (6) (1) (List.length x15), PV.unk, PV.int IntKind.i64 x5,
 PV.own (5) (1) (List.length x14),
 PV.int IntKind.i64
 (↑(List.length
 (Prod.snd
 (S.leaS (List.length (S.mdL nl fun (q : Nat) => tl (q + al)))
 (fun (q : Nat) => (S.at' (S.mdL nl fun (q : Nat) => tl (q + al)) q).1)
 (fun (q : Nat) => (S.at' (S.mdL nl fun (q : Nat) => tl (q + al)) q).2.1)
 (fun (q : Nat) =>
 (S.at' (S.mdL nl fun (q : Nat) => tl (q + al)) q).2.2.1)
 fun (q : Nat) =>
 (S.at' (S.mdL nl fun (q : Nat) => tl (q + al)) q).2.2.2))) :
 Int),
 PV.int IntKind.i64 x6, PV.own (5) (1) (List.length x14),
 PV.int IntKind.i64 x7, PV.int IntKind.i64 (x8 + (1 : Int)), PV.int IntKind.i64 x9,
 PV.tf false, PV.int IntKind.i64 x10,
 PV.ptr (PA.mk (2) (0) (0) (0)),
 PV.own (3) (4) (List.length x12), PV.int IntKind.i64 x11, PV.tf false]) ([[(1, false, Blk.cols mm [Col.int IntKind.u8 tm]),
 (0, false, Blk.cols ml [Col.int IntKind.u32 tl]),
 (3, true,
 Blk.cols (List.length x12)
 [Col.int IntKind.i64 fun (j : Nat) => (S.at' x12 j).1,
 Col.int IntKind.i64 fun (j : Nat) => (S.at' x12 j).2.1,
 Col.int IntKind.i64 fun (j : Nat) => (S.at' x12 j).2.2.1,
 Col.int IntKind.i64 fun (j : Nat) => (S.at' x12 j).2.2.2]),
 (2, true, Blk.cells [PV.own (3) (4) (List.length x12)]),
 (5, true,
 Blk.cols (List.length x14) [Col.int IntKind.i64 fun (j : Nat) => S.at' x14 j]),
 (6, true,
 Blk.cols (List.length x15) [Col.int IntKind.i64 fun (j : Nat) => S.at' x15 j]),
 (4, true,
 Blk.cols (List.length x13) [Col.int IntKind.i64 fun (j : Nat) => S.at' x13 j])]]) (9))
 (False))
 (test (lim IntKind.i64 (x8 + (1 : Int)))
 (Kst (hd Try.f8 1) ([PV.ptr (PA.mk (2) (0) (0) (0)),
 PV.own (4) (1) (List.length x13),
 PV.int IntKind.i64
 (Prod.fst
 (S.cmpS (List.length (S.mdL nl fun (q : Nat) => tl (q + al)))
 (fun (q : Nat) => (S.at' (S.mdL nl fun (q : Nat) => tl (q + al)) q).1)
 (fun (q : Nat) => (S.at' (S.mdL nl fun (q : Nat) => tl (q + al)) q).2.1)
 (fun (q : Nat) => (S.at' (S.mdL nl fun (q : Nat) => tl (q + al)) q).2.2.1)
 (fun (q : Nat) => (S.at' (S.mdL nl fun (q : Nat) => tl (q + al)) q).2.2.2)
 (1000000000 : Int))),
 PV.own (5) (1) (List.length x14), PV.tf false, PV.int IntKind.i64 x1,
 PV.int IntKind.i64 x2, PV.int IntKind.i64 x3, PV.unk, PV.int IntKind.i64 x4,
 PV.own (6) (1) (List.length x15), PV.unk, PV.int IntKind.i64 x5,
 PV.own (5) (1) (List.length x14),
 PV.int IntKind.i64
 (↑(List.length
 (Prod.snd
 (S.leaS (List.length (S.mdL nl fun (q : Nat) => tl (q + al)))
 (fun (q : Nat) => (S.at' (S.mdL nl fun (q : Nat) => tl (q + al)) q).1)
 (fun (q : Nat) => (S.at' (S.mdL nl fun (q : Nat) => tl (q + al)) q).2.1)
 (fun (q : Nat) =>
 (S.at' (S.mdL nl fun (q : Nat) => tl (q + al)) q).2.2.1)
 fun (q : Nat) =>
 (S.at' (S.mdL nl fun (q : Nat) => tl (q + al)) q).2.2.2))) :
 Int),
 PV.int IntKind.i64 x6, PV.own (5) (1) (List.length x14),
 PV.int IntKind.i64 x7, PV.int IntKind.i64 (x8 + (1 : Int)), PV.int IntKind.i64 x9,
 PV.tf false, PV.int IntKind.i64 x10,
 PV.ptr (PA.mk (2) (0) (0) (0)),
 PV.own (3) (4) (List.length x12), PV.int IntKind.i64 x11, PV.tf false]) ([[(1, false, Blk.cols mm [Col.int IntKind.u8 tm]),
 (0, false, Blk.cols ml [Col.int IntKind.u32 tl]),
 (3, true,
 Blk.cols (List.length x12)
 [Col.int IntKind.i64 fun (j : Nat) => (S.at' x12 j).1,
 Col.int IntKind.i64 fun (j : Nat) => (S.at' x12 j).2.1,
 Col.int IntKind.i64 fun (j : Nat) => (S.at' x12 j).2.2.1,
 Col.int IntKind.i64 fun (j : Nat) => (S.at' x12 j).2.2.2]),
 (2, true, Blk.cells [PV.own (3) (4) (List.length x12)]),
 (5, true,
 Blk.cols (List.length x14) [Col.int IntKind.i64 fun (j : Nat) => S.at' x14 j]),
 (6, true,
 Blk.cols (List.length x15) [Col.int IntKind.i64 fun (j : Nat) => S.at' x15 j]),
 (4, true,
 Blk.cols (List.length x13) [Col.int IntKind.i64 fun (j : Nat) => S.at' x13 j])]]) (9))
 (False)))
 (False))
 (False))
 (False))
 (False))
 (False)))))
 (False))
set_option maxRecDepth 100000 in
theorem t8_3 (test : Bool → Prop → Prop → Prop) (Kst : KS) (Kret : KR) (al nl ml : Nat) (tl : Nat → Int) (am nm mm : Nat) (tm : Nat → Int) (x0 : Bool) (x1 : Int) (x2 : Int) (x3 : Int) (x4 : Int) (x5 : Int) (x6 : Int) (x7 : Int) (x8 : Int) (x9 : Int) (x10 : Int) (x11 : Int) (x12 : List (Int × Int × Int × Int)) (x13 : List Int) (x14 : List Int) (x15 : List Int) : run test Try.env true (xQ test) true 400 ⟨8, hd Try.f8 3, zipT [5, 6, 7, 13, 15, 16, 17, 18, 19, 20, 22, 23, 24, 126, 127, 128, 133, 134, 135, 150, 151, 154, 155, 156, 157, 158] [PV.ptr (PA.mk (2) (0) (0) (0)),
 PV.own (4) (1) (List.length x13),
 PV.int IntKind.i64
 (Prod.fst
 (S.cmpS (List.length (S.mdL nl fun (q : Nat) => tl (q + al)))
 (fun (q : Nat) => (S.at' (S.mdL nl fun (q : Nat) => tl (q + al)) q).1)
 (fun (q : Nat) => (S.at' (S.mdL nl fun (q : Nat) => tl (q + al)) q).2.1)
 (fun (q : Nat) => (S.at' (S.mdL nl fun (q : Nat) => tl (q + al)) q).2.2.1)
 (fun (q : Nat) => (S.at' (S.mdL nl fun (q : Nat) => tl (q + al)) q).2.2.2)
 (1000000000 : Int))),
 PV.own (5) (1) (List.length x14), PV.bool x0, PV.int IntKind.i64 x1,
 PV.int IntKind.i64 x2, PV.int IntKind.i64 x3, PV.unk, PV.int IntKind.i64 x4,
 PV.own (6) (1) (List.length x15), PV.unk, PV.int IntKind.i64 x5,
 PV.own (5) (1) (List.length x14),
 PV.int IntKind.i64
 (↑(List.length
 (Prod.snd
 (S.leaS (List.length (S.mdL nl fun (q : Nat) => tl (q + al)))
 (fun (q : Nat) => (S.at' (S.mdL nl fun (q : Nat) => tl (q + al)) q).1)
 (fun (q : Nat) => (S.at' (S.mdL nl fun (q : Nat) => tl (q + al)) q).2.1)
 (fun (q : Nat) =>
 (S.at' (S.mdL nl fun (q : Nat) => tl (q + al)) q).2.2.1)
 fun (q : Nat) =>
 (S.at' (S.mdL nl fun (q : Nat) => tl (q + al)) q).2.2.2))) :
 Int),
 PV.int IntKind.i64 x6, PV.own (5) (1) (List.length x14),
 PV.int IntKind.i64 x7, PV.int IntKind.i64 x8, PV.int IntKind.i64 x9,
 PV.tf false, PV.int IntKind.i64 x10,
 PV.ptr (PA.mk (2) (0) (0) (0)),
 PV.own (3) (4) (List.length x12), PV.int IntKind.i64 x11, PV.tf false], [[(2, (true, Blk.cells [PV.own (3) (4) (List.length x12)])), (3, (true, Blk.cols (List.length x12)
 [Col.int IntKind.i64 fun (j : Nat) => (S.at' x12 j).1,
 Col.int IntKind.i64 fun (j : Nat) => (S.at' x12 j).2.1,
 Col.int IntKind.i64 fun (j : Nat) => (S.at' x12 j).2.2.1,
 Col.int IntKind.i64 fun (j : Nat) => (S.at' x12 j).2.2.2])), (4, (true, Blk.cols (List.length x13) [Col.int IntKind.i64 fun (j : Nat) => S.at' x13 j])), (5, (true, Blk.cols (List.length x14) [Col.int IntKind.i64 fun (j : Nat) => S.at' x14 j])), (6, (true, Blk.cols (List.length x15) [Col.int IntKind.i64 fun (j : Nat) => S.at' x15 j]))], [(0, (false, .cols ml [.int .u32 tl])), (1, (false, .cols mm [.int .u8 tm]))]], 7⟩ (proj 2 [5, 6, 7, 13, 15, 16, 17, 18, 19, 20, 22, 23, 24, 126, 127, 128, 133, 134, 135, 150, 151, 154, 155, 156, 157, 158] Kst Kret) =
  T8_3 test Kst Kret al nl ml tl am nm mm tm x0 x1 x2 x3 x4 x5 x6 x7 x8 x9 x10 x11 x12 x13 x14 x15 := by kernel_rfl
set_option maxRecDepth 100000 in
theorem be8 (al nl ml : Nat) (tl : Nat → Int) (am nm mm : Nat) (tm : Nat → Int) (Kst : KS) (Kret : KR) (x : St8 ⊕ Rt8) (hS : HS 2 400 ((I8 al nl ml tl am nm mm tm)) Kst x) (hR : HR 2 400 ((V8 al nl ml tl am nm mm tm)) (fun r => [newL (2 + 1) ((N8 al nl ml tl am nm mm tm) r) ++ [(0, (false, .cols ml [.int .u32 tl])), (1, (false, .cols mm [.int .u8 tm]))]]) Kret x) (h : (bif (decide ((↑nl : Int) > (30 : Int)))
 then (some (.inr (true)))
 else (bif (decide ((↑nm : Int) > (40 : Int)))
 then (some (.inr (true)))
 else (bif (decide (al + nl ≤ ml ∧ nl ≤ 1000000 ∧ (S.u32s nl fun (q : Nat) => tl (q + al)) = true))
 then (bif (decide
 (0 + List.length (S.mdL nl fun (q : Nat) => tl (q + al)) ≤
 List.length (S.mdL nl fun (q : Nat) => tl (q + al)) ∧
 List.length (S.mdL nl fun (q : Nat) => tl (q + al)) ≤ 1000000))
 then (bif (decide
 ((0 : Int) ≤ (↑(List.length (S.mdL nl fun (q : Nat) => tl (q + al))) : Int) ∧
 (↑(List.length (S.mdL nl fun (q : Nat) => tl (q + al))) : Int) ≤
 (↑(List.length (S.mdL nl fun (q : Nat) => tl (q + al))) : Int) ∧
 (↑(List.length (S.mdL nl fun (q : Nat) => tl (q + al))) : Int) ≤ (1000000 : Int)))
 then (bif (decide
 (0 + List.length (S.mdL nl fun (q : Nat) => tl (q + al)) ≤
 List.length (S.mdL nl fun (q : Nat) => tl (q + al)) ∧
 List.length (S.mdL nl fun (q : Nat) => tl (q + al)) ≤ 1000000 ∧
 0 +
 List.length
 (Prod.snd
 (Prod.snd
 (S.cmpS (List.length (S.mdL nl fun (q : Nat) => tl (q + al)))
 (fun (q : Nat) => (S.at' (S.mdL nl fun (q : Nat) => tl (q + al)) q).1)
 (fun (q : Nat) => (S.at' (S.mdL nl fun (q : Nat) => tl (q + al)) q).2.1)
 (fun (q : Nat) =>
 (S.at' (S.mdL nl fun (q : Nat) => tl (q + al)) q).2.2.1)
 (fun (q : Nat) =>
 (S.at' (S.mdL nl fun (q : Nat) => tl (q + al)) q).2.2.2)
 (1000000000 : Int)))) ≤
 List.length
 (Prod.snd
 (Prod.snd
 (S.cmpS (List.length (S.mdL nl fun (q : Nat) => tl (q + al)))
 (fun (q : Nat) => (S.at' (S.mdL nl fun (q : Nat) => tl (q + al)) q).1)
 (fun (q : Nat) => (S.at' (S.mdL nl fun (q : Nat) => tl (q + al)) q).2.1)
 (fun (q : Nat) =>
 (S.at' (S.mdL nl fun (q : Nat) => tl (q + al)) q).2.2.1)
 (fun (q : Nat) =>
 (S.at' (S.mdL nl fun (q : Nat) => tl (q + al)) q).2.2.2)
 (1000000000 : Int)))) ∧
 List.length
 (Prod.snd
 (Prod.snd
 (S.cmpS (List.length (S.mdL nl fun (q : Nat) => tl (q + al)))
 (fun (q : Nat) => (S.at' (S.mdL nl fun (q : Nat) => tl (q + al)) q).1)
 (fun (q : Nat) => (S.at' (S.mdL nl fun (q : Nat) => tl (q + al)) q).2.1)
 (fun (q : Nat) =>
 (S.at' (S.mdL nl fun (q : Nat) => tl (q + al)) q).2.2.1)
 (fun (q : Nat) =>
 (S.at' (S.mdL nl fun (q : Nat) => tl (q + al)) q).2.2.2)
 (1000000000 : Int)))) ≤
 1000000 ∧
 0 + List.length (S.mdL nl fun (q : Nat) => tl (q + al)) ≤
 List.length (S.mdL nl fun (q : Nat) => tl (q + al)) ∧
 List.length (S.mdL nl fun (q : Nat) => tl (q + al)) ≤ 1000000))
 then (bif (decide
 (0 + List.length (S.mdL nl fun (q : Nat) => tl (q + al)) ≤
 List.length (S.mdL nl fun (q : Nat) => tl (q + al)) ∧
 List.length (S.mdL nl fun (q : Nat) => tl (q + al)) ≤ 1000000 ∧
 (S.treE (List.length (S.mdL nl fun (q : Nat) => tl (q + al)))
 (fun (q : Nat) => (S.at' (S.mdL nl fun (q : Nat) => tl (q + al)) q).1)
 (fun (q : Nat) => (S.at' (S.mdL nl fun (q : Nat) => tl (q + al)) q).2.1)
 (fun (q : Nat) =>
 (S.at' (S.mdL nl fun (q : Nat) => tl (q + al)) q).2.2.1)
 fun (q : Nat) =>
 (S.at' (S.mdL nl fun (q : Nat) => tl (q + al)) q).2.2.2) =
 (0 : Int) ∧
 am + nm ≤ mm ∧ nm ≤ 1000000 ∧ (S.bytes nm fun (q : Nat) => tm (q + am)) = true))
 then (bif (decide
 (0 + List.length (S.mdL nl fun (q : Nat) => tl (q + al)) ≤
 List.length (S.mdL nl fun (q : Nat) => tl (q + al)) ∧
 List.length (S.mdL nl fun (q : Nat) => tl (q + al)) ≤ 1000000 ∧
 0 +
 List.length
 (Prod.snd
 (Prod.snd
 (S.cmpS (List.length (S.mdL nl fun (q : Nat) => tl (q + al)))
 (fun (q : Nat) => (S.at' (S.mdL nl fun (q : Nat) => tl (q + al)) q).1)
 (fun (q : Nat) => (S.at' (S.mdL nl fun (q : Nat) => tl (q + al)) q).2.1)
 (fun (q : Nat) =>
 (S.at' (S.mdL nl fun (q : Nat) => tl (q + al)) q).2.2.1)
 (fun (q : Nat) =>
 (S.at' (S.mdL nl fun (q : Nat) => tl (q + al)) q).2.2.2)
 (1000000000 : Int)))) ≤
 List.length
 (Prod.snd
 (Prod.snd
 (S.cmpS (List.length (S.mdL nl fun (q : Nat) => tl (q + al)))
 (fun (q : Nat) => (S.at' (S.mdL nl fun (q : Nat) => tl (q + al)) q).1)
 (fun (q : Nat) => (S.at' (S.mdL nl fun (q : Nat) => tl (q + al)) q).2.1)
 (fun (q : Nat) =>
 (S.at' (S.mdL nl fun (q : Nat) => tl (q + al)) q).2.2.1)
 (fun (q : Nat) =>
 (S.at' (S.mdL nl fun (q : Nat) => tl (q + al)) q).2.2.2)
 (1000000000 : Int)))) ∧
 List.length
 (Prod.snd
 (Prod.snd
 (S.cmpS (List.length (S.mdL nl fun (q : Nat) => tl (q + al)))
 (fun (q : Nat) => (S.at' (S.mdL nl fun (q : Nat) => tl (q + al)) q).1)
 (fun (q : Nat) => (S.at' (S.mdL nl fun (q : Nat) => tl (q + al)) q).2.1)
 (fun (q : Nat) =>
 (S.at' (S.mdL nl fun (q : Nat) => tl (q + al)) q).2.2.1)
 (fun (q : Nat) =>
 (S.at' (S.mdL nl fun (q : Nat) => tl (q + al)) q).2.2.2)
 (1000000000 : Int)))) ≤
 1000000 ∧
 0 +
 List.length
 (S.sprL (List.length (S.mdL nl fun (q : Nat) => tl (q + al)))
 (fun (q : Nat) =>
 (S.at' (S.mdL nl fun (q : Nat) => tl (q + al)) q).2.2.2)
 nm fun (q : Nat) => tm (q + am)) ≤
 List.length
 (S.sprL (List.length (S.mdL nl fun (q : Nat) => tl (q + al)))
 (fun (q : Nat) =>
 (S.at' (S.mdL nl fun (q : Nat) => tl (q + al)) q).2.2.2)
 nm fun (q : Nat) => tm (q + am)) ∧
 List.length
 (S.sprL (List.length (S.mdL nl fun (q : Nat) => tl (q + al)))
 (fun (q : Nat) =>
 (S.at' (S.mdL nl fun (q : Nat) => tl (q + al)) q).2.2.2)
 nm fun (q : Nat) => tm (q + am)) ≤
 1000000))
 then (bif (Prod.fst
 (Prod.snd
 (S.cmpS (List.length (S.mdL nl fun (q : Nat) => tl (q + al)))
 (fun (q : Nat) => (S.at' (S.mdL nl fun (q : Nat) => tl (q + al)) q).1)
 (fun (q : Nat) => (S.at' (S.mdL nl fun (q : Nat) => tl (q + al)) q).2.1)
 (fun (q : Nat) => (S.at' (S.mdL nl fun (q : Nat) => tl (q + al)) q).2.2.1)
 (fun (q : Nat) => (S.at' (S.mdL nl fun (q : Nat) => tl (q + al)) q).2.2.2)
 (1000000000 : Int))) !=
 (0 : Int))
 then (some (.inr (false)))
 else (bif (Prod.fst
 (S.actS (List.length (S.mdL nl fun (q : Nat) => tl (q + al)))
 (fun (q : Nat) => (S.at' (S.mdL nl fun (q : Nat) => tl (q + al)) q).1)
 (fun (q : Nat) => (S.at' (S.mdL nl fun (q : Nat) => tl (q + al)) q).2.1)
 (fun (q : Nat) => (S.at' (S.mdL nl fun (q : Nat) => tl (q + al)) q).2.2.1)
 (fun (q : Nat) => (S.at' (S.mdL nl fun (q : Nat) => tl (q + al)) q).2.2.2)
 (List.length
 (Prod.snd
 (Prod.snd
 (S.cmpS (List.length (S.mdL nl fun (q : Nat) => tl (q + al)))
 (fun (q : Nat) => (S.at' (S.mdL nl fun (q : Nat) => tl (q + al)) q).1)
 (fun (q : Nat) => (S.at' (S.mdL nl fun (q : Nat) => tl (q + al)) q).2.1)
 (fun (q : Nat) =>
 (S.at' (S.mdL nl fun (q : Nat) => tl (q + al)) q).2.2.1)
 (fun (q : Nat) =>
 (S.at' (S.mdL nl fun (q : Nat) => tl (q + al)) q).2.2.2)
 (1000000000 : Int)))))
 (fun (q : Nat) =>
 S.at'
 (Prod.snd
 (Prod.snd
 (S.cmpS (List.length (S.mdL nl fun (q : Nat) => tl (q + al)))
 (fun (q : Nat) => (S.at' (S.mdL nl fun (q : Nat) => tl (q + al)) q).1)
 (fun (q : Nat) => (S.at' (S.mdL nl fun (q : Nat) => tl (q + al)) q).2.1)
 (fun (q : Nat) =>
 (S.at' (S.mdL nl fun (q : Nat) => tl (q + al)) q).2.2.1)
 (fun (q : Nat) =>
 (S.at' (S.mdL nl fun (q : Nat) => tl (q + al)) q).2.2.2)
 (1000000000 : Int))))
 q)
 (1000 : Int) (List.length (S.mdL nl fun (q : Nat) => tl (q + al))) fun (q : Nat) => (0 : Int)) !=
 (0 : Int))
 then (some (.inr (false)))
 else (bif (Prod.fst
 (S.actS (List.length (S.mdL nl fun (q : Nat) => tl (q + al)))
 (fun (q : Nat) => (S.at' (S.mdL nl fun (q : Nat) => tl (q + al)) q).1)
 (fun (q : Nat) => (S.at' (S.mdL nl fun (q : Nat) => tl (q + al)) q).2.1)
 (fun (q : Nat) => (S.at' (S.mdL nl fun (q : Nat) => tl (q + al)) q).2.2.1)
 (fun (q : Nat) => (S.at' (S.mdL nl fun (q : Nat) => tl (q + al)) q).2.2.2)
 (List.length
 (Prod.snd
 (Prod.snd
 (S.cmpS (List.length (S.mdL nl fun (q : Nat) => tl (q + al)))
 (fun (q : Nat) => (S.at' (S.mdL nl fun (q : Nat) => tl (q + al)) q).1)
 (fun (q : Nat) => (S.at' (S.mdL nl fun (q : Nat) => tl (q + al)) q).2.1)
 (fun (q : Nat) =>
 (S.at' (S.mdL nl fun (q : Nat) => tl (q + al)) q).2.2.1)
 (fun (q : Nat) =>
 (S.at' (S.mdL nl fun (q : Nat) => tl (q + al)) q).2.2.2)
 (1000000000 : Int)))))
 (fun (q : Nat) =>
 S.at'
 (Prod.snd
 (Prod.snd
 (S.cmpS (List.length (S.mdL nl fun (q : Nat) => tl (q + al)))
 (fun (q : Nat) => (S.at' (S.mdL nl fun (q : Nat) => tl (q + al)) q).1)
 (fun (q : Nat) => (S.at' (S.mdL nl fun (q : Nat) => tl (q + al)) q).2.1)
 (fun (q : Nat) =>
 (S.at' (S.mdL nl fun (q : Nat) => tl (q + al)) q).2.2.1)
 (fun (q : Nat) =>
 (S.at' (S.mdL nl fun (q : Nat) => tl (q + al)) q).2.2.2)
 (1000000000 : Int))))
 q)
 (1000 : Int)
 (List.length
 (S.sprL (List.length (S.mdL nl fun (q : Nat) => tl (q + al)))
 (fun (q : Nat) =>
 (S.at' (S.mdL nl fun (q : Nat) => tl (q + al)) q).2.2.2)
 nm fun (q : Nat) => tm (q + am)))
 fun (q : Nat) =>
 S.at'
 (S.sprL (List.length (S.mdL nl fun (q : Nat) => tl (q + al)))
 (fun (q : Nat) =>
 (S.at' (S.mdL nl fun (q : Nat) => tl (q + al)) q).2.2.2)
 nm fun (q : Nat) => tm (q + am))
 q) !=
 (0 : Int))
 then (some (.inr (false)))
 else (bif (Prod.fst
 (S.leaS (List.length (S.mdL nl fun (q : Nat) => tl (q + al)))
 (fun (q : Nat) => (S.at' (S.mdL nl fun (q : Nat) => tl (q + al)) q).1)
 (fun (q : Nat) => (S.at' (S.mdL nl fun (q : Nat) => tl (q + al)) q).2.1)
 (fun (q : Nat) => (S.at' (S.mdL nl fun (q : Nat) => tl (q + al)) q).2.2.1)
 fun (q : Nat) => (S.at' (S.mdL nl fun (q : Nat) => tl (q + al)) q).2.2.2) !=
 (0 : Int))
 then (some (.inr (false)))
 else (bif ((↑(List.length
 (Prod.snd
 (S.actS (List.length (S.mdL nl fun (q : Nat) => tl (q + al)))
 (fun (q : Nat) => (S.at' (S.mdL nl fun (q : Nat) => tl (q + al)) q).1)
 (fun (q : Nat) => (S.at' (S.mdL nl fun (q : Nat) => tl (q + al)) q).2.1)
 (fun (q : Nat) =>
 (S.at' (S.mdL nl fun (q : Nat) => tl (q + al)) q).2.2.1)
 (fun (q : Nat) =>
 (S.at' (S.mdL nl fun (q : Nat) => tl (q + al)) q).2.2.2)
 (List.length
 (Prod.snd
 (Prod.snd
 (S.cmpS (List.length (S.mdL nl fun (q : Nat) => tl (q + al)))
 (fun (q : Nat) => (S.at' (S.mdL nl fun (q : Nat) => tl (q + al)) q).1)
 (fun (q : Nat) => (S.at' (S.mdL nl fun (q : Nat) => tl (q + al)) q).2.1)
 (fun (q : Nat) =>
 (S.at' (S.mdL nl fun (q : Nat) => tl (q + al)) q).2.2.1)
 (fun (q : Nat) =>
 (S.at' (S.mdL nl fun (q : Nat) => tl (q + al)) q).2.2.2)
 (1000000000 : Int)))))
 (fun (q : Nat) =>
 S.at'
 (Prod.snd
 (Prod.snd
 (S.cmpS (List.length (S.mdL nl fun (q : Nat) => tl (q + al)))
 (fun (q : Nat) => (S.at' (S.mdL nl fun (q : Nat) => tl (q + al)) q).1)
 (fun (q : Nat) =>
 (S.at' (S.mdL nl fun (q : Nat) => tl (q + al)) q).2.1)
 (fun (q : Nat) =>
 (S.at' (S.mdL nl fun (q : Nat) => tl (q + al)) q).2.2.1)
 (fun (q : Nat) =>
 (S.at' (S.mdL nl fun (q : Nat) => tl (q + al)) q).2.2.2)
 (1000000000 : Int))))
 q)
 (1000 : Int) (List.length (S.mdL nl fun (q : Nat) => tl (q + al))) fun (q : Nat) => (0 : Int)))) :
 Int) !=
 (↑(List.length
 (Prod.snd
 (S.leaS (List.length (S.mdL nl fun (q : Nat) => tl (q + al)))
 (fun (q : Nat) => (S.at' (S.mdL nl fun (q : Nat) => tl (q + al)) q).1)
 (fun (q : Nat) => (S.at' (S.mdL nl fun (q : Nat) => tl (q + al)) q).2.1)
 (fun (q : Nat) =>
 (S.at' (S.mdL nl fun (q : Nat) => tl (q + al)) q).2.2.1)
 fun (q : Nat) =>
 (S.at' (S.mdL nl fun (q : Nat) => tl (q + al)) q).2.2.2))) :
 Int))
 then (some (.inr (false)))
 else (bif ((↑(List.length
 (Prod.snd
 (S.actS (List.length (S.mdL nl fun (q : Nat) => tl (q + al)))
 (fun (q : Nat) => (S.at' (S.mdL nl fun (q : Nat) => tl (q + al)) q).1)
 (fun (q : Nat) => (S.at' (S.mdL nl fun (q : Nat) => tl (q + al)) q).2.1)
 (fun (q : Nat) =>
 (S.at' (S.mdL nl fun (q : Nat) => tl (q + al)) q).2.2.1)
 (fun (q : Nat) =>
 (S.at' (S.mdL nl fun (q : Nat) => tl (q + al)) q).2.2.2)
 (List.length
 (Prod.snd
 (Prod.snd
 (S.cmpS (List.length (S.mdL nl fun (q : Nat) => tl (q + al)))
 (fun (q : Nat) => (S.at' (S.mdL nl fun (q : Nat) => tl (q + al)) q).1)
 (fun (q : Nat) => (S.at' (S.mdL nl fun (q : Nat) => tl (q + al)) q).2.1)
 (fun (q : Nat) =>
 (S.at' (S.mdL nl fun (q : Nat) => tl (q + al)) q).2.2.1)
 (fun (q : Nat) =>
 (S.at' (S.mdL nl fun (q : Nat) => tl (q + al)) q).2.2.2)
 (1000000000 : Int)))))
 (fun (q : Nat) =>
 S.at'
 (Prod.snd
 (Prod.snd
 (S.cmpS (List.length (S.mdL nl fun (q : Nat) => tl (q + al)))
 (fun (q : Nat) => (S.at' (S.mdL nl fun (q : Nat) => tl (q + al)) q).1)
 (fun (q : Nat) =>
 (S.at' (S.mdL nl fun (q : Nat) => tl (q + al)) q).2.1)
 (fun (q : Nat) =>
 (S.at' (S.mdL nl fun (q : Nat) => tl (q + al)) q).2.2.1)
 (fun (q : Nat) =>
 (S.at' (S.mdL nl fun (q : Nat) => tl (q + al)) q).2.2.2)
 (1000000000 : Int))))
 q)
 (1000 : Int)
 (List.length
 (S.sprL (List.length (S.mdL nl fun (q : Nat) => tl (q + al)))
 (fun (q : Nat) =>
 (S.at' (S.mdL nl fun (q : Nat) => tl (q + al)) q).2.2.2)
 nm fun (q : Nat) => tm (q + am)))
 fun (q : Nat) =>
 S.at'
 (S.sprL (List.length (S.mdL nl fun (q : Nat) => tl (q + al)))
 (fun (q : Nat) =>
 (S.at' (S.mdL nl fun (q : Nat) => tl (q + al)) q).2.2.2)
 nm fun (q : Nat) => tm (q + am))
 q))) :
 Int) !=
 (↑(List.length
 (Prod.snd
 (S.leaS (List.length (S.mdL nl fun (q : Nat) => tl (q + al)))
 (fun (q : Nat) => (S.at' (S.mdL nl fun (q : Nat) => tl (q + al)) q).1)
 (fun (q : Nat) => (S.at' (S.mdL nl fun (q : Nat) => tl (q + al)) q).2.1)
 (fun (q : Nat) =>
 (S.at' (S.mdL nl fun (q : Nat) => tl (q + al)) q).2.2.1)
 fun (q : Nat) =>
 (S.at' (S.mdL nl fun (q : Nat) => tl (q + al)) q).2.2.2))) :
 Int))
 then (some (.inr (false)))
 else (bif ((↑(List.length
 (Prod.snd
 (S.leaS (List.length (S.mdL nl fun (q : Nat) => tl (q + al)))
 (fun (q : Nat) => (S.at' (S.mdL nl fun (q : Nat) => tl (q + al)) q).1)
 (fun (q : Nat) => (S.at' (S.mdL nl fun (q : Nat) => tl (q + al)) q).2.1)
 (fun (q : Nat) =>
 (S.at' (S.mdL nl fun (q : Nat) => tl (q + al)) q).2.2.1)
 fun (q : Nat) =>
 (S.at' (S.mdL nl fun (q : Nat) => tl (q + al)) q).2.2.2))) :
 Int) ==
 (0 : Int))
 then (some (.inr (false)))
 else (bif (decide
 (0 +
 List.length
 (Prod.snd
 (S.actS (List.length (S.mdL nl fun (q : Nat) => tl (q + al)))
 (fun (q : Nat) => (S.at' (S.mdL nl fun (q : Nat) => tl (q + al)) q).1)
 (fun (q : Nat) => (S.at' (S.mdL nl fun (q : Nat) => tl (q + al)) q).2.1)
 (fun (q : Nat) =>
 (S.at' (S.mdL nl fun (q : Nat) => tl (q + al)) q).2.2.1)
 (fun (q : Nat) =>
 (S.at' (S.mdL nl fun (q : Nat) => tl (q + al)) q).2.2.2)
 (List.length
 (Prod.snd
 (Prod.snd
 (S.cmpS (List.length (S.mdL nl fun (q : Nat) => tl (q + al)))
 (fun (q : Nat) => (S.at' (S.mdL nl fun (q : Nat) => tl (q + al)) q).1)
 (fun (q : Nat) =>
 (S.at' (S.mdL nl fun (q : Nat) => tl (q + al)) q).2.1)
 (fun (q : Nat) =>
 (S.at' (S.mdL nl fun (q : Nat) => tl (q + al)) q).2.2.1)
 (fun (q : Nat) =>
 (S.at' (S.mdL nl fun (q : Nat) => tl (q + al)) q).2.2.2)
 (1000000000 : Int)))))
 (fun (q : Nat) =>
 S.at'
 (Prod.snd
 (Prod.snd
 (S.cmpS (List.length (S.mdL nl fun (q : Nat) => tl (q + al)))
 (fun (q : Nat) => (S.at' (S.mdL nl fun (q : Nat) => tl (q + al)) q).1)
 (fun (q : Nat) =>
 (S.at' (S.mdL nl fun (q : Nat) => tl (q + al)) q).2.1)
 (fun (q : Nat) =>
 (S.at' (S.mdL nl fun (q : Nat) => tl (q + al)) q).2.2.1)
 (fun (q : Nat) =>
 (S.at' (S.mdL nl fun (q : Nat) => tl (q + al)) q).2.2.2)
 (1000000000 : Int))))
 q)
 (1000 : Int) (List.length (S.mdL nl fun (q : Nat) => tl (q + al))) fun (q : Nat) => (0 : Int))) ≤
 List.length
 (Prod.snd
 (S.actS (List.length (S.mdL nl fun (q : Nat) => tl (q + al)))
 (fun (q : Nat) => (S.at' (S.mdL nl fun (q : Nat) => tl (q + al)) q).1)
 (fun (q : Nat) => (S.at' (S.mdL nl fun (q : Nat) => tl (q + al)) q).2.1)
 (fun (q : Nat) =>
 (S.at' (S.mdL nl fun (q : Nat) => tl (q + al)) q).2.2.1)
 (fun (q : Nat) =>
 (S.at' (S.mdL nl fun (q : Nat) => tl (q + al)) q).2.2.2)
 (List.length
 (Prod.snd
 (Prod.snd
 (S.cmpS (List.length (S.mdL nl fun (q : Nat) => tl (q + al)))
 (fun (q : Nat) => (S.at' (S.mdL nl fun (q : Nat) => tl (q + al)) q).1)
 (fun (q : Nat) => (S.at' (S.mdL nl fun (q : Nat) => tl (q + al)) q).2.1)
 (fun (q : Nat) =>
 (S.at' (S.mdL nl fun (q : Nat) => tl (q + al)) q).2.2.1)
 (fun (q : Nat) =>
 (S.at' (S.mdL nl fun (q : Nat) => tl (q + al)) q).2.2.2)
 (1000000000 : Int)))))
 (fun (q : Nat) =>
 S.at'
 (Prod.snd
 (Prod.snd
 (S.cmpS (List.length (S.mdL nl fun (q : Nat) => tl (q + al)))
 (fun (q : Nat) => (S.at' (S.mdL nl fun (q : Nat) => tl (q + al)) q).1)
 (fun (q : Nat) =>
 (S.at' (S.mdL nl fun (q : Nat) => tl (q + al)) q).2.1)
 (fun (q : Nat) =>
 (S.at' (S.mdL nl fun (q : Nat) => tl (q + al)) q).2.2.1)
 (fun (q : Nat) =>
 (S.at' (S.mdL nl fun (q : Nat) => tl (q + al)) q).2.2.2)
 (1000000000 : Int))))
 q)
 (1000 : Int) (List.length (S.mdL nl fun (q : Nat) => tl (q + al))) fun (q : Nat) => (0 : Int))) ∧
 List.length
 (Prod.snd
 (S.actS (List.length (S.mdL nl fun (q : Nat) => tl (q + al)))
 (fun (q : Nat) => (S.at' (S.mdL nl fun (q : Nat) => tl (q + al)) q).1)
 (fun (q : Nat) => (S.at' (S.mdL nl fun (q : Nat) => tl (q + al)) q).2.1)
 (fun (q : Nat) =>
 (S.at' (S.mdL nl fun (q : Nat) => tl (q + al)) q).2.2.1)
 (fun (q : Nat) =>
 (S.at' (S.mdL nl fun (q : Nat) => tl (q + al)) q).2.2.2)
 (List.length
 (Prod.snd
 (Prod.snd
 (S.cmpS (List.length (S.mdL nl fun (q : Nat) => tl (q + al)))
 (fun (q : Nat) => (S.at' (S.mdL nl fun (q : Nat) => tl (q + al)) q).1)
 (fun (q : Nat) =>
 (S.at' (S.mdL nl fun (q : Nat) => tl (q + al)) q).2.1)
 (fun (q : Nat) =>
 (S.at' (S.mdL nl fun (q : Nat) => tl (q + al)) q).2.2.1)
 (fun (q : Nat) =>
 (S.at' (S.mdL nl fun (q : Nat) => tl (q + al)) q).2.2.2)
 (1000000000 : Int)))))
 (fun (q : Nat) =>
 S.at'
 (Prod.snd
 (Prod.snd
 (S.cmpS (List.length (S.mdL nl fun (q : Nat) => tl (q + al)))
 (fun (q : Nat) => (S.at' (S.mdL nl fun (q : Nat) => tl (q + al)) q).1)
 (fun (q : Nat) =>
 (S.at' (S.mdL nl fun (q : Nat) => tl (q + al)) q).2.1)
 (fun (q : Nat) =>
 (S.at' (S.mdL nl fun (q : Nat) => tl (q + al)) q).2.2.1)
 (fun (q : Nat) =>
 (S.at' (S.mdL nl fun (q : Nat) => tl (q + al)) q).2.2.2)
 (1000000000 : Int))))
 q)
 (1000 : Int) (List.length (S.mdL nl fun (q : Nat) => tl (q + al))) fun (q : Nat) => (0 : Int))) ≤
 1000000 ∧
 0 <
 List.length
 (Prod.snd
 (S.actS (List.length (S.mdL nl fun (q : Nat) => tl (q + al)))
 (fun (q : Nat) => (S.at' (S.mdL nl fun (q : Nat) => tl (q + al)) q).1)
 (fun (q : Nat) => (S.at' (S.mdL nl fun (q : Nat) => tl (q + al)) q).2.1)
 (fun (q : Nat) =>
 (S.at' (S.mdL nl fun (q : Nat) => tl (q + al)) q).2.2.1)
 (fun (q : Nat) =>
 (S.at' (S.mdL nl fun (q : Nat) => tl (q + al)) q).2.2.2)
 (List.length
 (Prod.snd
 (Prod.snd
 (S.cmpS (List.length (S.mdL nl fun (q : Nat) => tl (q + al)))
 (fun (q : Nat) => (S.at' (S.mdL nl fun (q : Nat) => tl (q + al)) q).1)
 (fun (q : Nat) =>
 (S.at' (S.mdL nl fun (q : Nat) => tl (q + al)) q).2.1)
 (fun (q : Nat) =>
 (S.at' (S.mdL nl fun (q : Nat) => tl (q + al)) q).2.2.1)
 (fun (q : Nat) =>
 (S.at' (S.mdL nl fun (q : Nat) => tl (q + al)) q).2.2.2)
 (1000000000 : Int)))))
 (fun (q : Nat) =>
 S.at'
 (Prod.snd
 (Prod.snd
 (S.cmpS (List.length (S.mdL nl fun (q : Nat) => tl (q + al)))
 (fun (q : Nat) => (S.at' (S.mdL nl fun (q : Nat) => tl (q + al)) q).1)
 (fun (q : Nat) =>
 (S.at' (S.mdL nl fun (q : Nat) => tl (q + al)) q).2.1)
 (fun (q : Nat) =>
 (S.at' (S.mdL nl fun (q : Nat) => tl (q + al)) q).2.2.1)
 (fun (q : Nat) =>
 (S.at' (S.mdL nl fun (q : Nat) => tl (q + al)) q).2.2.2)
 (1000000000 : Int))))
 q)
 (1000 : Int) (List.length (S.mdL nl fun (q : Nat) => tl (q + al))) fun (q : Nat) => (0 : Int)))))
 then (bif (S.minN
 (fun (j : Nat) =>
 S.at'
 (Prod.snd
 (S.actS (List.length (S.mdL nl fun (q : Nat) => tl (q + al)))
 (fun (q : Nat) => (S.at' (S.mdL nl fun (q : Nat) => tl (q + al)) q).1)
 (fun (q : Nat) => (S.at' (S.mdL nl fun (q : Nat) => tl (q + al)) q).2.1)
 (fun (q : Nat) =>
 (S.at' (S.mdL nl fun (q : Nat) => tl (q + al)) q).2.2.1)
 (fun (q : Nat) =>
 (S.at' (S.mdL nl fun (q : Nat) => tl (q + al)) q).2.2.2)
 (List.length
 (Prod.snd
 (Prod.snd
 (S.cmpS (List.length (S.mdL nl fun (q : Nat) => tl (q + al)))
 (fun (q : Nat) => (S.at' (S.mdL nl fun (q : Nat) => tl (q + al)) q).1)
 (fun (q : Nat) => (S.at' (S.mdL nl fun (q : Nat) => tl (q + al)) q).2.1)
 (fun (q : Nat) =>
 (S.at' (S.mdL nl fun (q : Nat) => tl (q + al)) q).2.2.1)
 (fun (q : Nat) =>
 (S.at' (S.mdL nl fun (q : Nat) => tl (q + al)) q).2.2.2)
 (1000000000 : Int)))))
 (fun (q : Nat) =>
 S.at'
 (Prod.snd
 (Prod.snd
 (S.cmpS (List.length (S.mdL nl fun (q : Nat) => tl (q + al)))
 (fun (q : Nat) => (S.at' (S.mdL nl fun (q : Nat) => tl (q + al)) q).1)
 (fun (q : Nat) =>
 (S.at' (S.mdL nl fun (q : Nat) => tl (q + al)) q).2.1)
 (fun (q : Nat) =>
 (S.at' (S.mdL nl fun (q : Nat) => tl (q + al)) q).2.2.1)
 (fun (q : Nat) =>
 (S.at' (S.mdL nl fun (q : Nat) => tl (q + al)) q).2.2.2)
 (1000000000 : Int))))
 q)
 (1000 : Int) (List.length (S.mdL nl fun (q : Nat) => tl (q + al))) fun (q : Nat) => (0 : Int)))
 j)
 (List.length
 (Prod.snd
 (S.actS (List.length (S.mdL nl fun (q : Nat) => tl (q + al)))
 (fun (q : Nat) => (S.at' (S.mdL nl fun (q : Nat) => tl (q + al)) q).1)
 (fun (q : Nat) => (S.at' (S.mdL nl fun (q : Nat) => tl (q + al)) q).2.1)
 (fun (q : Nat) =>
 (S.at' (S.mdL nl fun (q : Nat) => tl (q + al)) q).2.2.1)
 (fun (q : Nat) =>
 (S.at' (S.mdL nl fun (q : Nat) => tl (q + al)) q).2.2.2)
 (List.length
 (Prod.snd
 (Prod.snd
 (S.cmpS (List.length (S.mdL nl fun (q : Nat) => tl (q + al)))
 (fun (q : Nat) => (S.at' (S.mdL nl fun (q : Nat) => tl (q + al)) q).1)
 (fun (q : Nat) => (S.at' (S.mdL nl fun (q : Nat) => tl (q + al)) q).2.1)
 (fun (q : Nat) =>
 (S.at' (S.mdL nl fun (q : Nat) => tl (q + al)) q).2.2.1)
 (fun (q : Nat) =>
 (S.at' (S.mdL nl fun (q : Nat) => tl (q + al)) q).2.2.2)
 (1000000000 : Int)))))
 (fun (q : Nat) =>
 S.at'
 (Prod.snd
 (Prod.snd
 (S.cmpS (List.length (S.mdL nl fun (q : Nat) => tl (q + al)))
 (fun (q : Nat) => (S.at' (S.mdL nl fun (q : Nat) => tl (q + al)) q).1)
 (fun (q : Nat) =>
 (S.at' (S.mdL nl fun (q : Nat) => tl (q + al)) q).2.1)
 (fun (q : Nat) =>
 (S.at' (S.mdL nl fun (q : Nat) => tl (q + al)) q).2.2.1)
 (fun (q : Nat) =>
 (S.at' (S.mdL nl fun (q : Nat) => tl (q + al)) q).2.2.2)
 (1000000000 : Int))))
 q)
 (1000 : Int) (List.length (S.mdL nl fun (q : Nat) => tl (q + al))) fun (q : Nat) => (0 : Int))) -
 1) !=
 S.maxN
 (fun (j : Nat) =>
 S.at'
 (Prod.snd
 (S.actS (List.length (S.mdL nl fun (q : Nat) => tl (q + al)))
 (fun (q : Nat) => (S.at' (S.mdL nl fun (q : Nat) => tl (q + al)) q).1)
 (fun (q : Nat) => (S.at' (S.mdL nl fun (q : Nat) => tl (q + al)) q).2.1)
 (fun (q : Nat) =>
 (S.at' (S.mdL nl fun (q : Nat) => tl (q + al)) q).2.2.1)
 (fun (q : Nat) =>
 (S.at' (S.mdL nl fun (q : Nat) => tl (q + al)) q).2.2.2)
 (List.length
 (Prod.snd
 (Prod.snd
 (S.cmpS (List.length (S.mdL nl fun (q : Nat) => tl (q + al)))
 (fun (q : Nat) => (S.at' (S.mdL nl fun (q : Nat) => tl (q + al)) q).1)
 (fun (q : Nat) => (S.at' (S.mdL nl fun (q : Nat) => tl (q + al)) q).2.1)
 (fun (q : Nat) =>
 (S.at' (S.mdL nl fun (q : Nat) => tl (q + al)) q).2.2.1)
 (fun (q : Nat) =>
 (S.at' (S.mdL nl fun (q : Nat) => tl (q + al)) q).2.2.2)
 (1000000000 : Int)))))
 (fun (q : Nat) =>
 S.at'
 (Prod.snd
 (Prod.snd
 (S.cmpS (List.length (S.mdL nl fun (q : Nat) => tl (q + al)))
 (fun (q : Nat) => (S.at' (S.mdL nl fun (q : Nat) => tl (q + al)) q).1)
 (fun (q : Nat) =>
 (S.at' (S.mdL nl fun (q : Nat) => tl (q + al)) q).2.1)
 (fun (q : Nat) =>
 (S.at' (S.mdL nl fun (q : Nat) => tl (q + al)) q).2.2.1)
 (fun (q : Nat) =>
 (S.at' (S.mdL nl fun (q : Nat) => tl (q + al)) q).2.2.2)
 (1000000000 : Int))))
 q)
 (1000 : Int) (List.length (S.mdL nl fun (q : Nat) => tl (q + al))) fun (q : Nat) => (0 : Int)))
 j)
 (List.length
 (Prod.snd
 (S.actS (List.length (S.mdL nl fun (q : Nat) => tl (q + al)))
 (fun (q : Nat) => (S.at' (S.mdL nl fun (q : Nat) => tl (q + al)) q).1)
 (fun (q : Nat) => (S.at' (S.mdL nl fun (q : Nat) => tl (q + al)) q).2.1)
 (fun (q : Nat) =>
 (S.at' (S.mdL nl fun (q : Nat) => tl (q + al)) q).2.2.1)
 (fun (q : Nat) =>
 (S.at' (S.mdL nl fun (q : Nat) => tl (q + al)) q).2.2.2)
 (List.length
 (Prod.snd
 (Prod.snd
 (S.cmpS (List.length (S.mdL nl fun (q : Nat) => tl (q + al)))
 (fun (q : Nat) => (S.at' (S.mdL nl fun (q : Nat) => tl (q + al)) q).1)
 (fun (q : Nat) => (S.at' (S.mdL nl fun (q : Nat) => tl (q + al)) q).2.1)
 (fun (q : Nat) =>
 (S.at' (S.mdL nl fun (q : Nat) => tl (q + al)) q).2.2.1)
 (fun (q : Nat) =>
 (S.at' (S.mdL nl fun (q : Nat) => tl (q + al)) q).2.2.2)
 (1000000000 : Int)))))
 (fun (q : Nat) =>
 S.at'
 (Prod.snd
 (Prod.snd
 (S.cmpS (List.length (S.mdL nl fun (q : Nat) => tl (q + al)))
 (fun (q : Nat) => (S.at' (S.mdL nl fun (q : Nat) => tl (q + al)) q).1)
 (fun (q : Nat) =>
 (S.at' (S.mdL nl fun (q : Nat) => tl (q + al)) q).2.1)
 (fun (q : Nat) =>
 (S.at' (S.mdL nl fun (q : Nat) => tl (q + al)) q).2.2.1)
 (fun (q : Nat) =>
 (S.at' (S.mdL nl fun (q : Nat) => tl (q + al)) q).2.2.2)
 (1000000000 : Int))))
 q)
 (1000 : Int) (List.length (S.mdL nl fun (q : Nat) => tl (q + al))) fun (q : Nat) => (0 : Int))) -
 1))
 then (some (.inr (false)))
 else (bif (decide
 (0 +
 List.length
 (Prod.snd
 (S.actS (List.length (S.mdL nl fun (q : Nat) => tl (q + al)))
 (fun (q : Nat) => (S.at' (S.mdL nl fun (q : Nat) => tl (q + al)) q).1)
 (fun (q : Nat) => (S.at' (S.mdL nl fun (q : Nat) => tl (q + al)) q).2.1)
 (fun (q : Nat) =>
 (S.at' (S.mdL nl fun (q : Nat) => tl (q + al)) q).2.2.1)
 (fun (q : Nat) =>
 (S.at' (S.mdL nl fun (q : Nat) => tl (q + al)) q).2.2.2)
 (List.length
 (Prod.snd
 (Prod.snd
 (S.cmpS (List.length (S.mdL nl fun (q : Nat) => tl (q + al)))
 (fun (q : Nat) => (S.at' (S.mdL nl fun (q : Nat) => tl (q + al)) q).1)
 (fun (q : Nat) =>
 (S.at' (S.mdL nl fun (q : Nat) => tl (q + al)) q).2.1)
 (fun (q : Nat) =>
 (S.at' (S.mdL nl fun (q : Nat) => tl (q + al)) q).2.2.1)
 (fun (q : Nat) =>
 (S.at' (S.mdL nl fun (q : Nat) => tl (q + al)) q).2.2.2)
 (1000000000 : Int)))))
 (fun (q : Nat) =>
 S.at'
 (Prod.snd
 (Prod.snd
 (S.cmpS (List.length (S.mdL nl fun (q : Nat) => tl (q + al)))
 (fun (q : Nat) => (S.at' (S.mdL nl fun (q : Nat) => tl (q + al)) q).1)
 (fun (q : Nat) =>
 (S.at' (S.mdL nl fun (q : Nat) => tl (q + al)) q).2.1)
 (fun (q : Nat) =>
 (S.at' (S.mdL nl fun (q : Nat) => tl (q + al)) q).2.2.1)
 (fun (q : Nat) =>
 (S.at' (S.mdL nl fun (q : Nat) => tl (q + al)) q).2.2.2)
 (1000000000 : Int))))
 q)
 (1000 : Int)
 (List.length
 (S.sprL (List.length (S.mdL nl fun (q : Nat) => tl (q + al)))
 (fun (q : Nat) =>
 (S.at' (S.mdL nl fun (q : Nat) => tl (q + al)) q).2.2.2)
 nm fun (q : Nat) => tm (q + am)))
 fun (q : Nat) =>
 S.at'
 (S.sprL (List.length (S.mdL nl fun (q : Nat) => tl (q + al)))
 (fun (q : Nat) =>
 (S.at' (S.mdL nl fun (q : Nat) => tl (q + al)) q).2.2.2)
 nm fun (q : Nat) => tm (q + am))
 q)) ≤
 List.length
 (Prod.snd
 (S.actS (List.length (S.mdL nl fun (q : Nat) => tl (q + al)))
 (fun (q : Nat) => (S.at' (S.mdL nl fun (q : Nat) => tl (q + al)) q).1)
 (fun (q : Nat) => (S.at' (S.mdL nl fun (q : Nat) => tl (q + al)) q).2.1)
 (fun (q : Nat) =>
 (S.at' (S.mdL nl fun (q : Nat) => tl (q + al)) q).2.2.1)
 (fun (q : Nat) =>
 (S.at' (S.mdL nl fun (q : Nat) => tl (q + al)) q).2.2.2)
 (List.length
 (Prod.snd
 (Prod.snd
 (S.cmpS (List.length (S.mdL nl fun (q : Nat) => tl (q + al)))
 (fun (q : Nat) => (S.at' (S.mdL nl fun (q : Nat) => tl (q + al)) q).1)
 (fun (q : Nat) => (S.at' (S.mdL nl fun (q : Nat) => tl (q + al)) q).2.1)
 (fun (q : Nat) =>
 (S.at' (S.mdL nl fun (q : Nat) => tl (q + al)) q).2.2.1)
 (fun (q : Nat) =>
 (S.at' (S.mdL nl fun (q : Nat) => tl (q + al)) q).2.2.2)
 (1000000000 : Int)))))
 (fun (q : Nat) =>
 S.at'
 (Prod.snd
 (Prod.snd
 (S.cmpS (List.length (S.mdL nl fun (q : Nat) => tl (q + al)))
 (fun (q : Nat) => (S.at' (S.mdL nl fun (q : Nat) => tl (q + al)) q).1)
 (fun (q : Nat) =>
 (S.at' (S.mdL nl fun (q : Nat) => tl (q + al)) q).2.1)
 (fun (q : Nat) =>
 (S.at' (S.mdL nl fun (q : Nat) => tl (q + al)) q).2.2.1)
 (fun (q : Nat) =>
 (S.at' (S.mdL nl fun (q : Nat) => tl (q + al)) q).2.2.2)
 (1000000000 : Int))))
 q)
 (1000 : Int)
 (List.length
 (S.sprL (List.length (S.mdL nl fun (q : Nat) => tl (q + al)))
 (fun (q : Nat) =>
 (S.at' (S.mdL nl fun (q : Nat) => tl (q + al)) q).2.2.2)
 nm fun (q : Nat) => tm (q + am)))
 fun (q : Nat) =>
 S.at'
 (S.sprL (List.length (S.mdL nl fun (q : Nat) => tl (q + al)))
 (fun (q : Nat) =>
 (S.at' (S.mdL nl fun (q : Nat) => tl (q + al)) q).2.2.2)
 nm fun (q : Nat) => tm (q + am))
 q)) ∧
 List.length
 (Prod.snd
 (S.actS (List.length (S.mdL nl fun (q : Nat) => tl (q + al)))
 (fun (q : Nat) => (S.at' (S.mdL nl fun (q : Nat) => tl (q + al)) q).1)
 (fun (q : Nat) => (S.at' (S.mdL nl fun (q : Nat) => tl (q + al)) q).2.1)
 (fun (q : Nat) =>
 (S.at' (S.mdL nl fun (q : Nat) => tl (q + al)) q).2.2.1)
 (fun (q : Nat) =>
 (S.at' (S.mdL nl fun (q : Nat) => tl (q + al)) q).2.2.2)
 (List.length
 (Prod.snd
 (Prod.snd
 (S.cmpS (List.length (S.mdL nl fun (q : Nat) => tl (q + al)))
 (fun (q : Nat) => (S.at' (S.mdL nl fun (q : Nat) => tl (q + al)) q).1)
 (fun (q : Nat) =>
 (S.at' (S.mdL nl fun (q : Nat) => tl (q + al)) q).2.1)
 (fun (q : Nat) =>
 (S.at' (S.mdL nl fun (q : Nat) => tl (q + al)) q).2.2.1)
 (fun (q : Nat) =>
 (S.at' (S.mdL nl fun (q : Nat) => tl (q + al)) q).2.2.2)
 (1000000000 : Int)))))
 (fun (q : Nat) =>
 S.at'
 (Prod.snd
 (Prod.snd
 (S.cmpS (List.length (S.mdL nl fun (q : Nat) => tl (q + al)))
 (fun (q : Nat) => (S.at' (S.mdL nl fun (q : Nat) => tl (q + al)) q).1)
 (fun (q : Nat) =>
 (S.at' (S.mdL nl fun (q : Nat) => tl (q + al)) q).2.1)
 (fun (q : Nat) =>
 (S.at' (S.mdL nl fun (q : Nat) => tl (q + al)) q).2.2.1)
 (fun (q : Nat) =>
 (S.at' (S.mdL nl fun (q : Nat) => tl (q + al)) q).2.2.2)
 (1000000000 : Int))))
 q)
 (1000 : Int)
 (List.length
 (S.sprL (List.length (S.mdL nl fun (q : Nat) => tl (q + al)))
 (fun (q : Nat) =>
 (S.at' (S.mdL nl fun (q : Nat) => tl (q + al)) q).2.2.2)
 nm fun (q : Nat) => tm (q + am)))
 fun (q : Nat) =>
 S.at'
 (S.sprL (List.length (S.mdL nl fun (q : Nat) => tl (q + al)))
 (fun (q : Nat) =>
 (S.at' (S.mdL nl fun (q : Nat) => tl (q + al)) q).2.2.2)
 nm fun (q : Nat) => tm (q + am))
 q)) ≤
 1000000 ∧
 0 <
 List.length
 (Prod.snd
 (S.actS (List.length (S.mdL nl fun (q : Nat) => tl (q + al)))
 (fun (q : Nat) => (S.at' (S.mdL nl fun (q : Nat) => tl (q + al)) q).1)
 (fun (q : Nat) => (S.at' (S.mdL nl fun (q : Nat) => tl (q + al)) q).2.1)
 (fun (q : Nat) =>
 (S.at' (S.mdL nl fun (q : Nat) => tl (q + al)) q).2.2.1)
 (fun (q : Nat) =>
 (S.at' (S.mdL nl fun (q : Nat) => tl (q + al)) q).2.2.2)
 (List.length
 (Prod.snd
 (Prod.snd
 (S.cmpS (List.length (S.mdL nl fun (q : Nat) => tl (q + al)))
 (fun (q : Nat) => (S.at' (S.mdL nl fun (q : Nat) => tl (q + al)) q).1)
 (fun (q : Nat) =>
 (S.at' (S.mdL nl fun (q : Nat) => tl (q + al)) q).2.1)
 (fun (q : Nat) =>
 (S.at' (S.mdL nl fun (q : Nat) => tl (q + al)) q).2.2.1)
 (fun (q : Nat) =>
 (S.at' (S.mdL nl fun (q : Nat) => tl (q + al)) q).2.2.2)
 (1000000000 : Int)))))
 (fun (q : Nat) =>
 S.at'
 (Prod.snd
 (Prod.snd
 (S.cmpS (List.length (S.mdL nl fun (q : Nat) => tl (q + al)))
 (fun (q : Nat) => (S.at' (S.mdL nl fun (q : Nat) => tl (q + al)) q).1)
 (fun (q : Nat) =>
 (S.at' (S.mdL nl fun (q : Nat) => tl (q + al)) q).2.1)
 (fun (q : Nat) =>
 (S.at' (S.mdL nl fun (q : Nat) => tl (q + al)) q).2.2.1)
 (fun (q : Nat) =>
 (S.at' (S.mdL nl fun (q : Nat) => tl (q + al)) q).2.2.2)
 (1000000000 : Int))))
 q)
 (1000 : Int)
 (List.length
 (S.sprL (List.length (S.mdL nl fun (q : Nat) => tl (q + al)))
 (fun (q : Nat) =>
 (S.at' (S.mdL nl fun (q : Nat) => tl (q + al)) q).2.2.2)
 nm fun (q : Nat) => tm (q + am)))
 fun (q : Nat) =>
 S.at'
 (S.sprL (List.length (S.mdL nl fun (q : Nat) => tl (q + al)))
 (fun (q : Nat) =>
 (S.at' (S.mdL nl fun (q : Nat) => tl (q + al)) q).2.2.2)
 nm fun (q : Nat) => tm (q + am))
 q))))
 then (bif (lim IntKind.i64
 (S.maxN
 (fun (j : Nat) =>
 S.at'
 (Prod.snd
 (S.actS (List.length (S.mdL nl fun (q : Nat) => tl (q + al)))
 (fun (q : Nat) => (S.at' (S.mdL nl fun (q : Nat) => tl (q + al)) q).1)
 (fun (q : Nat) => (S.at' (S.mdL nl fun (q : Nat) => tl (q + al)) q).2.1)
 (fun (q : Nat) =>
 (S.at' (S.mdL nl fun (q : Nat) => tl (q + al)) q).2.2.1)
 (fun (q : Nat) =>
 (S.at' (S.mdL nl fun (q : Nat) => tl (q + al)) q).2.2.2)
 (List.length
 (Prod.snd
 (Prod.snd
 (S.cmpS (List.length (S.mdL nl fun (q : Nat) => tl (q + al)))
 (fun (q : Nat) => (S.at' (S.mdL nl fun (q : Nat) => tl (q + al)) q).1)
 (fun (q : Nat) =>
 (S.at' (S.mdL nl fun (q : Nat) => tl (q + al)) q).2.1)
 (fun (q : Nat) =>
 (S.at' (S.mdL nl fun (q : Nat) => tl (q + al)) q).2.2.1)
 (fun (q : Nat) =>
 (S.at' (S.mdL nl fun (q : Nat) => tl (q + al)) q).2.2.2)
 (1000000000 : Int)))))
 (fun (q : Nat) =>
 S.at'
 (Prod.snd
 (Prod.snd
 (S.cmpS (List.length (S.mdL nl fun (q : Nat) => tl (q + al)))
 (fun (q : Nat) => (S.at' (S.mdL nl fun (q : Nat) => tl (q + al)) q).1)
 (fun (q : Nat) =>
 (S.at' (S.mdL nl fun (q : Nat) => tl (q + al)) q).2.1)
 (fun (q : Nat) =>
 (S.at' (S.mdL nl fun (q : Nat) => tl (q + al)) q).2.2.1)
 (fun (q : Nat) =>
 (S.at' (S.mdL nl fun (q : Nat) => tl (q + al)) q).2.2.2)
 (1000000000 : Int))))
 q)
 (1000 : Int)
 (List.length
 (S.sprL (List.length (S.mdL nl fun (q : Nat) => tl (q + al)))
 (fun (q : Nat) =>
 (S.at' (S.mdL nl fun (q : Nat) => tl (q + al)) q).2.2.2)
 nm fun (q : Nat) => tm (q + am)))
 fun (q : Nat) =>
 S.at'
 (S.sprL (List.length (S.mdL nl fun (q : Nat) => tl (q + al)))
 (fun (q : Nat) =>
 (S.at' (S.mdL nl fun (q : Nat) => tl (q + al)) q).2.2.2)
 nm fun (q : Nat) => tm (q + am))
 q))
 j)
 (List.length
 (Prod.snd
 (S.actS (List.length (S.mdL nl fun (q : Nat) => tl (q + al)))
 (fun (q : Nat) => (S.at' (S.mdL nl fun (q : Nat) => tl (q + al)) q).1)
 (fun (q : Nat) => (S.at' (S.mdL nl fun (q : Nat) => tl (q + al)) q).2.1)
 (fun (q : Nat) =>
 (S.at' (S.mdL nl fun (q : Nat) => tl (q + al)) q).2.2.1)
 (fun (q : Nat) =>
 (S.at' (S.mdL nl fun (q : Nat) => tl (q + al)) q).2.2.2)
 (List.length
 (Prod.snd
 (Prod.snd
 (S.cmpS (List.length (S.mdL nl fun (q : Nat) => tl (q + al)))
 (fun (q : Nat) => (S.at' (S.mdL nl fun (q : Nat) => tl (q + al)) q).1)
 (fun (q : Nat) =>
 (S.at' (S.mdL nl fun (q : Nat) => tl (q + al)) q).2.1)
 (fun (q : Nat) =>
 (S.at' (S.mdL nl fun (q : Nat) => tl (q + al)) q).2.2.1)
 (fun (q : Nat) =>
 (S.at' (S.mdL nl fun (q : Nat) => tl (q + al)) q).2.2.2)
 (1000000000 : Int)))))
 (fun (q : Nat) =>
 S.at'
 (Prod.snd
 (Prod.snd
 (S.cmpS (List.length (S.mdL nl fun (q : Nat) => tl (q + al)))
 (fun (q : Nat) => (S.at' (S.mdL nl fun (q : Nat) => tl (q + al)) q).1)
 (fun (q : Nat) =>
 (S.at' (S.mdL nl fun (q : Nat) => tl (q + al)) q).2.1)
 (fun (q : Nat) =>
 (S.at' (S.mdL nl fun (q : Nat) => tl (q + al)) q).2.2.1)
 (fun (q : Nat) =>
 (S.at' (S.mdL nl fun (q : Nat) => tl (q + al)) q).2.2.2)
 (1000000000 : Int))))
 q)
 (1000 : Int)
 (List.length
 (S.sprL (List.length (S.mdL nl fun (q : Nat) => tl (q + al)))
 (fun (q : Nat) =>
 (S.at' (S.mdL nl fun (q : Nat) => tl (q + al)) q).2.2.2)
 nm fun (q : Nat) => tm (q + am)))
 fun (q : Nat) =>
 S.at'
 (S.sprL (List.length (S.mdL nl fun (q : Nat) => tl (q + al)))
 (fun (q : Nat) =>
 (S.at' (S.mdL nl fun (q : Nat) => tl (q + al)) q).2.2.2)
 nm fun (q : Nat) => tm (q + am))
 q)) -
 1) -
 S.minN
 (fun (j : Nat) =>
 S.at'
 (Prod.snd
 (S.actS (List.length (S.mdL nl fun (q : Nat) => tl (q + al)))
 (fun (q : Nat) => (S.at' (S.mdL nl fun (q : Nat) => tl (q + al)) q).1)
 (fun (q : Nat) => (S.at' (S.mdL nl fun (q : Nat) => tl (q + al)) q).2.1)
 (fun (q : Nat) =>
 (S.at' (S.mdL nl fun (q : Nat) => tl (q + al)) q).2.2.1)
 (fun (q : Nat) =>
 (S.at' (S.mdL nl fun (q : Nat) => tl (q + al)) q).2.2.2)
 (List.length
 (Prod.snd
 (Prod.snd
 (S.cmpS (List.length (S.mdL nl fun (q : Nat) => tl (q + al)))
 (fun (q : Nat) => (S.at' (S.mdL nl fun (q : Nat) => tl (q + al)) q).1)
 (fun (q : Nat) =>
 (S.at' (S.mdL nl fun (q : Nat) => tl (q + al)) q).2.1)
 (fun (q : Nat) =>
 (S.at' (S.mdL nl fun (q : Nat) => tl (q + al)) q).2.2.1)
 (fun (q : Nat) =>
 (S.at' (S.mdL nl fun (q : Nat) => tl (q + al)) q).2.2.2)
 (1000000000 : Int)))))
 (fun (q : Nat) =>
 S.at'
 (Prod.snd
 (Prod.snd
 (S.cmpS (List.length (S.mdL nl fun (q : Nat) => tl (q + al)))
 (fun (q : Nat) => (S.at' (S.mdL nl fun (q : Nat) => tl (q + al)) q).1)
 (fun (q : Nat) =>
 (S.at' (S.mdL nl fun (q : Nat) => tl (q + al)) q).2.1)
 (fun (q : Nat) =>
 (S.at' (S.mdL nl fun (q : Nat) => tl (q + al)) q).2.2.1)
 (fun (q : Nat) =>
 (S.at' (S.mdL nl fun (q : Nat) => tl (q + al)) q).2.2.2)
 (1000000000 : Int))))
 q)
 (1000 : Int)
 (List.length
 (S.sprL (List.length (S.mdL nl fun (q : Nat) => tl (q + al)))
 (fun (q : Nat) =>
 (S.at' (S.mdL nl fun (q : Nat) => tl (q + al)) q).2.2.2)
 nm fun (q : Nat) => tm (q + am)))
 fun (q : Nat) =>
 S.at'
 (S.sprL (List.length (S.mdL nl fun (q : Nat) => tl (q + al)))
 (fun (q : Nat) =>
 (S.at' (S.mdL nl fun (q : Nat) => tl (q + al)) q).2.2.2)
 nm fun (q : Nat) => tm (q + am))
 q))
 j)
 (List.length
 (Prod.snd
 (S.actS (List.length (S.mdL nl fun (q : Nat) => tl (q + al)))
 (fun (q : Nat) => (S.at' (S.mdL nl fun (q : Nat) => tl (q + al)) q).1)
 (fun (q : Nat) => (S.at' (S.mdL nl fun (q : Nat) => tl (q + al)) q).2.1)
 (fun (q : Nat) =>
 (S.at' (S.mdL nl fun (q : Nat) => tl (q + al)) q).2.2.1)
 (fun (q : Nat) =>
 (S.at' (S.mdL nl fun (q : Nat) => tl (q + al)) q).2.2.2)
 (List.length
 (Prod.snd
 (Prod.snd
 (S.cmpS (List.length (S.mdL nl fun (q : Nat) => tl (q + al)))
 (fun (q : Nat) => (S.at' (S.mdL nl fun (q : Nat) => tl (q + al)) q).1)
 (fun (q : Nat) =>
 (S.at' (S.mdL nl fun (q : Nat) => tl (q + al)) q).2.1)
 (fun (q : Nat) =>
 (S.at' (S.mdL nl fun (q : Nat) => tl (q + al)) q).2.2.1)
 (fun (q : Nat) =>
 (S.at' (S.mdL nl fun (q : Nat) => tl (q + al)) q).2.2.2)
 (1000000000 : Int)))))
 (fun (q : Nat) =>
 S.at'
 (Prod.snd
 (Prod.snd
 (S.cmpS (List.length (S.mdL nl fun (q : Nat) => tl (q + al)))
 (fun (q : Nat) => (S.at' (S.mdL nl fun (q : Nat) => tl (q + al)) q).1)
 (fun (q : Nat) =>
 (S.at' (S.mdL nl fun (q : Nat) => tl (q + al)) q).2.1)
 (fun (q : Nat) =>
 (S.at' (S.mdL nl fun (q : Nat) => tl (q + al)) q).2.2.1)
 (fun (q : Nat) =>
 (S.at' (S.mdL nl fun (q : Nat) => tl (q + al)) q).2.2.2)
 (1000000000 : Int))))
 q)
 (1000 : Int)
 (List.length
 (S.sprL (List.length (S.mdL nl fun (q : Nat) => tl (q + al)))
 (fun (q : Nat) =>
 (S.at' (S.mdL nl fun (q : Nat) => tl (q + al)) q).2.2.2)
 nm fun (q : Nat) => tm (q + am)))
 fun (q : Nat) =>
 S.at'
 (S.sprL (List.length (S.mdL nl fun (q : Nat) => tl (q + al)))
 (fun (q : Nat) =>
 (S.at' (S.mdL nl fun (q : Nat) => tl (q + al)) q).2.2.2)
 nm fun (q : Nat) => tm (q + am))
 q)) -
 1)))
 then (bif (decide
 (S.maxN
 (fun (j : Nat) =>
 S.at'
 (Prod.snd
 (S.actS (List.length (S.mdL nl fun (q : Nat) => tl (q + al)))
 (fun (q : Nat) => (S.at' (S.mdL nl fun (q : Nat) => tl (q + al)) q).1)
 (fun (q : Nat) => (S.at' (S.mdL nl fun (q : Nat) => tl (q + al)) q).2.1)
 (fun (q : Nat) =>
 (S.at' (S.mdL nl fun (q : Nat) => tl (q + al)) q).2.2.1)
 (fun (q : Nat) =>
 (S.at' (S.mdL nl fun (q : Nat) => tl (q + al)) q).2.2.2)
 (List.length
 (Prod.snd
 (Prod.snd
 (S.cmpS (List.length (S.mdL nl fun (q : Nat) => tl (q + al)))
 (fun (q : Nat) => (S.at' (S.mdL nl fun (q : Nat) => tl (q + al)) q).1)
 (fun (q : Nat) =>
 (S.at' (S.mdL nl fun (q : Nat) => tl (q + al)) q).2.1)
 (fun (q : Nat) =>
 (S.at' (S.mdL nl fun (q : Nat) => tl (q + al)) q).2.2.1)
 (fun (q : Nat) =>
 (S.at' (S.mdL nl fun (q : Nat) => tl (q + al)) q).2.2.2)
 (1000000000 : Int)))))
 (fun (q : Nat) =>
 S.at'
 (Prod.snd
 (Prod.snd
 (S.cmpS (List.length (S.mdL nl fun (q : Nat) => tl (q + al)))
 (fun (q : Nat) => (S.at' (S.mdL nl fun (q : Nat) => tl (q + al)) q).1)
 (fun (q : Nat) =>
 (S.at' (S.mdL nl fun (q : Nat) => tl (q + al)) q).2.1)
 (fun (q : Nat) =>
 Prod.fst
 ((S.at' (S.mdL nl fun (q : Nat) => tl (q + al)) q).2.2))
 (fun (q : Nat) =>
 Prod.snd
 ((S.at' (S.mdL nl fun (q : Nat) => tl (q + al)) q).2.2))
 (1000000000 : Int))))
 q)
 (1000 : Int)
 (List.length
 (S.sprL (List.length (S.mdL nl fun (q : Nat) => tl (q + al)))
 (fun (q : Nat) =>
 (S.at' (S.mdL nl fun (q : Nat) => tl (q + al)) q).2.2.2)
 nm fun (q : Nat) => tm (q + am)))
 fun (q : Nat) =>
 S.at'
 (S.sprL (List.length (S.mdL nl fun (q : Nat) => tl (q + al)))
 (fun (q : Nat) =>
 (S.at' (S.mdL nl fun (q : Nat) => tl (q + al)) q).2.2.2)
 nm fun (q : Nat) => tm (q + am))
 q))
 j)
 (List.length
 (Prod.snd
 (S.actS (List.length (S.mdL nl fun (q : Nat) => tl (q + al)))
 (fun (q : Nat) => (S.at' (S.mdL nl fun (q : Nat) => tl (q + al)) q).1)
 (fun (q : Nat) => (S.at' (S.mdL nl fun (q : Nat) => tl (q + al)) q).2.1)
 (fun (q : Nat) =>
 (S.at' (S.mdL nl fun (q : Nat) => tl (q + al)) q).2.2.1)
 (fun (q : Nat) =>
 (S.at' (S.mdL nl fun (q : Nat) => tl (q + al)) q).2.2.2)
 (List.length
 (Prod.snd
 (Prod.snd
 (S.cmpS (List.length (S.mdL nl fun (q : Nat) => tl (q + al)))
 (fun (q : Nat) => (S.at' (S.mdL nl fun (q : Nat) => tl (q + al)) q).1)
 (fun (q : Nat) =>
 (S.at' (S.mdL nl fun (q : Nat) => tl (q + al)) q).2.1)
 (fun (q : Nat) =>
 (S.at' (S.mdL nl fun (q : Nat) => tl (q + al)) q).2.2.1)
 (fun (q : Nat) =>
 (S.at' (S.mdL nl fun (q : Nat) => tl (q + al)) q).2.2.2)
 (1000000000 : Int)))))
 (fun (q : Nat) =>
 S.at'
 (Prod.snd
 (Prod.snd
 (S.cmpS (List.length (S.mdL nl fun (q : Nat) => tl (q + al)))
 (fun (q : Nat) => (S.at' (S.mdL nl fun (q : Nat) => tl (q + al)) q).1)
 (fun (q : Nat) =>
 (S.at' (S.mdL nl fun (q : Nat) => tl (q + al)) q).2.1)
 (fun (q : Nat) =>
 Prod.fst
 ((S.at' (S.mdL nl fun (q : Nat) => tl (q + al)) q).2.2))
 (fun (q : Nat) =>
 Prod.snd
 ((S.at' (S.mdL nl fun (q : Nat) => tl (q + al)) q).2.2))
 (1000000000 : Int))))
 q)
 (1000 : Int)
 (List.length
 (S.sprL (List.length (S.mdL nl fun (q : Nat) => tl (q + al)))
 (fun (q : Nat) =>
 (S.at' (S.mdL nl fun (q : Nat) => tl (q + al)) q).2.2.2)
 nm fun (q : Nat) => tm (q + am)))
 fun (q : Nat) =>
 S.at'
 (S.sprL (List.length (S.mdL nl fun (q : Nat) => tl (q + al)))
 (fun (q : Nat) =>
 (S.at' (S.mdL nl fun (q : Nat) => tl (q + al)) q).2.2.2)
 nm fun (q : Nat) => tm (q + am))
 q)) -
 1) -
 S.minN
 (fun (j : Nat) =>
 S.at'
 (Prod.snd
 (S.actS (List.length (S.mdL nl fun (q : Nat) => tl (q + al)))
 (fun (q : Nat) => (S.at' (S.mdL nl fun (q : Nat) => tl (q + al)) q).1)
 (fun (q : Nat) => (S.at' (S.mdL nl fun (q : Nat) => tl (q + al)) q).2.1)
 (fun (q : Nat) =>
 (S.at' (S.mdL nl fun (q : Nat) => tl (q + al)) q).2.2.1)
 (fun (q : Nat) =>
 (S.at' (S.mdL nl fun (q : Nat) => tl (q + al)) q).2.2.2)
 (List.length
 (Prod.snd
 (Prod.snd
 (S.cmpS (List.length (S.mdL nl fun (q : Nat) => tl (q + al)))
 (fun (q : Nat) => (S.at' (S.mdL nl fun (q : Nat) => tl (q + al)) q).1)
 (fun (q : Nat) =>
 (S.at' (S.mdL nl fun (q : Nat) => tl (q + al)) q).2.1)
 (fun (q : Nat) =>
 (S.at' (S.mdL nl fun (q : Nat) => tl (q + al)) q).2.2.1)
 (fun (q : Nat) =>
 (S.at' (S.mdL nl fun (q : Nat) => tl (q + al)) q).2.2.2)
 (1000000000 : Int)))))
 (fun (q : Nat) =>
 S.at'
 (Prod.snd
 (Prod.snd
 (S.cmpS (List.length (S.mdL nl fun (q : Nat) => tl (q + al)))
 (fun (q : Nat) => (S.at' (S.mdL nl fun (q : Nat) => tl (q + al)) q).1)
 (fun (q : Nat) =>
 (S.at' (S.mdL nl fun (q : Nat) => tl (q + al)) q).2.1)
 (fun (q : Nat) =>
 Prod.fst
 ((S.at' (S.mdL nl fun (q : Nat) => tl (q + al)) q).2.2))
 (fun (q : Nat) =>
 Prod.snd
 ((S.at' (S.mdL nl fun (q : Nat) => tl (q + al)) q).2.2))
 (1000000000 : Int))))
 q)
 (1000 : Int)
 (List.length
 (S.sprL (List.length (S.mdL nl fun (q : Nat) => tl (q + al)))
 (fun (q : Nat) =>
 (S.at' (S.mdL nl fun (q : Nat) => tl (q + al)) q).2.2.2)
 nm fun (q : Nat) => tm (q + am)))
 fun (q : Nat) =>
 S.at'
 (S.sprL (List.length (S.mdL nl fun (q : Nat) => tl (q + al)))
 (fun (q : Nat) =>
 (S.at' (S.mdL nl fun (q : Nat) => tl (q + al)) q).2.2.2)
 nm fun (q : Nat) => tm (q + am))
 q))
 j)
 (List.length
 (Prod.snd
 (S.actS (List.length (S.mdL nl fun (q : Nat) => tl (q + al)))
 (fun (q : Nat) => (S.at' (S.mdL nl fun (q : Nat) => tl (q + al)) q).1)
 (fun (q : Nat) => (S.at' (S.mdL nl fun (q : Nat) => tl (q + al)) q).2.1)
 (fun (q : Nat) =>
 (S.at' (S.mdL nl fun (q : Nat) => tl (q + al)) q).2.2.1)
 (fun (q : Nat) =>
 (S.at' (S.mdL nl fun (q : Nat) => tl (q + al)) q).2.2.2)
 (List.length
 (Prod.snd
 (Prod.snd
 (S.cmpS (List.length (S.mdL nl fun (q : Nat) => tl (q + al)))
 (fun (q : Nat) => (S.at' (S.mdL nl fun (q : Nat) => tl (q + al)) q).1)
 (fun (q : Nat) =>
 (S.at' (S.mdL nl fun (q : Nat) => tl (q + al)) q).2.1)
 (fun (q : Nat) =>
 (S.at' (S.mdL nl fun (q : Nat) => tl (q + al)) q).2.2.1)
 (fun (q : Nat) =>
 (S.at' (S.mdL nl fun (q : Nat) => tl (q + al)) q).2.2.2)
 (1000000000 : Int)))))
 (fun (q : Nat) =>
 S.at'
 (Prod.snd
 (Prod.snd
 (S.cmpS (List.length (S.mdL nl fun (q : Nat) => tl (q + al)))
 (fun (q : Nat) => (S.at' (S.mdL nl fun (q : Nat) => tl (q + al)) q).1)
 (fun (q : Nat) =>
 (S.at' (S.mdL nl fun (q : Nat) => tl (q + al)) q).2.1)
 (fun (q : Nat) =>
 Prod.fst
 ((S.at' (S.mdL nl fun (q : Nat) => tl (q + al)) q).2.2))
 (fun (q : Nat) =>
 Prod.snd
 ((S.at' (S.mdL nl fun (q : Nat) => tl (q + al)) q).2.2))
 (1000000000 : Int))))
 q)
 (1000 : Int)
 (List.length
 (S.sprL (List.length (S.mdL nl fun (q : Nat) => tl (q + al)))
 (fun (q : Nat) =>
 (S.at' (S.mdL nl fun (q : Nat) => tl (q + al)) q).2.2.2)
 nm fun (q : Nat) => tm (q + am)))
 fun (q : Nat) =>
 S.at'
 (S.sprL (List.length (S.mdL nl fun (q : Nat) => tl (q + al)))
 (fun (q : Nat) =>
 (S.at' (S.mdL nl fun (q : Nat) => tl (q + al)) q).2.2.2)
 nm fun (q : Nat) => tm (q + am))
 q)) -
 1) >
 Prod.fst
 (S.cmpS (List.length (S.mdL nl fun (q : Nat) => tl (q + al)))
 (fun (q : Nat) => (S.at' (S.mdL nl fun (q : Nat) => tl (q + al)) q).1)
 (fun (q : Nat) => (S.at' (S.mdL nl fun (q : Nat) => tl (q + al)) q).2.1)
 (fun (q : Nat) => (S.at' (S.mdL nl fun (q : Nat) => tl (q + al)) q).2.2.1)
 (fun (q : Nat) => (S.at' (S.mdL nl fun (q : Nat) => tl (q + al)) q).2.2.2)
 (1000000000 : Int))))
 then (some (.inr (false)))
 else (bif ((↑(List.length
 (Prod.snd
 (S.leaS (List.length (S.mdL nl fun (q : Nat) => tl (q + al)))
 (fun (q : Nat) => (S.at' (S.mdL nl fun (q : Nat) => tl (q + al)) q).1)
 (fun (q : Nat) => (S.at' (S.mdL nl fun (q : Nat) => tl (q + al)) q).2.1)
 (fun (q : Nat) =>
 (S.at' (S.mdL nl fun (q : Nat) => tl (q + al)) q).2.2.1)
 fun (q : Nat) =>
 (S.at' (S.mdL nl fun (q : Nat) => tl (q + al)) q).2.2.2))) :
 Int) ==
 (1 : Int))
 then (bif (Prod.fst
 (S.cmpS (List.length (S.mdL nl fun (q : Nat) => tl (q + al)))
 (fun (q : Nat) => (S.at' (S.mdL nl fun (q : Nat) => tl (q + al)) q).1)
 (fun (q : Nat) => (S.at' (S.mdL nl fun (q : Nat) => tl (q + al)) q).2.1)
 (fun (q : Nat) => (S.at' (S.mdL nl fun (q : Nat) => tl (q + al)) q).2.2.1)
 (fun (q : Nat) => (S.at' (S.mdL nl fun (q : Nat) => tl (q + al)) q).2.2.2)
 (1000000000 : Int)) ==
 (0 : Int))
 then (some (.inl (.h0 (true) ((0 : Int)) (S.mdL nl fun (q : Nat) => tl (q + al)) (Prod.snd
 (Prod.snd
 (S.cmpS (List.length (S.mdL nl fun (q : Nat) => tl (q + al)))
 (fun (q : Nat) => (S.at' (S.mdL nl fun (q : Nat) => tl (q + al)) q).1)
 (fun (q : Nat) => (S.at' (S.mdL nl fun (q : Nat) => tl (q + al)) q).2.1)
 (fun (q : Nat) => (S.at' (S.mdL nl fun (q : Nat) => tl (q + al)) q).2.2.1)
 (fun (q : Nat) => (S.at' (S.mdL nl fun (q : Nat) => tl (q + al)) q).2.2.2)
 (1000000000 : Int)))) (Prod.snd
 (S.leaS (List.length (S.mdL nl fun (q : Nat) => tl (q + al)))
 (fun (q : Nat) => (S.at' (S.mdL nl fun (q : Nat) => tl (q + al)) q).1)
 (fun (q : Nat) => (S.at' (S.mdL nl fun (q : Nat) => tl (q + al)) q).2.1)
 (fun (q : Nat) => (S.at' (S.mdL nl fun (q : Nat) => tl (q + al)) q).2.2.1)
 fun (q : Nat) => (S.at' (S.mdL nl fun (q : Nat) => tl (q + al)) q).2.2.2)))))
 else (some (.inl (.h0 (false) ((0 : Int)) (S.mdL nl fun (q : Nat) => tl (q + al)) (Prod.snd
 (Prod.snd
 (S.cmpS (List.length (S.mdL nl fun (q : Nat) => tl (q + al)))
 (fun (q : Nat) => (S.at' (S.mdL nl fun (q : Nat) => tl (q + al)) q).1)
 (fun (q : Nat) => (S.at' (S.mdL nl fun (q : Nat) => tl (q + al)) q).2.1)
 (fun (q : Nat) => (S.at' (S.mdL nl fun (q : Nat) => tl (q + al)) q).2.2.1)
 (fun (q : Nat) => (S.at' (S.mdL nl fun (q : Nat) => tl (q + al)) q).2.2.2)
 (1000000000 : Int)))) (Prod.snd
 (S.leaS (List.length (S.mdL nl fun (q : Nat) => tl (q + al)))
 (fun (q : Nat) => (S.at' (S.mdL nl fun (q : Nat) => tl (q + al)) q).1)
 (fun (q : Nat) => (S.at' (S.mdL nl fun (q : Nat) => tl (q + al)) q).2.1)
 (fun (q : Nat) => (S.at' (S.mdL nl fun (q : Nat) => tl (q + al)) q).2.2.1)
 fun (q : Nat) => (S.at' (S.mdL nl fun (q : Nat) => tl (q + al)) q).2.2.2))))))
 else (some (.inl (.h0 (false) ((0 : Int)) (S.mdL nl fun (q : Nat) => tl (q + al)) (Prod.snd
 (Prod.snd
 (S.cmpS (List.length (S.mdL nl fun (q : Nat) => tl (q + al)))
 (fun (q : Nat) => (S.at' (S.mdL nl fun (q : Nat) => tl (q + al)) q).1)
 (fun (q : Nat) => (S.at' (S.mdL nl fun (q : Nat) => tl (q + al)) q).2.1)
 (fun (q : Nat) => (S.at' (S.mdL nl fun (q : Nat) => tl (q + al)) q).2.2.1)
 (fun (q : Nat) => (S.at' (S.mdL nl fun (q : Nat) => tl (q + al)) q).2.2.2)
 (1000000000 : Int)))) (Prod.snd
 (S.leaS (List.length (S.mdL nl fun (q : Nat) => tl (q + al)))
 (fun (q : Nat) => (S.at' (S.mdL nl fun (q : Nat) => tl (q + al)) q).1)
 (fun (q : Nat) => (S.at' (S.mdL nl fun (q : Nat) => tl (q + al)) q).2.1)
 (fun (q : Nat) => (S.at' (S.mdL nl fun (q : Nat) => tl (q + al)) q).2.2.1)
 fun (q : Nat) => (S.at' (S.mdL nl fun (q : Nat) => tl (q + al)) q).2.2.2)))))))
 else (none))
 else (none)))
 else (none)))))))))
 else (none))
 else (none))
 else (none))
 else (none))
 else (none))
 else (none))) : Option (St8 ⊕ Rt8)) = some x) : Te8 cond Kst Kret al nl ml tl am nm mm tm := by
  unfold Te8
  exact cond_yes rfl (cond_yes rfl (bif_split h
   (fun c0 h => cond_yes rfl (cond_yes rfl (ret_at hR _ h (fun n => n) rfl rfl rfl (rn_bool_tf rfl) rfl (entl_bor (use_lo rfl) rfl rfl (entl_bor (use_lo rfl) rfl rfl entl_nil)))))
   (fun c0 h => bif_split h
   (fun c1 h => cond_yes rfl (cond_yes rfl (ret_at hR _ h (fun n => n) rfl rfl rfl (rn_bool_tf rfl) rfl (entl_bor (use_lo rfl) rfl rfl (entl_bor (use_lo rfl) rfl rfl entl_nil)))))
   (fun c1 h => bif_split h
   (fun c2 h => bif_split h
   (fun c3 h => bif_split h
   (fun c4 h => bif_split h
   (fun c5 h => bif_split h
   (fun c6 h => bif_split h
   (fun c7 h => cond_yes c3 (bif_split h
   (fun c8 h => ret_at hR _ h (fun n => n) rfl rfl rfl (rn_bool_tf rfl) rfl (entl_bor (use_lo rfl) rfl rfl (entl_bor (use_lo rfl) rfl rfl entl_nil)))
   (fun c8 h => bif_split h
   (fun c9 h => ret_at hR _ h (fun n => n) rfl rfl rfl (rn_bool_tf rfl) rfl (entl_bor (use_lo rfl) rfl rfl (entl_bor (use_lo rfl) rfl rfl entl_nil)))
   (fun c9 h => bif_split h
   (fun c10 h => ret_at hR _ h (fun n => n) rfl rfl rfl (rn_bool_tf rfl) rfl (entl_bor (use_lo rfl) rfl rfl (entl_bor (use_lo rfl) rfl rfl entl_nil)))
   (fun c10 h => bif_split h
   (fun c11 h => ret_at hR _ h (fun n => n) rfl rfl rfl (rn_bool_tf rfl) rfl (entl_bor (use_lo rfl) rfl rfl (entl_bor (use_lo rfl) rfl rfl entl_nil)))
   (fun c11 h => bif_split h
   (fun c12 h => ret_at hR _ h (fun n => n) rfl rfl rfl (rn_bool_tf rfl) rfl (entl_bor (use_lo rfl) rfl rfl (entl_bor (use_lo rfl) rfl rfl entl_nil)))
   (fun c12 h => bif_split h
   (fun c13 h => ret_at hR _ h (fun n => n) rfl rfl rfl (rn_bool_tf rfl) rfl (entl_bor (use_lo rfl) rfl rfl (entl_bor (use_lo rfl) rfl rfl entl_nil)))
   (fun c13 h => bif_split h
   (fun c14 h => ret_at hR _ h (fun n => n) rfl rfl rfl (rn_bool_tf rfl) rfl (entl_bor (use_lo rfl) rfl rfl (entl_bor (use_lo rfl) rfl rfl entl_nil)))
   (fun c14 h => bif_split h
   (fun c15 h => cond_yes c15 (bif_split h
   (fun c16 h => ret_at hR _ h (fun n => n) rfl rfl rfl (rn_bool_tf rfl) rfl (entl_bor (use_lo rfl) rfl rfl (entl_bor (use_lo rfl) rfl rfl entl_nil)))
   (fun c16 h => bif_split h
   (fun c17 h => cond_yes c17 (bif_split h
   (fun c18 h => bif_split h
   (fun c19 h => ret_at hR _ h (fun n => n) rfl rfl rfl (rn_bool_tf rfl) rfl (entl_bor (use_lo rfl) rfl rfl (entl_bor (use_lo rfl) rfl rfl entl_nil)))
   (fun c19 h => bif_split h
   (fun c20 h => bif_split h
   (fun c21 h => stop_at hS _ h (fun n => bif Nat.beq n 2 then 5 else bif Nat.beq n 3 then 4 else bif Nat.beq n 4 then 7 else bif Nat.beq n 5 then 16 else n) rfl rfl rfl ⟨(rn_ptr (use_own rfl) rfl rfl), ⟨(rn_own (use_own rfl) rfl rfl), ⟨(rn_int rfl), ⟨(rn_own (use_own rfl) rfl rfl), ⟨(rn_bool_tf rfl), ⟨(rn_unk _), ⟨(rn_unk _), ⟨(rn_unk _), ⟨(rn_unk _), ⟨(rn_unk _), ⟨(rn_unk _), ⟨(rn_unk _), ⟨(rn_unk _), ⟨(rn_own (use_own rfl) rfl rfl), ⟨(rn_int rfl), ⟨(rn_int rfl), ⟨(rn_unk _), ⟨(rn_unk _), ⟨(rn_unk _), ⟨(rn_unk _), ⟨(rn_unk _), ⟨(rn_unk _), ⟨(rn_unk _), ⟨(rn_unk _), ⟨(rn_unk _), ⟨(rn_unk _), trivial⟩⟩⟩⟩⟩⟩⟩⟩⟩⟩⟩⟩⟩⟩⟩⟩⟩⟩⟩⟩⟩⟩⟩⟩⟩⟩ rfl (entl_b (use_own rfl) rfl (by simp) (rb_cells ⟨(rn_own (use_own rfl) rfl rfl), trivial⟩) (entl_new (use_own rfl) rfl (Nat.le_of_eq rfl) (rcs_int (fun _ _ => rfl) (rcs_int (fun _ _ => rfl) (rcs_int (fun _ _ => rfl) (rcs_int (fun _ _ => rfl) rcs_nil)))) (entl_new (use_own rfl) rfl (Nat.le_of_eq rfl) (rcs_int (fun _ _ => rfl) rcs_nil) (entl_new (use_own rfl) rfl (Nat.le_of_eq rfl) (rcs_int (fun _ _ => rfl) rcs_nil) (entl_bor (use_lo rfl) rfl rfl (entl_bor (use_lo rfl) rfl rfl entl_nil)))))))
   (fun c21 h => stop_at hS _ h (fun n => bif Nat.beq n 2 then 5 else bif Nat.beq n 3 then 4 else bif Nat.beq n 4 then 7 else bif Nat.beq n 5 then 16 else n) rfl rfl rfl ⟨(rn_ptr (use_own rfl) rfl rfl), ⟨(rn_own (use_own rfl) rfl rfl), ⟨(rn_int rfl), ⟨(rn_own (use_own rfl) rfl rfl), ⟨(rn_bool_tf rfl), ⟨(rn_unk _), ⟨(rn_unk _), ⟨(rn_unk _), ⟨(rn_unk _), ⟨(rn_unk _), ⟨(rn_unk _), ⟨(rn_unk _), ⟨(rn_unk _), ⟨(rn_own (use_own rfl) rfl rfl), ⟨(rn_int rfl), ⟨(rn_int rfl), ⟨(rn_unk _), ⟨(rn_unk _), ⟨(rn_unk _), ⟨(rn_unk _), ⟨(rn_unk _), ⟨(rn_unk _), ⟨(rn_unk _), ⟨(rn_unk _), ⟨(rn_unk _), ⟨(rn_unk _), trivial⟩⟩⟩⟩⟩⟩⟩⟩⟩⟩⟩⟩⟩⟩⟩⟩⟩⟩⟩⟩⟩⟩⟩⟩⟩⟩ rfl (entl_b (use_own rfl) rfl (by simp) (rb_cells ⟨(rn_own (use_own rfl) rfl rfl), trivial⟩) (entl_new (use_own rfl) rfl (Nat.le_of_eq rfl) (rcs_int (fun _ _ => rfl) (rcs_int (fun _ _ => rfl) (rcs_int (fun _ _ => rfl) (rcs_int (fun _ _ => rfl) rcs_nil)))) (entl_new (use_own rfl) rfl (Nat.le_of_eq rfl) (rcs_int (fun _ _ => rfl) rcs_nil) (entl_new (use_own rfl) rfl (Nat.le_of_eq rfl) (rcs_int (fun _ _ => rfl) rcs_nil) (entl_bor (use_lo rfl) rfl rfl (entl_bor (use_lo rfl) rfl rfl entl_nil))))))))
   (fun c20 h => stop_at hS _ h (fun n => bif Nat.beq n 2 then 5 else bif Nat.beq n 3 then 4 else bif Nat.beq n 4 then 7 else bif Nat.beq n 5 then 16 else n) rfl rfl rfl ⟨(rn_ptr (use_own rfl) rfl rfl), ⟨(rn_own (use_own rfl) rfl rfl), ⟨(rn_int rfl), ⟨(rn_own (use_own rfl) rfl rfl), ⟨(rn_bool_tf rfl), ⟨(rn_unk _), ⟨(rn_unk _), ⟨(rn_unk _), ⟨(rn_unk _), ⟨(rn_unk _), ⟨(rn_unk _), ⟨(rn_unk _), ⟨(rn_unk _), ⟨(rn_own (use_own rfl) rfl rfl), ⟨(rn_int rfl), ⟨(rn_int rfl), ⟨(rn_unk _), ⟨(rn_unk _), ⟨(rn_unk _), ⟨(rn_unk _), ⟨(rn_unk _), ⟨(rn_unk _), ⟨(rn_unk _), ⟨(rn_unk _), ⟨(rn_unk _), ⟨(rn_unk _), trivial⟩⟩⟩⟩⟩⟩⟩⟩⟩⟩⟩⟩⟩⟩⟩⟩⟩⟩⟩⟩⟩⟩⟩⟩⟩⟩ rfl (entl_b (use_own rfl) rfl (by simp) (rb_cells ⟨(rn_own (use_own rfl) rfl rfl), trivial⟩) (entl_new (use_own rfl) rfl (Nat.le_of_eq rfl) (rcs_int (fun _ _ => rfl) (rcs_int (fun _ _ => rfl) (rcs_int (fun _ _ => rfl) (rcs_int (fun _ _ => rfl) rcs_nil)))) (entl_new (use_own rfl) rfl (Nat.le_of_eq rfl) (rcs_int (fun _ _ => rfl) rcs_nil) (entl_new (use_own rfl) rfl (Nat.le_of_eq rfl) (rcs_int (fun _ _ => rfl) rcs_nil) (entl_bor (use_lo rfl) rfl rfl (entl_bor (use_lo rfl) rfl rfl entl_nil)))))))))
   (fun c18 h => no_some h)))
   (fun c17 h => no_some h))))
   (fun c15 h => no_some h))))))))))
   (fun c7 h => no_some h))
   (fun c6 h => no_some h))
   (fun c5 h => no_some h))
   (fun c4 h => no_some h))
   (fun c3 h => no_some h))
   (fun c2 h => no_some h)))))
set_option maxRecDepth 100000 in
theorem b8_0 (al nl ml : Nat) (tl : Nat → Int) (am nm mm : Nat) (tm : Nat → Int) (Kst : KS) (Kret : KR) (x : St8 ⊕ Rt8) (hS : HS 2 400 ((I8 al nl ml tl am nm mm tm)) Kst x) (hR : HR 2 400 ((V8 al nl ml tl am nm mm tm)) (fun r => [newL (2 + 1) ((N8 al nl ml tl am nm mm tm) r) ++ [(0, (false, .cols ml [.int .u32 tl])), (1, (false, .cols mm [.int .u8 tm]))]]) Kret x) (x0 : Bool) (x1 : Int) (x2 : List (Int × Int × Int × Int)) (x3 : List Int) (x4 : List Int) (h : (bif (decide
 (x1 <
 (↑(List.length
 (Prod.snd
 (S.leaS (List.length (S.mdL nl fun (q : Nat) => tl (q + al)))
 (fun (q : Nat) => (S.at' (S.mdL nl fun (q : Nat) => tl (q + al)) q).1)
 (fun (q : Nat) => (S.at' (S.mdL nl fun (q : Nat) => tl (q + al)) q).2.1)
 (fun (q : Nat) =>
 (S.at' (S.mdL nl fun (q : Nat) => tl (q + al)) q).2.2.1)
 fun (q : Nat) =>
 (S.at' (S.mdL nl fun (q : Nat) => tl (q + al)) q).2.2.2))) :
 Int)))
 then (bif (decide ((0 : Int) ≤ x1 ∧ x1 < (↑(List.length x4) : Int)))
 then (bif (decide (Int.toNat x1 < List.length x4))
 then (some (.inl (.h1 (x0) (x1) (S.at' x4 (Int.toNat x1)) (x1) ((↑(List.length x4) : Int)) ((0 : Int)) (x2) (x3) (x4))))
 else (none))
 else (none))
 else (bif (x0)
 then (some (.inr (true)))
 else (some (.inr (false)))) : Option (St8 ⊕ Rt8)) = some x) : T8_0 cond Kst Kret al nl ml tl am nm mm tm x0 x1 x2 x3 x4 := by
  unfold T8_0
  exact bif_split h
   (fun c0 h => bif_split h
   (fun c1 h => bif_split h
   (fun c2 h => stop_at hS _ h (fun n => bif Nat.beq n 2 then 2 else bif Nat.beq n 3 then 3 else bif Nat.beq n 4 then 4 else bif Nat.beq n 5 then 5 else n) rfl rfl rfl ⟨(rn_ptr (use_own rfl) rfl rfl), ⟨(rn_own (use_own rfl) rfl rfl), ⟨(rn_int rfl), ⟨(rn_own (use_own rfl) rfl rfl), ⟨(rn_bool rfl), ⟨(rn_int rfl), ⟨(rn_int rfl), ⟨(rn_unk _), ⟨(rn_unk _), ⟨(rn_unk _), ⟨(rn_unk _), ⟨(rn_unk _), ⟨(rn_unk _), ⟨(rn_own (use_own rfl) rfl rfl), ⟨(rn_int rfl), ⟨(rn_int rfl), ⟨(rn_own (use_own rfl) rfl rfl), ⟨(rn_int rfl), ⟨(rn_int rfl), ⟨(rn_unk _), ⟨(rn_unk _), ⟨(rn_unk _), ⟨(rn_unk _), ⟨(rn_unk _), ⟨(rn_unk _), ⟨(rn_unk _), trivial⟩⟩⟩⟩⟩⟩⟩⟩⟩⟩⟩⟩⟩⟩⟩⟩⟩⟩⟩⟩⟩⟩⟩⟩⟩⟩ rfl (entl_b (use_own rfl) rfl (by simp) (rb_cells ⟨(rn_own (use_own rfl) rfl rfl), trivial⟩) (entl_new (use_own rfl) rfl (Nat.le_of_eq rfl) (rcs_int (fun _ _ => rfl) (rcs_int (fun _ _ => rfl) (rcs_int (fun _ _ => rfl) (rcs_int (fun _ _ => rfl) rcs_nil)))) (entl_new (use_own rfl) rfl (Nat.le_of_eq rfl) (rcs_int (fun _ _ => rfl) rcs_nil) (entl_new (use_own rfl) rfl (Nat.le_of_eq rfl) (rcs_int (fun _ _ => rfl) rcs_nil) (entl_bor (use_lo rfl) rfl rfl (entl_bor (use_lo rfl) rfl rfl entl_nil)))))))
   (fun c2 h => no_some h))
   (fun c1 h => no_some h))
   (fun c0 h => bif_split h
   (fun c1 h => ret_at hR _ h (fun n => n) rfl rfl rfl (rn_bool_tf rfl) rfl (entl_bor (use_lo rfl) rfl rfl (entl_bor (use_lo rfl) rfl rfl entl_nil)))
   (fun c1 h => ret_at hR _ h (fun n => n) rfl rfl rfl (rn_bool_tf rfl) rfl (entl_bor (use_lo rfl) rfl rfl (entl_bor (use_lo rfl) rfl rfl entl_nil))))
set_option maxRecDepth 100000 in
theorem b8_1 (al nl ml : Nat) (tl : Nat → Int) (am nm mm : Nat) (tm : Nat → Int) (Kst : KS) (Kret : KR) (x : St8 ⊕ Rt8) (hS : HS 2 400 ((I8 al nl ml tl am nm mm tm)) Kst x) (hR : HR 2 400 ((V8 al nl ml tl am nm mm tm)) (fun r => [newL (2 + 1) ((N8 al nl ml tl am nm mm tm) r) ++ [(0, (false, .cols ml [.int .u32 tl])), (1, (false, .cols mm [.int .u8 tm]))]]) Kret x) (x0 : Bool) (x1 : Int) (x2 : Int) (x3 : Int) (x4 : Int) (x5 : Int) (x6 : List (Int × Int × Int × Int)) (x7 : List Int) (x8 : List Int) (h : (bif (decide (x5 < x4))
 then (bif (decide ((0 : Int) ≤ x5 ∧ x5 < (↑(List.length x8) : Int)))
 then (bif (decide (Int.toNat x5 < List.length x8))
 then (bif (decide (0 + List.length x6 ≤ List.length x6 ∧ List.length x6 ≤ 1000000))
 then (bif (Prod.snd
 (S.comS (List.length x6) (fun (q : Nat) => (S.at' x6 q).1)
 (fun (q : Nat) => (S.at' x6 q).2.1)
 (fun (q : Nat) => (S.at' x6 q).2.2.1)
 (fun (q : Nat) => (S.at' x6 q).2.2.2) x2 (S.at' x8 (Int.toNat x5))) !=
 (0 : Int))
 then (some (.inr (false)))
 else (bif (decide
 (Prod.fst
 (S.comS (List.length x6) (fun (q : Nat) => (S.at' x6 q).1)
 (fun (q : Nat) => (S.at' x6 q).2.1)
 (fun (q : Nat) => (S.at' x6 q).2.2.1)
 (fun (q : Nat) => (S.at' x6 q).2.2.2) x2 (S.at' x8 (Int.toNat x5))) <
 (0 : Int)))
 then (some (.inr (false)))
 else (bif (decide
 (Prod.fst
 (S.comS (List.length x6) (fun (q : Nat) => (S.at' x6 q).1)
 (fun (q : Nat) => (S.at' x6 q).2.1)
 (fun (q : Nat) => (S.at' x6 q).2.2.1)
 (fun (q : Nat) => (S.at' x6 q).2.2.2) x2 (S.at' x8 (Int.toNat x5))) ≥
 (↑(List.length x6) : Int)))
 then (some (.inr (false)))
 else (bif (x1 == x5)
 then (bif (lim IntKind.i64 (x5 + (1 : Int)))
 then (some (.inl (.h1 (x0) (x1) (x2) (x3) (x4) (x5 + (1 : Int)) (x6) (x7) (x8))))
 else (none))
 else (bif (decide
 ((0 : Int) ≤ (↑(List.length x6) : Int) ∧
 (↑(List.length x6) : Int) ≤ (↑(List.length x6) : Int) ∧ (↑(List.length x6) : Int) ≤ (1000000 : Int)))
 then (some (.inl (.h2 (x0) (x1) (x2) (x5) (S.at' x8 (Int.toNat x5)) (Prod.fst
 (S.comS (List.length x6) (fun (q : Nat) => (S.at' x6 q).1)
 (fun (q : Nat) => (S.at' x6 q).2.1)
 (fun (q : Nat) => (S.at' x6 q).2.2.1)
 (fun (q : Nat) => (S.at' x6 q).2.2.2) x2 (S.at' x8 (Int.toNat x5)))) (x2) (x3) (x4) (x5) (Prod.fst
 (S.comS (List.length x6) (fun (q : Nat) => (S.at' x6 q).1)
 (fun (q : Nat) => (S.at' x6 q).2.1)
 (fun (q : Nat) => (S.at' x6 q).2.2.1)
 (fun (q : Nat) => (S.at' x6 q).2.2.2) x2 (S.at' x8 (Int.toNat x5)))) (Prod.fst
 (S.comS (List.length x6) (fun (q : Nat) => (S.at' x6 q).1)
 (fun (q : Nat) => (S.at' x6 q).2.1)
 (fun (q : Nat) => (S.at' x6 q).2.2.1)
 (fun (q : Nat) => (S.at' x6 q).2.2.2) x2 (S.at' x8 (Int.toNat x5)))) ((↑(List.length x6) : Int)) (x6) (x7) (x8) (S.mkl (List.length x6) fun (j : Nat) => (0 : Int)))))
 else (none))))))
 else (none))
 else (none))
 else (none))
 else (bif (lim IntKind.i64 (x3 + (1 : Int)))
 then (some (.inl (.h0 (x0) (x3 + (1 : Int)) (x6) (x7) (x8))))
 else (none)) : Option (St8 ⊕ Rt8)) = some x) : T8_1 cond Kst Kret al nl ml tl am nm mm tm x0 x1 x2 x3 x4 x5 x6 x7 x8 := by
  unfold T8_1
  exact bif_split h
   (fun c0 h => bif_split h
   (fun c1 h => bif_split h
   (fun c2 h => bif_split h
   (fun c3 h => bif_split h
   (fun c4 h => ret_at hR _ h (fun n => n) rfl rfl rfl (rn_bool_tf rfl) rfl (entl_bor (use_lo rfl) rfl rfl (entl_bor (use_lo rfl) rfl rfl entl_nil)))
   (fun c4 h => bif_split h
   (fun c5 h => ret_at hR _ h (fun n => n) rfl rfl rfl (rn_bool_tf rfl) rfl (entl_bor (use_lo rfl) rfl rfl (entl_bor (use_lo rfl) rfl rfl entl_nil)))
   (fun c5 h => bif_split h
   (fun c6 h => ret_at hR _ h (fun n => n) rfl rfl rfl (rn_bool_tf rfl) rfl (entl_bor (use_lo rfl) rfl rfl (entl_bor (use_lo rfl) rfl rfl entl_nil)))
   (fun c6 h => bif_split h
   (fun c7 h => bif_split h
   (fun c8 h => stop_at hS _ h (fun n => bif Nat.beq n 2 then 2 else bif Nat.beq n 3 then 3 else bif Nat.beq n 4 then 4 else bif Nat.beq n 5 then 5 else n) rfl rfl rfl ⟨(rn_ptr (use_own rfl) rfl rfl), ⟨(rn_own (use_own rfl) rfl rfl), ⟨(rn_int rfl), ⟨(rn_own (use_own rfl) rfl rfl), ⟨(rn_bool rfl), ⟨(rn_int rfl), ⟨(rn_int rfl), ⟨(rn_unk _), ⟨(rn_unk _), ⟨(rn_unk _), ⟨(rn_unk _), ⟨(rn_unk _), ⟨(rn_unk _), ⟨(rn_own (use_own rfl) rfl rfl), ⟨(rn_int rfl), ⟨(rn_int rfl), ⟨(rn_own (use_own rfl) rfl rfl), ⟨(rn_int rfl), ⟨(rn_int rfl), ⟨(rn_unk _), ⟨(rn_unk _), ⟨(rn_unk _), ⟨(rn_unk _), ⟨(rn_unk _), ⟨(rn_unk _), ⟨(rn_unk _), trivial⟩⟩⟩⟩⟩⟩⟩⟩⟩⟩⟩⟩⟩⟩⟩⟩⟩⟩⟩⟩⟩⟩⟩⟩⟩⟩ rfl (entl_b (use_own rfl) rfl (by simp) (rb_cells ⟨(rn_own (use_own rfl) rfl rfl), trivial⟩) (entl_new (use_own rfl) rfl (Nat.le_of_eq rfl) (rcs_int (fun _ _ => rfl) (rcs_int (fun _ _ => rfl) (rcs_int (fun _ _ => rfl) (rcs_int (fun _ _ => rfl) rcs_nil)))) (entl_new (use_own rfl) rfl (Nat.le_of_eq rfl) (rcs_int (fun _ _ => rfl) rcs_nil) (entl_new (use_own rfl) rfl (Nat.le_of_eq rfl) (rcs_int (fun _ _ => rfl) rcs_nil) (entl_bor (use_lo rfl) rfl rfl (entl_bor (use_lo rfl) rfl rfl entl_nil)))))))
   (fun c8 h => no_some h))
   (fun c7 h => bif_split h
   (fun c8 h => stop_at hS _ h (fun n => bif Nat.beq n 2 then 2 else bif Nat.beq n 3 then 3 else bif Nat.beq n 4 then 4 else bif Nat.beq n 5 then 5 else bif Nat.beq n 6 then 7 else n) rfl rfl rfl ⟨(rn_ptr (use_own rfl) rfl rfl), ⟨(rn_own (use_own rfl) rfl rfl), ⟨(rn_int rfl), ⟨(rn_own (use_own rfl) rfl rfl), ⟨(rn_bool rfl), ⟨(rn_int rfl), ⟨(rn_int rfl), ⟨(rn_int rfl), ⟨(rn_int rfl), ⟨(rn_int rfl), ⟨(rn_own (use_own rfl) rfl mkl_len), ⟨(rn_int rfl), ⟨(rn_unk _), ⟨(rn_own (use_own rfl) rfl rfl), ⟨(rn_int rfl), ⟨(rn_int rfl), ⟨(rn_own (use_own rfl) rfl rfl), ⟨(rn_int rfl), ⟨(rn_int rfl), ⟨(rn_int rfl), ⟨(rn_tf rfl), ⟨(rn_int rfl), ⟨(rn_ptr (use_own rfl) rfl rfl), ⟨(rn_own (use_own rfl) rfl rfl), ⟨(rn_int rfl), ⟨(rn_tf rfl), trivial⟩⟩⟩⟩⟩⟩⟩⟩⟩⟩⟩⟩⟩⟩⟩⟩⟩⟩⟩⟩⟩⟩⟩⟩⟩⟩ rfl (entl_b (use_own rfl) rfl (by simp) (rb_cells ⟨(rn_own (use_own rfl) rfl rfl), trivial⟩) (entl_new (use_own rfl) rfl (Nat.le_of_eq rfl) (rcs_int (fun _ _ => rfl) (rcs_int (fun _ _ => rfl) (rcs_int (fun _ _ => rfl) (rcs_int (fun _ _ => rfl) rcs_nil)))) (entl_new (use_own rfl) rfl (Nat.le_of_eq rfl) (rcs_int (fun _ _ => rfl) rcs_nil) (entl_new (use_own rfl) rfl (Nat.le_of_eq rfl) (rcs_int (fun _ _ => rfl) rcs_nil) (entl_new (use_own rfl) rfl (Nat.le_of_eq mkl_len) (rcs_int (fun _ hj => col_mkl (fun (t : Int) => t) hj) rcs_nil) (entl_bor (use_lo rfl) rfl rfl (entl_bor (use_lo rfl) rfl rfl entl_nil))))))))
   (fun c8 h => no_some h))))))
   (fun c3 h => no_some h))
   (fun c2 h => no_some h))
   (fun c1 h => no_some h))
   (fun c0 h => bif_split h
   (fun c1 h => stop_at hS _ h (fun n => bif Nat.beq n 2 then 2 else bif Nat.beq n 3 then 3 else bif Nat.beq n 4 then 4 else bif Nat.beq n 5 then 5 else n) rfl rfl rfl ⟨(rn_ptr (use_own rfl) rfl rfl), ⟨(rn_own (use_own rfl) rfl rfl), ⟨(rn_int rfl), ⟨(rn_own (use_own rfl) rfl rfl), ⟨(rn_bool rfl), ⟨(rn_unk _), ⟨(rn_unk _), ⟨(rn_unk _), ⟨(rn_unk _), ⟨(rn_unk _), ⟨(rn_unk _), ⟨(rn_unk _), ⟨(rn_unk _), ⟨(rn_own (use_own rfl) rfl rfl), ⟨(rn_int rfl), ⟨(rn_int rfl), ⟨(rn_unk _), ⟨(rn_unk _), ⟨(rn_unk _), ⟨(rn_unk _), ⟨(rn_unk _), ⟨(rn_unk _), ⟨(rn_unk _), ⟨(rn_unk _), ⟨(rn_unk _), ⟨(rn_unk _), trivial⟩⟩⟩⟩⟩⟩⟩⟩⟩⟩⟩⟩⟩⟩⟩⟩⟩⟩⟩⟩⟩⟩⟩⟩⟩⟩ rfl (entl_b (use_own rfl) rfl (by simp) (rb_cells ⟨(rn_own (use_own rfl) rfl rfl), trivial⟩) (entl_new (use_own rfl) rfl (Nat.le_of_eq rfl) (rcs_int (fun _ _ => rfl) (rcs_int (fun _ _ => rfl) (rcs_int (fun _ _ => rfl) (rcs_int (fun _ _ => rfl) rcs_nil)))) (entl_new (use_own rfl) rfl (Nat.le_of_eq rfl) (rcs_int (fun _ _ => rfl) rcs_nil) (entl_new (use_own rfl) rfl (Nat.le_of_eq rfl) (rcs_int (fun _ _ => rfl) rcs_nil) (entl_bor (use_lo rfl) rfl rfl (entl_bor (use_lo rfl) rfl rfl entl_nil)))))))
   (fun c1 h => no_some h))
set_option maxRecDepth 100000 in
theorem b8_2 (al nl ml : Nat) (tl : Nat → Int) (am nm mm : Nat) (tm : Nat → Int) (Kst : KS) (Kret : KR) (x : St8 ⊕ Rt8) (hS : HS 2 400 ((I8 al nl ml tl am nm mm tm)) Kst x) (hR : HR 2 400 ((V8 al nl ml tl am nm mm tm)) (fun r => [newL (2 + 1) ((N8 al nl ml tl am nm mm tm) r) ++ [(0, (false, .cols ml [.int .u32 tl])), (1, (false, .cols mm [.int .u8 tm]))]]) Kret x) (x0 : Bool) (x1 : Int) (x2 : Int) (x3 : Int) (x4 : Int) (x5 : Int) (x6 : Int) (x7 : Int) (x8 : Int) (x9 : Int) (x10 : Int) (x11 : Int) (x12 : Int) (x13 : List (Int × Int × Int × Int)) (x14 : List Int) (x15 : List Int) (x16 : List Int) (h : (bif (decide (x6 > x5))
 then (bif (decide ((0 : Int) ≤ x6 ∧ x6 < (↑(List.length x13) : Int)))
 then (bif (decide (Int.toNat x6 < List.length x13))
 then (bif (decide ((0 : Int) ≤ x6 ∧ x6 < (↑(List.length x16) : Int)))
 then (bif (decide (Int.toNat x6 < List.length x16))
 then (some (.inl (.h2 (x0) (x1) (x2) (x3) (x4) (x5) ((S.at' x13 (Int.toNat x6)).1) (x7) (x8) (x9) (x10) (x11) (x12) (x13) (x14) (x15) (S.mkl (List.length x16) fun (j : Nat) =>
 bif Nat.beq j (Int.toNat x6) then (S.at' x13 (Int.toNat x6)).2.2.2
 else S.at' x16 j))))
 else (none))
 else (none))
 else (none))
 else (none))
 else (some (.inl (.h3 (x0) (x1) (x2) (x3) (x5) (x4) (x7) (x8) (x9) (x10) (x11) (x12) (x13) (x14) (x15) (x16)))) : Option (St8 ⊕ Rt8)) = some x) : T8_2 cond Kst Kret al nl ml tl am nm mm tm x0 x1 x2 x3 x4 x5 x6 x7 x8 x9 x10 x11 x12 x13 x14 x15 x16 := by
  unfold T8_2
  exact bif_split h
   (fun c0 h => bif_split h
   (fun c1 h => bif_split h
   (fun c2 h => bif_split h
   (fun c3 h => bif_split h
   (fun c4 h => cond_yes c1 (cond_yes c2 (stop_at hS _ h (fun n => bif Nat.beq n 2 then 2 else bif Nat.beq n 3 then 3 else bif Nat.beq n 4 then 4 else bif Nat.beq n 5 then 5 else bif Nat.beq n 6 then 6 else n) rfl rfl rfl ⟨(rn_ptr (use_own rfl) rfl rfl), ⟨(rn_own (use_own rfl) rfl rfl), ⟨(rn_int rfl), ⟨(rn_own (use_own rfl) rfl rfl), ⟨(rn_bool rfl), ⟨(rn_int rfl), ⟨(rn_int rfl), ⟨(rn_int rfl), ⟨(rn_int rfl), ⟨(rn_int rfl), ⟨(rn_own (use_own rfl) rfl mkl_len), ⟨(rn_int rfl), ⟨(rn_unk _), ⟨(rn_own (use_own rfl) rfl rfl), ⟨(rn_int rfl), ⟨(rn_int rfl), ⟨(rn_own (use_own rfl) rfl rfl), ⟨(rn_int rfl), ⟨(rn_int rfl), ⟨(rn_int rfl), ⟨(rn_tf rfl), ⟨(rn_int rfl), ⟨(rn_ptr (use_own rfl) rfl rfl), ⟨(rn_own (use_own rfl) rfl rfl), ⟨(rn_int rfl), ⟨(rn_tf rfl), trivial⟩⟩⟩⟩⟩⟩⟩⟩⟩⟩⟩⟩⟩⟩⟩⟩⟩⟩⟩⟩⟩⟩⟩⟩⟩⟩ rfl (entl_b (use_own rfl) rfl (by simp) (rb_cells ⟨(rn_own (use_own rfl) rfl rfl), trivial⟩) (entl_new (use_own rfl) rfl (Nat.le_of_eq rfl) (rcs_int (fun _ _ => rfl) (rcs_int (fun _ _ => rfl) (rcs_int (fun _ _ => rfl) (rcs_int (fun _ _ => rfl) rcs_nil)))) (entl_new (use_own rfl) rfl (Nat.le_of_eq rfl) (rcs_int (fun _ _ => rfl) rcs_nil) (entl_new (use_own rfl) rfl (Nat.le_of_eq rfl) (rcs_int (fun _ _ => rfl) rcs_nil) (entl_new (use_own rfl) rfl (Nat.le_of_eq mkl_len) (rcs_int (fun _ hj => col_mkl (fun (t : Int) => t) hj) rcs_nil) (entl_bor (use_lo rfl) rfl rfl (entl_bor (use_lo rfl) rfl rfl entl_nil))))))))))
   (fun c4 h => no_some h))
   (fun c3 h => no_some h))
   (fun c2 h => no_some h))
   (fun c1 h => no_some h))
   (fun c0 h => stop_at hS _ h (fun n => bif Nat.beq n 2 then 2 else bif Nat.beq n 3 then 3 else bif Nat.beq n 4 then 4 else bif Nat.beq n 5 then 5 else bif Nat.beq n 6 then 6 else n) rfl rfl rfl ⟨(rn_ptr (use_own rfl) rfl rfl), ⟨(rn_own (use_own rfl) rfl rfl), ⟨(rn_int rfl), ⟨(rn_own (use_own rfl) rfl rfl), ⟨(rn_bool rfl), ⟨(rn_int rfl), ⟨(rn_int rfl), ⟨(rn_int rfl), ⟨(rn_unk _), ⟨(rn_int rfl), ⟨(rn_own (use_own rfl) rfl rfl), ⟨(rn_unk _), ⟨(rn_int rfl), ⟨(rn_own (use_own rfl) rfl rfl), ⟨(rn_int rfl), ⟨(rn_int rfl), ⟨(rn_own (use_own rfl) rfl rfl), ⟨(rn_int rfl), ⟨(rn_int rfl), ⟨(rn_int rfl), ⟨(rn_tf rfl), ⟨(rn_int rfl), ⟨(rn_ptr (use_own rfl) rfl rfl), ⟨(rn_own (use_own rfl) rfl rfl), ⟨(rn_int rfl), ⟨(rn_tf rfl), trivial⟩⟩⟩⟩⟩⟩⟩⟩⟩⟩⟩⟩⟩⟩⟩⟩⟩⟩⟩⟩⟩⟩⟩⟩⟩⟩ rfl (entl_b (use_own rfl) rfl (by simp) (rb_cells ⟨(rn_own (use_own rfl) rfl rfl), trivial⟩) (entl_new (use_own rfl) rfl (Nat.le_of_eq rfl) (rcs_int (fun _ _ => rfl) (rcs_int (fun _ _ => rfl) (rcs_int (fun _ _ => rfl) (rcs_int (fun _ _ => rfl) rcs_nil)))) (entl_new (use_own rfl) rfl (Nat.le_of_eq rfl) (rcs_int (fun _ _ => rfl) rcs_nil) (entl_new (use_own rfl) rfl (Nat.le_of_eq rfl) (rcs_int (fun _ _ => rfl) rcs_nil) (entl_new (use_own rfl) rfl (Nat.le_of_eq rfl) (rcs_int (fun _ _ => rfl) rcs_nil) (entl_bor (use_lo rfl) rfl rfl (entl_bor (use_lo rfl) rfl rfl entl_nil))))))))
set_option maxRecDepth 100000 in
theorem b8_3 (al nl ml : Nat) (tl : Nat → Int) (am nm mm : Nat) (tm : Nat → Int) (Kst : KS) (Kret : KR) (x : St8 ⊕ Rt8) (hS : HS 2 400 ((I8 al nl ml tl am nm mm tm)) Kst x) (hR : HR 2 400 ((V8 al nl ml tl am nm mm tm)) (fun r => [newL (2 + 1) ((N8 al nl ml tl am nm mm tm) r) ++ [(0, (false, .cols ml [.int .u32 tl])), (1, (false, .cols mm [.int .u8 tm]))]]) Kret x) (x0 : Bool) (x1 : Int) (x2 : Int) (x3 : Int) (x4 : Int) (x5 : Int) (x6 : Int) (x7 : Int) (x8 : Int) (x9 : Int) (x10 : Int) (x11 : Int) (x12 : List (Int × Int × Int × Int)) (x13 : List Int) (x14 : List Int) (x15 : List Int) (h : (bif (decide (x5 > x4))
 then (bif (decide ((0 : Int) ≤ x5 ∧ x5 < (↑(List.length x12) : Int)))
 then (bif (decide (Int.toNat x5 < List.length x12))
 then (bif (lim IntKind.i64 (-(S.at' x12 (Int.toNat x5)).2.2.2))
 then (bif (decide ((0 : Int) ≤ x5 ∧ x5 < (↑(List.length x15) : Int)))
 then (bif (decide (Int.toNat x5 < List.length x15))
 then (some (.inl (.h3 (x0) (x1) (x2) (x3) (x4) ((S.at' x12 (Int.toNat x5)).1) (x6) (x7) (x8) (x9) (x10) (x11) (x12) (x13) (x14) (S.mkl (List.length x15) fun (j : Nat) =>
 bif Nat.beq j (Int.toNat x5) then -(S.at' x12 (Int.toNat x5)).2.2.2
 else S.at' x15 j))))
 else (none))
 else (none))
 else (none))
 else (none))
 else (none))
 else (bif (decide
 (0 + List.length x12 ≤ List.length x12 ∧
 List.length x12 ≤ 1000000 ∧
 0 + List.length x13 ≤ List.length x13 ∧
 List.length x13 ≤ 1000000 ∧
 0 + List.length x15 ≤ List.length x15 ∧ List.length x15 ≤ 1000000))
 then (bif (Prod.fst
 (S.actS (List.length x12) (fun (q : Nat) => (S.at' x12 q).1)
 (fun (q : Nat) => (S.at' x12 q).2.1)
 (fun (q : Nat) => (S.at' x12 q).2.2.1)
 (fun (q : Nat) => (S.at' x12 q).2.2.2) (List.length x13)
 (fun (q : Nat) => S.at' x13 q) (1000 : Int) (List.length x15) fun (q : Nat) => S.at' x15 q) !=
 (0 : Int))
 then (some (.inr (false)))
 else (bif ((↑(List.length
 (Prod.snd
 (S.actS (List.length x12) (fun (q : Nat) => (S.at' x12 q).1)
 (fun (q : Nat) => (S.at' x12 q).2.1)
 (fun (q : Nat) => (S.at' x12 q).2.2.1)
 (fun (q : Nat) => (S.at' x12 q).2.2.2) (List.length x13)
 (fun (q : Nat) => S.at' x13 q) (1000 : Int) (List.length x15) fun (q : Nat) => S.at' x15 q))) :
 Int) !=
 (↑(List.length x14) : Int))
 then (some (.inr (false)))
 else (bif (x0)
 then (bif (lim IntKind.i64 (x8 + (1 : Int)))
 then (some (.inl (.h1 (true) (x1) (x2) (x6) (x7) (x8 + (1 : Int)) (x12) (x13) (x14))))
 else (none))
 else (bif (decide
 ((0 : Int) ≤ x1 ∧
 x1 <
 (↑(List.length
 (Prod.snd
 (S.actS (List.length x12) (fun (q : Nat) => (S.at' x12 q).1)
 (fun (q : Nat) => (S.at' x12 q).2.1)
 (fun (q : Nat) => (S.at' x12 q).2.2.1)
 (fun (q : Nat) => (S.at' x12 q).2.2.2) (List.length x13)
 (fun (q : Nat) => S.at' x13 q) (1000 : Int) (List.length x15) fun (q : Nat) =>
 S.at' x15 q))) :
 Int)))
 then (bif (decide
 (Int.toNat x1 <
 List.length
 (Prod.snd
 (S.actS (List.length x12) (fun (q : Nat) => (S.at' x12 q).1)
 (fun (q : Nat) => (S.at' x12 q).2.1)
 (fun (q : Nat) => (S.at' x12 q).2.2.1)
 (fun (q : Nat) => (S.at' x12 q).2.2.2) (List.length x13)
 (fun (q : Nat) => S.at' x13 q) (1000 : Int) (List.length x15) fun (q : Nat) => S.at' x15 q))))
 then (bif (decide
 ((0 : Int) ≤ x3 ∧
 x3 <
 (↑(List.length
 (Prod.snd
 (S.actS (List.length x12) (fun (q : Nat) => (S.at' x12 q).1)
 (fun (q : Nat) => (S.at' x12 q).2.1)
 (fun (q : Nat) => (S.at' x12 q).2.2.1)
 (fun (q : Nat) => (S.at' x12 q).2.2.2) (List.length x13)
 (fun (q : Nat) => S.at' x13 q) (1000 : Int) (List.length x15) fun (q : Nat) =>
 S.at' x15 q))) :
 Int)))
 then (bif (decide
 (Int.toNat x3 <
 List.length
 (Prod.snd
 (S.actS (List.length x12) (fun (q : Nat) => (S.at' x12 q).1)
 (fun (q : Nat) => (S.at' x12 q).2.1)
 (fun (q : Nat) => (S.at' x12 q).2.2.1)
 (fun (q : Nat) => (S.at' x12 q).2.2.2) (List.length x13)
 (fun (q : Nat) => S.at' x13 q) (1000 : Int) (List.length x15) fun (q : Nat) => S.at' x15 q))))
 then (bif (lim IntKind.i64
 (S.at'
 (Prod.snd
 (S.actS (List.length x12) (fun (q : Nat) => (S.at' x12 q).1)
 (fun (q : Nat) => (S.at' x12 q).2.1)
 (fun (q : Nat) => (S.at' x12 q).2.2.1)
 (fun (q : Nat) => (S.at' x12 q).2.2.2) (List.length x13)
 (fun (q : Nat) => S.at' x13 q) (1000 : Int) (List.length x15) fun (q : Nat) => S.at' x15 q))
 (Int.toNat x1) -
 S.at'
 (Prod.snd
 (S.actS (List.length x12) (fun (q : Nat) => (S.at' x12 q).1)
 (fun (q : Nat) => (S.at' x12 q).2.1)
 (fun (q : Nat) => (S.at' x12 q).2.2.1)
 (fun (q : Nat) => (S.at' x12 q).2.2.2) (List.length x13)
 (fun (q : Nat) => S.at' x13 q) (1000 : Int) (List.length x15) fun (q : Nat) => S.at' x15 q))
 (Int.toNat x3)))
 then (bif (S.at'
 (Prod.snd
 (S.actS (List.length x12) (fun (q : Nat) => (S.at' x12 q).1)
 (fun (q : Nat) => (S.at' x12 q).2.1)
 (fun (q : Nat) => (S.at' x12 q).2.2.1)
 (fun (q : Nat) => (S.at' x12 q).2.2.2) (List.length x13)
 (fun (q : Nat) => S.at' x13 q) (1000 : Int) (List.length x15) fun (q : Nat) => S.at' x15 q))
 (Int.toNat x1) -
 S.at'
 (Prod.snd
 (S.actS (List.length x12) (fun (q : Nat) => (S.at' x12 q).1)
 (fun (q : Nat) => (S.at' x12 q).2.1)
 (fun (q : Nat) => (S.at' x12 q).2.2.1)
 (fun (q : Nat) => (S.at' x12 q).2.2.2) (List.length x13)
 (fun (q : Nat) => S.at' x13 q) (1000 : Int) (List.length x15) fun (q : Nat) => S.at' x15 q))
 (Int.toNat x3) ==
 Prod.fst
 (S.cmpS (List.length (S.mdL nl fun (q : Nat) => tl (q + al)))
 (fun (q : Nat) => (S.at' (S.mdL nl fun (q : Nat) => tl (q + al)) q).1)
 (fun (q : Nat) => (S.at' (S.mdL nl fun (q : Nat) => tl (q + al)) q).2.1)
 (fun (q : Nat) => (S.at' (S.mdL nl fun (q : Nat) => tl (q + al)) q).2.2.1)
 (fun (q : Nat) => (S.at' (S.mdL nl fun (q : Nat) => tl (q + al)) q).2.2.2)
 (1000000000 : Int)))
 then (bif (lim IntKind.i64 (x8 + (1 : Int)))
 then (some (.inl (.h1 (true) (x1) (x2) (x6) (x7) (x8 + (1 : Int)) (x12) (x13) (x14))))
 else (none))
 else (bif (lim IntKind.i64 (x8 + (1 : Int)))
 then (some (.inl (.h1 (false) (x1) (x2) (x6) (x7) (x8 + (1 : Int)) (x12) (x13) (x14))))
 else (none)))
 else (none))
 else (none))
 else (none))
 else (none))
 else (none)))))
 else (none)) : Option (St8 ⊕ Rt8)) = some x) : T8_3 cond Kst Kret al nl ml tl am nm mm tm x0 x1 x2 x3 x4 x5 x6 x7 x8 x9 x10 x11 x12 x13 x14 x15 := by
  unfold T8_3
  exact bif_split h
   (fun c0 h => bif_split h
   (fun c1 h => bif_split h
   (fun c2 h => bif_split h
   (fun c3 h => bif_split h
   (fun c4 h => bif_split h
   (fun c5 h => cond_yes c1 (cond_yes c2 (stop_at hS _ h (fun n => bif Nat.beq n 2 then 2 else bif Nat.beq n 3 then 3 else bif Nat.beq n 4 then 4 else bif Nat.beq n 5 then 5 else bif Nat.beq n 6 then 6 else n) rfl rfl rfl ⟨(rn_ptr (use_own rfl) rfl rfl), ⟨(rn_own (use_own rfl) rfl rfl), ⟨(rn_int rfl), ⟨(rn_own (use_own rfl) rfl rfl), ⟨(rn_bool rfl), ⟨(rn_int rfl), ⟨(rn_int rfl), ⟨(rn_int rfl), ⟨(rn_unk _), ⟨(rn_int rfl), ⟨(rn_own (use_own rfl) rfl mkl_len), ⟨(rn_unk _), ⟨(rn_int rfl), ⟨(rn_own (use_own rfl) rfl rfl), ⟨(rn_int rfl), ⟨(rn_int rfl), ⟨(rn_own (use_own rfl) rfl rfl), ⟨(rn_int rfl), ⟨(rn_int rfl), ⟨(rn_int rfl), ⟨(rn_tf rfl), ⟨(rn_int rfl), ⟨(rn_ptr (use_own rfl) rfl rfl), ⟨(rn_own (use_own rfl) rfl rfl), ⟨(rn_int rfl), ⟨(rn_tf rfl), trivial⟩⟩⟩⟩⟩⟩⟩⟩⟩⟩⟩⟩⟩⟩⟩⟩⟩⟩⟩⟩⟩⟩⟩⟩⟩⟩ rfl (entl_b (use_own rfl) rfl (by simp) (rb_cells ⟨(rn_own (use_own rfl) rfl rfl), trivial⟩) (entl_new (use_own rfl) rfl (Nat.le_of_eq rfl) (rcs_int (fun _ _ => rfl) (rcs_int (fun _ _ => rfl) (rcs_int (fun _ _ => rfl) (rcs_int (fun _ _ => rfl) rcs_nil)))) (entl_new (use_own rfl) rfl (Nat.le_of_eq rfl) (rcs_int (fun _ _ => rfl) rcs_nil) (entl_new (use_own rfl) rfl (Nat.le_of_eq rfl) (rcs_int (fun _ _ => rfl) rcs_nil) (entl_new (use_own rfl) rfl (Nat.le_of_eq mkl_len) (rcs_int (fun _ hj => col_mkl (fun (t : Int) => t) hj) rcs_nil) (entl_bor (use_lo rfl) rfl rfl (entl_bor (use_lo rfl) rfl rfl entl_nil))))))))))
   (fun c5 h => no_some h))
   (fun c4 h => no_some h))
   (fun c3 h => no_some h))
   (fun c2 h => no_some h))
   (fun c1 h => no_some h))
   (fun c0 h => bif_split h
   (fun c1 h => bif_split h
   (fun c2 h => ret_at hR _ h (fun n => n) rfl rfl rfl (rn_bool_tf rfl) rfl (entl_bor (use_lo rfl) rfl rfl (entl_bor (use_lo rfl) rfl rfl entl_nil)))
   (fun c2 h => bif_split h
   (fun c3 h => ret_at hR _ h (fun n => n) rfl rfl rfl (rn_bool_tf rfl) rfl (entl_bor (use_lo rfl) rfl rfl (entl_bor (use_lo rfl) rfl rfl entl_nil)))
   (fun c3 h => bif_split h
   (fun c4 h => bif_split h
   (fun c5 h => stop_at hS _ h (fun n => bif Nat.beq n 2 then 2 else bif Nat.beq n 3 then 3 else bif Nat.beq n 4 then 4 else bif Nat.beq n 5 then 5 else n) rfl rfl rfl ⟨(rn_ptr (use_own rfl) rfl rfl), ⟨(rn_own (use_own rfl) rfl rfl), ⟨(rn_int rfl), ⟨(rn_own (use_own rfl) rfl rfl), ⟨(rn_bool_tf rfl), ⟨(rn_int rfl), ⟨(rn_int rfl), ⟨(rn_unk _), ⟨(rn_unk _), ⟨(rn_unk _), ⟨(rn_unk _), ⟨(rn_unk _), ⟨(rn_unk _), ⟨(rn_own (use_own rfl) rfl rfl), ⟨(rn_int rfl), ⟨(rn_int rfl), ⟨(rn_own (use_own rfl) rfl rfl), ⟨(rn_int rfl), ⟨(rn_int rfl), ⟨(rn_unk _), ⟨(rn_unk _), ⟨(rn_unk _), ⟨(rn_unk _), ⟨(rn_unk _), ⟨(rn_unk _), ⟨(rn_unk _), trivial⟩⟩⟩⟩⟩⟩⟩⟩⟩⟩⟩⟩⟩⟩⟩⟩⟩⟩⟩⟩⟩⟩⟩⟩⟩⟩ rfl (entl_b (use_own rfl) rfl (by simp) (rb_cells ⟨(rn_own (use_own rfl) rfl rfl), trivial⟩) (entl_new (use_own rfl) rfl (Nat.le_of_eq rfl) (rcs_int (fun _ _ => rfl) (rcs_int (fun _ _ => rfl) (rcs_int (fun _ _ => rfl) (rcs_int (fun _ _ => rfl) rcs_nil)))) (entl_new (use_own rfl) rfl (Nat.le_of_eq rfl) (rcs_int (fun _ _ => rfl) rcs_nil) (entl_new (use_own rfl) rfl (Nat.le_of_eq rfl) (rcs_int (fun _ _ => rfl) rcs_nil) (entl_bor (use_lo rfl) rfl rfl (entl_bor (use_lo rfl) rfl rfl entl_nil)))))))
   (fun c5 h => no_some h))
   (fun c4 h => bif_split h
   (fun c5 h => bif_split h
   (fun c6 h => bif_split h
   (fun c7 h => bif_split h
   (fun c8 h => bif_split h
   (fun c9 h => bif_split h
   (fun c10 h => bif_split h
   (fun c11 h => stop_at hS _ h (fun n => bif Nat.beq n 2 then 2 else bif Nat.beq n 3 then 3 else bif Nat.beq n 4 then 4 else bif Nat.beq n 5 then 5 else n) rfl rfl rfl ⟨(rn_ptr (use_own rfl) rfl rfl), ⟨(rn_own (use_own rfl) rfl rfl), ⟨(rn_int rfl), ⟨(rn_own (use_own rfl) rfl rfl), ⟨(rn_bool_tf rfl), ⟨(rn_int rfl), ⟨(rn_int rfl), ⟨(rn_unk _), ⟨(rn_unk _), ⟨(rn_unk _), ⟨(rn_unk _), ⟨(rn_unk _), ⟨(rn_unk _), ⟨(rn_own (use_own rfl) rfl rfl), ⟨(rn_int rfl), ⟨(rn_int rfl), ⟨(rn_own (use_own rfl) rfl rfl), ⟨(rn_int rfl), ⟨(rn_int rfl), ⟨(rn_unk _), ⟨(rn_unk _), ⟨(rn_unk _), ⟨(rn_unk _), ⟨(rn_unk _), ⟨(rn_unk _), ⟨(rn_unk _), trivial⟩⟩⟩⟩⟩⟩⟩⟩⟩⟩⟩⟩⟩⟩⟩⟩⟩⟩⟩⟩⟩⟩⟩⟩⟩⟩ rfl (entl_b (use_own rfl) rfl (by simp) (rb_cells ⟨(rn_own (use_own rfl) rfl rfl), trivial⟩) (entl_new (use_own rfl) rfl (Nat.le_of_eq rfl) (rcs_int (fun _ _ => rfl) (rcs_int (fun _ _ => rfl) (rcs_int (fun _ _ => rfl) (rcs_int (fun _ _ => rfl) rcs_nil)))) (entl_new (use_own rfl) rfl (Nat.le_of_eq rfl) (rcs_int (fun _ _ => rfl) rcs_nil) (entl_new (use_own rfl) rfl (Nat.le_of_eq rfl) (rcs_int (fun _ _ => rfl) rcs_nil) (entl_bor (use_lo rfl) rfl rfl (entl_bor (use_lo rfl) rfl rfl entl_nil)))))))
   (fun c11 h => no_some h))
   (fun c10 h => bif_split h
   (fun c11 h => stop_at hS _ h (fun n => bif Nat.beq n 2 then 2 else bif Nat.beq n 3 then 3 else bif Nat.beq n 4 then 4 else bif Nat.beq n 5 then 5 else n) rfl rfl rfl ⟨(rn_ptr (use_own rfl) rfl rfl), ⟨(rn_own (use_own rfl) rfl rfl), ⟨(rn_int rfl), ⟨(rn_own (use_own rfl) rfl rfl), ⟨(rn_bool_tf rfl), ⟨(rn_int rfl), ⟨(rn_int rfl), ⟨(rn_unk _), ⟨(rn_unk _), ⟨(rn_unk _), ⟨(rn_unk _), ⟨(rn_unk _), ⟨(rn_unk _), ⟨(rn_own (use_own rfl) rfl rfl), ⟨(rn_int rfl), ⟨(rn_int rfl), ⟨(rn_own (use_own rfl) rfl rfl), ⟨(rn_int rfl), ⟨(rn_int rfl), ⟨(rn_unk _), ⟨(rn_unk _), ⟨(rn_unk _), ⟨(rn_unk _), ⟨(rn_unk _), ⟨(rn_unk _), ⟨(rn_unk _), trivial⟩⟩⟩⟩⟩⟩⟩⟩⟩⟩⟩⟩⟩⟩⟩⟩⟩⟩⟩⟩⟩⟩⟩⟩⟩⟩ rfl (entl_b (use_own rfl) rfl (by simp) (rb_cells ⟨(rn_own (use_own rfl) rfl rfl), trivial⟩) (entl_new (use_own rfl) rfl (Nat.le_of_eq rfl) (rcs_int (fun _ _ => rfl) (rcs_int (fun _ _ => rfl) (rcs_int (fun _ _ => rfl) (rcs_int (fun _ _ => rfl) rcs_nil)))) (entl_new (use_own rfl) rfl (Nat.le_of_eq rfl) (rcs_int (fun _ _ => rfl) rcs_nil) (entl_new (use_own rfl) rfl (Nat.le_of_eq rfl) (rcs_int (fun _ _ => rfl) rcs_nil) (entl_bor (use_lo rfl) rfl rfl (entl_bor (use_lo rfl) rfl rfl entl_nil)))))))
   (fun c11 h => no_some h)))
   (fun c9 h => no_some h))
   (fun c8 h => no_some h))
   (fun c7 h => no_some h))
   (fun c6 h => no_some h))
   (fun c5 h => no_some h)))))
   (fun c1 h => no_some h))
theorem a8 (al nl ml : Nat) (tl : Nat → Int) (am nm mm : Nat) (tm : Nat → Int) {r : Rt8} (h : Goes ((q8 al nl ml tl am nm mm tm)) ((p8 al nl ml tl am nm mm tm)) r) : CallR Try.prog 8 [.loose ⟨0, 1, al, 0⟩ nl, .loose ⟨1, 1, am, 0⟩ nm] [[(0, (false, .cols ml [.int .u32 tl])), (1, (false, .cols mm [.int .u8 tm]))]] 2 ((V8 al nl ml tl am nm mm tm) r) ((fun r => [newL (2 + 1) ((N8 al nl ml tl am nm mm tm) r) ++ [(0, (false, .cols ml [.int .u32 tl])), (1, (false, .cols mm [.int .u8 tm]))]]) r) 400 ∧ ∃ F, Try.prog.funcs[8]? = some F ∧ F.body.isSome = true ∧ (F.name == "runtime.NumGoroutine") = false := by
  refine dec_calls (f := 8) (lo := 2) (hi := 400) (H := [[(0, (false, .cols ml [.int .u32 tl])), (1, (false, .cols mm [.int .u8 tm]))]]) (args := [.loose ⟨0, 1, al, 0⟩ nl, .loose ⟨1, 1, am, 0⟩ nm]) Try.envOk Try.mixed xQ_ok ((I8 al nl ml tl am nm mm tm)) ((V8 al nl ml tl am nm mm tm)) (fun r => [newL (2 + 1) ((N8 al nl ml tl am nm mm tm) r) ++ [(0, (false, .cols ml [.int .u32 tl])), (1, (false, .cols mm [.int .u8 tm]))]]) (fn := mkFn Try.f8) (ts := [5, 6, 7, 13, 15, 16, 17, 18, 19, 20, 22, 23, 24, 126, 127, 128, 133, 134, 135, 150, 151, 154, 155, 156, 157, 158]) (n := 400) rfl (by decide) (by simp) (names_of rfl) ?_ ?_ ?_ h
  · intro s; cases s <;> exact ⟨hd_ok _ _, by simp [I8], names_of rfl, Nat.le_of_ble_eq_true rfl⟩
  · intro Kst Kret x hS hR h
    exact Holds.eq (te8 cond Kst Kret al nl ml tl am nm mm tm) (be8 al nl ml tl am nm mm tm Kst Kret x hS hR h)
  · intro Kst Kret x hS hR s h
    cases s with
    | h0 x0 x1 x2 x3 x4 => exact Holds.eq (t8_0 cond Kst Kret al nl ml tl am nm mm tm x0 x1 x2 x3 x4) (b8_0 al nl ml tl am nm mm tm Kst Kret x hS hR x0 x1 x2 x3 x4 h)
    | h1 x0 x1 x2 x3 x4 x5 x6 x7 x8 => exact Holds.eq (t8_1 cond Kst Kret al nl ml tl am nm mm tm x0 x1 x2 x3 x4 x5 x6 x7 x8) (b8_1 al nl ml tl am nm mm tm Kst Kret x hS hR x0 x1 x2 x3 x4 x5 x6 x7 x8 h)
    | h2 x0 x1 x2 x3 x4 x5 x6 x7 x8 x9 x10 x11 x12 x13 x14 x15 x16 => exact Holds.eq (t8_2 cond Kst Kret al nl ml tl am nm mm tm x0 x1 x2 x3 x4 x5 x6 x7 x8 x9 x10 x11 x12 x13 x14 x15 x16) (b8_2 al nl ml tl am nm mm tm Kst Kret x hS hR x0 x1 x2 x3 x4 x5 x6 x7 x8 x9 x10 x11 x12 x13 x14 x15 x16 h)
    | h3 x0 x1 x2 x3 x4 x5 x6 x7 x8 x9 x10 x11 x12 x13 x14 x15 => exact Holds.eq (t8_3 cond Kst Kret al nl ml tl am nm mm tm x0 x1 x2 x3 x4 x5 x6 x7 x8 x9 x10 x11 x12 x13 x14 x15) (b8_3 al nl ml tl am nm mm tm Kst Kret x hS hR x0 x1 x2 x3 x4 x5 x6 x7 x8 x9 x10 x11 x12 x13 x14 x15 h)
noncomputable def k8 : Con := ⟨8, [.one (.list [.int .u32]), .one (.list [.int .u8])], fun (x : (Nat × Nat × Nat × (Nat → Int) × Unit) × (Nat × Nat × Nat × (Nat → Int) × Unit) × Unit) => (fun (al nl ml : Nat) (tl : Nat → Int) (am nm mm : Nat) (tm : Nat → Int) => decide (al + nl ≤ ml ∧ am + nm ≤ mm ∧ S.u32s nl (fun q => tl (q + al)) = true ∧ S.bytes nm (fun q => tm (q + am)) = true)) x.1.1 x.1.2.1 x.1.2.2.1 x.1.2.2.2.1 x.2.1.1 x.2.1.2.1 x.2.1.2.2.1 x.2.1.2.2.2.1, fun (x : (Nat × Nat × Nat × (Nat → Int) × Unit) × (Nat × Nat × Nat × (Nat → Int) × Unit) × Unit) => (fun (al nl ml : Nat) (tl : Nat → Int) (am nm mm : Nat) (tm : Nat → Int) => (V8 al nl ml tl am nm mm tm) (true)) x.1.1 x.1.2.1 x.1.2.2.1 x.1.2.2.2.1 x.2.1.1 x.2.1.2.1 x.2.1.2.2.1 x.2.1.2.2.2.1, fun (x : (Nat × Nat × Nat × (Nat → Int) × Unit) × (Nat × Nat × Nat × (Nat → Int) × Unit) × Unit) => (fun (al nl ml : Nat) (tl : Nat → Int) (am nm mm : Nat) (tm : Nat → Int) => (N8 al nl ml tl am nm mm tm) (true)) x.1.1 x.1.2.1 x.1.2.2.1 x.1.2.2.2.1 x.2.1.1 x.2.1.2.1 x.2.1.2.2.1 x.2.1.2.2.2.1, fun _ _ => .dead⟩

end Go.Ev
