/-
  The parts that the statement needs, 4 of 4.
-/
import Derived.Test.YtpnklpakehlbeaaV103
namespace Go.Ev
open Go.Proofs
open Go.IntWalk
set_option linter.unusedVariables false
set_option linter.unusedSimpArgs false
set_option maxRecDepth 100000
set_option maxHeartbeats 2000000
noncomputable abbrev c10_1_13 (aw : Nat) (tw : Nat → Int) (vw : Nat → Int) (x1 : Int) (x2 : List (ByteArray × Int × Int)) (x3 : Int) (x4 : Int) (x5 : Int) (x6 : Int) (x7 : Bool) (x8 : Bool) (x9 : List (ByteArray × Int × Int)) (x10 : List Bool) (x11 : List (Int × Int × Int)) :=
 (Prod.fst
 (Prod.snd
 (S.doS (List.length x9)
 (c10_1_0 x3 x4 x5 x6 x7 x8 x9 x10)
 x3
 (S.mkl (List.length x9) fun j =>
 ((S.at' x9 j).1, (S.at' x9 j).2.1, (S.at' x9 j).2.2))
 (fun j => S.at' x10 j) x4 x5 x6 x7 x8 ((1 : Int) + Int.tmod (tw (Int.toNat x1 + aw)) (5 : Int))
 (Int.tmod (vw (Int.toNat x1 + aw)) (↑(List.length x2) : Int))
 ((S.at' x11 (Int.toNat (Int.tmod (vw (Int.toNat x1 + aw)) (↑(List.length x11) : Int)))).1)
 ((S.at' x11 (Int.toNat (Int.tmod (vw (Int.toNat x1 + aw)) (↑(List.length x11) : Int)))).2.1)
 (Prod.snd
 ((S.at' x11 (Int.toNat (Int.tmod (vw (Int.toNat x1 + aw)) (↑(List.length x11) : Int)))).2)))))
noncomputable abbrev c10_1_14 (aw : Nat) (tw : Nat → Int) (vw : Nat → Int) (x1 : Int) (x2 : List (ByteArray × Int × Int)) (x3 : Int) (x4 : Int) (x5 : Int) (x6 : Int) (x7 : Bool) (x8 : Bool) (x9 : List (ByteArray × Int × Int)) (x10 : List Bool) (x11 : List (Int × Int × Int)) :=
 (Prod.fst
 (S.doS (List.length x9)
 (c10_1_0 x3 x4 x5 x6 x7 x8 x9 x10)
 x3
 (S.mkl (List.length x9) fun j =>
 ((S.at' x9 j).1, (S.at' x9 j).2.1, (S.at' x9 j).2.2))
 (fun j => S.at' x10 j) x4 x5 x6 x7 x8 ((1 : Int) + Int.tmod (tw (Int.toNat x1 + aw)) (5 : Int))
 (Int.tmod (vw (Int.toNat x1 + aw)) (↑(List.length x2) : Int))
 ((S.at' x11 (Int.toNat (Int.tmod (vw (Int.toNat x1 + aw)) (↑(List.length x11) : Int)))).1)
 ((S.at' x11 (Int.toNat (Int.tmod (vw (Int.toNat x1 + aw)) (↑(List.length x11) : Int)))).2.1)
 ((S.at' x11 (Int.toNat (Int.tmod (vw (Int.toNat x1 + aw)) (↑(List.length x11) : Int)))).2.2)))
noncomputable abbrev c10_1_15 (aw : Nat) (tw : Nat → Int) (vw : Nat → Int) (x1 : Int) (x2 : List (ByteArray × Int × Int)) (x3 : Int) (x4 : Int) (x5 : Int) (x6 : Int) (x7 : Bool) (x8 : Bool) (x9 : List (ByteArray × Int × Int)) (x10 : List Bool) :=
 Prod.snd
 (Prod.snd
 (Prod.snd
 (Prod.snd
 (c10_1_3 aw tw vw x1 x2 x3 x4 x5 x6 x7 x8 x9 x10))))
noncomputable abbrev c10_1_16 (aw : Nat) (tw : Nat → Int) (vw : Nat → Int) (x1 : Int) (x2 : List (ByteArray × Int × Int)) (x3 : Int) (x4 : Int) (x5 : Int) (x6 : Int) (x7 : Bool) (x8 : Bool) (x9 : List (ByteArray × Int × Int)) (x10 : List Bool) :=
 (Prod.fst
 (Prod.snd
 (Prod.snd
 (Prod.snd
 (S.doS (List.length x9)
 (c10_1_0 x3 x4 x5 x6 x7 x8 x9 x10)
 x3
 (S.mkl (List.length x9) fun j =>
 ((S.at' x9 j).1, (S.at' x9 j).2.1,
 (S.at' x9 j).2.2))
 (fun j => S.at' x10 j) x4 x5 x6 x7 x8 ((1 : Int) + Int.tmod (tw (Int.toNat x1 + aw)) (5 : Int))
 (Int.tmod (vw (Int.toNat x1 + aw)) (↑(List.length x2) : Int)) (0 : Int) (0 : Int) (0 : Int))))))
noncomputable abbrev c10_1_17 (aw : Nat) (nw : Nat) (x1 : Int) (x11 : List (Int × Int × Int)) :=
 ([PV.ptr (PA.mk (2) (0) (0) (0)),
 PV.ptr (PA.mk (4) (0) (0) (0)),
 PV.own (7) (3) (List.length x11), PV.tf true,
 PV.loose (PA.mk (1) (2) aw (0)) nw, PV.int IntKind.i64 (↑nw : Int),
 PV.int IntKind.i64 (x1 + (1 : Int))])
noncomputable abbrev c10_1_18 (ml : Nat) (tl : Nat → Int) (vl : Nat → Int) (mw : Nat) (tw : Nat → Int) (vw : Nat → Int) :=
 ([[(1, false, Blk.cols mw [Col.int IntKind.u8 tw, Col.int IntKind.u8 vw]),
 (0, false, Blk.cols ml [Col.int IntKind.u8 tl, Col.int IntKind.u8 vl])]])
noncomputable abbrev c10_1_19 (ml : Nat) (tl : Nat → Int) (vl : Nat → Int) (mw : Nat) (tw : Nat → Int) (vw : Nat → Int) (x2 : List (ByteArray × Int × Int)) (x3 : Int) (x4 : Int) (x5 : Int) (x6 : Int) (x7 : Bool) (x8 : Bool) (x9 : List (ByteArray × Int × Int)) (x10 : List Bool) (x11 : List (Int × Int × Int)) :=
 ([[(1, false, Blk.cols mw [Col.int IntKind.u8 tw, Col.int IntKind.u8 vw]),
 (0, false, Blk.cols ml [Col.int IntKind.u8 tl, Col.int IntKind.u8 vl]),
 (7, true,
 Blk.cols (List.length x11)
 [Col.int IntKind.i64 fun j => (S.at' x11 j).1,
 Col.int IntKind.i64 fun j => (S.at' x11 j).2.1,
 Col.int IntKind.i64 fun j => (S.at' x11 j).2.2]),
 (4, true,
 Blk.cells
 [PV.own (5) (3) (List.length x9), PV.int IntKind.i64 x3,
 PV.own (6) (1) (List.length x10), PV.int IntKind.i64 x4,
 PV.int IntKind.i64 x5, PV.int IntKind.i64 x6, PV.bool x7, PV.bool x8]),
 (2, true,
 Blk.cells [PV.own (3) (3) (List.length x2), PV.int IntKind.i64 (1 : Int)]),
 (3, true,
 Blk.cols (List.length x2)
 [Col.str fun j => (S.at' x2 j).1,
 Col.int IntKind.i64 fun j => (S.at' x2 j).2.1,
 Col.int IntKind.i64 fun j => (S.at' x2 j).2.2]),
 (6, true, Blk.cols (List.length x10) [Col.bool fun j => S.at' x10 j]),
 (5, true,
 Blk.cols (List.length x9)
 [Col.str fun j => (S.at' x9 j).1,
 Col.int IntKind.i64 fun j => (S.at' x9 j).2.1,
 Col.int IntKind.i64 fun j => (S.at' x9 j).2.2])]])
noncomputable abbrev c10_1_20 (aw : Nat) (tw : Nat → Int) (vw : Nat → Int) (x1 : Int) (x2 : List (ByteArray × Int × Int)) (x3 : Int) (x4 : Int) (x5 : Int) (x6 : Int) (x7 : Bool) (x8 : Bool) (x9 : List (ByteArray × Int × Int)) (x10 : List Bool) (x11 : List (Int × Int × Int)) :=
 Prod.snd
 (Prod.snd
 (Prod.snd
 (Prod.snd
 (c10_1_4 aw tw vw x1 x2 x3 x4 x5 x6 x7 x8 x9 x10 x11))))
noncomputable abbrev c10_1_21 (aw : Nat) (tw : Nat → Int) (vw : Nat → Int) (x1 : Int) (x2 : List (ByteArray × Int × Int)) (x3 : Int) (x4 : Int) (x5 : Int) (x6 : Int) (x7 : Bool) (x8 : Bool) (x9 : List (ByteArray × Int × Int)) (x10 : List Bool) :=
 Prod.snd
 (Prod.snd
 (Prod.snd
 (Prod.snd
 (c10_1_2 aw tw vw x1 x2 x3 x4 x5 x6 x7 x8 x9 x10))))
noncomputable abbrev c10_e_0 (al : Nat) (nl : Nat) (tl : Nat → Int) (vl : Nat → Int) :=
 List.length
 (Prod.snd
 (S.faiS (List.length (S.madeL nl (fun j => tl (j + al)) fun j => vl (j + al)))
 (S.netE (List.length (S.madeL nl (fun j => tl (j + al)) fun j => vl (j + al)))
 (fun j =>
 (S.at' (S.madeL nl (fun j => tl (j + al)) fun j => vl (j + al)) j).1)
 (fun j =>
 Prod.fst
 (Prod.snd
 (S.at' (S.madeL nl (fun j => tl (j + al)) fun j => vl (j + al)) j)))
 (fun j =>
 Prod.snd
 (Prod.snd
 (S.at' (S.madeL nl (fun j => tl (j + al)) fun j => vl (j + al)) j)))
 (1 : Int))))
noncomputable abbrev c10_e_1 (al : Nat) (nl : Nat) (tl : Nat → Int) (vl : Nat → Int) :=
 S.faiS (List.length (S.madeL nl (fun j => tl (j + al)) fun j => vl (j + al)))
 (S.netE (List.length (S.madeL nl (fun j => tl (j + al)) fun j => vl (j + al)))
 (fun j =>
 (S.at' (S.madeL nl (fun j => tl (j + al)) fun j => vl (j + al)) j).1)
 (fun j =>
 Prod.fst
 ((S.at' (S.madeL nl (fun j => tl (j + al)) fun j => vl (j + al)) j).2))
 (fun j =>
 Prod.snd
 ((S.at' (S.madeL nl (fun j => tl (j + al)) fun j => vl (j + al)) j).2))
 (1 : Int))
noncomputable abbrev c10_e_2 (ml : Nat) (tl : Nat → Int) (vl : Nat → Int) (mw : Nat) (tw : Nat → Int) (vw : Nat → Int) :=
 ([[(1, false, Blk.cols mw [Col.int IntKind.u8 tw, Col.int IntKind.u8 vw]),
 (0, false, Blk.cols ml [Col.int IntKind.u8 tl, Col.int IntKind.u8 vl])]])
inductive St10 where
  | h0 (x0 : Int) (x1 : List (ByteArray × Int × Int)) (x2 : List Bool) (x3 : List (Int × Int × Int))
  | h1 (x0 : Bool) (x1 : Int) (x2 : List (ByteArray × Int × Int)) (x3 : Int) (x4 : Int) (x5 : Int) (x6 : Int) (x7 : Bool) (x8 : Bool) (x9 : List (ByteArray × Int × Int)) (x10 : List Bool) (x11 : List (Int × Int × Int))
abbrev Rt10 := Bool
noncomputable def V10 (al nl ml : Nat) (tl : Nat → Int) (vl : Nat → Int) (aw nw mw : Nat) (tw : Nat → Int) (vw : Nat → Int) (r : Rt10) : PV := PV.bool r
noncomputable def N10 (al nl ml : Nat) (tl : Nat → Int) (vl : Nat → Int) (aw nw mw : Nat) (tw : Nat → Int) (vw : Nat → Int) (r : Rt10) : List Blk := []
noncomputable def I10 (al nl ml : Nat) (tl : Nat → Int) (vl : Nat → Int) (aw nw mw : Nat) (tw : Nat → Int) (vw : Nat → Int) : St10 → Hd
  | .h0 x0 x1 x2 x3 => ⟨hd Try.f10 0, [PV.ptr (PA.mk (2) (0) (0) (0)),
 PV.ptr (PA.mk (4) (0) (0) (0)),
 PV.own (6) (3) (List.length x3), PV.tf false,
 PV.loose (PA.mk (1) (2) aw (0)) nw, PV.int IntKind.i64 (↑nw : Int),
 PV.int IntKind.i64 x0], [[(2, (true, Blk.cells [PV.own (3) (3) (List.length x1), PV.int IntKind.i64 (1 : Int)])), (3, (true, Blk.cols (List.length x1)
 [Col.str fun j => (S.at' x1 j).1,
 Col.int IntKind.i64 fun j => (S.at' x1 j).2.1,
 Col.int IntKind.i64 fun j => (S.at' x1 j).2.2])), (4, (true, Blk.cells
 [PV.loose (PA.mk (3) (3) (0) (0))
 (List.length (S.madeL nl (fun j => tl (j + al)) fun j => vl (j + al))),
 PV.int IntKind.i64 (1 : Int), PV.own (5) (1) (List.length x2),
 PV.int IntKind.i64 (0 : Int), PV.int IntKind.i64 (0 : Int), PV.int IntKind.i64 (0 : Int),
 PV.tf false, PV.tf false])), (5, (true, Blk.cols (List.length x2) [Col.bool fun j => S.at' x2 j])), (6, (true, Blk.cols (List.length x3)
 [Col.int IntKind.i64 fun j => (S.at' x3 j).1,
 Col.int IntKind.i64 fun j => (S.at' x3 j).2.1,
 Col.int IntKind.i64 fun j => (S.at' x3 j).2.2]))], [(0, (false, .cols ml [.int .u8 tl, .int .u8 vl])), (1, (false, .cols mw [.int .u8 tw, .int .u8 vw]))]], 7⟩
  | .h1 x0 x1 x2 x3 x4 x5 x6 x7 x8 x9 x10 x11 => ⟨hd Try.f10 0, [PV.ptr (PA.mk (2) (0) (0) (0)),
 PV.ptr (PA.mk (4) (0) (0) (0)),
 PV.own (7) (3) (List.length x11), PV.bool x0,
 PV.loose (PA.mk (1) (2) aw (0)) nw, PV.int IntKind.i64 (↑nw : Int),
 PV.int IntKind.i64 x1], [[(2, (true, Blk.cells [PV.own (3) (3) (List.length x2), PV.int IntKind.i64 (1 : Int)])), (3, (true, Blk.cols (List.length x2)
 [Col.str fun j => (S.at' x2 j).1,
 Col.int IntKind.i64 fun j => (S.at' x2 j).2.1,
 Col.int IntKind.i64 fun j => (S.at' x2 j).2.2])), (4, (true, Blk.cells
 [PV.own (5) (3) (List.length x9), PV.int IntKind.i64 x3,
 PV.own (6) (1) (List.length x10), PV.int IntKind.i64 x4,
 PV.int IntKind.i64 x5, PV.int IntKind.i64 x6, PV.bool x7, PV.bool x8])), (5, (true, Blk.cols (List.length x9)
 [Col.str fun j => (S.at' x9 j).1,
 Col.int IntKind.i64 fun j => (S.at' x9 j).2.1,
 Col.int IntKind.i64 fun j => (S.at' x9 j).2.2])), (6, (true, Blk.cols (List.length x10) [Col.bool fun j => S.at' x10 j])), (7, (true, Blk.cols (List.length x11)
 [Col.int IntKind.i64 fun j => (S.at' x11 j).1,
 Col.int IntKind.i64 fun j => (S.at' x11 j).2.1,
 Col.int IntKind.i64 fun j => (S.at' x11 j).2.2]))], [(0, (false, .cols ml [.int .u8 tl, .int .u8 vl])), (1, (false, .cols mw [.int .u8 tw, .int .u8 vw]))]], 8⟩
noncomputable def q10 (al nl ml : Nat) (tl : Nat → Int) (vl : Nat → Int) (aw nw mw : Nat) (tw : Nat → Int) (vw : Nat → Int) : St10 → Option (St10 ⊕ Rt10)
  | .h0 x0 x1 x2 x3 => bif (decide (x0 < (↑nw : Int)))
 then (bif (decide ((0 : Int) ≤ x0 ∧ x0 < (↑nw : Int)))
 then (bif (decide (Int.toNat x0 + aw < mw))
 then (bif (lim IntKind.i64 (Int.tmod (tw (Int.toNat x0 + aw)) (5 : Int)))
 then (bif (lim IntKind.i64 ((1 : Int) + Int.tmod (tw (Int.toNat x0 + aw)) (5 : Int)))
 then (bif (lim IntKind.i64 (vw (Int.toNat x0 + aw)))
 then (bif (decide ((↑(List.length x1) : Int) = (0 : Int)))
 then (none)
 else (bif ((1 : Int) + Int.tmod (tw (Int.toNat x0 + aw)) (5 : Int) == (3 : Int))
 then (bif (decide ((↑(List.length x3) : Int) = (0 : Int)))
 then (none)
 else (bif (decide
 ((0 : Int) ≤ Int.tmod (vw (Int.toNat x0 + aw)) (↑(List.length x3) : Int) ∧
 Int.tmod (vw (Int.toNat x0 + aw)) (↑(List.length x3) : Int) < (↑(List.length x3) : Int)))
 then (bif (decide (Int.toNat (Int.tmod (vw (Int.toNat x0 + aw)) (↑(List.length x3) : Int)) < List.length x3))
 then (bif (c10_0_28 al nl tl vl x1 x2)
 then (bif (Prod.fst
 (c10_0_8 al nl tl vl aw tw vw x0 x1 x2 x3) !=
 (0 : Int))
 then (bif (Prod.fst
 (c10_0_8 al nl tl vl aw tw vw x0 x1 x2 x3) !=
 (8 : Int))
 then (some (.inr (false)))
 else (bif ((1 : Int) + Int.tmod (tw (Int.toNat x0 + aw)) (5 : Int) != (5 : Int))
 then (some (.inr (false)))
 else (bif (lim IntKind.i64 (x0 + (1 : Int)))
 then (some (.inl (.h0 (x0 + (1 : Int)) (x1) (x2) (x3))))
 else (none))))
 else (bif ((↑(List.length
 (Prod.snd
 (Prod.snd
 (Prod.snd
 (c10_0_1 al nl tl vl aw tw vw x0 x1 x2 x3))))) :
 Int) !=
 (↑(List.length x1) : Int))
 then (some (.inr (false)))
 else (bif (c10_0_24 al nl tl vl aw tw vw x0 x1 x2 x3)
 then (bif (S.any
 (fun j =>
 S.at'
 (Prod.snd
 (Prod.snd
 (Prod.snd
 (c10_0_1 al nl tl vl aw tw vw x0 x1 x2 x3))))
 j ==
 false)
 (List.length
 (Prod.snd
 (Prod.snd
 (Prod.snd
 (Prod.snd
 (Prod.snd
 (Prod.snd
 (c10_0_6 al nl tl vl aw tw vw x0 x1 x2 x3)))))))))
 then (bif (c10_0_21 al nl tl vl aw tw vw x0 x1 x2 x3)
 then (bif (lim IntKind.i64 (x0 + (1 : Int)))
 then (some (.inl (.h1 (true) (x0 + (1 : Int)) (x1) (Prod.fst
 (c10_0_20 al nl tl vl aw tw vw x0 x1 x2 x3)) (Prod.fst
 (Prod.snd
 (c10_0_20 al nl tl vl aw tw vw x0 x1 x2 x3))) (c10_0_23 al nl tl vl aw tw vw x0 x1 x2 x3) (c10_0_22 al nl tl vl aw tw vw x0 x1 x2 x3) (c10_0_21 al nl tl vl aw tw vw x0 x1 x2 x3) (c10_0_14 al nl tl vl aw tw vw x0 x1 x2 x3) (Prod.fst
 (Prod.snd
 (c10_0_8 al nl tl vl aw tw vw x0 x1 x2 x3))) (Prod.snd
 (Prod.snd
 (c10_0_8 al nl tl vl aw tw vw x0 x1 x2 x3))) (x3))))
 else (none))
 else (bif (c10_0_14 al nl tl vl aw tw vw x0 x1 x2 x3)
 then (bif (lim IntKind.i64 (x0 + (1 : Int)))
 then (some (.inl (.h1 (true) (x0 + (1 : Int)) (x1) (Prod.fst
 (c10_0_20 al nl tl vl aw tw vw x0 x1 x2 x3)) (Prod.fst
 (Prod.snd
 (c10_0_20 al nl tl vl aw tw vw x0 x1 x2 x3))) (c10_0_23 al nl tl vl aw tw vw x0 x1 x2 x3) (c10_0_22 al nl tl vl aw tw vw x0 x1 x2 x3) (c10_0_21 al nl tl vl aw tw vw x0 x1 x2 x3) (c10_0_14 al nl tl vl aw tw vw x0 x1 x2 x3) (Prod.fst
 (Prod.snd
 (c10_0_8 al nl tl vl aw tw vw x0 x1 x2 x3))) (Prod.snd
 (Prod.snd
 (c10_0_8 al nl tl vl aw tw vw x0 x1 x2 x3))) (x3))))
 else (none))
 else (some (.inr (false)))))
 else (bif (lim IntKind.i64 (x0 + (1 : Int)))
 then (some (.inl (.h1 (false) (x0 + (1 : Int)) (x1) (Prod.fst
 (c10_0_20 al nl tl vl aw tw vw x0 x1 x2 x3)) (Prod.fst
 (Prod.snd
 (c10_0_20 al nl tl vl aw tw vw x0 x1 x2 x3))) (c10_0_23 al nl tl vl aw tw vw x0 x1 x2 x3) (c10_0_22 al nl tl vl aw tw vw x0 x1 x2 x3) (c10_0_21 al nl tl vl aw tw vw x0 x1 x2 x3) (c10_0_14 al nl tl vl aw tw vw x0 x1 x2 x3) (Prod.fst
 (Prod.snd
 (c10_0_8 al nl tl vl aw tw vw x0 x1 x2 x3))) (Prod.snd
 (Prod.snd
 (c10_0_8 al nl tl vl aw tw vw x0 x1 x2 x3))) (x3))))
 else (none)))
 else (none))))
 else (none))
 else (none))
 else (none)))
 else (bif (c10_0_28 al nl tl vl x1 x2)
 then (bif (Prod.fst
 (Prod.snd
 (Prod.snd
 (Prod.snd
 (Prod.snd
 (Prod.snd
 (c10_0_5 al nl tl vl aw tw vw x0 x1 x2)))))) !=
 (0 : Int))
 then (bif (Prod.fst
 (Prod.snd
 (Prod.snd
 (Prod.snd
 (Prod.snd
 (Prod.snd
 (c10_0_5 al nl tl vl aw tw vw x0 x1 x2)))))) !=
 (8 : Int))
 then (some (.inr (false)))
 else (bif ((1 : Int) + Int.tmod (tw (Int.toNat x0 + aw)) (5 : Int) != (5 : Int))
 then (some (.inr (false)))
 else (bif (lim IntKind.i64 (x0 + (1 : Int)))
 then (some (.inl (.h0 (x0 + (1 : Int)) (x1) (x2) (x3))))
 else (none))))
 else (bif ((↑(List.length
 (Prod.snd
 (Prod.snd
 (Prod.snd
 (c10_0_4 al nl tl vl aw tw vw x0 x1 x2))))) :
 Int) !=
 (↑(List.length x1) : Int))
 then (some (.inr (false)))
 else (bif (decide
 (0 +
 List.length
 (Prod.snd
 (c10_0_9 al nl tl vl aw tw vw x0 x1 x2)) ≤
 List.length
 (Prod.snd
 (Prod.snd
 (Prod.snd
 (c10_0_4 al nl tl vl aw tw vw x0 x1 x2)))) ∧
 List.length
 (Prod.snd
 (Prod.snd
 (Prod.snd
 (c10_0_4 al nl tl vl aw tw vw x0 x1 x2)))) ≤
 1000000))
 then (bif (c10_0_27 al nl tl vl aw tw vw x0 x1 x2)
 then (bif (Prod.fst
 (Prod.snd
 (c10_0_19 al nl tl vl aw tw vw x0 x1 x2)))
 then (bif (lim IntKind.i64 (x0 + (1 : Int)))
 then (some (.inl (.h1 (true) (x0 + (1 : Int)) (x1) (Prod.fst
 (c10_0_17 al nl tl vl aw tw vw x0 x1 x2)) (Prod.fst
 (Prod.snd
 (c10_0_17 al nl tl vl aw tw vw x0 x1 x2))) (Prod.fst
 (Prod.snd
 (Prod.snd
 (c10_0_17 al nl tl vl aw tw vw x0 x1 x2)))) (Prod.fst
 (c10_0_19 al nl tl vl aw tw vw x0 x1 x2)) (Prod.fst
 (Prod.snd
 (c10_0_19 al nl tl vl aw tw vw x0 x1 x2))) (c10_0_18 al nl tl vl aw tw vw x0 x1 x2) (Prod.fst
 (Prod.snd
 (Prod.snd
 (Prod.snd
 (Prod.snd
 (Prod.snd
 (Prod.snd
 (c10_0_5 al nl tl vl aw tw vw x0 x1 x2)))))))) (Prod.snd
 (Prod.snd
 (Prod.snd
 (Prod.snd
 (Prod.snd
 (Prod.snd
 (Prod.snd
 (c10_0_5 al nl tl vl aw tw vw x0 x1 x2)))))))) (x3))))
 else (none))
 else (bif (c10_0_18 al nl tl vl aw tw vw x0 x1 x2)
 then (bif (lim IntKind.i64 (x0 + (1 : Int)))
 then (some (.inl (.h1 (true) (x0 + (1 : Int)) (x1) (Prod.fst
 (c10_0_17 al nl tl vl aw tw vw x0 x1 x2)) (Prod.fst
 (Prod.snd
 (c10_0_17 al nl tl vl aw tw vw x0 x1 x2))) (Prod.fst
 (Prod.snd
 (Prod.snd
 (c10_0_17 al nl tl vl aw tw vw x0 x1 x2)))) (Prod.fst
 (c10_0_19 al nl tl vl aw tw vw x0 x1 x2)) (Prod.fst
 (Prod.snd
 (c10_0_19 al nl tl vl aw tw vw x0 x1 x2))) (c10_0_18 al nl tl vl aw tw vw x0 x1 x2) (Prod.fst
 (Prod.snd
 (Prod.snd
 (Prod.snd
 (Prod.snd
 (Prod.snd
 (Prod.snd
 (c10_0_5 al nl tl vl aw tw vw x0 x1 x2)))))))) (Prod.snd
 (Prod.snd
 (Prod.snd
 (Prod.snd
 (Prod.snd
 (Prod.snd
 (Prod.snd
 (c10_0_5 al nl tl vl aw tw vw x0 x1 x2)))))))) (x3))))
 else (none))
 else (some (.inr (false)))))
 else (bif (lim IntKind.i64 (x0 + (1 : Int)))
 then (some (.inl (.h1 (false) (x0 + (1 : Int)) (x1) (Prod.fst
 (c10_0_17 al nl tl vl aw tw vw x0 x1 x2)) (Prod.fst
 (Prod.snd
 (c10_0_17 al nl tl vl aw tw vw x0 x1 x2))) (Prod.fst
 (Prod.snd
 (Prod.snd
 (c10_0_17 al nl tl vl aw tw vw x0 x1 x2)))) (Prod.fst
 (c10_0_19 al nl tl vl aw tw vw x0 x1 x2)) (Prod.fst
 (Prod.snd
 (c10_0_19 al nl tl vl aw tw vw x0 x1 x2))) (c10_0_18 al nl tl vl aw tw vw x0 x1 x2) (Prod.fst
 (Prod.snd
 (Prod.snd
 (Prod.snd
 (Prod.snd
 (Prod.snd
 (Prod.snd
 (c10_0_5 al nl tl vl aw tw vw x0 x1 x2)))))))) (Prod.snd
 (Prod.snd
 (Prod.snd
 (Prod.snd
 (Prod.snd
 (Prod.snd
 (Prod.snd
 (c10_0_5 al nl tl vl aw tw vw x0 x1 x2)))))))) (x3))))
 else (none)))
 else (none))))
 else (none))))
 else (none))
 else (none))
 else (none))
 else (none))
 else (none))
 else (some (.inr (true)))
  | .h1 x0 x1 x2 x3 x4 x5 x6 x7 x8 x9 x10 x11 => bif (decide (x1 < (↑nw : Int)))
 then (bif (decide ((0 : Int) ≤ x1 ∧ x1 < (↑nw : Int)))
 then (bif (decide (Int.toNat x1 + aw < mw))
 then (bif (lim IntKind.i64 (Int.tmod (tw (Int.toNat x1 + aw)) (5 : Int)))
 then (bif (lim IntKind.i64 ((1 : Int) + Int.tmod (tw (Int.toNat x1 + aw)) (5 : Int)))
 then (bif (lim IntKind.i64 (vw (Int.toNat x1 + aw)))
 then (bif (decide ((↑(List.length x2) : Int) = (0 : Int)))
 then (none)
 else (bif ((1 : Int) + Int.tmod (tw (Int.toNat x1 + aw)) (5 : Int) == (3 : Int))
 then (bif (decide ((↑(List.length x11) : Int) = (0 : Int)))
 then (none)
 else (bif (decide
 ((0 : Int) ≤ Int.tmod (vw (Int.toNat x1 + aw)) (↑(List.length x11) : Int) ∧
 Int.tmod (vw (Int.toNat x1 + aw)) (↑(List.length x11) : Int) < (↑(List.length x11) : Int)))
 then (bif (decide (Int.toNat (Int.tmod (vw (Int.toNat x1 + aw)) (↑(List.length x11) : Int)) < List.length x11))
 then (bif (decide
 (0 + List.length x9 ≤ List.length x9 ∧
 List.length x9 ≤ 1000000 ∧
 0 + List.length x10 ≤ List.length x10 ∧ List.length x10 ≤ 1000000))
 then (bif (Prod.fst
 (c10_1_20 aw tw vw x1 x2 x3 x4 x5 x6 x7 x8 x9 x10 x11) !=
 (0 : Int))
 then (bif (Prod.fst
 (c10_1_20 aw tw vw x1 x2 x3 x4 x5 x6 x7 x8 x9 x10 x11) !=
 (8 : Int))
 then (some (.inr (false)))
 else (bif ((1 : Int) + Int.tmod (tw (Int.toNat x1 + aw)) (5 : Int) != (5 : Int))
 then (some (.inr (false)))
 else (bif (lim IntKind.i64 (x1 + (1 : Int)))
 then (some (.inl (.h1 (x0) (x1 + (1 : Int)) (x2) (x3) (x4) (x5) (x6) (x7) (x8) (x9) (x10) (x11))))
 else (none))))
 else (bif ((↑(List.length
 (Prod.snd
 (c10_1_1 aw tw vw x1 x2 x3 x4 x5 x6 x7 x8 x9 x10 x11))) :
 Int) !=
 (↑(List.length x2) : Int))
 then (some (.inr (false)))
 else (bif (decide
 (0 +
 List.length
 (Prod.snd
 (c10_1_1 aw tw vw x1 x2 x3 x4 x5 x6 x7 x8 x9 x10 x11)) ≤
 List.length
 (c10_1_10 aw tw vw x1 x2 x3 x4 x5 x6 x7 x8 x9 x10 x11) ∧
 List.length
 (c10_1_10 aw tw vw x1 x2 x3 x4 x5 x6 x7 x8 x9 x10 x11) ≤
 1000000))
 then (bif (S.any
 (fun j =>
 S.at'
 (c10_1_10 aw tw vw x1 x2 x3 x4 x5 x6 x7 x8 x9 x10 x11)
 j ==
 false)
 (List.length
 (Prod.snd
 (Prod.snd
 (c10_1_20 aw tw vw x1 x2 x3 x4 x5 x6 x7 x8 x9 x10 x11)))))
 then (bif (Prod.fst
 (c10_1_6 aw tw vw x1 x2 x3 x4 x5 x6 x7 x8 x9 x10 x11))
 then (bif (lim IntKind.i64 (x1 + (1 : Int)))
 then (some (.inl (.h1 (true) (x1 + (1 : Int)) (x2) (c10_1_14 aw tw vw x1 x2 x3 x4 x5 x6 x7 x8 x9 x10 x11) (c10_1_13 aw tw vw x1 x2 x3 x4 x5 x6 x7 x8 x9 x10 x11) (c10_1_12 aw tw vw x1 x2 x3 x4 x5 x6 x7 x8 x9 x10 x11) (c10_1_11 aw tw vw x1 x2 x3 x4 x5 x6 x7 x8 x9 x10 x11) (Prod.fst
 (c10_1_6 aw tw vw x1 x2 x3 x4 x5 x6 x7 x8 x9 x10 x11)) (Prod.fst
 (Prod.snd
 (c10_1_6 aw tw vw x1 x2 x3 x4 x5 x6 x7 x8 x9 x10 x11))) (Prod.fst
 (Prod.snd
 (c10_1_20 aw tw vw x1 x2 x3 x4 x5 x6 x7 x8 x9 x10 x11))) (Prod.snd
 (Prod.snd
 (c10_1_20 aw tw vw x1 x2 x3 x4 x5 x6 x7 x8 x9 x10 x11))) (x11))))
 else (none))
 else (bif (Prod.fst
 (Prod.snd
 (c10_1_6 aw tw vw x1 x2 x3 x4 x5 x6 x7 x8 x9 x10 x11)))
 then (bif (lim IntKind.i64 (x1 + (1 : Int)))
 then (some (.inl (.h1 (true) (x1 + (1 : Int)) (x2) (c10_1_14 aw tw vw x1 x2 x3 x4 x5 x6 x7 x8 x9 x10 x11) (c10_1_13 aw tw vw x1 x2 x3 x4 x5 x6 x7 x8 x9 x10 x11) (c10_1_12 aw tw vw x1 x2 x3 x4 x5 x6 x7 x8 x9 x10 x11) (c10_1_11 aw tw vw x1 x2 x3 x4 x5 x6 x7 x8 x9 x10 x11) (Prod.fst
 (c10_1_6 aw tw vw x1 x2 x3 x4 x5 x6 x7 x8 x9 x10 x11)) (Prod.fst
 (Prod.snd
 (c10_1_6 aw tw vw x1 x2 x3 x4 x5 x6 x7 x8 x9 x10 x11))) (Prod.fst
 (Prod.snd
 (c10_1_20 aw tw vw x1 x2 x3 x4 x5 x6 x7 x8 x9 x10 x11))) (Prod.snd
 (Prod.snd
 (c10_1_20 aw tw vw x1 x2 x3 x4 x5 x6 x7 x8 x9 x10 x11))) (x11))))
 else (none))
 else (some (.inr (false)))))
 else (bif (x0)
 then (bif ((1 : Int) + Int.tmod (tw (Int.toNat x1 + aw)) (5 : Int) != (5 : Int))
 then (bif (Prod.fst
 (c10_1_6 aw tw vw x1 x2 x3 x4 x5 x6 x7 x8 x9 x10 x11))
 then (bif (lim IntKind.i64 (x1 + (1 : Int)))
 then (some (.inl (.h1 (true) (x1 + (1 : Int)) (x2) (c10_1_14 aw tw vw x1 x2 x3 x4 x5 x6 x7 x8 x9 x10 x11) (c10_1_13 aw tw vw x1 x2 x3 x4 x5 x6 x7 x8 x9 x10 x11) (c10_1_12 aw tw vw x1 x2 x3 x4 x5 x6 x7 x8 x9 x10 x11) (c10_1_11 aw tw vw x1 x2 x3 x4 x5 x6 x7 x8 x9 x10 x11) (Prod.fst
 (c10_1_6 aw tw vw x1 x2 x3 x4 x5 x6 x7 x8 x9 x10 x11)) (Prod.fst
 (Prod.snd
 (c10_1_6 aw tw vw x1 x2 x3 x4 x5 x6 x7 x8 x9 x10 x11))) (Prod.fst
 (Prod.snd
 (c10_1_20 aw tw vw x1 x2 x3 x4 x5 x6 x7 x8 x9 x10 x11))) (Prod.snd
 (Prod.snd
 (c10_1_20 aw tw vw x1 x2 x3 x4 x5 x6 x7 x8 x9 x10 x11))) (x11))))
 else (none))
 else (bif (Prod.fst
 (Prod.snd
 (c10_1_6 aw tw vw x1 x2 x3 x4 x5 x6 x7 x8 x9 x10 x11)))
 then (bif (lim IntKind.i64 (x1 + (1 : Int)))
 then (some (.inl (.h1 (true) (x1 + (1 : Int)) (x2) (c10_1_14 aw tw vw x1 x2 x3 x4 x5 x6 x7 x8 x9 x10 x11) (c10_1_13 aw tw vw x1 x2 x3 x4 x5 x6 x7 x8 x9 x10 x11) (c10_1_12 aw tw vw x1 x2 x3 x4 x5 x6 x7 x8 x9 x10 x11) (c10_1_11 aw tw vw x1 x2 x3 x4 x5 x6 x7 x8 x9 x10 x11) (Prod.fst
 (c10_1_6 aw tw vw x1 x2 x3 x4 x5 x6 x7 x8 x9 x10 x11)) (Prod.fst
 (Prod.snd
 (c10_1_6 aw tw vw x1 x2 x3 x4 x5 x6 x7 x8 x9 x10 x11))) (Prod.fst
 (Prod.snd
 (c10_1_20 aw tw vw x1 x2 x3 x4 x5 x6 x7 x8 x9 x10 x11))) (Prod.snd
 (Prod.snd
 (c10_1_20 aw tw vw x1 x2 x3 x4 x5 x6 x7 x8 x9 x10 x11))) (x11))))
 else (none))
 else (some (.inr (false)))))
 else (bif (lim IntKind.i64 (x1 + (1 : Int)))
 then (some (.inl (.h1 (false) (x1 + (1 : Int)) (x2) (c10_1_14 aw tw vw x1 x2 x3 x4 x5 x6 x7 x8 x9 x10 x11) (c10_1_13 aw tw vw x1 x2 x3 x4 x5 x6 x7 x8 x9 x10 x11) (c10_1_12 aw tw vw x1 x2 x3 x4 x5 x6 x7 x8 x9 x10 x11) (c10_1_11 aw tw vw x1 x2 x3 x4 x5 x6 x7 x8 x9 x10 x11) (Prod.fst
 (c10_1_6 aw tw vw x1 x2 x3 x4 x5 x6 x7 x8 x9 x10 x11)) (Prod.fst
 (Prod.snd
 (c10_1_6 aw tw vw x1 x2 x3 x4 x5 x6 x7 x8 x9 x10 x11))) (Prod.fst
 (Prod.snd
 (c10_1_20 aw tw vw x1 x2 x3 x4 x5 x6 x7 x8 x9 x10 x11))) (Prod.snd
 (Prod.snd
 (c10_1_20 aw tw vw x1 x2 x3 x4 x5 x6 x7 x8 x9 x10 x11))) (x11))))
 else (none)))
 else (bif (lim IntKind.i64 (x1 + (1 : Int)))
 then (some (.inl (.h1 (false) (x1 + (1 : Int)) (x2) (c10_1_14 aw tw vw x1 x2 x3 x4 x5 x6 x7 x8 x9 x10 x11) (c10_1_13 aw tw vw x1 x2 x3 x4 x5 x6 x7 x8 x9 x10 x11) (c10_1_12 aw tw vw x1 x2 x3 x4 x5 x6 x7 x8 x9 x10 x11) (c10_1_11 aw tw vw x1 x2 x3 x4 x5 x6 x7 x8 x9 x10 x11) (Prod.fst
 (c10_1_6 aw tw vw x1 x2 x3 x4 x5 x6 x7 x8 x9 x10 x11)) (Prod.fst
 (Prod.snd
 (c10_1_6 aw tw vw x1 x2 x3 x4 x5 x6 x7 x8 x9 x10 x11))) (Prod.fst
 (Prod.snd
 (c10_1_20 aw tw vw x1 x2 x3 x4 x5 x6 x7 x8 x9 x10 x11))) (Prod.snd
 (Prod.snd
 (c10_1_20 aw tw vw x1 x2 x3 x4 x5 x6 x7 x8 x9 x10 x11))) (x11))))
 else (none))))
 else (none))))
 else (none))
 else (none))
 else (none)))
 else (bif (decide
 (0 + List.length x9 ≤ List.length x9 ∧
 List.length x9 ≤ 1000000 ∧
 0 + List.length x10 ≤ List.length x10 ∧ List.length x10 ≤ 1000000))
 then (bif (Prod.fst
 (Prod.snd
 (Prod.snd
 (c10_1_15 aw tw vw x1 x2 x3 x4 x5 x6 x7 x8 x9 x10))) !=
 (0 : Int))
 then (bif (Prod.fst
 (Prod.snd
 (Prod.snd
 (c10_1_15 aw tw vw x1 x2 x3 x4 x5 x6 x7 x8 x9 x10))) !=
 (8 : Int))
 then (some (.inr (false)))
 else (bif ((1 : Int) + Int.tmod (tw (Int.toNat x1 + aw)) (5 : Int) != (5 : Int))
 then (some (.inr (false)))
 else (bif (lim IntKind.i64 (x1 + (1 : Int)))
 then (some (.inl (.h1 (x0) (x1 + (1 : Int)) (x2) (x3) (x4) (x5) (x6) (x7) (x8) (x9) (x10) (x11))))
 else (none))))
 else (bif ((↑(List.length
 (c10_1_21 aw tw vw x1 x2 x3 x4 x5 x6 x7 x8 x9 x10)) :
 Int) !=
 (↑(List.length x2) : Int))
 then (some (.inr (false)))
 else (bif (decide
 (0 +
 List.length
 (c10_1_21 aw tw vw x1 x2 x3 x4 x5 x6 x7 x8 x9 x10) ≤
 List.length
 (c10_1_21 aw tw vw x1 x2 x3 x4 x5 x6 x7 x8 x9 x10) ∧
 List.length
 (c10_1_21 aw tw vw x1 x2 x3 x4 x5 x6 x7 x8 x9 x10) ≤
 1000000))
 then (bif (S.any
 (fun j =>
 S.at'
 (c10_1_21 aw tw vw x1 x2 x3 x4 x5 x6 x7 x8 x9 x10)
 j ==
 false)
 (List.length
 (c10_1_21 aw tw vw x1 x2 x3 x4 x5 x6 x7 x8 x9 x10)))
 then (bif (Prod.fst
 (c10_1_15 aw tw vw x1 x2 x3 x4 x5 x6 x7 x8 x9 x10))
 then (bif (lim IntKind.i64 (x1 + (1 : Int)))
 then (some (.inl (.h1 (true) (x1 + (1 : Int)) (x2) (Prod.fst
 (c10_1_9 aw tw vw x1 x2 x3 x4 x5 x6 x7 x8 x9 x10)) (Prod.fst
 (Prod.snd
 (c10_1_9 aw tw vw x1 x2 x3 x4 x5 x6 x7 x8 x9 x10))) (Prod.fst
 (Prod.snd
 (Prod.snd
 (c10_1_9 aw tw vw x1 x2 x3 x4 x5 x6 x7 x8 x9 x10)))) (c10_1_16 aw tw vw x1 x2 x3 x4 x5 x6 x7 x8 x9 x10) (Prod.fst
 (c10_1_15 aw tw vw x1 x2 x3 x4 x5 x6 x7 x8 x9 x10)) (Prod.fst
 (Prod.snd
 (c10_1_15 aw tw vw x1 x2 x3 x4 x5 x6 x7 x8 x9 x10))) (Prod.fst
 (Prod.snd
 (Prod.snd
 (Prod.snd
 (c10_1_15 aw tw vw x1 x2 x3 x4 x5 x6 x7 x8 x9 x10))))) (Prod.snd
 (Prod.snd
 (Prod.snd
 (Prod.snd
 (c10_1_15 aw tw vw x1 x2 x3 x4 x5 x6 x7 x8 x9 x10))))) (x11))))
 else (none))
 else (bif (Prod.fst
 (Prod.snd
 (c10_1_15 aw tw vw x1 x2 x3 x4 x5 x6 x7 x8 x9 x10)))
 then (bif (lim IntKind.i64 (x1 + (1 : Int)))
 then (some (.inl (.h1 (true) (x1 + (1 : Int)) (x2) (Prod.fst
 (c10_1_9 aw tw vw x1 x2 x3 x4 x5 x6 x7 x8 x9 x10)) (Prod.fst
 (Prod.snd
 (c10_1_9 aw tw vw x1 x2 x3 x4 x5 x6 x7 x8 x9 x10))) (Prod.fst
 (Prod.snd
 (Prod.snd
 (c10_1_9 aw tw vw x1 x2 x3 x4 x5 x6 x7 x8 x9 x10)))) (c10_1_16 aw tw vw x1 x2 x3 x4 x5 x6 x7 x8 x9 x10) (Prod.fst
 (c10_1_15 aw tw vw x1 x2 x3 x4 x5 x6 x7 x8 x9 x10)) (Prod.fst
 (Prod.snd
 (c10_1_15 aw tw vw x1 x2 x3 x4 x5 x6 x7 x8 x9 x10))) (Prod.fst
 (Prod.snd
 (Prod.snd
 (Prod.snd
 (c10_1_15 aw tw vw x1 x2 x3 x4 x5 x6 x7 x8 x9 x10))))) (Prod.snd
 (Prod.snd
 (Prod.snd
 (Prod.snd
 (c10_1_15 aw tw vw x1 x2 x3 x4 x5 x6 x7 x8 x9 x10))))) (x11))))
 else (none))
 else (some (.inr (false)))))
 else (bif (x0)
 then (bif ((1 : Int) + Int.tmod (tw (Int.toNat x1 + aw)) (5 : Int) != (5 : Int))
 then (bif (Prod.fst
 (c10_1_15 aw tw vw x1 x2 x3 x4 x5 x6 x7 x8 x9 x10))
 then (bif (lim IntKind.i64 (x1 + (1 : Int)))
 then (some (.inl (.h1 (true) (x1 + (1 : Int)) (x2) (Prod.fst
 (c10_1_9 aw tw vw x1 x2 x3 x4 x5 x6 x7 x8 x9 x10)) (Prod.fst
 (Prod.snd
 (c10_1_9 aw tw vw x1 x2 x3 x4 x5 x6 x7 x8 x9 x10))) (Prod.fst
 (Prod.snd
 (Prod.snd
 (c10_1_9 aw tw vw x1 x2 x3 x4 x5 x6 x7 x8 x9 x10)))) (c10_1_16 aw tw vw x1 x2 x3 x4 x5 x6 x7 x8 x9 x10) (Prod.fst
 (c10_1_15 aw tw vw x1 x2 x3 x4 x5 x6 x7 x8 x9 x10)) (Prod.fst
 (Prod.snd
 (c10_1_15 aw tw vw x1 x2 x3 x4 x5 x6 x7 x8 x9 x10))) (Prod.fst
 (Prod.snd
 (Prod.snd
 (Prod.snd
 (c10_1_15 aw tw vw x1 x2 x3 x4 x5 x6 x7 x8 x9 x10))))) (Prod.snd
 (Prod.snd
 (Prod.snd
 (Prod.snd
 (c10_1_15 aw tw vw x1 x2 x3 x4 x5 x6 x7 x8 x9 x10))))) (x11))))
 else (none))
 else (bif (Prod.fst
 (Prod.snd
 (c10_1_15 aw tw vw x1 x2 x3 x4 x5 x6 x7 x8 x9 x10)))
 then (bif (lim IntKind.i64 (x1 + (1 : Int)))
 then (some (.inl (.h1 (true) (x1 + (1 : Int)) (x2) (Prod.fst
 (c10_1_9 aw tw vw x1 x2 x3 x4 x5 x6 x7 x8 x9 x10)) (Prod.fst
 (Prod.snd
 (c10_1_9 aw tw vw x1 x2 x3 x4 x5 x6 x7 x8 x9 x10))) (Prod.fst
 (Prod.snd
 (Prod.snd
 (c10_1_9 aw tw vw x1 x2 x3 x4 x5 x6 x7 x8 x9 x10)))) (c10_1_16 aw tw vw x1 x2 x3 x4 x5 x6 x7 x8 x9 x10) (Prod.fst
 (c10_1_15 aw tw vw x1 x2 x3 x4 x5 x6 x7 x8 x9 x10)) (Prod.fst
 (Prod.snd
 (c10_1_15 aw tw vw x1 x2 x3 x4 x5 x6 x7 x8 x9 x10))) (Prod.fst
 (Prod.snd
 (Prod.snd
 (Prod.snd
 (c10_1_15 aw tw vw x1 x2 x3 x4 x5 x6 x7 x8 x9 x10))))) (Prod.snd
 (Prod.snd
 (Prod.snd
 (Prod.snd
 (c10_1_15 aw tw vw x1 x2 x3 x4 x5 x6 x7 x8 x9 x10))))) (x11))))
 else (none))
 else (some (.inr (false)))))
 else (bif (lim IntKind.i64 (x1 + (1 : Int)))
 then (some (.inl (.h1 (false) (x1 + (1 : Int)) (x2) (Prod.fst
 (c10_1_9 aw tw vw x1 x2 x3 x4 x5 x6 x7 x8 x9 x10)) (Prod.fst
 (Prod.snd
 (c10_1_9 aw tw vw x1 x2 x3 x4 x5 x6 x7 x8 x9 x10))) (Prod.fst
 (Prod.snd
 (Prod.snd
 (c10_1_9 aw tw vw x1 x2 x3 x4 x5 x6 x7 x8 x9 x10)))) (c10_1_16 aw tw vw x1 x2 x3 x4 x5 x6 x7 x8 x9 x10) (Prod.fst
 (c10_1_15 aw tw vw x1 x2 x3 x4 x5 x6 x7 x8 x9 x10)) (Prod.fst
 (Prod.snd
 (c10_1_15 aw tw vw x1 x2 x3 x4 x5 x6 x7 x8 x9 x10))) (Prod.fst
 (Prod.snd
 (Prod.snd
 (Prod.snd
 (c10_1_15 aw tw vw x1 x2 x3 x4 x5 x6 x7 x8 x9 x10))))) (Prod.snd
 (Prod.snd
 (Prod.snd
 (Prod.snd
 (c10_1_15 aw tw vw x1 x2 x3 x4 x5 x6 x7 x8 x9 x10))))) (x11))))
 else (none)))
 else (bif (lim IntKind.i64 (x1 + (1 : Int)))
 then (some (.inl (.h1 (false) (x1 + (1 : Int)) (x2) (Prod.fst
 (c10_1_9 aw tw vw x1 x2 x3 x4 x5 x6 x7 x8 x9 x10)) (Prod.fst
 (Prod.snd
 (c10_1_9 aw tw vw x1 x2 x3 x4 x5 x6 x7 x8 x9 x10))) (Prod.fst
 (Prod.snd
 (Prod.snd
 (c10_1_9 aw tw vw x1 x2 x3 x4 x5 x6 x7 x8 x9 x10)))) (c10_1_16 aw tw vw x1 x2 x3 x4 x5 x6 x7 x8 x9 x10) (Prod.fst
 (c10_1_15 aw tw vw x1 x2 x3 x4 x5 x6 x7 x8 x9 x10)) (Prod.fst
 (Prod.snd
 (c10_1_15 aw tw vw x1 x2 x3 x4 x5 x6 x7 x8 x9 x10))) (Prod.fst
 (Prod.snd
 (Prod.snd
 (Prod.snd
 (c10_1_15 aw tw vw x1 x2 x3 x4 x5 x6 x7 x8 x9 x10))))) (Prod.snd
 (Prod.snd
 (Prod.snd
 (Prod.snd
 (c10_1_15 aw tw vw x1 x2 x3 x4 x5 x6 x7 x8 x9 x10))))) (x11))))
 else (none))))
 else (none))))
 else (none))))
 else (none))
 else (none))
 else (none))
 else (none))
 else (none))
 else (some (.inr (true)))
noncomputable def p10 (al nl ml : Nat) (tl : Nat → Int) (vl : Nat → Int) (aw nw mw : Nat) (tw : Nat → Int) (vw : Nat → Int) : Option (St10 ⊕ Rt10) := bif (decide ((↑nl : Int) > (8 : Int)))
 then (some (.inr (true)))
 else (bif (decide ((↑nw : Int) > (60 : Int)))
 then (some (.inr (true)))
 else (bif (decide
 ((al + nl ≤ ml ∧ nl ≤ 1000000) ∧
 ((0 : Int) ≤ (1 : Int) ∧ (1 : Int) ≤ (255 : Int)) ∧
 S.byB (fun j => tl (j + al)) nl = true ∧
 S.byB (fun j => vl (j + al)) nl = true))
 then (bif (decide
 (List.length (S.madeL nl (fun j => tl (j + al)) fun j => vl (j + al)) ≤ 1000000))
 then (bif (decide
 (0 + List.length (S.madeL nl (fun j => tl (j + al)) fun j => vl (j + al)) ≤
 List.length (S.madeL nl (fun j => tl (j + al)) fun j => vl (j + al)) ∧
 List.length (S.madeL nl (fun j => tl (j + al)) fun j => vl (j + al)) ≤ 1000000))
 then (bif (Prod.fst
 (c10_e_1 al nl tl vl) !=
 (0 : Int))
 then (some (.inr (false)))
 else (bif ((↑(c10_e_0 al nl tl vl) :
 Int) ==
 (0 : Int))
 then (some (.inr (false)))
 else (some (.inl (.h0 ((0 : Int)) (S.madeL nl (fun j => tl (j + al)) fun j => vl (j + al)) (S.mkl (List.length (S.madeL nl (fun j => tl (j + al)) fun j => vl (j + al)))
 fun (r : Nat) => decide ((↑r : Int) ≠ (-1 : Int))) (Prod.snd
 (c10_e_1 al nl tl vl)))))))
 else (none))
 else (none))
 else (none)))
noncomputable def Te10 (test : Bool → Prop → Prop → Prop) (Kst : KS) (Kret : KR) (al nl ml : Nat) (tl : Nat → Int) (vl : Nat → Int) (aw nw mw : Nat) (tw : Nat → Int) (vw : Nat → Int) : Prop :=
  test (true)
 (test (true)
 (test (decide ((↑nl : Int) > (8 : Int)))
 (test (true)
 (test (true)
 (Kret (PV.tf true) (c10_e_2 ml tl vl mw tw vw) (4))
 (Kret (PV.tf false) (c10_e_2 ml tl vl mw tw vw) (4)))
 (False))
 (test (decide ((↑nw : Int) > (60 : Int)))
 (test (true)
 (test (true)
 (Kret (PV.tf true) (c10_e_2 ml tl vl mw tw vw) (4))
 (Kret (PV.tf false) (c10_e_2 ml tl vl mw tw vw) (4)))
 (False))
 (test (decide
 ((al + nl ≤ ml ∧ nl ≤ 1000000) ∧
 ((0 : Int) ≤ (1 : Int) ∧ (1 : Int) ≤ (255 : Int)) ∧
 S.byB (fun j => tl (j + al)) nl = true ∧
 S.byB (fun j => vl (j + al)) nl = true))
 (test (decide
 (List.length (S.madeL nl (fun j => tl (j + al)) fun j => vl (j + al)) ≤ 1000000))
 (test (decide
 (0 + List.length (S.madeL nl (fun j => tl (j + al)) fun j => vl (j + al)) ≤
 List.length (S.madeL nl (fun j => tl (j + al)) fun j => vl (j + al)) ∧
 List.length (S.madeL nl (fun j => tl (j + al)) fun j => vl (j + al)) ≤ 1000000))
 (test (Prod.fst
 (c10_e_1 al nl tl vl) !=
 (0 : Int))
 (Kret (PV.tf false) (c10_e_2 ml tl vl mw tw vw) (11))
 (test ((↑(c10_e_0 al nl tl vl) :
 Int) ==
 (0 : Int))
 (Kret (PV.tf false) (c10_e_2 ml tl vl mw tw vw) (11))
 (Kst (hd Try.f10 0) ([PV.ptr (PA.mk (5) (0) (0) (0)),
 PV.ptr (PA.mk (8) (0) (0) (0)),
 PV.own (10) (3)
 (c10_e_0 al nl tl vl),
 PV.tf false, PV.loose (PA.mk (1) (2) aw (0)) nw,
 PV.int IntKind.i64 (↑nw : Int), PV.int IntKind.i64 (0 : Int)]) ([[(1, false, Blk.cols mw [Col.int IntKind.u8 tw, Col.int IntKind.u8 vw]),
 (0, false, Blk.cols ml [Col.int IntKind.u8 tl, Col.int IntKind.u8 vl]),
 (10, true,
 Blk.cols
 (List.length
 (Prod.snd
 (S.faiS (List.length (S.madeL nl (fun j => tl (j + al)) fun j => vl (j + al)))
 (S.netE (List.length (S.madeL nl (fun j => tl (j + al)) fun j => vl (j + al)))
 (fun j =>
 Prod.fst
 (S.at' (S.madeL nl (fun j => tl (j + al)) fun j => vl (j + al)) j))
 (fun j =>
 Prod.fst
 (Prod.snd
 (S.at' (S.madeL nl (fun j => tl (j + al)) fun j => vl (j + al)) j)))
 (fun j =>
 Prod.snd
 (Prod.snd
 (S.at' (S.madeL nl (fun j => tl (j + al)) fun j => vl (j + al)) j)))
 (1 : Int)))))
 [Col.int IntKind.i64 fun j =>
 Prod.fst
 (S.at'
 (Prod.snd
 (S.faiS
 (List.length (S.madeL nl (fun j => tl (j + al)) fun j => vl (j + al)))
 (S.netE
 (List.length (S.madeL nl (fun j => tl (j + al)) fun j => vl (j + al)))
 (fun j =>
 Prod.fst
 (S.at' (S.madeL nl (fun j => tl (j + al)) fun j => vl (j + al))
 j))
 (fun j =>
 Prod.fst
 (Prod.snd
 (S.at' (S.madeL nl (fun j => tl (j + al)) fun j => vl (j + al))
 j)))
 (fun j =>
 Prod.snd
 (Prod.snd
 (S.at' (S.madeL nl (fun j => tl (j + al)) fun j => vl (j + al))
 j)))
 (1 : Int))))
 j),
 Col.int IntKind.i64 fun j =>
 Prod.fst
 (Prod.snd
 (S.at'
 (Prod.snd
 (S.faiS
 (List.length (S.madeL nl (fun j => tl (j + al)) fun j => vl (j + al)))
 (S.netE
 (List.length (S.madeL nl (fun j => tl (j + al)) fun j => vl (j + al)))
 (fun j =>
 Prod.fst
 (S.at' (S.madeL nl (fun j => tl (j + al)) fun j => vl (j + al))
 j))
 (fun j =>
 Prod.fst
 (Prod.snd
 (S.at'
 (S.madeL nl (fun j => tl (j + al)) fun j => vl (j + al)) j)))
 (fun j =>
 Prod.snd
 (Prod.snd
 (S.at'
 (S.madeL nl (fun j => tl (j + al)) fun j => vl (j + al)) j)))
 (1 : Int))))
 j)),
 Col.int IntKind.i64 fun j =>
 Prod.snd
 (Prod.snd
 (S.at'
 (Prod.snd
 (S.faiS
 (List.length (S.madeL nl (fun j => tl (j + al)) fun j => vl (j + al)))
 (S.netE
 (List.length (S.madeL nl (fun j => tl (j + al)) fun j => vl (j + al)))
 (fun j =>
 Prod.fst
 (S.at' (S.madeL nl (fun j => tl (j + al)) fun j => vl (j + al))
 j))
 (fun j =>
 Prod.fst
 (Prod.snd
 (S.at'
 (S.madeL nl (fun j => tl (j + al)) fun j => vl (j + al)) j)))
 (fun j =>
 Prod.snd
 (Prod.snd
 (S.at'
 (S.madeL nl (fun j => tl (j + al)) fun j => vl (j + al)) j)))
 (1 : Int))))
 j))]),
 (8, true,
 Blk.cells
 [PV.loose (PA.mk (4) (3) (0) (0))
 (List.length (S.madeL nl (fun j => tl (j + al)) fun j => vl (j + al))),
 PV.int IntKind.i64 (1 : Int),
 PV.own (7) (1)
 (List.length
 (S.mkl (List.length (S.madeL nl (fun j => tl (j + al)) fun j => vl (j + al)))
 fun (r : Nat) => decide ((↑r : Int) ≠ (-1 : Int)))),
 PV.int IntKind.i64 (0 : Int), PV.int IntKind.i64 (0 : Int),
 PV.int IntKind.i64 (0 : Int), PV.tf false, PV.tf false]),
 (5, true,
 Blk.cells
 [PV.own (4) (3)
 (List.length (S.madeL nl (fun j => tl (j + al)) fun j => vl (j + al))),
 PV.int IntKind.i64 (1 : Int)]),
 (4, true,
 Blk.cols (List.length (S.madeL nl (fun j => tl (j + al)) fun j => vl (j + al)))
 [Col.str fun j =>
 (S.at' (S.madeL nl (fun j => tl (j + al)) fun j => vl (j + al)) j).1,
 Col.int IntKind.i64 fun j =>
 Prod.fst
 ((S.at' (S.madeL nl (fun j => tl (j + al)) fun j => vl (j + al)) j).2),
 Col.int IntKind.i64 fun j =>
 Prod.snd
 (Prod.snd
 (S.at' (S.madeL nl (fun j => tl (j + al)) fun j => vl (j + al)) j))]),
 (7, true,
 Blk.cols
 (List.length
 (S.mkl (List.length (S.madeL nl (fun j => tl (j + al)) fun j => vl (j + al)))
 fun (r : Nat) => decide ((↑r : Int) ≠ (-1 : Int))))
 [Col.bool fun j =>
 S.at'
 (S.mkl (List.length (S.madeL nl (fun j => tl (j + al)) fun j => vl (j + al)))
 fun (r : Nat) => decide ((↑r : Int) ≠ (-1 : Int)))
 j])]]) (11))))
 (False))
 (False))
 (False))))
 (test (true)
 (test (true)
 (Kret (PV.tf true) (c10_e_2 ml tl vl mw tw vw) (4))
 (Kret (PV.tf false) (c10_e_2 ml tl vl mw tw vw) (4)))
 (False)))
 (False)
theorem te10 (test : Bool → Prop → Prop → Prop) (Kst : KS) (Kret : KR) (al nl ml : Nat) (tl : Nat → Int) (vl : Nat → Int) (aw nw mw : Nat) (tw : Nat → Int) (vw : Nat → Int) : run test Try.env true (xLA test) true 400 ⟨10, [.cd (mkFn Try.f10).body], argT 0 [.loose ⟨0, 2, al, 0⟩ nl, .loose ⟨1, 2, aw, 0⟩ nw], [[], [(0, (false, .cols ml [.int .u8 tl, .int .u8 vl])), (1, (false, .cols mw [.int .u8 tw, .int .u8 vw]))]], 2⟩ (proj 2 [5, 6, 7, 9, 44, 45, 46] Kst Kret) =
  Te10 test Kst Kret al nl ml tl vl aw nw mw tw vw := by kernel_rfl
noncomputable def T10_0 (test : Bool → Prop → Prop → Prop) (Kst : KS) (Kret : KR) (al nl ml : Nat) (tl : Nat → Int) (vl : Nat → Int) (aw nw mw : Nat) (tw : Nat → Int) (vw : Nat → Int) (x0 : Int) (x1 : List (ByteArray × Int × Int)) (x2 : List Bool) (x3 : List (Int × Int × Int)) : Prop :=
  test (decide (x0 < (↑nw : Int)))
 (test (decide ((0 : Int) ≤ x0 ∧ x0 < (↑nw : Int)))
 (test (decide (Int.toNat x0 + aw < mw))
 (test (decide (Int.toNat x0 + aw < mw))
 (test (true)
 (test (false)
 (False)
 (test (lim IntKind.i64 (Int.tmod (tw (Int.toNat x0 + aw)) (5 : Int)))
 (test (lim IntKind.i64 ((1 : Int) + Int.tmod (tw (Int.toNat x0 + aw)) (5 : Int)))
 (test (true)
 (test (lim IntKind.i64 (vw (Int.toNat x0 + aw)))
 (test (decide ((↑(List.length x1) : Int) = (0 : Int)))
 (False)
 (test ((1 : Int) + Int.tmod (tw (Int.toNat x0 + aw)) (5 : Int) == (3 : Int))
 (test (true)
 (test (lim IntKind.i64 (vw (Int.toNat x0 + aw)))
 (test (decide ((↑(List.length x3) : Int) = (0 : Int)))
 (False)
 (test (decide
 ((0 : Int) ≤ Int.tmod (vw (Int.toNat x0 + aw)) (↑(List.length x3) : Int) ∧
 Int.tmod (vw (Int.toNat x0 + aw)) (↑(List.length x3) : Int) < (↑(List.length x3) : Int)))
 (test (decide (Int.toNat (Int.tmod (vw (Int.toNat x0 + aw)) (↑(List.length x3) : Int)) < List.length x3))
 (test (decide (Int.toNat (Int.tmod (vw (Int.toNat x0 + aw)) (↑(List.length x3) : Int)) < List.length x3))
 (test (decide (Int.toNat (Int.tmod (vw (Int.toNat x0 + aw)) (↑(List.length x3) : Int)) < List.length x3))
 (test (c10_0_28 al nl tl vl x1 x2)
 (test (Prod.fst
 (c10_0_8 al nl tl vl aw tw vw x0 x1 x2 x3) !=
 (0 : Int))
 (test (Prod.fst
 (c10_0_8 al nl tl vl aw tw vw x0 x1 x2 x3) !=
 (8 : Int))
 (Kret (PV.tf false) (c10_0_26 ml tl vl mw tw vw) (13))
 (test ((1 : Int) + Int.tmod (tw (Int.toNat x0 + aw)) (5 : Int) != (5 : Int))
 (Kret (PV.tf false) (c10_0_26 ml tl vl mw tw vw) (13))
 (test (lim IntKind.i64 (x0 + (1 : Int)))
 (Kst (hd Try.f10 0) ([PV.ptr (PA.mk (2) (0) (0) (0)),
 PV.ptr (PA.mk (4) (0) (0) (0)),
 PV.own (6) (3) (List.length x3), PV.tf false,
 PV.loose (PA.mk (1) (2) aw (0)) nw, PV.int IntKind.i64 (↑nw : Int),
 PV.int IntKind.i64 (x0 + (1 : Int))]) (c10_0_25 al nl ml tl vl mw tw vw x1 x2 x3) (13))
 (False))))
 (test ((↑(List.length
 (Prod.snd
 (Prod.snd
 (Prod.snd
 (c10_0_1 al nl tl vl aw tw vw x0 x1 x2 x3))))) :
 Int) !=
 (↑(List.length x1) : Int))
 (Kret (PV.tf false) (c10_0_26 ml tl vl mw tw vw) (13))
 (test (c10_0_24 al nl tl vl aw tw vw x0 x1 x2 x3)
 (test (S.any
 (fun j =>
 S.at'
 (Prod.snd
 (Prod.snd
 (Prod.snd
 (c10_0_1 al nl tl vl aw tw vw x0 x1 x2 x3))))
 j ==
 false)
 (List.length
 (Prod.snd
 (Prod.snd
 (Prod.snd
 (Prod.snd
 (Prod.snd
 (Prod.snd
 (c10_0_6 al nl tl vl aw tw vw x0 x1 x2 x3)))))))))
 (test (c10_0_21 al nl tl vl aw tw vw x0 x1 x2 x3)
 (test (lim IntKind.i64 (x0 + (1 : Int)))
 (Kst (hd Try.f10 0) ([PV.ptr (PA.mk (2) (0) (0) (0)),
 PV.ptr (PA.mk (4) (0) (0) (0)),
 PV.own (6) (3) (List.length x3), PV.tf true,
 PV.loose (PA.mk (1) (2) aw (0)) nw, PV.int IntKind.i64 (↑nw : Int),
 PV.int IntKind.i64 (x0 + (1 : Int))]) (c10_0_16 al nl ml tl vl aw mw tw vw x0 x1 x2 x3) (14))
 (False))
 (test (c10_0_14 al nl tl vl aw tw vw x0 x1 x2 x3)
 (test (lim IntKind.i64 (x0 + (1 : Int)))
 (Kst (hd Try.f10 0) ([PV.ptr (PA.mk (2) (0) (0) (0)),
 PV.ptr (PA.mk (4) (0) (0) (0)),
 PV.own (6) (3) (List.length x3), PV.tf true,
 PV.loose (PA.mk (1) (2) aw (0)) nw, PV.int IntKind.i64 (↑nw : Int),
 PV.int IntKind.i64 (x0 + (1 : Int))]) (c10_0_16 al nl ml tl vl aw mw tw vw x0 x1 x2 x3) (14))
 (False))
 (Kret (PV.tf false) (c10_0_26 ml tl vl mw tw vw) (14))))
 (test (lim IntKind.i64 (x0 + (1 : Int)))
 (Kst (hd Try.f10 0) ([PV.ptr (PA.mk (2) (0) (0) (0)),
 PV.ptr (PA.mk (4) (0) (0) (0)),
 PV.own (6) (3) (List.length x3), PV.tf false,
 PV.loose (PA.mk (1) (2) aw (0)) nw, PV.int IntKind.i64 (↑nw : Int),
 PV.int IntKind.i64 (x0 + (1 : Int))]) (c10_0_16 al nl ml tl vl aw mw tw vw x0 x1 x2 x3) (14))
 (False)))
 (False))))
 (False))
 (False))
 (False))
 (False))
 (False)))
 (False))
 (False))
 (test (c10_0_28 al nl tl vl x1 x2)
 (test (Prod.fst
 (Prod.snd
 (Prod.snd
 (Prod.snd
 (Prod.snd
 (Prod.snd
 (c10_0_5 al nl tl vl aw tw vw x0 x1 x2)))))) !=
 (0 : Int))
 (test (Prod.fst
 (Prod.snd
 (Prod.snd
 (Prod.snd
 (Prod.snd
 (Prod.snd
 (c10_0_5 al nl tl vl aw tw vw x0 x1 x2)))))) !=
 (8 : Int))
 (Kret (PV.tf false) (c10_0_26 ml tl vl mw tw vw) (13))
 (test ((1 : Int) + Int.tmod (tw (Int.toNat x0 + aw)) (5 : Int) != (5 : Int))
 (Kret (PV.tf false) (c10_0_26 ml tl vl mw tw vw) (13))
 (test (lim IntKind.i64 (x0 + (1 : Int)))
 (Kst (hd Try.f10 0) ([PV.ptr (PA.mk (2) (0) (0) (0)),
 PV.ptr (PA.mk (4) (0) (0) (0)),
 PV.own (6) (3) (List.length x3), PV.tf false,
 PV.loose (PA.mk (1) (2) aw (0)) nw, PV.int IntKind.i64 (↑nw : Int),
 PV.int IntKind.i64 (x0 + (1 : Int))]) (c10_0_25 al nl ml tl vl mw tw vw x1 x2 x3) (13))
 (False))))
 (test ((↑(List.length
 (Prod.snd
 (Prod.snd
 (Prod.snd
 (c10_0_4 al nl tl vl aw tw vw x0 x1 x2))))) :
 Int) !=
 (↑(List.length x1) : Int))
 (Kret (PV.tf false) (c10_0_26 ml tl vl mw tw vw) (13))
 (test (decide
 (0 +
 List.length
 (Prod.snd
 (c10_0_9 al nl tl vl aw tw vw x0 x1 x2)) ≤
 List.length
 (Prod.snd
 (Prod.snd
 (Prod.snd
 (c10_0_4 al nl tl vl aw tw vw x0 x1 x2)))) ∧
 List.length
 (Prod.snd
 (Prod.snd
 (Prod.snd
 (c10_0_4 al nl tl vl aw tw vw x0 x1 x2)))) ≤
 1000000))
 (test (c10_0_27 al nl tl vl aw tw vw x0 x1 x2)
 (test (Prod.fst
 (Prod.snd
 (c10_0_19 al nl tl vl aw tw vw x0 x1 x2)))
 (test (lim IntKind.i64 (x0 + (1 : Int)))
 (Kst (hd Try.f10 0) ([PV.ptr (PA.mk (2) (0) (0) (0)),
 PV.ptr (PA.mk (4) (0) (0) (0)),
 PV.own (6) (3) (List.length x3), PV.tf true,
 PV.loose (PA.mk (1) (2) aw (0)) nw, PV.int IntKind.i64 (↑nw : Int),
 PV.int IntKind.i64 (x0 + (1 : Int))]) (c10_0_13 al nl ml tl vl aw mw tw vw x0 x1 x2 x3) (14))
 (False))
 (test (c10_0_18 al nl tl vl aw tw vw x0 x1 x2)
 (test (lim IntKind.i64 (x0 + (1 : Int)))
 (Kst (hd Try.f10 0) ([PV.ptr (PA.mk (2) (0) (0) (0)),
 PV.ptr (PA.mk (4) (0) (0) (0)),
 PV.own (6) (3) (List.length x3), PV.tf true,
 PV.loose (PA.mk (1) (2) aw (0)) nw, PV.int IntKind.i64 (↑nw : Int),
 PV.int IntKind.i64 (x0 + (1 : Int))]) (c10_0_13 al nl ml tl vl aw mw tw vw x0 x1 x2 x3) (14))
 (False))
 (Kret (PV.tf false) (c10_0_26 ml tl vl mw tw vw) (14))))
 (test (lim IntKind.i64 (x0 + (1 : Int)))
 (Kst (hd Try.f10 0) ([PV.ptr (PA.mk (2) (0) (0) (0)),
 PV.ptr (PA.mk (4) (0) (0) (0)),
 PV.own (6) (3) (List.length x3), PV.tf false,
 PV.loose (PA.mk (1) (2) aw (0)) nw, PV.int IntKind.i64 (↑nw : Int),
 PV.int IntKind.i64 (x0 + (1 : Int))]) (c10_0_13 al nl ml tl vl aw mw tw vw x0 x1 x2 x3) (14))
 (False)))
 (False))))
 (False))))
 (False))
 (False))
 (False))
 (False)))
 (False))
 (False))
 (False))
 (False))
 (Kret (PV.tf true) (c10_0_26 ml tl vl mw tw vw) (7))
theorem t10_0 (test : Bool → Prop → Prop → Prop) (Kst : KS) (Kret : KR) (al nl ml : Nat) (tl : Nat → Int) (vl : Nat → Int) (aw nw mw : Nat) (tw : Nat → Int) (vw : Nat → Int) (x0 : Int) (x1 : List (ByteArray × Int × Int)) (x2 : List Bool) (x3 : List (Int × Int × Int)) : run test Try.env true (xLA test) true 400 ⟨10, hd Try.f10 0, zipT [5, 6, 7, 9, 44, 45, 46] [PV.ptr (PA.mk (2) (0) (0) (0)),
 PV.ptr (PA.mk (4) (0) (0) (0)),
 PV.own (6) (3) (List.length x3), PV.tf false,
 PV.loose (PA.mk (1) (2) aw (0)) nw, PV.int IntKind.i64 (↑nw : Int),
 PV.int IntKind.i64 x0], [[(2, (true, Blk.cells [PV.own (3) (3) (List.length x1), PV.int IntKind.i64 (1 : Int)])), (3, (true, Blk.cols (List.length x1)
 [Col.str fun j => (S.at' x1 j).1,
 Col.int IntKind.i64 fun j => (S.at' x1 j).2.1,
 Col.int IntKind.i64 fun j => (S.at' x1 j).2.2])), (4, (true, Blk.cells
 [PV.loose (PA.mk (3) (3) (0) (0))
 (List.length (S.madeL nl (fun j => tl (j + al)) fun j => vl (j + al))),
 PV.int IntKind.i64 (1 : Int), PV.own (5) (1) (List.length x2),
 PV.int IntKind.i64 (0 : Int), PV.int IntKind.i64 (0 : Int), PV.int IntKind.i64 (0 : Int),
 PV.tf false, PV.tf false])), (5, (true, Blk.cols (List.length x2) [Col.bool fun j => S.at' x2 j])), (6, (true, Blk.cols (List.length x3)
 [Col.int IntKind.i64 fun j => (S.at' x3 j).1,
 Col.int IntKind.i64 fun j => (S.at' x3 j).2.1,
 Col.int IntKind.i64 fun j => (S.at' x3 j).2.2]))], [(0, (false, .cols ml [.int .u8 tl, .int .u8 vl])), (1, (false, .cols mw [.int .u8 tw, .int .u8 vw]))]], 7⟩ (proj 2 [5, 6, 7, 9, 44, 45, 46] Kst Kret) =
  T10_0 test Kst Kret al nl ml tl vl aw nw mw tw vw x0 x1 x2 x3 := by kernel_rfl
noncomputable def T10_1 (test : Bool → Prop → Prop → Prop) (Kst : KS) (Kret : KR) (al nl ml : Nat) (tl : Nat → Int) (vl : Nat → Int) (aw nw mw : Nat) (tw : Nat → Int) (vw : Nat → Int) (x0 : Bool) (x1 : Int) (x2 : List (ByteArray × Int × Int)) (x3 : Int) (x4 : Int) (x5 : Int) (x6 : Int) (x7 : Bool) (x8 : Bool) (x9 : List (ByteArray × Int × Int)) (x10 : List Bool) (x11 : List (Int × Int × Int)) : Prop :=
  test (decide (x1 < (↑nw : Int)))
 (test (decide ((0 : Int) ≤ x1 ∧ x1 < (↑nw : Int)))
 (test (decide (Int.toNat x1 + aw < mw))
 (test (decide (Int.toNat x1 + aw < mw))
 (test (true)
 (test (false)
 (False)
 (test (lim IntKind.i64 (Int.tmod (tw (Int.toNat x1 + aw)) (5 : Int)))
 (test (lim IntKind.i64 ((1 : Int) + Int.tmod (tw (Int.toNat x1 + aw)) (5 : Int)))
 (test (true)
 (test (lim IntKind.i64 (vw (Int.toNat x1 + aw)))
 (test (decide ((↑(List.length x2) : Int) = (0 : Int)))
 (False)
 (test ((1 : Int) + Int.tmod (tw (Int.toNat x1 + aw)) (5 : Int) == (3 : Int))
 (test (true)
 (test (lim IntKind.i64 (vw (Int.toNat x1 + aw)))
 (test (decide ((↑(List.length x11) : Int) = (0 : Int)))
 (False)
 (test (decide
 ((0 : Int) ≤ Int.tmod (vw (Int.toNat x1 + aw)) (↑(List.length x11) : Int) ∧
 Int.tmod (vw (Int.toNat x1 + aw)) (↑(List.length x11) : Int) < (↑(List.length x11) : Int)))
 (test (decide (Int.toNat (Int.tmod (vw (Int.toNat x1 + aw)) (↑(List.length x11) : Int)) < List.length x11))
 (test (decide (Int.toNat (Int.tmod (vw (Int.toNat x1 + aw)) (↑(List.length x11) : Int)) < List.length x11))
 (test (decide (Int.toNat (Int.tmod (vw (Int.toNat x1 + aw)) (↑(List.length x11) : Int)) < List.length x11))
 (test (decide
 (0 + List.length x9 ≤ List.length x9 ∧
 List.length x9 ≤ 1000000 ∧
 0 + List.length x10 ≤ List.length x10 ∧ List.length x10 ≤ 1000000))
 (test (Prod.fst
 (c10_1_20 aw tw vw x1 x2 x3 x4 x5 x6 x7 x8 x9 x10 x11) !=
 (0 : Int))
 (test (Prod.fst
 (c10_1_20 aw tw vw x1 x2 x3 x4 x5 x6 x7 x8 x9 x10 x11) !=
 (8 : Int))
 (Kret (PV.tf false) (c10_1_18 ml tl vl mw tw vw) (14))
 (test ((1 : Int) + Int.tmod (tw (Int.toNat x1 + aw)) (5 : Int) != (5 : Int))
 (Kret (PV.tf false) (c10_1_18 ml tl vl mw tw vw) (14))
 (test (lim IntKind.i64 (x1 + (1 : Int)))
 (Kst (hd Try.f10 0) ([PV.ptr (PA.mk (2) (0) (0) (0)),
 PV.ptr (PA.mk (4) (0) (0) (0)),
 PV.own (7) (3) (List.length x11), PV.bool x0,
 PV.loose (PA.mk (1) (2) aw (0)) nw, PV.int IntKind.i64 (↑nw : Int),
 PV.int IntKind.i64 (x1 + (1 : Int))]) (c10_1_19 ml tl vl mw tw vw x2 x3 x4 x5 x6 x7 x8 x9 x10 x11) (14))
 (False))))
 (test ((↑(List.length
 (Prod.snd
 (c10_1_1 aw tw vw x1 x2 x3 x4 x5 x6 x7 x8 x9 x10 x11))) :
 Int) !=
 (↑(List.length x2) : Int))
 (Kret (PV.tf false) (c10_1_18 ml tl vl mw tw vw) (14))
 (test (decide
 (0 +
 List.length
 (Prod.snd
 (c10_1_1 aw tw vw x1 x2 x3 x4 x5 x6 x7 x8 x9 x10 x11)) ≤
 List.length
 (c10_1_10 aw tw vw x1 x2 x3 x4 x5 x6 x7 x8 x9 x10 x11) ∧
 List.length
 (c10_1_10 aw tw vw x1 x2 x3 x4 x5 x6 x7 x8 x9 x10 x11) ≤
 1000000))
 (test (S.any
 (fun j =>
 S.at'
 (c10_1_10 aw tw vw x1 x2 x3 x4 x5 x6 x7 x8 x9 x10 x11)
 j ==
 false)
 (List.length
 (Prod.snd
 (Prod.snd
 (c10_1_20 aw tw vw x1 x2 x3 x4 x5 x6 x7 x8 x9 x10 x11)))))
 (test (Prod.fst
 (c10_1_6 aw tw vw x1 x2 x3 x4 x5 x6 x7 x8 x9 x10 x11))
 (test (lim IntKind.i64 (x1 + (1 : Int)))
 (Kst (hd Try.f10 0) (c10_1_17 aw nw x1 x11) (c10_1_8 ml tl vl aw mw tw vw x1 x2 x3 x4 x5 x6 x7 x8 x9 x10 x11) (15))
 (False))
 (test (Prod.fst
 (Prod.snd
 (c10_1_6 aw tw vw x1 x2 x3 x4 x5 x6 x7 x8 x9 x10 x11)))
 (test (lim IntKind.i64 (x1 + (1 : Int)))
 (Kst (hd Try.f10 0) (c10_1_17 aw nw x1 x11) (c10_1_8 ml tl vl aw mw tw vw x1 x2 x3 x4 x5 x6 x7 x8 x9 x10 x11) (15))
 (False))
 (Kret (PV.tf false) (c10_1_18 ml tl vl mw tw vw) (15))))
 (test (x0)
 (test ((1 : Int) + Int.tmod (tw (Int.toNat x1 + aw)) (5 : Int) != (5 : Int))
 (test (Prod.fst
 (c10_1_6 aw tw vw x1 x2 x3 x4 x5 x6 x7 x8 x9 x10 x11))
 (test (lim IntKind.i64 (x1 + (1 : Int)))
 (Kst (hd Try.f10 0) (c10_1_17 aw nw x1 x11) (c10_1_8 ml tl vl aw mw tw vw x1 x2 x3 x4 x5 x6 x7 x8 x9 x10 x11) (15))
 (False))
 (test (Prod.fst
 (Prod.snd
 (c10_1_6 aw tw vw x1 x2 x3 x4 x5 x6 x7 x8 x9 x10 x11)))
 (test (lim IntKind.i64 (x1 + (1 : Int)))
 (Kst (hd Try.f10 0) (c10_1_17 aw nw x1 x11) (c10_1_8 ml tl vl aw mw tw vw x1 x2 x3 x4 x5 x6 x7 x8 x9 x10 x11) (15))
 (False))
 (Kret (PV.tf false) (c10_1_18 ml tl vl mw tw vw) (15))))
 (test (lim IntKind.i64 (x1 + (1 : Int)))
 (Kst (hd Try.f10 0) ([PV.ptr (PA.mk (2) (0) (0) (0)),
 PV.ptr (PA.mk (4) (0) (0) (0)),
 PV.own (7) (3) (List.length x11), PV.tf false,
 PV.loose (PA.mk (1) (2) aw (0)) nw, PV.int IntKind.i64 (↑nw : Int),
 PV.int IntKind.i64 (x1 + (1 : Int))]) (c10_1_8 ml tl vl aw mw tw vw x1 x2 x3 x4 x5 x6 x7 x8 x9 x10 x11) (15))
 (False)))
 (test (lim IntKind.i64 (x1 + (1 : Int)))
 (Kst (hd Try.f10 0) ([PV.ptr (PA.mk (2) (0) (0) (0)),
 PV.ptr (PA.mk (4) (0) (0) (0)),
 PV.own (7) (3) (List.length x11), PV.tf false,
 PV.loose (PA.mk (1) (2) aw (0)) nw, PV.int IntKind.i64 (↑nw : Int),
 PV.int IntKind.i64 (x1 + (1 : Int))]) (c10_1_8 ml tl vl aw mw tw vw x1 x2 x3 x4 x5 x6 x7 x8 x9 x10 x11) (15))
 (False))))
 (False))))
 (False))
 (False))
 (False))
 (False))
 (False)))
 (False))
 (False))
 (test (decide
 (0 + List.length x9 ≤ List.length x9 ∧
 List.length x9 ≤ 1000000 ∧
 0 + List.length x10 ≤ List.length x10 ∧ List.length x10 ≤ 1000000))
 (test (Prod.fst
 (Prod.snd
 (Prod.snd
 (c10_1_15 aw tw vw x1 x2 x3 x4 x5 x6 x7 x8 x9 x10))) !=
 (0 : Int))
 (test (Prod.fst
 (Prod.snd
 (Prod.snd
 (c10_1_15 aw tw vw x1 x2 x3 x4 x5 x6 x7 x8 x9 x10))) !=
 (8 : Int))
 (Kret (PV.tf false) (c10_1_18 ml tl vl mw tw vw) (14))
 (test ((1 : Int) + Int.tmod (tw (Int.toNat x1 + aw)) (5 : Int) != (5 : Int))
 (Kret (PV.tf false) (c10_1_18 ml tl vl mw tw vw) (14))
 (test (lim IntKind.i64 (x1 + (1 : Int)))
 (Kst (hd Try.f10 0) ([PV.ptr (PA.mk (2) (0) (0) (0)),
 PV.ptr (PA.mk (4) (0) (0) (0)),
 PV.own (7) (3) (List.length x11), PV.bool x0,
 PV.loose (PA.mk (1) (2) aw (0)) nw, PV.int IntKind.i64 (↑nw : Int),
 PV.int IntKind.i64 (x1 + (1 : Int))]) (c10_1_19 ml tl vl mw tw vw x2 x3 x4 x5 x6 x7 x8 x9 x10 x11) (14))
 (False))))
 (test ((↑(List.length
 (c10_1_21 aw tw vw x1 x2 x3 x4 x5 x6 x7 x8 x9 x10)) :
 Int) !=
 (↑(List.length x2) : Int))
 (Kret (PV.tf false) (c10_1_18 ml tl vl mw tw vw) (14))
 (test (decide
 (0 +
 List.length
 (c10_1_21 aw tw vw x1 x2 x3 x4 x5 x6 x7 x8 x9 x10) ≤
 List.length
 (c10_1_21 aw tw vw x1 x2 x3 x4 x5 x6 x7 x8 x9 x10) ∧
 List.length
 (c10_1_21 aw tw vw x1 x2 x3 x4 x5 x6 x7 x8 x9 x10) ≤
 1000000))
 (test (S.any
 (fun j =>
 S.at'
 (c10_1_21 aw tw vw x1 x2 x3 x4 x5 x6 x7 x8 x9 x10)
 j ==
 false)
 (List.length
 (c10_1_21 aw tw vw x1 x2 x3 x4 x5 x6 x7 x8 x9 x10)))
 (test (Prod.fst
 (c10_1_15 aw tw vw x1 x2 x3 x4 x5 x6 x7 x8 x9 x10))
 (test (lim IntKind.i64 (x1 + (1 : Int)))
 (Kst (hd Try.f10 0) (c10_1_17 aw nw x1 x11) (c10_1_7 ml tl vl aw mw tw vw x1 x2 x3 x4 x5 x6 x7 x8 x9 x10 x11) (15))
 (False))
 (test (Prod.fst
 (Prod.snd
 (c10_1_15 aw tw vw x1 x2 x3 x4 x5 x6 x7 x8 x9 x10)))
 (test (lim IntKind.i64 (x1 + (1 : Int)))
 (Kst (hd Try.f10 0) (c10_1_17 aw nw x1 x11) (c10_1_7 ml tl vl aw mw tw vw x1 x2 x3 x4 x5 x6 x7 x8 x9 x10 x11) (15))
 (False))
 (Kret (PV.tf false) (c10_1_18 ml tl vl mw tw vw) (15))))
 (test (x0)
 (test ((1 : Int) + Int.tmod (tw (Int.toNat x1 + aw)) (5 : Int) != (5 : Int))
 (test (Prod.fst
 (c10_1_15 aw tw vw x1 x2 x3 x4 x5 x6 x7 x8 x9 x10))
 (test (lim IntKind.i64 (x1 + (1 : Int)))
 (Kst (hd Try.f10 0) (c10_1_17 aw nw x1 x11) (c10_1_7 ml tl vl aw mw tw vw x1 x2 x3 x4 x5 x6 x7 x8 x9 x10 x11) (15))
 (False))
 (test (Prod.fst
 (Prod.snd
 (c10_1_15 aw tw vw x1 x2 x3 x4 x5 x6 x7 x8 x9 x10)))
 (test (lim IntKind.i64 (x1 + (1 : Int)))
 (Kst (hd Try.f10 0) (c10_1_17 aw nw x1 x11) (c10_1_7 ml tl vl aw mw tw vw x1 x2 x3 x4 x5 x6 x7 x8 x9 x10 x11) (15))
 (False))
 (Kret (PV.tf false) (c10_1_18 ml tl vl mw tw vw) (15))))
 (test (lim IntKind.i64 (x1 + (1 : Int)))
 (Kst (hd Try.f10 0) ([PV.ptr (PA.mk (2) (0) (0) (0)),
 PV.ptr (PA.mk (4) (0) (0) (0)),
 PV.own (7) (3) (List.length x11), PV.tf false,
 PV.loose (PA.mk (1) (2) aw (0)) nw, PV.int IntKind.i64 (↑nw : Int),
 PV.int IntKind.i64 (x1 + (1 : Int))]) (c10_1_7 ml tl vl aw mw tw vw x1 x2 x3 x4 x5 x6 x7 x8 x9 x10 x11) (15))
 (False)))
 (test (lim IntKind.i64 (x1 + (1 : Int)))
 (Kst (hd Try.f10 0) ([PV.ptr (PA.mk (2) (0) (0) (0)),
 PV.ptr (PA.mk (4) (0) (0) (0)),
 PV.own (7) (3) (List.length x11), PV.tf false,
 PV.loose (PA.mk (1) (2) aw (0)) nw, PV.int IntKind.i64 (↑nw : Int),
 PV.int IntKind.i64 (x1 + (1 : Int))]) (c10_1_7 ml tl vl aw mw tw vw x1 x2 x3 x4 x5 x6 x7 x8 x9 x10 x11) (15))
 (False))))
 (False))))
 (False))))
 (False))
 (False))
 (False))
 (False)))
 (False))
 (False))
 (False))
 (False))
 (Kret (PV.tf true) (c10_1_18 ml tl vl mw tw vw) (8))
theorem t10_1 (test : Bool → Prop → Prop → Prop) (Kst : KS) (Kret : KR) (al nl ml : Nat) (tl : Nat → Int) (vl : Nat → Int) (aw nw mw : Nat) (tw : Nat → Int) (vw : Nat → Int) (x0 : Bool) (x1 : Int) (x2 : List (ByteArray × Int × Int)) (x3 : Int) (x4 : Int) (x5 : Int) (x6 : Int) (x7 : Bool) (x8 : Bool) (x9 : List (ByteArray × Int × Int)) (x10 : List Bool) (x11 : List (Int × Int × Int)) : run test Try.env true (xLA test) true 400 ⟨10, hd Try.f10 0, zipT [5, 6, 7, 9, 44, 45, 46] [PV.ptr (PA.mk (2) (0) (0) (0)),
 PV.ptr (PA.mk (4) (0) (0) (0)),
 PV.own (7) (3) (List.length x11), PV.bool x0,
 PV.loose (PA.mk (1) (2) aw (0)) nw, PV.int IntKind.i64 (↑nw : Int),
 PV.int IntKind.i64 x1], [[(2, (true, Blk.cells [PV.own (3) (3) (List.length x2), PV.int IntKind.i64 (1 : Int)])), (3, (true, Blk.cols (List.length x2)
 [Col.str fun j => (S.at' x2 j).1,
 Col.int IntKind.i64 fun j => (S.at' x2 j).2.1,
 Col.int IntKind.i64 fun j => (S.at' x2 j).2.2])), (4, (true, Blk.cells
 [PV.own (5) (3) (List.length x9), PV.int IntKind.i64 x3,
 PV.own (6) (1) (List.length x10), PV.int IntKind.i64 x4,
 PV.int IntKind.i64 x5, PV.int IntKind.i64 x6, PV.bool x7, PV.bool x8])), (5, (true, Blk.cols (List.length x9)
 [Col.str fun j => (S.at' x9 j).1,
 Col.int IntKind.i64 fun j => (S.at' x9 j).2.1,
 Col.int IntKind.i64 fun j => (S.at' x9 j).2.2])), (6, (true, Blk.cols (List.length x10) [Col.bool fun j => S.at' x10 j])), (7, (true, Blk.cols (List.length x11)
 [Col.int IntKind.i64 fun j => (S.at' x11 j).1,
 Col.int IntKind.i64 fun j => (S.at' x11 j).2.1,
 Col.int IntKind.i64 fun j => (S.at' x11 j).2.2]))], [(0, (false, .cols ml [.int .u8 tl, .int .u8 vl])), (1, (false, .cols mw [.int .u8 tw, .int .u8 vw]))]], 8⟩ (proj 2 [5, 6, 7, 9, 44, 45, 46] Kst Kret) =
  T10_1 test Kst Kret al nl ml tl vl aw nw mw tw vw x0 x1 x2 x3 x4 x5 x6 x7 x8 x9 x10 x11 := by kernel_rfl
theorem be10 (al nl ml : Nat) (tl : Nat → Int) (vl : Nat → Int) (aw nw mw : Nat) (tw : Nat → Int) (vw : Nat → Int) (Kst : KS) (Kret : KR) (x : St10 ⊕ Rt10) (hS : HS 2 400 ((I10 al nl ml tl vl aw nw mw tw vw)) Kst x) (hR : HR 2 400 ((V10 al nl ml tl vl aw nw mw tw vw)) (fun r => [newL (2 + 1) ((N10 al nl ml tl vl aw nw mw tw vw) r) ++ [(0, (false, .cols ml [.int .u8 tl, .int .u8 vl])), (1, (false, .cols mw [.int .u8 tw, .int .u8 vw]))]]) Kret x) (h : (bif (decide ((↑nl : Int) > (8 : Int)))
 then (some (.inr (true)))
 else (bif (decide ((↑nw : Int) > (60 : Int)))
 then (some (.inr (true)))
 else (bif (decide
 ((al + nl ≤ ml ∧ nl ≤ 1000000) ∧
 ((0 : Int) ≤ (1 : Int) ∧ (1 : Int) ≤ (255 : Int)) ∧
 S.byB (fun j => tl (j + al)) nl = true ∧
 S.byB (fun j => vl (j + al)) nl = true))
 then (bif (decide
 (List.length (S.madeL nl (fun j => tl (j + al)) fun j => vl (j + al)) ≤ 1000000))
 then (bif (decide
 (0 + List.length (S.madeL nl (fun j => tl (j + al)) fun j => vl (j + al)) ≤
 List.length (S.madeL nl (fun j => tl (j + al)) fun j => vl (j + al)) ∧
 List.length (S.madeL nl (fun j => tl (j + al)) fun j => vl (j + al)) ≤ 1000000))
 then (bif (Prod.fst
 (c10_e_1 al nl tl vl) !=
 (0 : Int))
 then (some (.inr (false)))
 else (bif ((↑(c10_e_0 al nl tl vl) :
 Int) ==
 (0 : Int))
 then (some (.inr (false)))
 else (some (.inl (.h0 ((0 : Int)) (S.madeL nl (fun j => tl (j + al)) fun j => vl (j + al)) (S.mkl (List.length (S.madeL nl (fun j => tl (j + al)) fun j => vl (j + al)))
 fun (r : Nat) => decide ((↑r : Int) ≠ (-1 : Int))) (Prod.snd
 (c10_e_1 al nl tl vl)))))))
 else (none))
 else (none))
 else (none))) : Option (St10 ⊕ Rt10)) = some x) : Te10 cond Kst Kret al nl ml tl vl aw nw mw tw vw := by
  unfold Te10
  exact cond_yes rfl (cond_yes rfl (bif_split h
   (fun c0 h => cond_yes rfl (cond_yes rfl (ret_at hR _ h (fun n => n) rfl rfl rfl (rn_bool_tf rfl) rfl (entl_bor (use_lo rfl) rfl rfl (entl_bor (use_lo rfl) rfl rfl entl_nil)))))
   (fun c0 h => bif_split h
   (fun c1 h => cond_yes rfl (cond_yes rfl (ret_at hR _ h (fun n => n) rfl rfl rfl (rn_bool_tf rfl) rfl (entl_bor (use_lo rfl) rfl rfl (entl_bor (use_lo rfl) rfl rfl entl_nil)))))
   (fun c1 h => bif_split h
   (fun c2 h => bif_split h
   (fun c3 h => bif_split h
   (fun c4 h => bif_split h
   (fun c5 h => ret_at hR _ h (fun n => n) rfl rfl rfl (rn_bool_tf rfl) rfl (entl_bor (use_lo rfl) rfl rfl (entl_bor (use_lo rfl) rfl rfl entl_nil)))
   (fun c5 h => bif_split h
   (fun c6 h => ret_at hR _ h (fun n => n) rfl rfl rfl (rn_bool_tf rfl) rfl (entl_bor (use_lo rfl) rfl rfl (entl_bor (use_lo rfl) rfl rfl entl_nil)))
   (fun c6 h => stop_at hS _ h (fun n => bif Nat.beq n 2 then 5 else bif Nat.beq n 3 then 4 else bif Nat.beq n 4 then 8 else bif Nat.beq n 5 then 7 else bif Nat.beq n 6 then 10 else n) rfl rfl rfl ⟨(rn_ptr (use_own rfl) rfl rfl), ⟨(rn_ptr (use_own rfl) rfl rfl), ⟨(rn_own (use_own rfl) rfl rfl), ⟨(rn_tf rfl), ⟨(rn_loose (use_lo rfl) rfl rfl rfl), ⟨(rn_int rfl), ⟨(rn_int rfl), trivial⟩⟩⟩⟩⟩⟩⟩ rfl (entl_b (use_own rfl) rfl (by simp) (rb_cells ⟨(rn_own (use_own rfl) rfl rfl), (rn_int rfl), trivial⟩) (entl_new (use_own rfl) rfl (Nat.le_of_eq rfl) (rcs_str (fun _ _ => rfl) (rcs_int (fun _ _ => rfl) (rcs_int (fun _ _ => rfl) rcs_nil))) (entl_b (use_own rfl) rfl (by simp) (rb_cells ⟨(rn_loose (use_own rfl) rfl rfl rfl), (rn_int rfl), (rn_own (use_own rfl) rfl rfl), (rn_int rfl), (rn_int rfl), (rn_int rfl), (rn_tf rfl), (rn_tf rfl), trivial⟩) (entl_new (use_own rfl) rfl (Nat.le_of_eq rfl) (rcs_bool (fun _ _ => rfl) rcs_nil) (entl_new (use_own rfl) rfl (Nat.le_of_eq rfl) (rcs_int (fun _ _ => rfl) (rcs_int (fun _ _ => rfl) (rcs_int (fun _ _ => rfl) rcs_nil))) (entl_bor (use_lo rfl) rfl rfl (entl_bor (use_lo rfl) rfl rfl entl_nil))))))))))
   (fun c4 h => no_some h))
   (fun c3 h => no_some h))
   (fun c2 h => no_some h)))))
theorem b10_0 (al nl ml : Nat) (tl : Nat → Int) (vl : Nat → Int) (aw nw mw : Nat) (tw : Nat → Int) (vw : Nat → Int) (Kst : KS) (Kret : KR) (x : St10 ⊕ Rt10) (hS : HS 2 400 ((I10 al nl ml tl vl aw nw mw tw vw)) Kst x) (hR : HR 2 400 ((V10 al nl ml tl vl aw nw mw tw vw)) (fun r => [newL (2 + 1) ((N10 al nl ml tl vl aw nw mw tw vw) r) ++ [(0, (false, .cols ml [.int .u8 tl, .int .u8 vl])), (1, (false, .cols mw [.int .u8 tw, .int .u8 vw]))]]) Kret x) (x0 : Int) (x1 : List (ByteArray × Int × Int)) (x2 : List Bool) (x3 : List (Int × Int × Int)) (h : (bif (decide (x0 < (↑nw : Int)))
 then (bif (decide ((0 : Int) ≤ x0 ∧ x0 < (↑nw : Int)))
 then (bif (decide (Int.toNat x0 + aw < mw))
 then (bif (lim IntKind.i64 (Int.tmod (tw (Int.toNat x0 + aw)) (5 : Int)))
 then (bif (lim IntKind.i64 ((1 : Int) + Int.tmod (tw (Int.toNat x0 + aw)) (5 : Int)))
 then (bif (lim IntKind.i64 (vw (Int.toNat x0 + aw)))
 then (bif (decide ((↑(List.length x1) : Int) = (0 : Int)))
 then (none)
 else (bif ((1 : Int) + Int.tmod (tw (Int.toNat x0 + aw)) (5 : Int) == (3 : Int))
 then (bif (decide ((↑(List.length x3) : Int) = (0 : Int)))
 then (none)
 else (bif (decide
 ((0 : Int) ≤ Int.tmod (vw (Int.toNat x0 + aw)) (↑(List.length x3) : Int) ∧
 Int.tmod (vw (Int.toNat x0 + aw)) (↑(List.length x3) : Int) < (↑(List.length x3) : Int)))
 then (bif (decide (Int.toNat (Int.tmod (vw (Int.toNat x0 + aw)) (↑(List.length x3) : Int)) < List.length x3))
 then (bif (c10_0_28 al nl tl vl x1 x2)
 then (bif (Prod.fst
 (c10_0_8 al nl tl vl aw tw vw x0 x1 x2 x3) !=
 (0 : Int))
 then (bif (Prod.fst
 (c10_0_8 al nl tl vl aw tw vw x0 x1 x2 x3) !=
 (8 : Int))
 then (some (.inr (false)))
 else (bif ((1 : Int) + Int.tmod (tw (Int.toNat x0 + aw)) (5 : Int) != (5 : Int))
 then (some (.inr (false)))
 else (bif (lim IntKind.i64 (x0 + (1 : Int)))
 then (some (.inl (.h0 (x0 + (1 : Int)) (x1) (x2) (x3))))
 else (none))))
 else (bif ((↑(List.length
 (Prod.snd
 (Prod.snd
 (Prod.snd
 (c10_0_1 al nl tl vl aw tw vw x0 x1 x2 x3))))) :
 Int) !=
 (↑(List.length x1) : Int))
 then (some (.inr (false)))
 else (bif (c10_0_24 al nl tl vl aw tw vw x0 x1 x2 x3)
 then (bif (S.any
 (fun j =>
 S.at'
 (Prod.snd
 (Prod.snd
 (Prod.snd
 (c10_0_1 al nl tl vl aw tw vw x0 x1 x2 x3))))
 j ==
 false)
 (List.length
 (Prod.snd
 (Prod.snd
 (Prod.snd
 (Prod.snd
 (Prod.snd
 (Prod.snd
 (c10_0_6 al nl tl vl aw tw vw x0 x1 x2 x3)))))))))
 then (bif (c10_0_21 al nl tl vl aw tw vw x0 x1 x2 x3)
 then (bif (lim IntKind.i64 (x0 + (1 : Int)))
 then (some (.inl (.h1 (true) (x0 + (1 : Int)) (x1) (Prod.fst
 (c10_0_20 al nl tl vl aw tw vw x0 x1 x2 x3)) (Prod.fst
 (Prod.snd
 (c10_0_20 al nl tl vl aw tw vw x0 x1 x2 x3))) (c10_0_23 al nl tl vl aw tw vw x0 x1 x2 x3) (c10_0_22 al nl tl vl aw tw vw x0 x1 x2 x3) (c10_0_21 al nl tl vl aw tw vw x0 x1 x2 x3) (c10_0_14 al nl tl vl aw tw vw x0 x1 x2 x3) (Prod.fst
 (Prod.snd
 (c10_0_8 al nl tl vl aw tw vw x0 x1 x2 x3))) (Prod.snd
 (Prod.snd
 (c10_0_8 al nl tl vl aw tw vw x0 x1 x2 x3))) (x3))))
 else (none))
 else (bif (c10_0_14 al nl tl vl aw tw vw x0 x1 x2 x3)
 then (bif (lim IntKind.i64 (x0 + (1 : Int)))
 then (some (.inl (.h1 (true) (x0 + (1 : Int)) (x1) (Prod.fst
 (c10_0_20 al nl tl vl aw tw vw x0 x1 x2 x3)) (Prod.fst
 (Prod.snd
 (c10_0_20 al nl tl vl aw tw vw x0 x1 x2 x3))) (c10_0_23 al nl tl vl aw tw vw x0 x1 x2 x3) (c10_0_22 al nl tl vl aw tw vw x0 x1 x2 x3) (c10_0_21 al nl tl vl aw tw vw x0 x1 x2 x3) (c10_0_14 al nl tl vl aw tw vw x0 x1 x2 x3) (Prod.fst
 (Prod.snd
 (c10_0_8 al nl tl vl aw tw vw x0 x1 x2 x3))) (Prod.snd
 (Prod.snd
 (c10_0_8 al nl tl vl aw tw vw x0 x1 x2 x3))) (x3))))
 else (none))
 else (some (.inr (false)))))
 else (bif (lim IntKind.i64 (x0 + (1 : Int)))
 then (some (.inl (.h1 (false) (x0 + (1 : Int)) (x1) (Prod.fst
 (c10_0_20 al nl tl vl aw tw vw x0 x1 x2 x3)) (Prod.fst
 (Prod.snd
 (c10_0_20 al nl tl vl aw tw vw x0 x1 x2 x3))) (c10_0_23 al nl tl vl aw tw vw x0 x1 x2 x3) (c10_0_22 al nl tl vl aw tw vw x0 x1 x2 x3) (c10_0_21 al nl tl vl aw tw vw x0 x1 x2 x3) (c10_0_14 al nl tl vl aw tw vw x0 x1 x2 x3) (Prod.fst
 (Prod.snd
 (c10_0_8 al nl tl vl aw tw vw x0 x1 x2 x3))) (Prod.snd
 (Prod.snd
 (c10_0_8 al nl tl vl aw tw vw x0 x1 x2 x3))) (x3))))
 else (none)))
 else (none))))
 else (none))
 else (none))
 else (none)))
 else (bif (c10_0_28 al nl tl vl x1 x2)
 then (bif (Prod.fst
 (Prod.snd
 (Prod.snd
 (Prod.snd
 (Prod.snd
 (Prod.snd
 (c10_0_5 al nl tl vl aw tw vw x0 x1 x2)))))) !=
 (0 : Int))
 then (bif (Prod.fst
 (Prod.snd
 (Prod.snd
 (Prod.snd
 (Prod.snd
 (Prod.snd
 (c10_0_5 al nl tl vl aw tw vw x0 x1 x2)))))) !=
 (8 : Int))
 then (some (.inr (false)))
 else (bif ((1 : Int) + Int.tmod (tw (Int.toNat x0 + aw)) (5 : Int) != (5 : Int))
 then (some (.inr (false)))
 else (bif (lim IntKind.i64 (x0 + (1 : Int)))
 then (some (.inl (.h0 (x0 + (1 : Int)) (x1) (x2) (x3))))
 else (none))))
 else (bif ((↑(List.length
 (Prod.snd
 (Prod.snd
 (Prod.snd
 (c10_0_4 al nl tl vl aw tw vw x0 x1 x2))))) :
 Int) !=
 (↑(List.length x1) : Int))
 then (some (.inr (false)))
 else (bif (decide
 (0 +
 List.length
 (Prod.snd
 (c10_0_9 al nl tl vl aw tw vw x0 x1 x2)) ≤
 List.length
 (Prod.snd
 (Prod.snd
 (Prod.snd
 (c10_0_4 al nl tl vl aw tw vw x0 x1 x2)))) ∧
 List.length
 (Prod.snd
 (Prod.snd
 (Prod.snd
 (c10_0_4 al nl tl vl aw tw vw x0 x1 x2)))) ≤
 1000000))
 then (bif (c10_0_27 al nl tl vl aw tw vw x0 x1 x2)
 then (bif (Prod.fst
 (Prod.snd
 (c10_0_19 al nl tl vl aw tw vw x0 x1 x2)))
 then (bif (lim IntKind.i64 (x0 + (1 : Int)))
 then (some (.inl (.h1 (true) (x0 + (1 : Int)) (x1) (Prod.fst
 (c10_0_17 al nl tl vl aw tw vw x0 x1 x2)) (Prod.fst
 (Prod.snd
 (c10_0_17 al nl tl vl aw tw vw x0 x1 x2))) (Prod.fst
 (Prod.snd
 (Prod.snd
 (c10_0_17 al nl tl vl aw tw vw x0 x1 x2)))) (Prod.fst
 (c10_0_19 al nl tl vl aw tw vw x0 x1 x2)) (Prod.fst
 (Prod.snd
 (c10_0_19 al nl tl vl aw tw vw x0 x1 x2))) (c10_0_18 al nl tl vl aw tw vw x0 x1 x2) (Prod.fst
 (Prod.snd
 (Prod.snd
 (Prod.snd
 (Prod.snd
 (Prod.snd
 (Prod.snd
 (c10_0_5 al nl tl vl aw tw vw x0 x1 x2)))))))) (Prod.snd
 (Prod.snd
 (Prod.snd
 (Prod.snd
 (Prod.snd
 (Prod.snd
 (Prod.snd
 (c10_0_5 al nl tl vl aw tw vw x0 x1 x2)))))))) (x3))))
 else (none))
 else (bif (c10_0_18 al nl tl vl aw tw vw x0 x1 x2)
 then (bif (lim IntKind.i64 (x0 + (1 : Int)))
 then (some (.inl (.h1 (true) (x0 + (1 : Int)) (x1) (Prod.fst
 (c10_0_17 al nl tl vl aw tw vw x0 x1 x2)) (Prod.fst
 (Prod.snd
 (c10_0_17 al nl tl vl aw tw vw x0 x1 x2))) (Prod.fst
 (Prod.snd
 (Prod.snd
 (c10_0_17 al nl tl vl aw tw vw x0 x1 x2)))) (Prod.fst
 (c10_0_19 al nl tl vl aw tw vw x0 x1 x2)) (Prod.fst
 (Prod.snd
 (c10_0_19 al nl tl vl aw tw vw x0 x1 x2))) (c10_0_18 al nl tl vl aw tw vw x0 x1 x2) (Prod.fst
 (Prod.snd
 (Prod.snd
 (Prod.snd
 (Prod.snd
 (Prod.snd
 (Prod.snd
 (c10_0_5 al nl tl vl aw tw vw x0 x1 x2)))))))) (Prod.snd
 (Prod.snd
 (Prod.snd
 (Prod.snd
 (Prod.snd
 (Prod.snd
 (Prod.snd
 (c10_0_5 al nl tl vl aw tw vw x0 x1 x2)))))))) (x3))))
 else (none))
 else (some (.inr (false)))))
 else (bif (lim IntKind.i64 (x0 + (1 : Int)))
 then (some (.inl (.h1 (false) (x0 + (1 : Int)) (x1) (Prod.fst
 (c10_0_17 al nl tl vl aw tw vw x0 x1 x2)) (Prod.fst
 (Prod.snd
 (c10_0_17 al nl tl vl aw tw vw x0 x1 x2))) (Prod.fst
 (Prod.snd
 (Prod.snd
 (c10_0_17 al nl tl vl aw tw vw x0 x1 x2)))) (Prod.fst
 (c10_0_19 al nl tl vl aw tw vw x0 x1 x2)) (Prod.fst
 (Prod.snd
 (c10_0_19 al nl tl vl aw tw vw x0 x1 x2))) (c10_0_18 al nl tl vl aw tw vw x0 x1 x2) (Prod.fst
 (Prod.snd
 (Prod.snd
 (Prod.snd
 (Prod.snd
 (Prod.snd
 (Prod.snd
 (c10_0_5 al nl tl vl aw tw vw x0 x1 x2)))))))) (Prod.snd
 (Prod.snd
 (Prod.snd
 (Prod.snd
 (Prod.snd
 (Prod.snd
 (Prod.snd
 (c10_0_5 al nl tl vl aw tw vw x0 x1 x2)))))))) (x3))))
 else (none)))
 else (none))))
 else (none))))
 else (none))
 else (none))
 else (none))
 else (none))
 else (none))
 else (some (.inr (true))) : Option (St10 ⊕ Rt10)) = some x) : T10_0 cond Kst Kret al nl ml tl vl aw nw mw tw vw x0 x1 x2 x3 := by
  unfold T10_0
  exact bif_split h
   (fun c0 h => bif_split h
   (fun c1 h => bif_split h
   (fun c2 h => cond_yes c2 (cond_yes rfl (cond_no rfl (bif_split h
   (fun c3 h => bif_split h
   (fun c4 h => cond_yes rfl (bif_split h
   (fun c5 h => bif_split h
   (fun c6 h => no_some h)
   (fun c6 h => bif_split h
   (fun c7 h => cond_yes rfl (cond_yes c5 (bif_split h
   (fun c8 h => no_some h)
   (fun c8 h => bif_split h
   (fun c9 h => bif_split h
   (fun c10 h => cond_yes c10 (cond_yes c10 (bif_split h
   (fun c11 h => bif_split h
   (fun c12 h => bif_split h
   (fun c13 h => ret_at hR _ h (fun n => n) rfl rfl rfl (rn_bool_tf rfl) rfl (entl_bor (use_lo rfl) rfl rfl (entl_bor (use_lo rfl) rfl rfl entl_nil)))
   (fun c13 h => bif_split h
   (fun c14 h => ret_at hR _ h (fun n => n) rfl rfl rfl (rn_bool_tf rfl) rfl (entl_bor (use_lo rfl) rfl rfl (entl_bor (use_lo rfl) rfl rfl entl_nil)))
   (fun c14 h => bif_split h
   (fun c15 h => stop_at hS _ h (fun n => bif Nat.beq n 2 then 2 else bif Nat.beq n 3 then 3 else bif Nat.beq n 4 then 4 else bif Nat.beq n 5 then 5 else bif Nat.beq n 6 then 6 else n) rfl rfl rfl ⟨(rn_ptr (use_own rfl) rfl rfl), ⟨(rn_ptr (use_own rfl) rfl rfl), ⟨(rn_own (use_own rfl) rfl rfl), ⟨(rn_tf rfl), ⟨(rn_loose (use_lo rfl) rfl rfl rfl), ⟨(rn_int rfl), ⟨(rn_int rfl), trivial⟩⟩⟩⟩⟩⟩⟩ rfl (entl_b (use_own rfl) rfl (by simp) (rb_cells ⟨(rn_own (use_own rfl) rfl rfl), (rn_int rfl), trivial⟩) (entl_new (use_own rfl) rfl (Nat.le_of_eq rfl) (rcs_str (fun _ _ => rfl) (rcs_int (fun _ _ => rfl) (rcs_int (fun _ _ => rfl) rcs_nil))) (entl_b (use_own rfl) rfl (by simp) (rb_cells ⟨(rn_loose (use_own rfl) rfl rfl rfl), (rn_int rfl), (rn_own (use_own rfl) rfl rfl), (rn_int rfl), (rn_int rfl), (rn_int rfl), (rn_tf rfl), (rn_tf rfl), trivial⟩) (entl_new (use_own rfl) rfl (Nat.le_of_eq rfl) (rcs_bool (fun _ _ => rfl) rcs_nil) (entl_new (use_own rfl) rfl (Nat.le_of_eq rfl) (rcs_int (fun _ _ => rfl) (rcs_int (fun _ _ => rfl) (rcs_int (fun _ _ => rfl) rcs_nil))) (entl_bor (use_lo rfl) rfl rfl (entl_bor (use_lo rfl) rfl rfl entl_nil))))))))
   (fun c15 h => no_some h))))
   (fun c12 h => bif_split h
   (fun c13 h => ret_at hR _ h (fun n => n) rfl rfl rfl (rn_bool_tf rfl) rfl (entl_bor (use_lo rfl) rfl rfl (entl_bor (use_lo rfl) rfl rfl entl_nil)))
   (fun c13 h => bif_split h
   (fun c14 h => bif_split h
   (fun c15 h => bif_split h
   (fun c16 h => bif_split h
   (fun c17 h => stop_at hS _ h (fun n => bif Nat.beq n 2 then 2 else bif Nat.beq n 3 then 3 else bif Nat.beq n 4 then 4 else bif Nat.beq n 5 then 10 else bif Nat.beq n 6 then 11 else bif Nat.beq n 7 then 6 else n) rfl rfl rfl ⟨(rn_ptr (use_own rfl) rfl rfl), ⟨(rn_ptr (use_own rfl) rfl rfl), ⟨(rn_own (use_own rfl) rfl rfl), ⟨(rn_bool_tf rfl), ⟨(rn_loose (use_lo rfl) rfl rfl rfl), ⟨(rn_int rfl), ⟨(rn_int rfl), trivial⟩⟩⟩⟩⟩⟩⟩ rfl (entl_b (use_own rfl) rfl (by simp) (rb_cells ⟨(rn_own (use_own rfl) rfl rfl), (rn_int rfl), trivial⟩) (entl_new (use_own rfl) rfl (Nat.le_of_eq rfl) (rcs_str (fun _ _ => rfl) (rcs_int (fun _ _ => rfl) (rcs_int (fun _ _ => rfl) rcs_nil))) (entl_b (use_own rfl) rfl (by simp) (rb_cells ⟨(rn_own (use_own rfl) rfl rfl), (rn_int rfl), (rn_own (use_own rfl) rfl rfl), (rn_int rfl), (rn_int rfl), (rn_int rfl), (rn_bool rfl), (rn_bool rfl), trivial⟩) (entl_new (use_own rfl) rfl (Nat.le_of_eq rfl) (rcs_str (fun _ _ => rfl) (rcs_int (fun _ _ => rfl) (rcs_int (fun _ _ => rfl) rcs_nil))) (entl_new (use_own rfl) rfl (Nat.le_of_eq rfl) (rcs_bool (fun _ _ => rfl) rcs_nil) (entl_new (use_own rfl) rfl (Nat.le_of_eq rfl) (rcs_int (fun _ _ => rfl) (rcs_int (fun _ _ => rfl) (rcs_int (fun _ _ => rfl) rcs_nil))) (entl_bor (use_lo rfl) rfl rfl (entl_bor (use_lo rfl) rfl rfl entl_nil)))))))))
   (fun c17 h => no_some h))
   (fun c16 h => bif_split h
   (fun c17 h => bif_split h
   (fun c18 h => stop_at hS _ h (fun n => bif Nat.beq n 2 then 2 else bif Nat.beq n 3 then 3 else bif Nat.beq n 4 then 4 else bif Nat.beq n 5 then 10 else bif Nat.beq n 6 then 11 else bif Nat.beq n 7 then 6 else n) rfl rfl rfl ⟨(rn_ptr (use_own rfl) rfl rfl), ⟨(rn_ptr (use_own rfl) rfl rfl), ⟨(rn_own (use_own rfl) rfl rfl), ⟨(rn_bool_tf rfl), ⟨(rn_loose (use_lo rfl) rfl rfl rfl), ⟨(rn_int rfl), ⟨(rn_int rfl), trivial⟩⟩⟩⟩⟩⟩⟩ rfl (entl_b (use_own rfl) rfl (by simp) (rb_cells ⟨(rn_own (use_own rfl) rfl rfl), (rn_int rfl), trivial⟩) (entl_new (use_own rfl) rfl (Nat.le_of_eq rfl) (rcs_str (fun _ _ => rfl) (rcs_int (fun _ _ => rfl) (rcs_int (fun _ _ => rfl) rcs_nil))) (entl_b (use_own rfl) rfl (by simp) (rb_cells ⟨(rn_own (use_own rfl) rfl rfl), (rn_int rfl), (rn_own (use_own rfl) rfl rfl), (rn_int rfl), (rn_int rfl), (rn_int rfl), (rn_bool rfl), (rn_bool rfl), trivial⟩) (entl_new (use_own rfl) rfl (Nat.le_of_eq rfl) (rcs_str (fun _ _ => rfl) (rcs_int (fun _ _ => rfl) (rcs_int (fun _ _ => rfl) rcs_nil))) (entl_new (use_own rfl) rfl (Nat.le_of_eq rfl) (rcs_bool (fun _ _ => rfl) rcs_nil) (entl_new (use_own rfl) rfl (Nat.le_of_eq rfl) (rcs_int (fun _ _ => rfl) (rcs_int (fun _ _ => rfl) (rcs_int (fun _ _ => rfl) rcs_nil))) (entl_bor (use_lo rfl) rfl rfl (entl_bor (use_lo rfl) rfl rfl entl_nil)))))))))
   (fun c18 h => no_some h))
   (fun c17 h => ret_at hR _ h (fun n => n) rfl rfl rfl (rn_bool_tf rfl) rfl (entl_bor (use_lo rfl) rfl rfl (entl_bor (use_lo rfl) rfl rfl entl_nil)))))
   (fun c15 h => bif_split h
   (fun c16 h => stop_at hS _ h (fun n => bif Nat.beq n 2 then 2 else bif Nat.beq n 3 then 3 else bif Nat.beq n 4 then 4 else bif Nat.beq n 5 then 10 else bif Nat.beq n 6 then 11 else bif Nat.beq n 7 then 6 else n) rfl rfl rfl ⟨(rn_ptr (use_own rfl) rfl rfl), ⟨(rn_ptr (use_own rfl) rfl rfl), ⟨(rn_own (use_own rfl) rfl rfl), ⟨(rn_bool_tf rfl), ⟨(rn_loose (use_lo rfl) rfl rfl rfl), ⟨(rn_int rfl), ⟨(rn_int rfl), trivial⟩⟩⟩⟩⟩⟩⟩ rfl (entl_b (use_own rfl) rfl (by simp) (rb_cells ⟨(rn_own (use_own rfl) rfl rfl), (rn_int rfl), trivial⟩) (entl_new (use_own rfl) rfl (Nat.le_of_eq rfl) (rcs_str (fun _ _ => rfl) (rcs_int (fun _ _ => rfl) (rcs_int (fun _ _ => rfl) rcs_nil))) (entl_b (use_own rfl) rfl (by simp) (rb_cells ⟨(rn_own (use_own rfl) rfl rfl), (rn_int rfl), (rn_own (use_own rfl) rfl rfl), (rn_int rfl), (rn_int rfl), (rn_int rfl), (rn_bool rfl), (rn_bool rfl), trivial⟩) (entl_new (use_own rfl) rfl (Nat.le_of_eq rfl) (rcs_str (fun _ _ => rfl) (rcs_int (fun _ _ => rfl) (rcs_int (fun _ _ => rfl) rcs_nil))) (entl_new (use_own rfl) rfl (Nat.le_of_eq rfl) (rcs_bool (fun _ _ => rfl) rcs_nil) (entl_new (use_own rfl) rfl (Nat.le_of_eq rfl) (rcs_int (fun _ _ => rfl) (rcs_int (fun _ _ => rfl) (rcs_int (fun _ _ => rfl) rcs_nil))) (entl_bor (use_lo rfl) rfl rfl (entl_bor (use_lo rfl) rfl rfl entl_nil)))))))))
   (fun c16 h => no_some h)))
   (fun c14 h => no_some h))))
   (fun c11 h => no_some h))))
   (fun c10 h => no_some h))
   (fun c9 h => no_some h)))))
   (fun c7 h => bif_split h
   (fun c8 h => bif_split h
   (fun c9 h => bif_split h
   (fun c10 h => ret_at hR _ h (fun n => n) rfl rfl rfl (rn_bool_tf rfl) rfl (entl_bor (use_lo rfl) rfl rfl (entl_bor (use_lo rfl) rfl rfl entl_nil)))
   (fun c10 h => bif_split h
   (fun c11 h => ret_at hR _ h (fun n => n) rfl rfl rfl (rn_bool_tf rfl) rfl (entl_bor (use_lo rfl) rfl rfl (entl_bor (use_lo rfl) rfl rfl entl_nil)))
   (fun c11 h => bif_split h
   (fun c12 h => stop_at hS _ h (fun n => bif Nat.beq n 2 then 2 else bif Nat.beq n 3 then 3 else bif Nat.beq n 4 then 4 else bif Nat.beq n 5 then 5 else bif Nat.beq n 6 then 6 else n) rfl rfl rfl ⟨(rn_ptr (use_own rfl) rfl rfl), ⟨(rn_ptr (use_own rfl) rfl rfl), ⟨(rn_own (use_own rfl) rfl rfl), ⟨(rn_tf rfl), ⟨(rn_loose (use_lo rfl) rfl rfl rfl), ⟨(rn_int rfl), ⟨(rn_int rfl), trivial⟩⟩⟩⟩⟩⟩⟩ rfl (entl_b (use_own rfl) rfl (by simp) (rb_cells ⟨(rn_own (use_own rfl) rfl rfl), (rn_int rfl), trivial⟩) (entl_new (use_own rfl) rfl (Nat.le_of_eq rfl) (rcs_str (fun _ _ => rfl) (rcs_int (fun _ _ => rfl) (rcs_int (fun _ _ => rfl) rcs_nil))) (entl_b (use_own rfl) rfl (by simp) (rb_cells ⟨(rn_loose (use_own rfl) rfl rfl rfl), (rn_int rfl), (rn_own (use_own rfl) rfl rfl), (rn_int rfl), (rn_int rfl), (rn_int rfl), (rn_tf rfl), (rn_tf rfl), trivial⟩) (entl_new (use_own rfl) rfl (Nat.le_of_eq rfl) (rcs_bool (fun _ _ => rfl) rcs_nil) (entl_new (use_own rfl) rfl (Nat.le_of_eq rfl) (rcs_int (fun _ _ => rfl) (rcs_int (fun _ _ => rfl) (rcs_int (fun _ _ => rfl) rcs_nil))) (entl_bor (use_lo rfl) rfl rfl (entl_bor (use_lo rfl) rfl rfl entl_nil))))))))
   (fun c12 h => no_some h))))
   (fun c9 h => bif_split h
   (fun c10 h => ret_at hR _ h (fun n => n) rfl rfl rfl (rn_bool_tf rfl) rfl (entl_bor (use_lo rfl) rfl rfl (entl_bor (use_lo rfl) rfl rfl entl_nil)))
   (fun c10 h => bif_split h
   (fun c11 h => bif_split h
   (fun c12 h => bif_split h
   (fun c13 h => bif_split h
   (fun c14 h => stop_at hS _ h (fun n => bif Nat.beq n 2 then 2 else bif Nat.beq n 3 then 3 else bif Nat.beq n 4 then 4 else bif Nat.beq n 5 then 10 else bif Nat.beq n 6 then 11 else bif Nat.beq n 7 then 6 else n) rfl rfl rfl ⟨(rn_ptr (use_own rfl) rfl rfl), ⟨(rn_ptr (use_own rfl) rfl rfl), ⟨(rn_own (use_own rfl) rfl rfl), ⟨(rn_bool_tf rfl), ⟨(rn_loose (use_lo rfl) rfl rfl rfl), ⟨(rn_int rfl), ⟨(rn_int rfl), trivial⟩⟩⟩⟩⟩⟩⟩ rfl (entl_b (use_own rfl) rfl (by simp) (rb_cells ⟨(rn_own (use_own rfl) rfl rfl), (rn_int rfl), trivial⟩) (entl_new (use_own rfl) rfl (Nat.le_of_eq rfl) (rcs_str (fun _ _ => rfl) (rcs_int (fun _ _ => rfl) (rcs_int (fun _ _ => rfl) rcs_nil))) (entl_b (use_own rfl) rfl (by simp) (rb_cells ⟨(rn_own (use_own rfl) rfl rfl), (rn_int rfl), (rn_own (use_own rfl) rfl rfl), (rn_int rfl), (rn_int rfl), (rn_int rfl), (rn_bool rfl), (rn_bool rfl), trivial⟩) (entl_new (use_own rfl) rfl (Nat.le_of_eq rfl) (rcs_str (fun _ _ => rfl) (rcs_int (fun _ _ => rfl) (rcs_int (fun _ _ => rfl) rcs_nil))) (entl_new (use_own rfl) rfl (Nat.le_of_eq rfl) (rcs_bool (fun _ _ => rfl) rcs_nil) (entl_new (use_own rfl) rfl (Nat.le_of_eq rfl) (rcs_int (fun _ _ => rfl) (rcs_int (fun _ _ => rfl) (rcs_int (fun _ _ => rfl) rcs_nil))) (entl_bor (use_lo rfl) rfl rfl (entl_bor (use_lo rfl) rfl rfl entl_nil)))))))))
   (fun c14 h => no_some h))
   (fun c13 h => bif_split h
   (fun c14 h => bif_split h
   (fun c15 h => stop_at hS _ h (fun n => bif Nat.beq n 2 then 2 else bif Nat.beq n 3 then 3 else bif Nat.beq n 4 then 4 else bif Nat.beq n 5 then 10 else bif Nat.beq n 6 then 11 else bif Nat.beq n 7 then 6 else n) rfl rfl rfl ⟨(rn_ptr (use_own rfl) rfl rfl), ⟨(rn_ptr (use_own rfl) rfl rfl), ⟨(rn_own (use_own rfl) rfl rfl), ⟨(rn_bool_tf rfl), ⟨(rn_loose (use_lo rfl) rfl rfl rfl), ⟨(rn_int rfl), ⟨(rn_int rfl), trivial⟩⟩⟩⟩⟩⟩⟩ rfl (entl_b (use_own rfl) rfl (by simp) (rb_cells ⟨(rn_own (use_own rfl) rfl rfl), (rn_int rfl), trivial⟩) (entl_new (use_own rfl) rfl (Nat.le_of_eq rfl) (rcs_str (fun _ _ => rfl) (rcs_int (fun _ _ => rfl) (rcs_int (fun _ _ => rfl) rcs_nil))) (entl_b (use_own rfl) rfl (by simp) (rb_cells ⟨(rn_own (use_own rfl) rfl rfl), (rn_int rfl), (rn_own (use_own rfl) rfl rfl), (rn_int rfl), (rn_int rfl), (rn_int rfl), (rn_bool rfl), (rn_bool rfl), trivial⟩) (entl_new (use_own rfl) rfl (Nat.le_of_eq rfl) (rcs_str (fun _ _ => rfl) (rcs_int (fun _ _ => rfl) (rcs_int (fun _ _ => rfl) rcs_nil))) (entl_new (use_own rfl) rfl (Nat.le_of_eq rfl) (rcs_bool (fun _ _ => rfl) rcs_nil) (entl_new (use_own rfl) rfl (Nat.le_of_eq rfl) (rcs_int (fun _ _ => rfl) (rcs_int (fun _ _ => rfl) (rcs_int (fun _ _ => rfl) rcs_nil))) (entl_bor (use_lo rfl) rfl rfl (entl_bor (use_lo rfl) rfl rfl entl_nil)))))))))
   (fun c15 h => no_some h))
   (fun c14 h => ret_at hR _ h (fun n => n) rfl rfl rfl (rn_bool_tf rfl) rfl (entl_bor (use_lo rfl) rfl rfl (entl_bor (use_lo rfl) rfl rfl entl_nil)))))
   (fun c12 h => bif_split h
   (fun c13 h => stop_at hS _ h (fun n => bif Nat.beq n 2 then 2 else bif Nat.beq n 3 then 3 else bif Nat.beq n 4 then 4 else bif Nat.beq n 5 then 10 else bif Nat.beq n 6 then 11 else bif Nat.beq n 7 then 6 else n) rfl rfl rfl ⟨(rn_ptr (use_own rfl) rfl rfl), ⟨(rn_ptr (use_own rfl) rfl rfl), ⟨(rn_own (use_own rfl) rfl rfl), ⟨(rn_bool_tf rfl), ⟨(rn_loose (use_lo rfl) rfl rfl rfl), ⟨(rn_int rfl), ⟨(rn_int rfl), trivial⟩⟩⟩⟩⟩⟩⟩ rfl (entl_b (use_own rfl) rfl (by simp) (rb_cells ⟨(rn_own (use_own rfl) rfl rfl), (rn_int rfl), trivial⟩) (entl_new (use_own rfl) rfl (Nat.le_of_eq rfl) (rcs_str (fun _ _ => rfl) (rcs_int (fun _ _ => rfl) (rcs_int (fun _ _ => rfl) rcs_nil))) (entl_b (use_own rfl) rfl (by simp) (rb_cells ⟨(rn_own (use_own rfl) rfl rfl), (rn_int rfl), (rn_own (use_own rfl) rfl rfl), (rn_int rfl), (rn_int rfl), (rn_int rfl), (rn_bool rfl), (rn_bool rfl), trivial⟩) (entl_new (use_own rfl) rfl (Nat.le_of_eq rfl) (rcs_str (fun _ _ => rfl) (rcs_int (fun _ _ => rfl) (rcs_int (fun _ _ => rfl) rcs_nil))) (entl_new (use_own rfl) rfl (Nat.le_of_eq rfl) (rcs_bool (fun _ _ => rfl) rcs_nil) (entl_new (use_own rfl) rfl (Nat.le_of_eq rfl) (rcs_int (fun _ _ => rfl) (rcs_int (fun _ _ => rfl) (rcs_int (fun _ _ => rfl) rcs_nil))) (entl_bor (use_lo rfl) rfl rfl (entl_bor (use_lo rfl) rfl rfl entl_nil)))))))))
   (fun c13 h => no_some h)))
   (fun c11 h => no_some h))))
   (fun c8 h => no_some h))))
   (fun c5 h => no_some h)))
   (fun c4 h => no_some h))
   (fun c3 h => no_some h)))))
   (fun c2 h => no_some h))
   (fun c1 h => no_some h))
   (fun c0 h => ret_at hR _ h (fun n => n) rfl rfl rfl (rn_bool_tf rfl) rfl (entl_bor (use_lo rfl) rfl rfl (entl_bor (use_lo rfl) rfl rfl entl_nil)))
theorem b10_1 (al nl ml : Nat) (tl : Nat → Int) (vl : Nat → Int) (aw nw mw : Nat) (tw : Nat → Int) (vw : Nat → Int) (Kst : KS) (Kret : KR) (x : St10 ⊕ Rt10) (hS : HS 2 400 ((I10 al nl ml tl vl aw nw mw tw vw)) Kst x) (hR : HR 2 400 ((V10 al nl ml tl vl aw nw mw tw vw)) (fun r => [newL (2 + 1) ((N10 al nl ml tl vl aw nw mw tw vw) r) ++ [(0, (false, .cols ml [.int .u8 tl, .int .u8 vl])), (1, (false, .cols mw [.int .u8 tw, .int .u8 vw]))]]) Kret x) (x0 : Bool) (x1 : Int) (x2 : List (ByteArray × Int × Int)) (x3 : Int) (x4 : Int) (x5 : Int) (x6 : Int) (x7 : Bool) (x8 : Bool) (x9 : List (ByteArray × Int × Int)) (x10 : List Bool) (x11 : List (Int × Int × Int)) (h : (bif (decide (x1 < (↑nw : Int)))
 then (bif (decide ((0 : Int) ≤ x1 ∧ x1 < (↑nw : Int)))
 then (bif (decide (Int.toNat x1 + aw < mw))
 then (bif (lim IntKind.i64 (Int.tmod (tw (Int.toNat x1 + aw)) (5 : Int)))
 then (bif (lim IntKind.i64 ((1 : Int) + Int.tmod (tw (Int.toNat x1 + aw)) (5 : Int)))
 then (bif (lim IntKind.i64 (vw (Int.toNat x1 + aw)))
 then (bif (decide ((↑(List.length x2) : Int) = (0 : Int)))
 then (none)
 else (bif ((1 : Int) + Int.tmod (tw (Int.toNat x1 + aw)) (5 : Int) == (3 : Int))
 then (bif (decide ((↑(List.length x11) : Int) = (0 : Int)))
 then (none)
 else (bif (decide
 ((0 : Int) ≤ Int.tmod (vw (Int.toNat x1 + aw)) (↑(List.length x11) : Int) ∧
 Int.tmod (vw (Int.toNat x1 + aw)) (↑(List.length x11) : Int) < (↑(List.length x11) : Int)))
 then (bif (decide (Int.toNat (Int.tmod (vw (Int.toNat x1 + aw)) (↑(List.length x11) : Int)) < List.length x11))
 then (bif (decide
 (0 + List.length x9 ≤ List.length x9 ∧
 List.length x9 ≤ 1000000 ∧
 0 + List.length x10 ≤ List.length x10 ∧ List.length x10 ≤ 1000000))
 then (bif (Prod.fst
 (c10_1_20 aw tw vw x1 x2 x3 x4 x5 x6 x7 x8 x9 x10 x11) !=
 (0 : Int))
 then (bif (Prod.fst
 (c10_1_20 aw tw vw x1 x2 x3 x4 x5 x6 x7 x8 x9 x10 x11) !=
 (8 : Int))
 then (some (.inr (false)))
 else (bif ((1 : Int) + Int.tmod (tw (Int.toNat x1 + aw)) (5 : Int) != (5 : Int))
 then (some (.inr (false)))
 else (bif (lim IntKind.i64 (x1 + (1 : Int)))
 then (some (.inl (.h1 (x0) (x1 + (1 : Int)) (x2) (x3) (x4) (x5) (x6) (x7) (x8) (x9) (x10) (x11))))
 else (none))))
 else (bif ((↑(List.length
 (Prod.snd
 (c10_1_1 aw tw vw x1 x2 x3 x4 x5 x6 x7 x8 x9 x10 x11))) :
 Int) !=
 (↑(List.length x2) : Int))
 then (some (.inr (false)))
 else (bif (decide
 (0 +
 List.length
 (Prod.snd
 (c10_1_1 aw tw vw x1 x2 x3 x4 x5 x6 x7 x8 x9 x10 x11)) ≤
 List.length
 (c10_1_10 aw tw vw x1 x2 x3 x4 x5 x6 x7 x8 x9 x10 x11) ∧
 List.length
 (c10_1_10 aw tw vw x1 x2 x3 x4 x5 x6 x7 x8 x9 x10 x11) ≤
 1000000))
 then (bif (S.any
 (fun j =>
 S.at'
 (c10_1_10 aw tw vw x1 x2 x3 x4 x5 x6 x7 x8 x9 x10 x11)
 j ==
 false)
 (List.length
 (Prod.snd
 (Prod.snd
 (c10_1_20 aw tw vw x1 x2 x3 x4 x5 x6 x7 x8 x9 x10 x11)))))
 then (bif (Prod.fst
 (c10_1_6 aw tw vw x1 x2 x3 x4 x5 x6 x7 x8 x9 x10 x11))
 then (bif (lim IntKind.i64 (x1 + (1 : Int)))
 then (some (.inl (.h1 (true) (x1 + (1 : Int)) (x2) (c10_1_14 aw tw vw x1 x2 x3 x4 x5 x6 x7 x8 x9 x10 x11) (c10_1_13 aw tw vw x1 x2 x3 x4 x5 x6 x7 x8 x9 x10 x11) (c10_1_12 aw tw vw x1 x2 x3 x4 x5 x6 x7 x8 x9 x10 x11) (c10_1_11 aw tw vw x1 x2 x3 x4 x5 x6 x7 x8 x9 x10 x11) (Prod.fst
 (c10_1_6 aw tw vw x1 x2 x3 x4 x5 x6 x7 x8 x9 x10 x11)) (Prod.fst
 (Prod.snd
 (c10_1_6 aw tw vw x1 x2 x3 x4 x5 x6 x7 x8 x9 x10 x11))) (Prod.fst
 (Prod.snd
 (c10_1_20 aw tw vw x1 x2 x3 x4 x5 x6 x7 x8 x9 x10 x11))) (Prod.snd
 (Prod.snd
 (c10_1_20 aw tw vw x1 x2 x3 x4 x5 x6 x7 x8 x9 x10 x11))) (x11))))
 else (none))
 else (bif (Prod.fst
 (Prod.snd
 (c10_1_6 aw tw vw x1 x2 x3 x4 x5 x6 x7 x8 x9 x10 x11)))
 then (bif (lim IntKind.i64 (x1 + (1 : Int)))
 then (some (.inl (.h1 (true) (x1 + (1 : Int)) (x2) (c10_1_14 aw tw vw x1 x2 x3 x4 x5 x6 x7 x8 x9 x10 x11) (c10_1_13 aw tw vw x1 x2 x3 x4 x5 x6 x7 x8 x9 x10 x11) (c10_1_12 aw tw vw x1 x2 x3 x4 x5 x6 x7 x8 x9 x10 x11) (c10_1_11 aw tw vw x1 x2 x3 x4 x5 x6 x7 x8 x9 x10 x11) (Prod.fst
 (c10_1_6 aw tw vw x1 x2 x3 x4 x5 x6 x7 x8 x9 x10 x11)) (Prod.fst
 (Prod.snd
 (c10_1_6 aw tw vw x1 x2 x3 x4 x5 x6 x7 x8 x9 x10 x11))) (Prod.fst
 (Prod.snd
 (c10_1_20 aw tw vw x1 x2 x3 x4 x5 x6 x7 x8 x9 x10 x11))) (Prod.snd
 (Prod.snd
 (c10_1_20 aw tw vw x1 x2 x3 x4 x5 x6 x7 x8 x9 x10 x11))) (x11))))
 else (none))
 else (some (.inr (false)))))
 else (bif (x0)
 then (bif ((1 : Int) + Int.tmod (tw (Int.toNat x1 + aw)) (5 : Int) != (5 : Int))
 then (bif (Prod.fst
 (c10_1_6 aw tw vw x1 x2 x3 x4 x5 x6 x7 x8 x9 x10 x11))
 then (bif (lim IntKind.i64 (x1 + (1 : Int)))
 then (some (.inl (.h1 (true) (x1 + (1 : Int)) (x2) (c10_1_14 aw tw vw x1 x2 x3 x4 x5 x6 x7 x8 x9 x10 x11) (c10_1_13 aw tw vw x1 x2 x3 x4 x5 x6 x7 x8 x9 x10 x11) (c10_1_12 aw tw vw x1 x2 x3 x4 x5 x6 x7 x8 x9 x10 x11) (c10_1_11 aw tw vw x1 x2 x3 x4 x5 x6 x7 x8 x9 x10 x11) (Prod.fst
 (c10_1_6 aw tw vw x1 x2 x3 x4 x5 x6 x7 x8 x9 x10 x11)) (Prod.fst
 (Prod.snd
 (c10_1_6 aw tw vw x1 x2 x3 x4 x5 x6 x7 x8 x9 x10 x11))) (Prod.fst
 (Prod.snd
 (c10_1_20 aw tw vw x1 x2 x3 x4 x5 x6 x7 x8 x9 x10 x11))) (Prod.snd
 (Prod.snd
 (c10_1_20 aw tw vw x1 x2 x3 x4 x5 x6 x7 x8 x9 x10 x11))) (x11))))
 else (none))
 else (bif (Prod.fst
 (Prod.snd
 (c10_1_6 aw tw vw x1 x2 x3 x4 x5 x6 x7 x8 x9 x10 x11)))
 then (bif (lim IntKind.i64 (x1 + (1 : Int)))
 then (some (.inl (.h1 (true) (x1 + (1 : Int)) (x2) (c10_1_14 aw tw vw x1 x2 x3 x4 x5 x6 x7 x8 x9 x10 x11) (c10_1_13 aw tw vw x1 x2 x3 x4 x5 x6 x7 x8 x9 x10 x11) (c10_1_12 aw tw vw x1 x2 x3 x4 x5 x6 x7 x8 x9 x10 x11) (c10_1_11 aw tw vw x1 x2 x3 x4 x5 x6 x7 x8 x9 x10 x11) (Prod.fst
 (c10_1_6 aw tw vw x1 x2 x3 x4 x5 x6 x7 x8 x9 x10 x11)) (Prod.fst
 (Prod.snd
 (c10_1_6 aw tw vw x1 x2 x3 x4 x5 x6 x7 x8 x9 x10 x11))) (Prod.fst
 (Prod.snd
 (c10_1_20 aw tw vw x1 x2 x3 x4 x5 x6 x7 x8 x9 x10 x11))) (Prod.snd
 (Prod.snd
 (c10_1_20 aw tw vw x1 x2 x3 x4 x5 x6 x7 x8 x9 x10 x11))) (x11))))
 else (none))
 else (some (.inr (false)))))
 else (bif (lim IntKind.i64 (x1 + (1 : Int)))
 then (some (.inl (.h1 (false) (x1 + (1 : Int)) (x2) (c10_1_14 aw tw vw x1 x2 x3 x4 x5 x6 x7 x8 x9 x10 x11) (c10_1_13 aw tw vw x1 x2 x3 x4 x5 x6 x7 x8 x9 x10 x11) (c10_1_12 aw tw vw x1 x2 x3 x4 x5 x6 x7 x8 x9 x10 x11) (c10_1_11 aw tw vw x1 x2 x3 x4 x5 x6 x7 x8 x9 x10 x11) (Prod.fst
 (c10_1_6 aw tw vw x1 x2 x3 x4 x5 x6 x7 x8 x9 x10 x11)) (Prod.fst
 (Prod.snd
 (c10_1_6 aw tw vw x1 x2 x3 x4 x5 x6 x7 x8 x9 x10 x11))) (Prod.fst
 (Prod.snd
 (c10_1_20 aw tw vw x1 x2 x3 x4 x5 x6 x7 x8 x9 x10 x11))) (Prod.snd
 (Prod.snd
 (c10_1_20 aw tw vw x1 x2 x3 x4 x5 x6 x7 x8 x9 x10 x11))) (x11))))
 else (none)))
 else (bif (lim IntKind.i64 (x1 + (1 : Int)))
 then (some (.inl (.h1 (false) (x1 + (1 : Int)) (x2) (c10_1_14 aw tw vw x1 x2 x3 x4 x5 x6 x7 x8 x9 x10 x11) (c10_1_13 aw tw vw x1 x2 x3 x4 x5 x6 x7 x8 x9 x10 x11) (c10_1_12 aw tw vw x1 x2 x3 x4 x5 x6 x7 x8 x9 x10 x11) (c10_1_11 aw tw vw x1 x2 x3 x4 x5 x6 x7 x8 x9 x10 x11) (Prod.fst
 (c10_1_6 aw tw vw x1 x2 x3 x4 x5 x6 x7 x8 x9 x10 x11)) (Prod.fst
 (Prod.snd
 (c10_1_6 aw tw vw x1 x2 x3 x4 x5 x6 x7 x8 x9 x10 x11))) (Prod.fst
 (Prod.snd
 (c10_1_20 aw tw vw x1 x2 x3 x4 x5 x6 x7 x8 x9 x10 x11))) (Prod.snd
 (Prod.snd
 (c10_1_20 aw tw vw x1 x2 x3 x4 x5 x6 x7 x8 x9 x10 x11))) (x11))))
 else (none))))
 else (none))))
 else (none))
 else (none))
 else (none)))
 else (bif (decide
 (0 + List.length x9 ≤ List.length x9 ∧
 List.length x9 ≤ 1000000 ∧
 0 + List.length x10 ≤ List.length x10 ∧ List.length x10 ≤ 1000000))
 then (bif (Prod.fst
 (Prod.snd
 (Prod.snd
 (c10_1_15 aw tw vw x1 x2 x3 x4 x5 x6 x7 x8 x9 x10))) !=
 (0 : Int))
 then (bif (Prod.fst
 (Prod.snd
 (Prod.snd
 (c10_1_15 aw tw vw x1 x2 x3 x4 x5 x6 x7 x8 x9 x10))) !=
 (8 : Int))
 then (some (.inr (false)))
 else (bif ((1 : Int) + Int.tmod (tw (Int.toNat x1 + aw)) (5 : Int) != (5 : Int))
 then (some (.inr (false)))
 else (bif (lim IntKind.i64 (x1 + (1 : Int)))
 then (some (.inl (.h1 (x0) (x1 + (1 : Int)) (x2) (x3) (x4) (x5) (x6) (x7) (x8) (x9) (x10) (x11))))
 else (none))))
 else (bif ((↑(List.length
 (c10_1_21 aw tw vw x1 x2 x3 x4 x5 x6 x7 x8 x9 x10)) :
 Int) !=
 (↑(List.length x2) : Int))
 then (some (.inr (false)))
 else (bif (decide
 (0 +
 List.length
 (c10_1_21 aw tw vw x1 x2 x3 x4 x5 x6 x7 x8 x9 x10) ≤
 List.length
 (c10_1_21 aw tw vw x1 x2 x3 x4 x5 x6 x7 x8 x9 x10) ∧
 List.length
 (c10_1_21 aw tw vw x1 x2 x3 x4 x5 x6 x7 x8 x9 x10) ≤
 1000000))
 then (bif (S.any
 (fun j =>
 S.at'
 (c10_1_21 aw tw vw x1 x2 x3 x4 x5 x6 x7 x8 x9 x10)
 j ==
 false)
 (List.length
 (c10_1_21 aw tw vw x1 x2 x3 x4 x5 x6 x7 x8 x9 x10)))
 then (bif (Prod.fst
 (c10_1_15 aw tw vw x1 x2 x3 x4 x5 x6 x7 x8 x9 x10))
 then (bif (lim IntKind.i64 (x1 + (1 : Int)))
 then (some (.inl (.h1 (true) (x1 + (1 : Int)) (x2) (Prod.fst
 (c10_1_9 aw tw vw x1 x2 x3 x4 x5 x6 x7 x8 x9 x10)) (Prod.fst
 (Prod.snd
 (c10_1_9 aw tw vw x1 x2 x3 x4 x5 x6 x7 x8 x9 x10))) (Prod.fst
 (Prod.snd
 (Prod.snd
 (c10_1_9 aw tw vw x1 x2 x3 x4 x5 x6 x7 x8 x9 x10)))) (c10_1_16 aw tw vw x1 x2 x3 x4 x5 x6 x7 x8 x9 x10) (Prod.fst
 (c10_1_15 aw tw vw x1 x2 x3 x4 x5 x6 x7 x8 x9 x10)) (Prod.fst
 (Prod.snd
 (c10_1_15 aw tw vw x1 x2 x3 x4 x5 x6 x7 x8 x9 x10))) (Prod.fst
 (Prod.snd
 (Prod.snd
 (Prod.snd
 (c10_1_15 aw tw vw x1 x2 x3 x4 x5 x6 x7 x8 x9 x10))))) (Prod.snd
 (Prod.snd
 (Prod.snd
 (Prod.snd
 (c10_1_15 aw tw vw x1 x2 x3 x4 x5 x6 x7 x8 x9 x10))))) (x11))))
 else (none))
 else (bif (Prod.fst
 (Prod.snd
 (c10_1_15 aw tw vw x1 x2 x3 x4 x5 x6 x7 x8 x9 x10)))
 then (bif (lim IntKind.i64 (x1 + (1 : Int)))
 then (some (.inl (.h1 (true) (x1 + (1 : Int)) (x2) (Prod.fst
 (c10_1_9 aw tw vw x1 x2 x3 x4 x5 x6 x7 x8 x9 x10)) (Prod.fst
 (Prod.snd
 (c10_1_9 aw tw vw x1 x2 x3 x4 x5 x6 x7 x8 x9 x10))) (Prod.fst
 (Prod.snd
 (Prod.snd
 (c10_1_9 aw tw vw x1 x2 x3 x4 x5 x6 x7 x8 x9 x10)))) (c10_1_16 aw tw vw x1 x2 x3 x4 x5 x6 x7 x8 x9 x10) (Prod.fst
 (c10_1_15 aw tw vw x1 x2 x3 x4 x5 x6 x7 x8 x9 x10)) (Prod.fst
 (Prod.snd
 (c10_1_15 aw tw vw x1 x2 x3 x4 x5 x6 x7 x8 x9 x10))) (Prod.fst
 (Prod.snd
 (Prod.snd
 (Prod.snd
 (c10_1_15 aw tw vw x1 x2 x3 x4 x5 x6 x7 x8 x9 x10))))) (Prod.snd
 (Prod.snd
 (Prod.snd
 (Prod.snd
 (c10_1_15 aw tw vw x1 x2 x3 x4 x5 x6 x7 x8 x9 x10))))) (x11))))
 else (none))
 else (some (.inr (false)))))
 else (bif (x0)
 then (bif ((1 : Int) + Int.tmod (tw (Int.toNat x1 + aw)) (5 : Int) != (5 : Int))
 then (bif (Prod.fst
 (c10_1_15 aw tw vw x1 x2 x3 x4 x5 x6 x7 x8 x9 x10))
 then (bif (lim IntKind.i64 (x1 + (1 : Int)))
 then (some (.inl (.h1 (true) (x1 + (1 : Int)) (x2) (Prod.fst
 (c10_1_9 aw tw vw x1 x2 x3 x4 x5 x6 x7 x8 x9 x10)) (Prod.fst
 (Prod.snd
 (c10_1_9 aw tw vw x1 x2 x3 x4 x5 x6 x7 x8 x9 x10))) (Prod.fst
 (Prod.snd
 (Prod.snd
 (c10_1_9 aw tw vw x1 x2 x3 x4 x5 x6 x7 x8 x9 x10)))) (c10_1_16 aw tw vw x1 x2 x3 x4 x5 x6 x7 x8 x9 x10) (Prod.fst
 (c10_1_15 aw tw vw x1 x2 x3 x4 x5 x6 x7 x8 x9 x10)) (Prod.fst
 (Prod.snd
 (c10_1_15 aw tw vw x1 x2 x3 x4 x5 x6 x7 x8 x9 x10))) (Prod.fst
 (Prod.snd
 (Prod.snd
 (Prod.snd
 (c10_1_15 aw tw vw x1 x2 x3 x4 x5 x6 x7 x8 x9 x10))))) (Prod.snd
 (Prod.snd
 (Prod.snd
 (Prod.snd
 (c10_1_15 aw tw vw x1 x2 x3 x4 x5 x6 x7 x8 x9 x10))))) (x11))))
 else (none))
 else (bif (Prod.fst
 (Prod.snd
 (c10_1_15 aw tw vw x1 x2 x3 x4 x5 x6 x7 x8 x9 x10)))
 then (bif (lim IntKind.i64 (x1 + (1 : Int)))
 then (some (.inl (.h1 (true) (x1 + (1 : Int)) (x2) (Prod.fst
 (c10_1_9 aw tw vw x1 x2 x3 x4 x5 x6 x7 x8 x9 x10)) (Prod.fst
 (Prod.snd
 (c10_1_9 aw tw vw x1 x2 x3 x4 x5 x6 x7 x8 x9 x10))) (Prod.fst
 (Prod.snd
 (Prod.snd
 (c10_1_9 aw tw vw x1 x2 x3 x4 x5 x6 x7 x8 x9 x10)))) (c10_1_16 aw tw vw x1 x2 x3 x4 x5 x6 x7 x8 x9 x10) (Prod.fst
 (c10_1_15 aw tw vw x1 x2 x3 x4 x5 x6 x7 x8 x9 x10)) (Prod.fst
 (Prod.snd
 (c10_1_15 aw tw vw x1 x2 x3 x4 x5 x6 x7 x8 x9 x10))) (Prod.fst
 (Prod.snd
 (Prod.snd
 (Prod.snd
 (c10_1_15 aw tw vw x1 x2 x3 x4 x5 x6 x7 x8 x9 x10))))) (Prod.snd
 (Prod.snd
 (Prod.snd
 (Prod.snd
 (c10_1_15 aw tw vw x1 x2 x3 x4 x5 x6 x7 x8 x9 x10))))) (x11))))
 else (none))
 else (some (.inr (false)))))
 else (bif (lim IntKind.i64 (x1 + (1 : Int)))
 then (some (.inl (.h1 (false) (x1 + (1 : Int)) (x2) (Prod.fst
 (c10_1_9 aw tw vw x1 x2 x3 x4 x5 x6 x7 x8 x9 x10)) (Prod.fst
 (Prod.snd
 (c10_1_9 aw tw vw x1 x2 x3 x4 x5 x6 x7 x8 x9 x10))) (Prod.fst
 (Prod.snd
 (Prod.snd
 (c10_1_9 aw tw vw x1 x2 x3 x4 x5 x6 x7 x8 x9 x10)))) (c10_1_16 aw tw vw x1 x2 x3 x4 x5 x6 x7 x8 x9 x10) (Prod.fst
 (c10_1_15 aw tw vw x1 x2 x3 x4 x5 x6 x7 x8 x9 x10)) (Prod.fst
 (Prod.snd
 (c10_1_15 aw tw vw x1 x2 x3 x4 x5 x6 x7 x8 x9 x10))) (Prod.fst
 (Prod.snd
 (Prod.snd
 (Prod.snd
 (c10_1_15 aw tw vw x1 x2 x3 x4 x5 x6 x7 x8 x9 x10))))) (Prod.snd
 (Prod.snd
 (Prod.snd
 (Prod.snd
 (c10_1_15 aw tw vw x1 x2 x3 x4 x5 x6 x7 x8 x9 x10))))) (x11))))
 else (none)))
 else (bif (lim IntKind.i64 (x1 + (1 : Int)))
 then (some (.inl (.h1 (false) (x1 + (1 : Int)) (x2) (Prod.fst
 (c10_1_9 aw tw vw x1 x2 x3 x4 x5 x6 x7 x8 x9 x10)) (Prod.fst
 (Prod.snd
 (c10_1_9 aw tw vw x1 x2 x3 x4 x5 x6 x7 x8 x9 x10))) (Prod.fst
 (Prod.snd
 (Prod.snd
 (c10_1_9 aw tw vw x1 x2 x3 x4 x5 x6 x7 x8 x9 x10)))) (c10_1_16 aw tw vw x1 x2 x3 x4 x5 x6 x7 x8 x9 x10) (Prod.fst
 (c10_1_15 aw tw vw x1 x2 x3 x4 x5 x6 x7 x8 x9 x10)) (Prod.fst
 (Prod.snd
 (c10_1_15 aw tw vw x1 x2 x3 x4 x5 x6 x7 x8 x9 x10))) (Prod.fst
 (Prod.snd
 (Prod.snd
 (Prod.snd
 (c10_1_15 aw tw vw x1 x2 x3 x4 x5 x6 x7 x8 x9 x10))))) (Prod.snd
 (Prod.snd
 (Prod.snd
 (Prod.snd
 (c10_1_15 aw tw vw x1 x2 x3 x4 x5 x6 x7 x8 x9 x10))))) (x11))))
 else (none))))
 else (none))))
 else (none))))
 else (none))
 else (none))
 else (none))
 else (none))
 else (none))
 else (some (.inr (true))) : Option (St10 ⊕ Rt10)) = some x) : T10_1 cond Kst Kret al nl ml tl vl aw nw mw tw vw x0 x1 x2 x3 x4 x5 x6 x7 x8 x9 x10 x11 := by
  unfold T10_1
  exact bif_split h
   (fun c0 h => bif_split h
   (fun c1 h => bif_split h
   (fun c2 h => cond_yes c2 (cond_yes rfl (cond_no rfl (bif_split h
   (fun c3 h => bif_split h
   (fun c4 h => cond_yes rfl (bif_split h
   (fun c5 h => bif_split h
   (fun c6 h => no_some h)
   (fun c6 h => bif_split h
   (fun c7 h => cond_yes rfl (cond_yes c5 (bif_split h
   (fun c8 h => no_some h)
   (fun c8 h => bif_split h
   (fun c9 h => bif_split h
   (fun c10 h => cond_yes c10 (cond_yes c10 (bif_split h
   (fun c11 h => bif_split h
   (fun c12 h => bif_split h
   (fun c13 h => ret_at hR _ h (fun n => n) rfl rfl rfl (rn_bool_tf rfl) rfl (entl_bor (use_lo rfl) rfl rfl (entl_bor (use_lo rfl) rfl rfl entl_nil)))
   (fun c13 h => bif_split h
   (fun c14 h => ret_at hR _ h (fun n => n) rfl rfl rfl (rn_bool_tf rfl) rfl (entl_bor (use_lo rfl) rfl rfl (entl_bor (use_lo rfl) rfl rfl entl_nil)))
   (fun c14 h => bif_split h
   (fun c15 h => stop_at hS _ h (fun n => bif Nat.beq n 2 then 2 else bif Nat.beq n 3 then 3 else bif Nat.beq n 4 then 4 else bif Nat.beq n 5 then 5 else bif Nat.beq n 6 then 6 else bif Nat.beq n 7 then 7 else n) rfl rfl rfl ⟨(rn_ptr (use_own rfl) rfl rfl), ⟨(rn_ptr (use_own rfl) rfl rfl), ⟨(rn_own (use_own rfl) rfl rfl), ⟨(rn_bool rfl), ⟨(rn_loose (use_lo rfl) rfl rfl rfl), ⟨(rn_int rfl), ⟨(rn_int rfl), trivial⟩⟩⟩⟩⟩⟩⟩ rfl (entl_b (use_own rfl) rfl (by simp) (rb_cells ⟨(rn_own (use_own rfl) rfl rfl), (rn_int rfl), trivial⟩) (entl_new (use_own rfl) rfl (Nat.le_of_eq rfl) (rcs_str (fun _ _ => rfl) (rcs_int (fun _ _ => rfl) (rcs_int (fun _ _ => rfl) rcs_nil))) (entl_b (use_own rfl) rfl (by simp) (rb_cells ⟨(rn_own (use_own rfl) rfl rfl), (rn_int rfl), (rn_own (use_own rfl) rfl rfl), (rn_int rfl), (rn_int rfl), (rn_int rfl), (rn_bool rfl), (rn_bool rfl), trivial⟩) (entl_new (use_own rfl) rfl (Nat.le_of_eq rfl) (rcs_str (fun _ _ => rfl) (rcs_int (fun _ _ => rfl) (rcs_int (fun _ _ => rfl) rcs_nil))) (entl_new (use_own rfl) rfl (Nat.le_of_eq rfl) (rcs_bool (fun _ _ => rfl) rcs_nil) (entl_new (use_own rfl) rfl (Nat.le_of_eq rfl) (rcs_int (fun _ _ => rfl) (rcs_int (fun _ _ => rfl) (rcs_int (fun _ _ => rfl) rcs_nil))) (entl_bor (use_lo rfl) rfl rfl (entl_bor (use_lo rfl) rfl rfl entl_nil)))))))))
   (fun c15 h => no_some h))))
   (fun c12 h => bif_split h
   (fun c13 h => ret_at hR _ h (fun n => n) rfl rfl rfl (rn_bool_tf rfl) rfl (entl_bor (use_lo rfl) rfl rfl (entl_bor (use_lo rfl) rfl rfl entl_nil)))
   (fun c13 h => bif_split h
   (fun c14 h => bif_split h
   (fun c15 h => bif_split h
   (fun c16 h => bif_split h
   (fun c17 h => stop_at hS _ h (fun n => bif Nat.beq n 2 then 2 else bif Nat.beq n 3 then 3 else bif Nat.beq n 4 then 4 else bif Nat.beq n 5 then 11 else bif Nat.beq n 6 then 12 else bif Nat.beq n 7 then 7 else n) rfl rfl rfl ⟨(rn_ptr (use_own rfl) rfl rfl), ⟨(rn_ptr (use_own rfl) rfl rfl), ⟨(rn_own (use_own rfl) rfl rfl), ⟨(rn_bool_tf rfl), ⟨(rn_loose (use_lo rfl) rfl rfl rfl), ⟨(rn_int rfl), ⟨(rn_int rfl), trivial⟩⟩⟩⟩⟩⟩⟩ rfl (entl_b (use_own rfl) rfl (by simp) (rb_cells ⟨(rn_own (use_own rfl) rfl rfl), (rn_int rfl), trivial⟩) (entl_new (use_own rfl) rfl (Nat.le_of_eq rfl) (rcs_str (fun _ _ => rfl) (rcs_int (fun _ _ => rfl) (rcs_int (fun _ _ => rfl) rcs_nil))) (entl_b (use_own rfl) rfl (by simp) (rb_cells ⟨(rn_own (use_own rfl) rfl rfl), (rn_int rfl), (rn_own (use_own rfl) rfl rfl), (rn_int rfl), (rn_int rfl), (rn_int rfl), (rn_bool rfl), (rn_bool rfl), trivial⟩) (entl_new (use_own rfl) rfl (Nat.le_of_eq rfl) (rcs_str (fun _ _ => rfl) (rcs_int (fun _ _ => rfl) (rcs_int (fun _ _ => rfl) rcs_nil))) (entl_new (use_own rfl) rfl (Nat.le_of_eq rfl) (rcs_bool (fun _ _ => rfl) rcs_nil) (entl_new (use_own rfl) rfl (Nat.le_of_eq rfl) (rcs_int (fun _ _ => rfl) (rcs_int (fun _ _ => rfl) (rcs_int (fun _ _ => rfl) rcs_nil))) (entl_bor (use_lo rfl) rfl rfl (entl_bor (use_lo rfl) rfl rfl entl_nil)))))))))
   (fun c17 h => no_some h))
   (fun c16 h => bif_split h
   (fun c17 h => bif_split h
   (fun c18 h => stop_at hS _ h (fun n => bif Nat.beq n 2 then 2 else bif Nat.beq n 3 then 3 else bif Nat.beq n 4 then 4 else bif Nat.beq n 5 then 11 else bif Nat.beq n 6 then 12 else bif Nat.beq n 7 then 7 else n) rfl rfl rfl ⟨(rn_ptr (use_own rfl) rfl rfl), ⟨(rn_ptr (use_own rfl) rfl rfl), ⟨(rn_own (use_own rfl) rfl rfl), ⟨(rn_bool_tf rfl), ⟨(rn_loose (use_lo rfl) rfl rfl rfl), ⟨(rn_int rfl), ⟨(rn_int rfl), trivial⟩⟩⟩⟩⟩⟩⟩ rfl (entl_b (use_own rfl) rfl (by simp) (rb_cells ⟨(rn_own (use_own rfl) rfl rfl), (rn_int rfl), trivial⟩) (entl_new (use_own rfl) rfl (Nat.le_of_eq rfl) (rcs_str (fun _ _ => rfl) (rcs_int (fun _ _ => rfl) (rcs_int (fun _ _ => rfl) rcs_nil))) (entl_b (use_own rfl) rfl (by simp) (rb_cells ⟨(rn_own (use_own rfl) rfl rfl), (rn_int rfl), (rn_own (use_own rfl) rfl rfl), (rn_int rfl), (rn_int rfl), (rn_int rfl), (rn_bool rfl), (rn_bool rfl), trivial⟩) (entl_new (use_own rfl) rfl (Nat.le_of_eq rfl) (rcs_str (fun _ _ => rfl) (rcs_int (fun _ _ => rfl) (rcs_int (fun _ _ => rfl) rcs_nil))) (entl_new (use_own rfl) rfl (Nat.le_of_eq rfl) (rcs_bool (fun _ _ => rfl) rcs_nil) (entl_new (use_own rfl) rfl (Nat.le_of_eq rfl) (rcs_int (fun _ _ => rfl) (rcs_int (fun _ _ => rfl) (rcs_int (fun _ _ => rfl) rcs_nil))) (entl_bor (use_lo rfl) rfl rfl (entl_bor (use_lo rfl) rfl rfl entl_nil)))))))))
   (fun c18 h => no_some h))
   (fun c17 h => ret_at hR _ h (fun n => n) rfl rfl rfl (rn_bool_tf rfl) rfl (entl_bor (use_lo rfl) rfl rfl (entl_bor (use_lo rfl) rfl rfl entl_nil)))))
   (fun c15 h => bif_split h
   (fun c16 h => bif_split h
   (fun c17 h => bif_split h
   (fun c18 h => bif_split h
   (fun c19 h => stop_at hS _ h (fun n => bif Nat.beq n 2 then 2 else bif Nat.beq n 3 then 3 else bif Nat.beq n 4 then 4 else bif Nat.beq n 5 then 11 else bif Nat.beq n 6 then 12 else bif Nat.beq n 7 then 7 else n) rfl rfl rfl ⟨(rn_ptr (use_own rfl) rfl rfl), ⟨(rn_ptr (use_own rfl) rfl rfl), ⟨(rn_own (use_own rfl) rfl rfl), ⟨(rn_bool_tf rfl), ⟨(rn_loose (use_lo rfl) rfl rfl rfl), ⟨(rn_int rfl), ⟨(rn_int rfl), trivial⟩⟩⟩⟩⟩⟩⟩ rfl (entl_b (use_own rfl) rfl (by simp) (rb_cells ⟨(rn_own (use_own rfl) rfl rfl), (rn_int rfl), trivial⟩) (entl_new (use_own rfl) rfl (Nat.le_of_eq rfl) (rcs_str (fun _ _ => rfl) (rcs_int (fun _ _ => rfl) (rcs_int (fun _ _ => rfl) rcs_nil))) (entl_b (use_own rfl) rfl (by simp) (rb_cells ⟨(rn_own (use_own rfl) rfl rfl), (rn_int rfl), (rn_own (use_own rfl) rfl rfl), (rn_int rfl), (rn_int rfl), (rn_int rfl), (rn_bool rfl), (rn_bool rfl), trivial⟩) (entl_new (use_own rfl) rfl (Nat.le_of_eq rfl) (rcs_str (fun _ _ => rfl) (rcs_int (fun _ _ => rfl) (rcs_int (fun _ _ => rfl) rcs_nil))) (entl_new (use_own rfl) rfl (Nat.le_of_eq rfl) (rcs_bool (fun _ _ => rfl) rcs_nil) (entl_new (use_own rfl) rfl (Nat.le_of_eq rfl) (rcs_int (fun _ _ => rfl) (rcs_int (fun _ _ => rfl) (rcs_int (fun _ _ => rfl) rcs_nil))) (entl_bor (use_lo rfl) rfl rfl (entl_bor (use_lo rfl) rfl rfl entl_nil)))))))))
   (fun c19 h => no_some h))
   (fun c18 h => bif_split h
   (fun c19 h => bif_split h
   (fun c20 h => stop_at hS _ h (fun n => bif Nat.beq n 2 then 2 else bif Nat.beq n 3 then 3 else bif Nat.beq n 4 then 4 else bif Nat.beq n 5 then 11 else bif Nat.beq n 6 then 12 else bif Nat.beq n 7 then 7 else n) rfl rfl rfl ⟨(rn_ptr (use_own rfl) rfl rfl), ⟨(rn_ptr (use_own rfl) rfl rfl), ⟨(rn_own (use_own rfl) rfl rfl), ⟨(rn_bool_tf rfl), ⟨(rn_loose (use_lo rfl) rfl rfl rfl), ⟨(rn_int rfl), ⟨(rn_int rfl), trivial⟩⟩⟩⟩⟩⟩⟩ rfl (entl_b (use_own rfl) rfl (by simp) (rb_cells ⟨(rn_own (use_own rfl) rfl rfl), (rn_int rfl), trivial⟩) (entl_new (use_own rfl) rfl (Nat.le_of_eq rfl) (rcs_str (fun _ _ => rfl) (rcs_int (fun _ _ => rfl) (rcs_int (fun _ _ => rfl) rcs_nil))) (entl_b (use_own rfl) rfl (by simp) (rb_cells ⟨(rn_own (use_own rfl) rfl rfl), (rn_int rfl), (rn_own (use_own rfl) rfl rfl), (rn_int rfl), (rn_int rfl), (rn_int rfl), (rn_bool rfl), (rn_bool rfl), trivial⟩) (entl_new (use_own rfl) rfl (Nat.le_of_eq rfl) (rcs_str (fun _ _ => rfl) (rcs_int (fun _ _ => rfl) (rcs_int (fun _ _ => rfl) rcs_nil))) (entl_new (use_own rfl) rfl (Nat.le_of_eq rfl) (rcs_bool (fun _ _ => rfl) rcs_nil) (entl_new (use_own rfl) rfl (Nat.le_of_eq rfl) (rcs_int (fun _ _ => rfl) (rcs_int (fun _ _ => rfl) (rcs_int (fun _ _ => rfl) rcs_nil))) (entl_bor (use_lo rfl) rfl rfl (entl_bor (use_lo rfl) rfl rfl entl_nil)))))))))
   (fun c20 h => no_some h))
   (fun c19 h => ret_at hR _ h (fun n => n) rfl rfl rfl (rn_bool_tf rfl) rfl (entl_bor (use_lo rfl) rfl rfl (entl_bor (use_lo rfl) rfl rfl entl_nil)))))
   (fun c17 h => bif_split h
   (fun c18 h => stop_at hS _ h (fun n => bif Nat.beq n 2 then 2 else bif Nat.beq n 3 then 3 else bif Nat.beq n 4 then 4 else bif Nat.beq n 5 then 11 else bif Nat.beq n 6 then 12 else bif Nat.beq n 7 then 7 else n) rfl rfl rfl ⟨(rn_ptr (use_own rfl) rfl rfl), ⟨(rn_ptr (use_own rfl) rfl rfl), ⟨(rn_own (use_own rfl) rfl rfl), ⟨(rn_bool_tf rfl), ⟨(rn_loose (use_lo rfl) rfl rfl rfl), ⟨(rn_int rfl), ⟨(rn_int rfl), trivial⟩⟩⟩⟩⟩⟩⟩ rfl (entl_b (use_own rfl) rfl (by simp) (rb_cells ⟨(rn_own (use_own rfl) rfl rfl), (rn_int rfl), trivial⟩) (entl_new (use_own rfl) rfl (Nat.le_of_eq rfl) (rcs_str (fun _ _ => rfl) (rcs_int (fun _ _ => rfl) (rcs_int (fun _ _ => rfl) rcs_nil))) (entl_b (use_own rfl) rfl (by simp) (rb_cells ⟨(rn_own (use_own rfl) rfl rfl), (rn_int rfl), (rn_own (use_own rfl) rfl rfl), (rn_int rfl), (rn_int rfl), (rn_int rfl), (rn_bool rfl), (rn_bool rfl), trivial⟩) (entl_new (use_own rfl) rfl (Nat.le_of_eq rfl) (rcs_str (fun _ _ => rfl) (rcs_int (fun _ _ => rfl) (rcs_int (fun _ _ => rfl) rcs_nil))) (entl_new (use_own rfl) rfl (Nat.le_of_eq rfl) (rcs_bool (fun _ _ => rfl) rcs_nil) (entl_new (use_own rfl) rfl (Nat.le_of_eq rfl) (rcs_int (fun _ _ => rfl) (rcs_int (fun _ _ => rfl) (rcs_int (fun _ _ => rfl) rcs_nil))) (entl_bor (use_lo rfl) rfl rfl (entl_bor (use_lo rfl) rfl rfl entl_nil)))))))))
   (fun c18 h => no_some h)))
   (fun c16 h => bif_split h
   (fun c17 h => stop_at hS _ h (fun n => bif Nat.beq n 2 then 2 else bif Nat.beq n 3 then 3 else bif Nat.beq n 4 then 4 else bif Nat.beq n 5 then 11 else bif Nat.beq n 6 then 12 else bif Nat.beq n 7 then 7 else n) rfl rfl rfl ⟨(rn_ptr (use_own rfl) rfl rfl), ⟨(rn_ptr (use_own rfl) rfl rfl), ⟨(rn_own (use_own rfl) rfl rfl), ⟨(rn_bool_tf rfl), ⟨(rn_loose (use_lo rfl) rfl rfl rfl), ⟨(rn_int rfl), ⟨(rn_int rfl), trivial⟩⟩⟩⟩⟩⟩⟩ rfl (entl_b (use_own rfl) rfl (by simp) (rb_cells ⟨(rn_own (use_own rfl) rfl rfl), (rn_int rfl), trivial⟩) (entl_new (use_own rfl) rfl (Nat.le_of_eq rfl) (rcs_str (fun _ _ => rfl) (rcs_int (fun _ _ => rfl) (rcs_int (fun _ _ => rfl) rcs_nil))) (entl_b (use_own rfl) rfl (by simp) (rb_cells ⟨(rn_own (use_own rfl) rfl rfl), (rn_int rfl), (rn_own (use_own rfl) rfl rfl), (rn_int rfl), (rn_int rfl), (rn_int rfl), (rn_bool rfl), (rn_bool rfl), trivial⟩) (entl_new (use_own rfl) rfl (Nat.le_of_eq rfl) (rcs_str (fun _ _ => rfl) (rcs_int (fun _ _ => rfl) (rcs_int (fun _ _ => rfl) rcs_nil))) (entl_new (use_own rfl) rfl (Nat.le_of_eq rfl) (rcs_bool (fun _ _ => rfl) rcs_nil) (entl_new (use_own rfl) rfl (Nat.le_of_eq rfl) (rcs_int (fun _ _ => rfl) (rcs_int (fun _ _ => rfl) (rcs_int (fun _ _ => rfl) rcs_nil))) (entl_bor (use_lo rfl) rfl rfl (entl_bor (use_lo rfl) rfl rfl entl_nil)))))))))
   (fun c17 h => no_some h))))
   (fun c14 h => no_some h))))
   (fun c11 h => no_some h))))
   (fun c10 h => no_some h))
   (fun c9 h => no_some h)))))
   (fun c7 h => bif_split h
   (fun c8 h => bif_split h
   (fun c9 h => bif_split h
   (fun c10 h => ret_at hR _ h (fun n => n) rfl rfl rfl (rn_bool_tf rfl) rfl (entl_bor (use_lo rfl) rfl rfl (entl_bor (use_lo rfl) rfl rfl entl_nil)))
   (fun c10 h => bif_split h
   (fun c11 h => ret_at hR _ h (fun n => n) rfl rfl rfl (rn_bool_tf rfl) rfl (entl_bor (use_lo rfl) rfl rfl (entl_bor (use_lo rfl) rfl rfl entl_nil)))
   (fun c11 h => bif_split h
   (fun c12 h => stop_at hS _ h (fun n => bif Nat.beq n 2 then 2 else bif Nat.beq n 3 then 3 else bif Nat.beq n 4 then 4 else bif Nat.beq n 5 then 5 else bif Nat.beq n 6 then 6 else bif Nat.beq n 7 then 7 else n) rfl rfl rfl ⟨(rn_ptr (use_own rfl) rfl rfl), ⟨(rn_ptr (use_own rfl) rfl rfl), ⟨(rn_own (use_own rfl) rfl rfl), ⟨(rn_bool rfl), ⟨(rn_loose (use_lo rfl) rfl rfl rfl), ⟨(rn_int rfl), ⟨(rn_int rfl), trivial⟩⟩⟩⟩⟩⟩⟩ rfl (entl_b (use_own rfl) rfl (by simp) (rb_cells ⟨(rn_own (use_own rfl) rfl rfl), (rn_int rfl), trivial⟩) (entl_new (use_own rfl) rfl (Nat.le_of_eq rfl) (rcs_str (fun _ _ => rfl) (rcs_int (fun _ _ => rfl) (rcs_int (fun _ _ => rfl) rcs_nil))) (entl_b (use_own rfl) rfl (by simp) (rb_cells ⟨(rn_own (use_own rfl) rfl rfl), (rn_int rfl), (rn_own (use_own rfl) rfl rfl), (rn_int rfl), (rn_int rfl), (rn_int rfl), (rn_bool rfl), (rn_bool rfl), trivial⟩) (entl_new (use_own rfl) rfl (Nat.le_of_eq rfl) (rcs_str (fun _ _ => rfl) (rcs_int (fun _ _ => rfl) (rcs_int (fun _ _ => rfl) rcs_nil))) (entl_new (use_own rfl) rfl (Nat.le_of_eq rfl) (rcs_bool (fun _ _ => rfl) rcs_nil) (entl_new (use_own rfl) rfl (Nat.le_of_eq rfl) (rcs_int (fun _ _ => rfl) (rcs_int (fun _ _ => rfl) (rcs_int (fun _ _ => rfl) rcs_nil))) (entl_bor (use_lo rfl) rfl rfl (entl_bor (use_lo rfl) rfl rfl entl_nil)))))))))
   (fun c12 h => no_some h))))
   (fun c9 h => bif_split h
   (fun c10 h => ret_at hR _ h (fun n => n) rfl rfl rfl (rn_bool_tf rfl) rfl (entl_bor (use_lo rfl) rfl rfl (entl_bor (use_lo rfl) rfl rfl entl_nil)))
   (fun c10 h => bif_split h
   (fun c11 h => bif_split h
   (fun c12 h => bif_split h
   (fun c13 h => bif_split h
   (fun c14 h => stop_at hS _ h (fun n => bif Nat.beq n 2 then 2 else bif Nat.beq n 3 then 3 else bif Nat.beq n 4 then 4 else bif Nat.beq n 5 then 11 else bif Nat.beq n 6 then 12 else bif Nat.beq n 7 then 7 else n) rfl rfl rfl ⟨(rn_ptr (use_own rfl) rfl rfl), ⟨(rn_ptr (use_own rfl) rfl rfl), ⟨(rn_own (use_own rfl) rfl rfl), ⟨(rn_bool_tf rfl), ⟨(rn_loose (use_lo rfl) rfl rfl rfl), ⟨(rn_int rfl), ⟨(rn_int rfl), trivial⟩⟩⟩⟩⟩⟩⟩ rfl (entl_b (use_own rfl) rfl (by simp) (rb_cells ⟨(rn_own (use_own rfl) rfl rfl), (rn_int rfl), trivial⟩) (entl_new (use_own rfl) rfl (Nat.le_of_eq rfl) (rcs_str (fun _ _ => rfl) (rcs_int (fun _ _ => rfl) (rcs_int (fun _ _ => rfl) rcs_nil))) (entl_b (use_own rfl) rfl (by simp) (rb_cells ⟨(rn_own (use_own rfl) rfl rfl), (rn_int rfl), (rn_own (use_own rfl) rfl rfl), (rn_int rfl), (rn_int rfl), (rn_int rfl), (rn_bool rfl), (rn_bool rfl), trivial⟩) (entl_new (use_own rfl) rfl (Nat.le_of_eq rfl) (rcs_str (fun _ _ => rfl) (rcs_int (fun _ _ => rfl) (rcs_int (fun _ _ => rfl) rcs_nil))) (entl_new (use_own rfl) rfl (Nat.le_of_eq rfl) (rcs_bool (fun _ _ => rfl) rcs_nil) (entl_new (use_own rfl) rfl (Nat.le_of_eq rfl) (rcs_int (fun _ _ => rfl) (rcs_int (fun _ _ => rfl) (rcs_int (fun _ _ => rfl) rcs_nil))) (entl_bor (use_lo rfl) rfl rfl (entl_bor (use_lo rfl) rfl rfl entl_nil)))))))))
   (fun c14 h => no_some h))
   (fun c13 h => bif_split h
   (fun c14 h => bif_split h
   (fun c15 h => stop_at hS _ h (fun n => bif Nat.beq n 2 then 2 else bif Nat.beq n 3 then 3 else bif Nat.beq n 4 then 4 else bif Nat.beq n 5 then 11 else bif Nat.beq n 6 then 12 else bif Nat.beq n 7 then 7 else n) rfl rfl rfl ⟨(rn_ptr (use_own rfl) rfl rfl), ⟨(rn_ptr (use_own rfl) rfl rfl), ⟨(rn_own (use_own rfl) rfl rfl), ⟨(rn_bool_tf rfl), ⟨(rn_loose (use_lo rfl) rfl rfl rfl), ⟨(rn_int rfl), ⟨(rn_int rfl), trivial⟩⟩⟩⟩⟩⟩⟩ rfl (entl_b (use_own rfl) rfl (by simp) (rb_cells ⟨(rn_own (use_own rfl) rfl rfl), (rn_int rfl), trivial⟩) (entl_new (use_own rfl) rfl (Nat.le_of_eq rfl) (rcs_str (fun _ _ => rfl) (rcs_int (fun _ _ => rfl) (rcs_int (fun _ _ => rfl) rcs_nil))) (entl_b (use_own rfl) rfl (by simp) (rb_cells ⟨(rn_own (use_own rfl) rfl rfl), (rn_int rfl), (rn_own (use_own rfl) rfl rfl), (rn_int rfl), (rn_int rfl), (rn_int rfl), (rn_bool rfl), (rn_bool rfl), trivial⟩) (entl_new (use_own rfl) rfl (Nat.le_of_eq rfl) (rcs_str (fun _ _ => rfl) (rcs_int (fun _ _ => rfl) (rcs_int (fun _ _ => rfl) rcs_nil))) (entl_new (use_own rfl) rfl (Nat.le_of_eq rfl) (rcs_bool (fun _ _ => rfl) rcs_nil) (entl_new (use_own rfl) rfl (Nat.le_of_eq rfl) (rcs_int (fun _ _ => rfl) (rcs_int (fun _ _ => rfl) (rcs_int (fun _ _ => rfl) rcs_nil))) (entl_bor (use_lo rfl) rfl rfl (entl_bor (use_lo rfl) rfl rfl entl_nil)))))))))
   (fun c15 h => no_some h))
   (fun c14 h => ret_at hR _ h (fun n => n) rfl rfl rfl (rn_bool_tf rfl) rfl (entl_bor (use_lo rfl) rfl rfl (entl_bor (use_lo rfl) rfl rfl entl_nil)))))
   (fun c12 h => bif_split h
   (fun c13 h => bif_split h
   (fun c14 h => bif_split h
   (fun c15 h => bif_split h
   (fun c16 h => stop_at hS _ h (fun n => bif Nat.beq n 2 then 2 else bif Nat.beq n 3 then 3 else bif Nat.beq n 4 then 4 else bif Nat.beq n 5 then 11 else bif Nat.beq n 6 then 12 else bif Nat.beq n 7 then 7 else n) rfl rfl rfl ⟨(rn_ptr (use_own rfl) rfl rfl), ⟨(rn_ptr (use_own rfl) rfl rfl), ⟨(rn_own (use_own rfl) rfl rfl), ⟨(rn_bool_tf rfl), ⟨(rn_loose (use_lo rfl) rfl rfl rfl), ⟨(rn_int rfl), ⟨(rn_int rfl), trivial⟩⟩⟩⟩⟩⟩⟩ rfl (entl_b (use_own rfl) rfl (by simp) (rb_cells ⟨(rn_own (use_own rfl) rfl rfl), (rn_int rfl), trivial⟩) (entl_new (use_own rfl) rfl (Nat.le_of_eq rfl) (rcs_str (fun _ _ => rfl) (rcs_int (fun _ _ => rfl) (rcs_int (fun _ _ => rfl) rcs_nil))) (entl_b (use_own rfl) rfl (by simp) (rb_cells ⟨(rn_own (use_own rfl) rfl rfl), (rn_int rfl), (rn_own (use_own rfl) rfl rfl), (rn_int rfl), (rn_int rfl), (rn_int rfl), (rn_bool rfl), (rn_bool rfl), trivial⟩) (entl_new (use_own rfl) rfl (Nat.le_of_eq rfl) (rcs_str (fun _ _ => rfl) (rcs_int (fun _ _ => rfl) (rcs_int (fun _ _ => rfl) rcs_nil))) (entl_new (use_own rfl) rfl (Nat.le_of_eq rfl) (rcs_bool (fun _ _ => rfl) rcs_nil) (entl_new (use_own rfl) rfl (Nat.le_of_eq rfl) (rcs_int (fun _ _ => rfl) (rcs_int (fun _ _ => rfl) (rcs_int (fun _ _ => rfl) rcs_nil))) (entl_bor (use_lo rfl) rfl rfl (entl_bor (use_lo rfl) rfl rfl entl_nil)))))))))
   (fun c16 h => no_some h))
   (fun c15 h => bif_split h
   (fun c16 h => bif_split h
   (fun c17 h => stop_at hS _ h (fun n => bif Nat.beq n 2 then 2 else bif Nat.beq n 3 then 3 else bif Nat.beq n 4 then 4 else bif Nat.beq n 5 then 11 else bif Nat.beq n 6 then 12 else bif Nat.beq n 7 then 7 else n) rfl rfl rfl ⟨(rn_ptr (use_own rfl) rfl rfl), ⟨(rn_ptr (use_own rfl) rfl rfl), ⟨(rn_own (use_own rfl) rfl rfl), ⟨(rn_bool_tf rfl), ⟨(rn_loose (use_lo rfl) rfl rfl rfl), ⟨(rn_int rfl), ⟨(rn_int rfl), trivial⟩⟩⟩⟩⟩⟩⟩ rfl (entl_b (use_own rfl) rfl (by simp) (rb_cells ⟨(rn_own (use_own rfl) rfl rfl), (rn_int rfl), trivial⟩) (entl_new (use_own rfl) rfl (Nat.le_of_eq rfl) (rcs_str (fun _ _ => rfl) (rcs_int (fun _ _ => rfl) (rcs_int (fun _ _ => rfl) rcs_nil))) (entl_b (use_own rfl) rfl (by simp) (rb_cells ⟨(rn_own (use_own rfl) rfl rfl), (rn_int rfl), (rn_own (use_own rfl) rfl rfl), (rn_int rfl), (rn_int rfl), (rn_int rfl), (rn_bool rfl), (rn_bool rfl), trivial⟩) (entl_new (use_own rfl) rfl (Nat.le_of_eq rfl) (rcs_str (fun _ _ => rfl) (rcs_int (fun _ _ => rfl) (rcs_int (fun _ _ => rfl) rcs_nil))) (entl_new (use_own rfl) rfl (Nat.le_of_eq rfl) (rcs_bool (fun _ _ => rfl) rcs_nil) (entl_new (use_own rfl) rfl (Nat.le_of_eq rfl) (rcs_int (fun _ _ => rfl) (rcs_int (fun _ _ => rfl) (rcs_int (fun _ _ => rfl) rcs_nil))) (entl_bor (use_lo rfl) rfl rfl (entl_bor (use_lo rfl) rfl rfl entl_nil)))))))))
   (fun c17 h => no_some h))
   (fun c16 h => ret_at hR _ h (fun n => n) rfl rfl rfl (rn_bool_tf rfl) rfl (entl_bor (use_lo rfl) rfl rfl (entl_bor (use_lo rfl) rfl rfl entl_nil)))))
   (fun c14 h => bif_split h
   (fun c15 h => stop_at hS _ h (fun n => bif Nat.beq n 2 then 2 else bif Nat.beq n 3 then 3 else bif Nat.beq n 4 then 4 else bif Nat.beq n 5 then 11 else bif Nat.beq n 6 then 12 else bif Nat.beq n 7 then 7 else n) rfl rfl rfl ⟨(rn_ptr (use_own rfl) rfl rfl), ⟨(rn_ptr (use_own rfl) rfl rfl), ⟨(rn_own (use_own rfl) rfl rfl), ⟨(rn_bool_tf rfl), ⟨(rn_loose (use_lo rfl) rfl rfl rfl), ⟨(rn_int rfl), ⟨(rn_int rfl), trivial⟩⟩⟩⟩⟩⟩⟩ rfl (entl_b (use_own rfl) rfl (by simp) (rb_cells ⟨(rn_own (use_own rfl) rfl rfl), (rn_int rfl), trivial⟩) (entl_new (use_own rfl) rfl (Nat.le_of_eq rfl) (rcs_str (fun _ _ => rfl) (rcs_int (fun _ _ => rfl) (rcs_int (fun _ _ => rfl) rcs_nil))) (entl_b (use_own rfl) rfl (by simp) (rb_cells ⟨(rn_own (use_own rfl) rfl rfl), (rn_int rfl), (rn_own (use_own rfl) rfl rfl), (rn_int rfl), (rn_int rfl), (rn_int rfl), (rn_bool rfl), (rn_bool rfl), trivial⟩) (entl_new (use_own rfl) rfl (Nat.le_of_eq rfl) (rcs_str (fun _ _ => rfl) (rcs_int (fun _ _ => rfl) (rcs_int (fun _ _ => rfl) rcs_nil))) (entl_new (use_own rfl) rfl (Nat.le_of_eq rfl) (rcs_bool (fun _ _ => rfl) rcs_nil) (entl_new (use_own rfl) rfl (Nat.le_of_eq rfl) (rcs_int (fun _ _ => rfl) (rcs_int (fun _ _ => rfl) (rcs_int (fun _ _ => rfl) rcs_nil))) (entl_bor (use_lo rfl) rfl rfl (entl_bor (use_lo rfl) rfl rfl entl_nil)))))))))
   (fun c15 h => no_some h)))
   (fun c13 h => bif_split h
   (fun c14 h => stop_at hS _ h (fun n => bif Nat.beq n 2 then 2 else bif Nat.beq n 3 then 3 else bif Nat.beq n 4 then 4 else bif Nat.beq n 5 then 11 else bif Nat.beq n 6 then 12 else bif Nat.beq n 7 then 7 else n) rfl rfl rfl ⟨(rn_ptr (use_own rfl) rfl rfl), ⟨(rn_ptr (use_own rfl) rfl rfl), ⟨(rn_own (use_own rfl) rfl rfl), ⟨(rn_bool_tf rfl), ⟨(rn_loose (use_lo rfl) rfl rfl rfl), ⟨(rn_int rfl), ⟨(rn_int rfl), trivial⟩⟩⟩⟩⟩⟩⟩ rfl (entl_b (use_own rfl) rfl (by simp) (rb_cells ⟨(rn_own (use_own rfl) rfl rfl), (rn_int rfl), trivial⟩) (entl_new (use_own rfl) rfl (Nat.le_of_eq rfl) (rcs_str (fun _ _ => rfl) (rcs_int (fun _ _ => rfl) (rcs_int (fun _ _ => rfl) rcs_nil))) (entl_b (use_own rfl) rfl (by simp) (rb_cells ⟨(rn_own (use_own rfl) rfl rfl), (rn_int rfl), (rn_own (use_own rfl) rfl rfl), (rn_int rfl), (rn_int rfl), (rn_int rfl), (rn_bool rfl), (rn_bool rfl), trivial⟩) (entl_new (use_own rfl) rfl (Nat.le_of_eq rfl) (rcs_str (fun _ _ => rfl) (rcs_int (fun _ _ => rfl) (rcs_int (fun _ _ => rfl) rcs_nil))) (entl_new (use_own rfl) rfl (Nat.le_of_eq rfl) (rcs_bool (fun _ _ => rfl) rcs_nil) (entl_new (use_own rfl) rfl (Nat.le_of_eq rfl) (rcs_int (fun _ _ => rfl) (rcs_int (fun _ _ => rfl) (rcs_int (fun _ _ => rfl) rcs_nil))) (entl_bor (use_lo rfl) rfl rfl (entl_bor (use_lo rfl) rfl rfl entl_nil)))))))))
   (fun c14 h => no_some h))))
   (fun c11 h => no_some h))))
   (fun c8 h => no_some h))))
   (fun c5 h => no_some h)))
   (fun c4 h => no_some h))
   (fun c3 h => no_some h)))))
   (fun c2 h => no_some h))
   (fun c1 h => no_some h))
   (fun c0 h => ret_at hR _ h (fun n => n) rfl rfl rfl (rn_bool_tf rfl) rfl (entl_bor (use_lo rfl) rfl rfl (entl_bor (use_lo rfl) rfl rfl entl_nil)))
theorem a10 (al nl ml : Nat) (tl : Nat → Int) (vl : Nat → Int) (aw nw mw : Nat) (tw : Nat → Int) (vw : Nat → Int) {r : Rt10} (h : Goes ((q10 al nl ml tl vl aw nw mw tw vw)) ((p10 al nl ml tl vl aw nw mw tw vw)) r) : CallR Try.prog 10 [.loose ⟨0, 2, al, 0⟩ nl, .loose ⟨1, 2, aw, 0⟩ nw] [[(0, (false, .cols ml [.int .u8 tl, .int .u8 vl])), (1, (false, .cols mw [.int .u8 tw, .int .u8 vw]))]] 2 ((V10 al nl ml tl vl aw nw mw tw vw) r) ((fun r => [newL (2 + 1) ((N10 al nl ml tl vl aw nw mw tw vw) r) ++ [(0, (false, .cols ml [.int .u8 tl, .int .u8 vl])), (1, (false, .cols mw [.int .u8 tw, .int .u8 vw]))]]) r) 400 ∧ ∃ F, Try.prog.funcs[10]? = some F ∧ F.body.isSome = true ∧ (F.name == "runtime.NumGoroutine") = false := by
  refine dec_calls (f := 10) (lo := 2) (hi := 400) (H := [[(0, (false, .cols ml [.int .u8 tl, .int .u8 vl])), (1, (false, .cols mw [.int .u8 tw, .int .u8 vw]))]]) (args := [.loose ⟨0, 2, al, 0⟩ nl, .loose ⟨1, 2, aw, 0⟩ nw]) Try.envOk Try.mixed xLA_ok ((I10 al nl ml tl vl aw nw mw tw vw)) ((V10 al nl ml tl vl aw nw mw tw vw)) (fun r => [newL (2 + 1) ((N10 al nl ml tl vl aw nw mw tw vw) r) ++ [(0, (false, .cols ml [.int .u8 tl, .int .u8 vl])), (1, (false, .cols mw [.int .u8 tw, .int .u8 vw]))]]) (fn := mkFn Try.f10) (ts := [5, 6, 7, 9, 44, 45, 46]) (n := 400) rfl (by decide) (by simp) (names_of rfl) ?_ ?_ ?_ h
  · intro s; cases s <;> exact ⟨hd_ok _ _, by simp [I10], names_of rfl, Nat.le_of_ble_eq_true rfl⟩
  · intro Kst Kret x hS hR h
    exact Holds.eq (te10 cond Kst Kret al nl ml tl vl aw nw mw tw vw) (be10 al nl ml tl vl aw nw mw tw vw Kst Kret x hS hR h)
  · intro Kst Kret x hS hR s h
    cases s with
    | h0 x0 x1 x2 x3 => exact Holds.eq (t10_0 cond Kst Kret al nl ml tl vl aw nw mw tw vw x0 x1 x2 x3) (b10_0 al nl ml tl vl aw nw mw tw vw Kst Kret x hS hR x0 x1 x2 x3 h)
    | h1 x0 x1 x2 x3 x4 x5 x6 x7 x8 x9 x10 x11 => exact Holds.eq (t10_1 cond Kst Kret al nl ml tl vl aw nw mw tw vw x0 x1 x2 x3 x4 x5 x6 x7 x8 x9 x10 x11) (b10_1 al nl ml tl vl aw nw mw tw vw Kst Kret x hS hR x0 x1 x2 x3 x4 x5 x6 x7 x8 x9 x10 x11 h)
noncomputable def k10 : Con := ⟨10, [.one (.list [.int .u8, .int .u8]), .one (.list [.int .u8, .int .u8])], fun (x : (Nat × Nat × Nat × (Nat → Int) × (Nat → Int) × Unit) × (Nat × Nat × Nat × (Nat → Int) × (Nat → Int) × Unit) × Unit) => (fun (al nl ml : Nat) (tl : Nat → Int) (vl : Nat → Int) (aw nw mw : Nat) (tw : Nat → Int) (vw : Nat → Int) => decide ((al + nl ≤ ml ∧ aw + nw ≤ mw) ∧ (S.byB (fun j => tl (j + al)) nl = true ∧ S.byB (fun j => vl (j + al)) nl = true) ∧ S.byB (fun j => tw (j + aw)) nw = true ∧ S.byB (fun j => vw (j + aw)) nw = true)) x.1.1 x.1.2.1 x.1.2.2.1 x.1.2.2.2.1 x.1.2.2.2.2.1 x.2.1.1 x.2.1.2.1 x.2.1.2.2.1 x.2.1.2.2.2.1 x.2.1.2.2.2.2.1, fun (x : (Nat × Nat × Nat × (Nat → Int) × (Nat → Int) × Unit) × (Nat × Nat × Nat × (Nat → Int) × (Nat → Int) × Unit) × Unit) => (fun (al nl ml : Nat) (tl : Nat → Int) (vl : Nat → Int) (aw nw mw : Nat) (tw : Nat → Int) (vw : Nat → Int) => (V10 al nl ml tl vl aw nw mw tw vw) (true)) x.1.1 x.1.2.1 x.1.2.2.1 x.1.2.2.2.1 x.1.2.2.2.2.1 x.2.1.1 x.2.1.2.1 x.2.1.2.2.1 x.2.1.2.2.2.1 x.2.1.2.2.2.2.1, fun (x : (Nat × Nat × Nat × (Nat → Int) × (Nat → Int) × Unit) × (Nat × Nat × Nat × (Nat → Int) × (Nat → Int) × Unit) × Unit) => (fun (al nl ml : Nat) (tl : Nat → Int) (vl : Nat → Int) (aw nw mw : Nat) (tw : Nat → Int) (vw : Nat → Int) => (N10 al nl ml tl vl aw nw mw tw vw) (true)) x.1.1 x.1.2.1 x.1.2.2.1 x.1.2.2.2.1 x.1.2.2.2.2.1 x.2.1.1 x.2.1.2.1 x.2.1.2.2.1 x.2.1.2.2.2.1 x.2.1.2.2.2.2.1, fun _ _ => .dead⟩
theorem li_to {n : Nat} {k l p : Int} {la lb a b : Bool} {L : List Bool} (h : S.LI n k l p la lb L a) (hb : b = true → la = true ∨ lb = true) : S.LI n k l p la lb L b := ⟨h.1, h.2.1, h.2.2.1, h.2.2.2.1, hb⟩
theorem s10' (al nl ml : Nat) (tl : Nat → Int) (vl : Nat → Int) (aw nw mw : Nat) (tw : Nat → Int) (vw : Nat → Int) (hp2 : aw + nw ≤ mw) (hn : nw ≤ 60) (htw : S.byB (fun j => tw (j + aw)) nw = true) (hvw : S.byB (fun j => vw (j + aw)) nw = true) (M : List (ByteArray × Int × Int)) (hM1 : 1 ≤ M.length ∧ M.length ≤ 8) (hv : S.netL M 1 = 0) (hok : ∀ j, j < (S.failL M.length).length → S.okF M.length (S.at' (S.failL M.length) j).1 (S.at' (S.failL M.length) j).2.1 (S.at' (S.failL M.length) j).2.2) (hfl : 0 < (S.failL M.length).length) : ∀ (c i : Nat), i + c = nw → ∀ (lost : Bool) (k l p : Int) (la lb : Bool) (L : List Bool), S.LI M.length k l p la lb L lost → Comes (q10 al nl ml tl vl aw nw mw tw vw) (.h1 lost (i : Int) M 1 k l p la lb M L (S.failL M.length)) true := by
  intro c
  induction c with
  | zero =>
    intro i hi lost k l p la lb L hL
    apply Comes.of
    show Goes _ _ _
    rw [q10]
    rw [decide_eq_false (show ¬ (i : Int) < (nw : Int) by omega)]
    exact goes_inr.mpr rfl
  | succ c ih =>
    intro i hi lost k l p la lb L hL
    have ih2 := ih (i + 1) (by omega)
    clear ih
    have hc : ((i + 1 : Nat) : Int) = (i : Int) + 1 := by omega
    rw [hc] at ih2
    obtain ⟨t1, t2⟩ : 0 ≤ tw (i + aw) ∧ tw (i + aw) ≤ 255 := of_decide_eq_true (all_iff.mp htw i (by omega))
    obtain ⟨v1, v2⟩ : 0 ≤ vw (i + aw) ∧ vw (i + aw) ≤ 255 := of_decide_eq_true (all_iff.mp hvw i (by omega))
    have hk5 : 0 ≤ Int.tmod (tw (i + aw)) 5 ∧ Int.tmod (tw (i + aw)) 5 < 5 := ⟨Int.tmod_nonneg _ t1, Int.tmod_lt_of_pos _ (by decide)⟩
    have hs5 : 0 ≤ (Int.tmod (vw (i + aw)) (M.length : Int)) ∧ (Int.tmod (vw (i + aw)) (M.length : Int)) < (M.length : Int) := ⟨Int.tmod_nonneg _ v1, Int.tmod_lt_of_pos _ (by omega)⟩
    have hx5 : 0 ≤ (Int.tmod (vw (i + aw)) (((S.failL M.length).length : Nat) : Int)) ∧ (Int.tmod (vw (i + aw)) (((S.failL M.length).length : Nat) : Int)) < (((S.failL M.length).length : Nat) : Int) := ⟨Int.tmod_nonneg _ v1, Int.tmod_lt_of_pos _ (by omega)⟩
    have hst := li_st hL
    have hlen := hL.1
    have hmk : (S.mkl M.length fun j => ((S.at' M j).1, (S.at' M j).2.1, (S.at' M j).2.2)) = M := mkl3_at M
    have d3 := do_ok (de := 1) (Q := M) hL (show 1 ≤ (1 + Int.tmod (tw (i + aw)) 5) ∧ (1 + Int.tmod (tw (i + aw)) 5) ≤ 5 by omega) hs5 (fail_t (hok (Int.tmod (vw (i + aw)) (((S.failL M.length).length : Nat) : Int)).toNat (by omega)))
    have d0 := do_ok (de := 1) (Q := M) (f1 := 0) (f2 := 0) (f3 := 0) hL (show 1 ≤ (1 + Int.tmod (tw (i + aw)) 5) ∧ (1 + Int.tmod (tw (i + aw)) 5) ≤ 5 by omega) hs5 (fail_t (.inl ⟨rfl, rfl, rfl⟩))
    apply Comes.of
    show Goes _ _ _
    rw [q10]
    simp only [c10_1_0, c10_1_1, c10_1_2, c10_1_3, c10_1_4, c10_1_5, c10_1_6, c10_1_7, c10_1_8, c10_1_9, c10_1_10, c10_1_11, c10_1_12, c10_1_13, c10_1_14, c10_1_15, c10_1_16, c10_1_17, c10_1_18, c10_1_19, c10_1_20, c10_1_21, Int.toNat_natCast, net_nil, hv, hlen, hst, hmk]
    have hl1 : lim .i64 (Int.tmod (tw (i + aw)) 5) = true := decide_eq_true (show (-9223372036854775808 : Int) ≤ (Int.tmod (tw (i + aw)) 5) ∧ (Int.tmod (tw (i + aw)) 5) ≤ 9223372036854775807 by omega)
    have hl2 : lim .i64 (1 + Int.tmod (tw (i + aw)) 5) = true := decide_eq_true (show (-9223372036854775808 : Int) ≤ (1 + Int.tmod (tw (i + aw)) 5) ∧ (1 + Int.tmod (tw (i + aw)) 5) ≤ 9223372036854775807 by omega)
    have hl3 : lim .i64 (vw (i + aw)) = true := decide_eq_true (show (-9223372036854775808 : Int) ≤ (vw (i + aw)) ∧ (vw (i + aw)) ≤ 9223372036854775807 by omega)
    have hl4 : lim .i64 ((i : Int) + 1) = true := decide_eq_true (show (-9223372036854775808 : Int) ≤ ((i : Int) + 1) ∧ ((i : Int) + 1) ≤ 9223372036854775807 by omega)
    simp only [hl1, hl2, hl3, hl4]
    generalize (1 + Int.tmod (tw (i + aw)) 5) = ki at *
    generalize (Int.tmod (vw (i + aw)) (M.length : Int)) = ss at *
    by_cases c3 : ki = 3
    · have hD := d3
      clear d0 d3
      rw [show (ki == 3) = true from beq_iff_eq.mpr c3]
      rcases hD with ⟨h5, hD⟩ | ⟨k', l', p', la', lb', L', hD, hL', hkeep⟩
      · simp only [hD, S.doErr]
        show Goes _ _ _
        repeat' first
          | with_reducible exact goes_inr.mpr rfl
          | with_reducible refine goes_if (fun h => ?_) (fun h => ?_) <;> (try simp only [lim64, imp_false, decide_eq_true_eq, decide_eq_false_iff_not, Int.toNat_natCast, toNat_pred, toNat_succ, Option.getD_some, Option.getD_none, Bool.not_eq_true', Bool.not_eq_false', Bool.and_eq_true, Bool.or_eq_true, Bool.and_eq_false_iff, Bool.or_eq_false_iff, bne_iff_ne, beq_iff_eq, bne_eq_false_iff_eq, beq_eq_false_iff_ne, ne_eq, not_and, Int.not_le, Int.not_lt, ge_iff_le, gt_iff_lt, Nat.not_lt, Nat.not_le, Bool.not_eq_true, Bool.not_eq_false, Bool.true_eq_false, Bool.false_eq_true, not_false_eq_true, not_true_eq_false] at h)
          | exact goes_none.mpr (by omega)
          | fail
        all_goals first | (exfalso; omega) | exact goes_inl.mpr (by with_reducible exact ih2 _ _ _ _ _ _ _ hL) | (clear ih2; exfalso; simp_all; done)
      · simp only [hD]
        have hl' := hL'.1
        simp only [hl']
        show Goes _ _ _
        repeat' first
          | with_reducible exact goes_inr.mpr rfl
          | with_reducible refine goes_if (fun h => ?_) (fun h => ?_) <;> (try simp only [lim64, imp_false, decide_eq_true_eq, decide_eq_false_iff_not, Int.toNat_natCast, toNat_pred, toNat_succ, Option.getD_some, Option.getD_none, Bool.not_eq_true', Bool.not_eq_false', Bool.and_eq_true, Bool.or_eq_true, Bool.and_eq_false_iff, Bool.or_eq_false_iff, bne_iff_ne, beq_iff_eq, bne_eq_false_iff_eq, beq_eq_false_iff_ne, ne_eq, not_and, Int.not_le, Int.not_lt, ge_iff_le, gt_iff_lt, Nat.not_lt, Nat.not_le, Bool.not_eq_true, Bool.not_eq_false, Bool.true_eq_false, Bool.false_eq_true, not_false_eq_true, not_true_eq_false] at h)
          | exact goes_none.mpr (by omega)
          | fail
        all_goals first
          | (exfalso; omega)
          | exact goes_inl.mpr (by with_reducible exact ih2 _ _ _ _ _ _ _ (li_to hL' (fun h => absurd h Bool.false_ne_true)))
          | exact goes_inl.mpr (by with_reducible exact ih2 _ _ _ _ _ _ _ (li_to hL' (fun _ => .inl ‹la' = true›)))
          | exact goes_inl.mpr (by with_reducible exact ih2 _ _ _ _ _ _ _ (li_to hL' (fun _ => .inr ‹lb' = true›)))
          | (have hlo := hL'.2.2.2.2; clear ih2 hL' hL hD hst hok hvw htw hv hmk hfl hM1; exfalso; simp_all; done)
    · have hD := d0
      clear d0 d3
      rw [show (ki == 3) = false from beq_eq_false_iff_ne.mpr c3]
      rcases hD with ⟨h5, hD⟩ | ⟨k', l', p', la', lb', L', hD, hL', hkeep⟩
      · simp only [hD, S.doErr]
        show Goes _ _ _
        repeat' first
          | with_reducible exact goes_inr.mpr rfl
          | with_reducible refine goes_if (fun h => ?_) (fun h => ?_) <;> (try simp only [lim64, imp_false, decide_eq_true_eq, decide_eq_false_iff_not, Int.toNat_natCast, toNat_pred, toNat_succ, Option.getD_some, Option.getD_none, Bool.not_eq_true', Bool.not_eq_false', Bool.and_eq_true, Bool.or_eq_true, Bool.and_eq_false_iff, Bool.or_eq_false_iff, bne_iff_ne, beq_iff_eq, bne_eq_false_iff_eq, beq_eq_false_iff_ne, ne_eq, not_and, Int.not_le, Int.not_lt, ge_iff_le, gt_iff_lt, Nat.not_lt, Nat.not_le, Bool.not_eq_true, Bool.not_eq_false, Bool.true_eq_false, Bool.false_eq_true, not_false_eq_true, not_true_eq_false] at h)
          | exact goes_none.mpr (by omega)
          | fail
        all_goals first | (exfalso; omega) | exact goes_inl.mpr (by with_reducible exact ih2 _ _ _ _ _ _ _ hL) | (clear ih2; exfalso; simp_all; done)
      · simp only [hD]
        have hl' := hL'.1
        simp only [hl']
        show Goes _ _ _
        repeat' first
          | with_reducible exact goes_inr.mpr rfl
          | with_reducible refine goes_if (fun h => ?_) (fun h => ?_) <;> (try simp only [lim64, imp_false, decide_eq_true_eq, decide_eq_false_iff_not, Int.toNat_natCast, toNat_pred, toNat_succ, Option.getD_some, Option.getD_none, Bool.not_eq_true', Bool.not_eq_false', Bool.and_eq_true, Bool.or_eq_true, Bool.and_eq_false_iff, Bool.or_eq_false_iff, bne_iff_ne, beq_iff_eq, bne_eq_false_iff_eq, beq_eq_false_iff_ne, ne_eq, not_and, Int.not_le, Int.not_lt, ge_iff_le, gt_iff_lt, Nat.not_lt, Nat.not_le, Bool.not_eq_true, Bool.not_eq_false, Bool.true_eq_false, Bool.false_eq_true, not_false_eq_true, not_true_eq_false] at h)
          | exact goes_none.mpr (by omega)
          | fail
        all_goals first
          | (exfalso; omega)
          | exact goes_inl.mpr (by with_reducible exact ih2 _ _ _ _ _ _ _ (li_to hL' (fun h => absurd h Bool.false_ne_true)))
          | exact goes_inl.mpr (by with_reducible exact ih2 _ _ _ _ _ _ _ (li_to hL' (fun _ => .inl ‹la' = true›)))
          | exact goes_inl.mpr (by with_reducible exact ih2 _ _ _ _ _ _ _ (li_to hL' (fun _ => .inr ‹lb' = true›)))
          | (have hlo := hL'.2.2.2.2; clear ih2 hL' hL hD hst hok hvw htw hv hmk hfl hM1; exfalso; simp_all; done)
theorem s10h (al nl ml : Nat) (tl : Nat → Int) (vl : Nat → Int) (aw nw mw : Nat) (tw : Nat → Int) (vw : Nat → Int) (hp2 : aw + nw ≤ mw) (hn : nw ≤ 60) (htw : S.byB (fun j => tw (j + aw)) nw = true) (hvw : S.byB (fun j => vw (j + aw)) nw = true) (M : List (ByteArray × Int × Int)) (hM1 : 1 ≤ M.length ∧ M.length ≤ 8) (hv : S.netL M 1 = 0) (hok : ∀ j, j < (S.failL M.length).length → S.okF M.length (S.at' (S.failL M.length) j).1 (S.at' (S.failL M.length) j).2.1 (S.at' (S.failL M.length) j).2.2) (hfl : 0 < (S.failL M.length).length) (hM : S.madeL nl (fun j => tl (j + al)) (fun j => vl (j + al)) = M) : ∀ (c i : Nat), i + c = nw → ∀ (L : List Bool), S.LI M.length 0 0 0 false false L false → Comes (q10 al nl ml tl vl aw nw mw tw vw) (.h0 (i : Int) M L (S.failL M.length)) true := by
  intro c
  induction c with
  | zero =>
    intro i hi L hL
    apply Comes.of
    show Goes _ _ _
    rw [q10]
    rw [decide_eq_false (show ¬ (i : Int) < (nw : Int) by omega)]
    exact goes_inr.mpr rfl
  | succ c ih =>
    intro i hi L hL
    have ih2 := ih (i + 1) (by omega)
    clear ih
    have ih3 := s10' al nl ml tl vl aw nw mw tw vw hp2 hn htw hvw M hM1 hv hok hfl c (i + 1) (by omega)
    have hc : ((i + 1 : Nat) : Int) = (i : Int) + 1 := by omega
    rw [hc] at ih2 ih3
    obtain ⟨t1, t2⟩ : 0 ≤ tw (i + aw) ∧ tw (i + aw) ≤ 255 := of_decide_eq_true (all_iff.mp htw i (by omega))
    obtain ⟨v1, v2⟩ : 0 ≤ vw (i + aw) ∧ vw (i + aw) ≤ 255 := of_decide_eq_true (all_iff.mp hvw i (by omega))
    have hk5 : 0 ≤ Int.tmod (tw (i + aw)) 5 ∧ Int.tmod (tw (i + aw)) 5 < 5 := ⟨Int.tmod_nonneg _ t1, Int.tmod_lt_of_pos _ (by decide)⟩
    have hs5 : 0 ≤ (Int.tmod (vw (i + aw)) (M.length : Int)) ∧ (Int.tmod (vw (i + aw)) (M.length : Int)) < (M.length : Int) := ⟨Int.tmod_nonneg _ v1, Int.tmod_lt_of_pos _ (by omega)⟩
    have hx5 : 0 ≤ (Int.tmod (vw (i + aw)) (((S.failL M.length).length : Nat) : Int)) ∧ (Int.tmod (vw (i + aw)) (((S.failL M.length).length : Nat) : Int)) < (((S.failL M.length).length : Nat) : Int) := ⟨Int.tmod_nonneg _ v1, Int.tmod_lt_of_pos _ (by omega)⟩
    have hst := li_st hL
    have hlen := hL.1
    have hmk : (S.mkl M.length fun j => ((S.at' M j).1, (S.at' M j).2.1, (S.at' M j).2.2)) = M := mkl3_at M
    have d3 := do_ok (de := 1) (Q := M) hL (show 1 ≤ (1 + Int.tmod (tw (i + aw)) 5) ∧ (1 + Int.tmod (tw (i + aw)) 5) ≤ 5 by omega) hs5 (fail_t (hok (Int.tmod (vw (i + aw)) (((S.failL M.length).length : Nat) : Int)).toNat (by omega)))
    have d0 := do_ok (de := 1) (Q := M) (f1 := 0) (f2 := 0) (f3 := 0) hL (show 1 ≤ (1 + Int.tmod (tw (i + aw)) 5) ∧ (1 + Int.tmod (tw (i + aw)) 5) ≤ 5 by omega) hs5 (fail_t (.inl ⟨rfl, rfl, rfl⟩))
    apply Comes.of
    show Goes _ _ _
    rw [q10]
    simp only [c10_0_0, c10_0_1, c10_0_2, c10_0_3, c10_0_4, c10_0_5, c10_0_6, c10_0_7, c10_0_8, c10_0_9, c10_0_10, c10_0_11, c10_0_12, c10_0_13, c10_0_14, c10_0_15, c10_0_16, c10_0_17, c10_0_18, c10_0_19, c10_0_20, c10_0_21, c10_0_22, c10_0_23, c10_0_24, c10_0_25, c10_0_26, c10_0_27, c10_0_28, hM, Int.toNat_natCast, net_nil, hv, hlen, hst, hmk]
    have hl1 : lim .i64 (Int.tmod (tw (i + aw)) 5) = true := decide_eq_true (show (-9223372036854775808 : Int) ≤ (Int.tmod (tw (i + aw)) 5) ∧ (Int.tmod (tw (i + aw)) 5) ≤ 9223372036854775807 by omega)
    have hl2 : lim .i64 (1 + Int.tmod (tw (i + aw)) 5) = true := decide_eq_true (show (-9223372036854775808 : Int) ≤ (1 + Int.tmod (tw (i + aw)) 5) ∧ (1 + Int.tmod (tw (i + aw)) 5) ≤ 9223372036854775807 by omega)
    have hl3 : lim .i64 (vw (i + aw)) = true := decide_eq_true (show (-9223372036854775808 : Int) ≤ (vw (i + aw)) ∧ (vw (i + aw)) ≤ 9223372036854775807 by omega)
    have hl4 : lim .i64 ((i : Int) + 1) = true := decide_eq_true (show (-9223372036854775808 : Int) ≤ ((i : Int) + 1) ∧ ((i : Int) + 1) ≤ 9223372036854775807 by omega)
    simp only [hl1, hl2, hl3, hl4]
    generalize (1 + Int.tmod (tw (i + aw)) 5) = ki at *
    generalize (Int.tmod (vw (i + aw)) (M.length : Int)) = ss at *
    by_cases c3 : ki = 3
    · have hD := d3
      clear d0 d3
      rw [show (ki == 3) = true from beq_iff_eq.mpr c3]
      rcases hD with ⟨h5, hD⟩ | ⟨k', l', p', la', lb', L', hD, hL', hkeep⟩
      · simp only [hD, S.doErr]
        show Goes _ _ _
        repeat' first
          | with_reducible exact goes_inr.mpr rfl
          | with_reducible refine goes_if (fun h => ?_) (fun h => ?_) <;> (try simp only [lim64, imp_false, decide_eq_true_eq, decide_eq_false_iff_not, Int.toNat_natCast, toNat_pred, toNat_succ, Option.getD_some, Option.getD_none, Bool.not_eq_true', Bool.not_eq_false', Bool.and_eq_true, Bool.or_eq_true, Bool.and_eq_false_iff, Bool.or_eq_false_iff, bne_iff_ne, beq_iff_eq, bne_eq_false_iff_eq, beq_eq_false_iff_ne, ne_eq, not_and, Int.not_le, Int.not_lt, ge_iff_le, gt_iff_lt, Nat.not_lt, Nat.not_le, Bool.not_eq_true, Bool.not_eq_false, Bool.true_eq_false, Bool.false_eq_true, not_false_eq_true, not_true_eq_false] at h)
          | exact goes_none.mpr (by omega)
          | fail
        all_goals first | (exfalso; omega) | exact goes_inl.mpr (by with_reducible exact ih2 _ hL) | (clear ih2 ih3; exfalso; simp_all; done)
      · simp only [hD]
        have hl' := hL'.1
        simp only [hl']
        show Goes _ _ _
        repeat' first
          | with_reducible exact goes_inr.mpr rfl
          | with_reducible refine goes_if (fun h => ?_) (fun h => ?_) <;> (try simp only [lim64, imp_false, decide_eq_true_eq, decide_eq_false_iff_not, Int.toNat_natCast, toNat_pred, toNat_succ, Option.getD_some, Option.getD_none, Bool.not_eq_true', Bool.not_eq_false', Bool.and_eq_true, Bool.or_eq_true, Bool.and_eq_false_iff, Bool.or_eq_false_iff, bne_iff_ne, beq_iff_eq, bne_eq_false_iff_eq, beq_eq_false_iff_ne, ne_eq, not_and, Int.not_le, Int.not_lt, ge_iff_le, gt_iff_lt, Nat.not_lt, Nat.not_le, Bool.not_eq_true, Bool.not_eq_false, Bool.true_eq_false, Bool.false_eq_true, not_false_eq_true, not_true_eq_false] at h)
          | exact goes_none.mpr (by omega)
          | fail
        all_goals first
          | (exfalso; omega)
          | exact goes_inl.mpr (by with_reducible exact ih3 _ _ _ _ _ _ _ (li_to hL' (fun h => absurd h Bool.false_ne_true)))
          | exact goes_inl.mpr (by with_reducible exact ih3 _ _ _ _ _ _ _ (li_to hL' (fun _ => .inl ‹la' = true›)))
          | exact goes_inl.mpr (by with_reducible exact ih3 _ _ _ _ _ _ _ (li_to hL' (fun _ => .inr ‹lb' = true›)))
          | (have hlo := hL'.2.2.2.2; clear ih2 ih3 hL' hL hD hst hok hvw htw hv hmk hfl hM1; exfalso; simp_all; done)
    · have hD := d0
      clear d0 d3
      rw [show (ki == 3) = false from beq_eq_false_iff_ne.mpr c3]
      rcases hD with ⟨h5, hD⟩ | ⟨k', l', p', la', lb', L', hD, hL', hkeep⟩
      · simp only [hD, S.doErr]
        show Goes _ _ _
        repeat' first
          | with_reducible exact goes_inr.mpr rfl
          | with_reducible refine goes_if (fun h => ?_) (fun h => ?_) <;> (try simp only [lim64, imp_false, decide_eq_true_eq, decide_eq_false_iff_not, Int.toNat_natCast, toNat_pred, toNat_succ, Option.getD_some, Option.getD_none, Bool.not_eq_true', Bool.not_eq_false', Bool.and_eq_true, Bool.or_eq_true, Bool.and_eq_false_iff, Bool.or_eq_false_iff, bne_iff_ne, beq_iff_eq, bne_eq_false_iff_eq, beq_eq_false_iff_ne, ne_eq, not_and, Int.not_le, Int.not_lt, ge_iff_le, gt_iff_lt, Nat.not_lt, Nat.not_le, Bool.not_eq_true, Bool.not_eq_false, Bool.true_eq_false, Bool.false_eq_true, not_false_eq_true, not_true_eq_false] at h)
          | exact goes_none.mpr (by omega)
          | fail
        all_goals first | (exfalso; omega) | exact goes_inl.mpr (by with_reducible exact ih2 _ hL) | (clear ih2 ih3; exfalso; simp_all; done)
      · simp only [hD]
        have hl' := hL'.1
        simp only [hl']
        show Goes _ _ _
        repeat' first
          | with_reducible exact goes_inr.mpr rfl
          | with_reducible refine goes_if (fun h => ?_) (fun h => ?_) <;> (try simp only [lim64, imp_false, decide_eq_true_eq, decide_eq_false_iff_not, Int.toNat_natCast, toNat_pred, toNat_succ, Option.getD_some, Option.getD_none, Bool.not_eq_true', Bool.not_eq_false', Bool.and_eq_true, Bool.or_eq_true, Bool.and_eq_false_iff, Bool.or_eq_false_iff, bne_iff_ne, beq_iff_eq, bne_eq_false_iff_eq, beq_eq_false_iff_ne, ne_eq, not_and, Int.not_le, Int.not_lt, ge_iff_le, gt_iff_lt, Nat.not_lt, Nat.not_le, Bool.not_eq_true, Bool.not_eq_false, Bool.true_eq_false, Bool.false_eq_true, not_false_eq_true, not_true_eq_false] at h)
          | exact goes_none.mpr (by omega)
          | fail
        all_goals first
          | (exfalso; omega)
          | exact goes_inl.mpr (by with_reducible exact ih3 _ _ _ _ _ _ _ (li_to hL' (fun h => absurd h Bool.false_ne_true)))
          | exact goes_inl.mpr (by with_reducible exact ih3 _ _ _ _ _ _ _ (li_to hL' (fun _ => .inl ‹la' = true›)))
          | exact goes_inl.mpr (by with_reducible exact ih3 _ _ _ _ _ _ _ (li_to hL' (fun _ => .inr ‹lb' = true›)))
          | (have hlo := hL'.2.2.2.2; clear ih2 ih3 hL' hL hD hst hok hvw htw hv hmk hfl hM1; exfalso; simp_all; done)
theorem s10 (al nl ml : Nat) (tl : Nat → Int) (vl : Nat → Int) (aw nw mw : Nat) (tw : Nat → Int) (vw : Nat → Int) (hp : (al + nl ≤ ml ∧ aw + nw ≤ mw) ∧ (S.byB (fun j => tl (j + al)) nl = true ∧ S.byB (fun j => vl (j + al)) nl = true) ∧ S.byB (fun j => tw (j + aw)) nw = true ∧ S.byB (fun j => vw (j + aw)) nw = true) : Goes ((q10 al nl ml tl vl aw nw mw tw vw)) ((p10 al nl ml tl vl aw nw mw tw vw)) (true) := by
  obtain ⟨⟨hp1, hp2⟩, ⟨ht, hv⟩, htw, hvw⟩ := hp
  by_cases h8 : nl ≤ 8
  · by_cases h60 : nw ≤ 60
    · obtain ⟨m1, m2⟩ := made_ok h8 ht hv
      generalize hM : S.madeL nl (fun j => tl (j + al)) (fun j => vl (j + al)) = M at *
      have hv0 := net_yes (L := M) (de := 1) m1 (by decide) (fun j hj => by have := m2 j hj; exact ⟨this.1, by omega, by omega⟩)
      have hf1 : S.faiS M.length 0 = (0, S.failL M.length) := rfl
      have hfl := fail_len (n := M.length)
      have hok : ∀ j, j < (S.failL M.length).length → S.okF M.length (S.at' (S.failL M.length) j).1 (S.at' (S.failL M.length) j).2.1 (S.at' (S.failL M.length) j).2.2 := fun j hj => all_memF (List.mem_cons_of_mem _ (at_mem hj))
      have hL : S.LI M.length 0 0 0 false false (S.mkl M.length fun r => decide ((r : Int) ≠ -1)) false := by
        have ho : ∀ lp, S.op1 lp M.length (fun j => S.at' (S.mkl M.length fun r => decide ((r : Int) ≠ -1)) j) 0 0 0 = true → false = true := fun lp h => by
          rw [op1_mkl] at h
          unfold S.op1 S.opnB at h
          obtain ⟨s, q1, q2⟩ := any_iff.mp (Bool.and_eq_true_iff.mp h).2
          unfold S.opP at q2
          rw [has_one, has_one, has_one] at q2
          rw [decide_eq_false (show ¬ ((0 : Int) = 2 ∧ (0 : Int) = lp ∧ (0 : Int) = (s : Int)) by omega), decide_eq_false (show ¬ ((0 : Int) = 3 ∧ (0 : Int) = 0 ∧ (0 : Int) = (s : Int)) by omega), decide_eq_false (show ¬ ((0 : Int) = 1 ∧ (0 : Int) = lp ∧ (0 : Int) = (s : Int)) by omega)] at q2
          simp only [Bool.not_false, Bool.and_true, Bool.or_false, Bool.false_or, Bool.not_eq_true', decide_eq_false_iff_not] at q2
          exact absurd (show (s : Int) ≠ -1 by omega) q2
        exact ⟨mkl_len, fail_t (.inl ⟨rfl, rfl, rfl⟩), ho 1, ho 2, fun h => absurd h Bool.false_ne_true⟩
      have hm := s10h al nl ml tl vl aw nw mw tw vw hp2 h60 htw hvw M m1 hv0 hok (by omega) hM nw 0 (Nat.zero_add _) _ hL
      unfold p10
      simp only [c10_e_0, c10_e_1, c10_e_2, hM, net_nil, hv0, hf1, ht, hv]
      show Goes _ _ _
      repeat' first
        | with_reducible exact goes_inr.mpr rfl
        | with_reducible refine goes_if (fun h => ?_) (fun h => ?_) <;> (try simp only [lim64, imp_false, decide_eq_true_eq, decide_eq_false_iff_not, Int.toNat_natCast, toNat_pred, toNat_succ, Option.getD_some, Option.getD_none, Bool.not_eq_true', Bool.not_eq_false', Bool.and_eq_true, Bool.or_eq_true, Bool.and_eq_false_iff, Bool.or_eq_false_iff, bne_iff_ne, beq_iff_eq, bne_eq_false_iff_eq, beq_eq_false_iff_ne, ne_eq, not_and, Int.not_le, Int.not_lt, ge_iff_le, gt_iff_lt, Nat.not_lt, Nat.not_le, Bool.not_eq_true, Bool.not_eq_false, Bool.true_eq_false, Bool.false_eq_true, not_false_eq_true, not_true_eq_false] at h)
        | exact goes_none.mpr (by omega)
        | fail
      all_goals first | (exfalso; omega) | exact hm | (clear hm; exfalso; simp_all; done)
    · unfold p10
      rw [decide_eq_false (show ¬ (nl : Int) > 8 by omega), decide_eq_true (show (nw : Int) > 60 by omega)]
      exact goes_inr.mpr rfl
  · unfold p10
    rw [decide_eq_true (show (nl : Int) > 8 by omega)]
    exact goes_inr.mpr rfl
theorem k10_ok : k10.ok Try.prog := by
  intro x hx
  obtain ⟨⟨al, nl, ml, tl, vl, _⟩, ⟨aw, nw, mw, tw, vw, _⟩, _⟩ := x
  obtain ⟨h1, h2⟩ := a10 al nl ml tl vl aw nw mw tw vw (s10 al nl ml tl vl aw nw mw tw vw (of_dec hx rfl))
  exact ⟨⟨400, (by decide : 2 + 1 + 0 ≤ 400), h1⟩, h2⟩
theorem pre10 {x : SsI k10.ss} (hx : ssFits k10.ss x) : k10.pre (ssj k10.ss x) = true := by
  obtain ⟨⟨n, t, v, u'⟩, ⟨n2, t2, v2, u2⟩, u''⟩ := x
  obtain ⟨⟨hn, ht, hv, -⟩, ⟨hn2, ht2, hv2, -⟩, -⟩ := hx
  exact decide_eq_true ⟨⟨Nat.le_of_eq (Nat.zero_add _), Nat.le_of_eq (Nat.zero_add _)⟩, ⟨byB_mk ht, byB_mk hv⟩, byB_mk ht2, byB_mk hv2⟩
end Go.Ev
