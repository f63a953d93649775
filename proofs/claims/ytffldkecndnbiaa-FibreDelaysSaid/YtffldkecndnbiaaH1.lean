/-
  The law of Delays.
-/
import Derived.Test.YtffldkecndnbiaaH1x
namespace Go.Ev
open Go.Proofs
set_option linter.unusedVariables false
set_option linter.unusedSimpArgs false
set_option maxRecDepth 100000
inductive St11 where
  | h0 (x0 : Int) (x1 : List (Int × Int × Bool × Bool)) (x2 : List Int) (x3 : List Int)
abbrev Rt11 := Bool
noncomputable def V11 (al nl ml : Nat) (tl : Nat → Int) (am nm mm : Nat) (tm : Nat → Int) (r : Rt11) : PV := PV.bool r
noncomputable def N11 (al nl ml : Nat) (tl : Nat → Int) (am nm mm : Nat) (tm : Nat → Int) (r : Rt11) : List Blk := []
noncomputable def I11 (al nl ml : Nat) (tl : Nat → Int) (am nm mm : Nat) (tm : Nat → Int) : St11 → Hd
  | .h0 x0 x1 x2 x3 => ⟨hd Try.f11 0, [PV.own (2) (4) (List.length x1), PV.own (3) (1) (List.length x2),
 PV.own (4) (1) (List.length x3),
 PV.int IntKind.i64
 (↑(List.length
 (Prod.snd
 (S.leaS (List.length (S.mdL nl fun (q : Nat) => tl (q + al)))
 (fun (q : Nat) => (S.at' (S.mdL nl fun (q : Nat) => tl (q + al)) q).1)
 (fun (q : Nat) => (S.at' (S.mdL nl fun (q : Nat) => tl (q + al)) q).2.1)
 (fun (q : Nat) =>
 (S.at' (S.mdL nl fun (q : Nat) => tl (q + al)) q).2.2.1)
 fun (q : Nat) =>
 (S.at' (S.mdL nl fun (q : Nat) => tl (q + al)) q).2.2.2))) :
 Int),
 PV.int IntKind.i64 x0], [[(2, (true, Blk.cols (List.length x1)
 [Col.int IntKind.i64 fun (j : Nat) => (S.at' x1 j).1,
 Col.int IntKind.i64 fun (j : Nat) => (S.at' x1 j).2.1,
 Col.bool fun (j : Nat) => (S.at' x1 j).2.2.1,
 Col.bool fun (j : Nat) => (S.at' x1 j).2.2.2])), (3, (true, Blk.cols (List.length x2) [Col.int IntKind.i64 fun (j : Nat) => S.at' x2 j])), (4, (true, Blk.cols (List.length x3) [Col.int IntKind.i64 fun (j : Nat) => S.at' x3 j]))], [(0, (false, .cols ml [.int .u32 tl])), (1, (false, .cols mm [.int .u8 tm]))]], 5⟩
noncomputable def q11 (al nl ml : Nat) (tl : Nat → Int) (am nm mm : Nat) (tm : Nat → Int) : St11 → Option (St11 ⊕ Rt11)
  | .h0 x0 x1 x2 x3 => bif (decide
 (x0 <
 (↑(List.length
 (Prod.snd
 (S.leaS (List.length (S.mdL nl fun (q : Nat) => tl (q + al)))
 (fun (q : Nat) => (S.at' (S.mdL nl fun (q : Nat) => tl (q + al)) q).1)
 (fun (q : Nat) => (S.at' (S.mdL nl fun (q : Nat) => tl (q + al)) q).2.1)
 (fun (q : Nat) =>
 (S.at' (S.mdL nl fun (q : Nat) => tl (q + al)) q).2.2.1)
 fun (q : Nat) =>
 (S.at' (S.mdL nl fun (q : Nat) => tl (q + al)) q).2.2.2))) :
 Int)))
 then (bif (decide ((0 : Int) ≤ x0 ∧ x0 < (↑(List.length x3) : Int)))
 then (bif (decide (Int.toNat x0 < List.length x3))
 then (bif (decide (S.at' x3 (Int.toNat x0) < (0 : Int)))
 then (some (.inr (false)))
 else (bif (decide (S.at' x3 (Int.toNat x0) ≥ (↑(List.length x1) : Int)))
 then (some (.inr (false)))
 else (bif (decide ((0 : Int) ≤ x0 ∧ x0 < (↑(List.length x2) : Int)))
 then (bif (decide (Int.toNat x0 < List.length x2))
 then (bif (lim IntKind.i64 (S.at' x2 (Int.toNat x0) - (5 : Int)))
 then (bif (decide ((0 : Int) ≤ S.at' x3 (Int.toNat x0) ∧ S.at' x3 (Int.toNat x0) < (↑(List.length x1) : Int)))
 then (bif (decide (Int.toNat (S.at' x3 (Int.toNat x0)) < List.length x1))
 then (bif (decide
 (S.at' x2 (Int.toNat x0) - (5 : Int) < (S.at' x1 (Int.toNat (S.at' x3 (Int.toNat x0)))).1))
 then (some (.inr (false)))
 else (bif (decide
 (S.at' x2 (Int.toNat x0) - (5 : Int) >
 (S.at' x1 (Int.toNat (S.at' x3 (Int.toNat x0)))).2.1))
 then (some (.inr (false)))
 else (bif (lim IntKind.i64 (x0 + (1 : Int)))
 then (some (.inl (.h0 (x0 + (1 : Int)) (x1) (x2) (x3))))
 else (none))))
 else (none))
 else (none))
 else (none))
 else (none))
 else (none))))
 else (none))
 else (none))
 else (some (.inr (true)))
noncomputable def p11 (al nl ml : Nat) (tl : Nat → Int) (am nm mm : Nat) (tm : Nat → Int) : Option (St11 ⊕ Rt11) := bif (decide ((↑nl : Int) > (30 : Int)))
 then (some (.inr (true)))
 else (bif (decide ((↑nm : Int) > (40 : Int)))
 then (some (.inr (true)))
 else (bif (decide (al + nl ≤ ml ∧ nl ≤ 1000000 ∧ (S.u32s nl fun (q : Nat) => tl (q + al)) = true))
 then (bif (decide
 (0 + List.length (S.mdL nl fun (q : Nat) => tl (q + al)) ≤
 List.length (S.mdL nl fun (q : Nat) => tl (q + al)) ∧
 List.length (S.mdL nl fun (q : Nat) => tl (q + al)) ≤ 1000000))
 then (bif (Prod.fst
 (S.leaS (List.length (S.mdL nl fun (q : Nat) => tl (q + al)))
 (fun (q : Nat) => (S.at' (S.mdL nl fun (q : Nat) => tl (q + al)) q).1)
 (fun (q : Nat) => (S.at' (S.mdL nl fun (q : Nat) => tl (q + al)) q).2.1)
 (fun (q : Nat) => (S.at' (S.mdL nl fun (q : Nat) => tl (q + al)) q).2.2.1)
 fun (q : Nat) => (S.at' (S.mdL nl fun (q : Nat) => tl (q + al)) q).2.2.2) !=
 (0 : Int))
 then (some (.inr (false)))
 else (bif (Prod.fst
 (S.dlyS (List.length (S.mdL nl fun (q : Nat) => tl (q + al)))
 (fun (q : Nat) => (S.at' (S.mdL nl fun (q : Nat) => tl (q + al)) q).1)
 (fun (q : Nat) => (S.at' (S.mdL nl fun (q : Nat) => tl (q + al)) q).2.1)
 (fun (q : Nat) => (S.at' (S.mdL nl fun (q : Nat) => tl (q + al)) q).2.2.1)
 fun (q : Nat) => (S.at' (S.mdL nl fun (q : Nat) => tl (q + al)) q).2.2.2) !=
 (0 : Int))
 then (some (.inr (false)))
 else (bif ((↑(List.length
 (Prod.snd
 (S.dlyS (List.length (S.mdL nl fun (q : Nat) => tl (q + al)))
 (fun (q : Nat) => (S.at' (S.mdL nl fun (q : Nat) => tl (q + al)) q).1)
 (fun (q : Nat) => (S.at' (S.mdL nl fun (q : Nat) => tl (q + al)) q).2.1)
 (fun (q : Nat) =>
 (S.at' (S.mdL nl fun (q : Nat) => tl (q + al)) q).2.2.1)
 fun (q : Nat) =>
 (S.at' (S.mdL nl fun (q : Nat) => tl (q + al)) q).2.2.2))) :
 Int) !=
 (↑(List.length (S.mdL nl fun (q : Nat) => tl (q + al))) : Int))
 then (some (.inr (false)))
 else (bif (decide
 ((0 : Int) ≤
 (↑(List.length
 (Prod.snd
 (S.leaS (List.length (S.mdL nl fun (q : Nat) => tl (q + al)))
 (fun (q : Nat) => (S.at' (S.mdL nl fun (q : Nat) => tl (q + al)) q).1)
 (fun (q : Nat) => (S.at' (S.mdL nl fun (q : Nat) => tl (q + al)) q).2.1)
 (fun (q : Nat) =>
 (S.at' (S.mdL nl fun (q : Nat) => tl (q + al)) q).2.2.1)
 fun (q : Nat) =>
 (S.at' (S.mdL nl fun (q : Nat) => tl (q + al)) q).2.2.2))) :
 Int) ∧
 (↑(List.length
 (Prod.snd
 (S.leaS (List.length (S.mdL nl fun (q : Nat) => tl (q + al)))
 (fun (q : Nat) => (S.at' (S.mdL nl fun (q : Nat) => tl (q + al)) q).1)
 (fun (q : Nat) => (S.at' (S.mdL nl fun (q : Nat) => tl (q + al)) q).2.1)
 (fun (q : Nat) =>
 (S.at' (S.mdL nl fun (q : Nat) => tl (q + al)) q).2.2.1)
 fun (q : Nat) =>
 (S.at' (S.mdL nl fun (q : Nat) => tl (q + al)) q).2.2.2))) :
 Int) ≤
 (↑(List.length
 (Prod.snd
 (S.leaS (List.length (S.mdL nl fun (q : Nat) => tl (q + al)))
 (fun (q : Nat) => (S.at' (S.mdL nl fun (q : Nat) => tl (q + al)) q).1)
 (fun (q : Nat) => (S.at' (S.mdL nl fun (q : Nat) => tl (q + al)) q).2.1)
 (fun (q : Nat) =>
 (S.at' (S.mdL nl fun (q : Nat) => tl (q + al)) q).2.2.1)
 fun (q : Nat) =>
 (S.at' (S.mdL nl fun (q : Nat) => tl (q + al)) q).2.2.2))) :
 Int) ∧
 (↑(List.length
 (Prod.snd
 (S.leaS (List.length (S.mdL nl fun (q : Nat) => tl (q + al)))
 (fun (q : Nat) => (S.at' (S.mdL nl fun (q : Nat) => tl (q + al)) q).1)
 (fun (q : Nat) => (S.at' (S.mdL nl fun (q : Nat) => tl (q + al)) q).2.1)
 (fun (q : Nat) =>
 (S.at' (S.mdL nl fun (q : Nat) => tl (q + al)) q).2.2.1)
 fun (q : Nat) =>
 (S.at' (S.mdL nl fun (q : Nat) => tl (q + al)) q).2.2.2))) :
 Int) ≤
 (1000000 : Int)))
 then (bif (decide
 (0 + List.length (S.mdL nl fun (q : Nat) => tl (q + al)) ≤
 List.length (S.mdL nl fun (q : Nat) => tl (q + al)) ∧
 List.length (S.mdL nl fun (q : Nat) => tl (q + al)) ≤ 1000000 ∧
 (S.treE (List.length (S.mdL nl fun (q : Nat) => tl (q + al)))
 (fun (q : Nat) => (S.at' (S.mdL nl fun (q : Nat) => tl (q + al)) q).1)
 (fun (q : Nat) => (S.at' (S.mdL nl fun (q : Nat) => tl (q + al)) q).2.1)
 (fun (q : Nat) =>
 (S.at' (S.mdL nl fun (q : Nat) => tl (q + al)) q).2.2.1)
 fun (q : Nat) =>
 (S.at' (S.mdL nl fun (q : Nat) => tl (q + al)) q).2.2.2) =
 (0 : Int) ∧
 am + nm ≤ mm ∧ nm ≤ 1000000 ∧ (S.bytes nm fun (q : Nat) => tm (q + am)) = true))
 then (bif (decide
 (0 + List.length (S.mdL nl fun (q : Nat) => tl (q + al)) ≤
 List.length (S.mdL nl fun (q : Nat) => tl (q + al)) ∧
 List.length (S.mdL nl fun (q : Nat) => tl (q + al)) ≤ 1000000 ∧
 0 +
 List.length
 (Prod.snd
 (S.leaS (List.length (S.mdL nl fun (q : Nat) => tl (q + al)))
 (fun (q : Nat) => (S.at' (S.mdL nl fun (q : Nat) => tl (q + al)) q).1)
 (fun (q : Nat) => (S.at' (S.mdL nl fun (q : Nat) => tl (q + al)) q).2.1)
 (fun (q : Nat) =>
 (S.at' (S.mdL nl fun (q : Nat) => tl (q + al)) q).2.2.1)
 fun (q : Nat) =>
 (S.at' (S.mdL nl fun (q : Nat) => tl (q + al)) q).2.2.2)) ≤
 List.length
 (Prod.snd
 (S.leaS (List.length (S.mdL nl fun (q : Nat) => tl (q + al)))
 (fun (q : Nat) => (S.at' (S.mdL nl fun (q : Nat) => tl (q + al)) q).1)
 (fun (q : Nat) => (S.at' (S.mdL nl fun (q : Nat) => tl (q + al)) q).2.1)
 (fun (q : Nat) =>
 (S.at' (S.mdL nl fun (q : Nat) => tl (q + al)) q).2.2.1)
 fun (q : Nat) =>
 (S.at' (S.mdL nl fun (q : Nat) => tl (q + al)) q).2.2.2)) ∧
 List.length
 (Prod.snd
 (S.leaS (List.length (S.mdL nl fun (q : Nat) => tl (q + al)))
 (fun (q : Nat) => (S.at' (S.mdL nl fun (q : Nat) => tl (q + al)) q).1)
 (fun (q : Nat) => (S.at' (S.mdL nl fun (q : Nat) => tl (q + al)) q).2.1)
 (fun (q : Nat) =>
 (S.at' (S.mdL nl fun (q : Nat) => tl (q + al)) q).2.2.1)
 fun (q : Nat) =>
 (S.at' (S.mdL nl fun (q : Nat) => tl (q + al)) q).2.2.2)) ≤
 1000000 ∧
 0 +
 List.length
 (S.sprL (List.length (S.mdL nl fun (q : Nat) => tl (q + al)))
 (fun (q : Nat) =>
 (S.at' (S.mdL nl fun (q : Nat) => tl (q + al)) q).2.2.2)
 nm fun (q : Nat) => tm (q + am)) ≤
 List.length
 (S.sprL (List.length (S.mdL nl fun (q : Nat) => tl (q + al)))
 (fun (q : Nat) =>
 (S.at' (S.mdL nl fun (q : Nat) => tl (q + al)) q).2.2.2)
 nm fun (q : Nat) => tm (q + am)) ∧
 List.length
 (S.sprL (List.length (S.mdL nl fun (q : Nat) => tl (q + al)))
 (fun (q : Nat) =>
 (S.at' (S.mdL nl fun (q : Nat) => tl (q + al)) q).2.2.2)
 nm fun (q : Nat) => tm (q + am)) ≤
 1000000))
 then (bif (Prod.fst
 (S.actS (List.length (S.mdL nl fun (q : Nat) => tl (q + al)))
 (fun (q : Nat) => (S.at' (S.mdL nl fun (q : Nat) => tl (q + al)) q).1)
 (fun (q : Nat) => (S.at' (S.mdL nl fun (q : Nat) => tl (q + al)) q).2.1)
 (fun (q : Nat) => (S.at' (S.mdL nl fun (q : Nat) => tl (q + al)) q).2.2.1)
 (fun (q : Nat) => (S.at' (S.mdL nl fun (q : Nat) => tl (q + al)) q).2.2.2)
 (List.length
 (Prod.snd
 (S.leaS (List.length (S.mdL nl fun (q : Nat) => tl (q + al)))
 (fun (q : Nat) => (S.at' (S.mdL nl fun (q : Nat) => tl (q + al)) q).1)
 (fun (q : Nat) => (S.at' (S.mdL nl fun (q : Nat) => tl (q + al)) q).2.1)
 (fun (q : Nat) =>
 (S.at' (S.mdL nl fun (q : Nat) => tl (q + al)) q).2.2.1)
 fun (q : Nat) =>
 (S.at' (S.mdL nl fun (q : Nat) => tl (q + al)) q).2.2.2)))
 (fun (q : Nat) => (0 : Int)) (5 : Int)
 (List.length
 (S.sprL (List.length (S.mdL nl fun (q : Nat) => tl (q + al)))
 (fun (q : Nat) =>
 (S.at' (S.mdL nl fun (q : Nat) => tl (q + al)) q).2.2.2)
 nm fun (q : Nat) => tm (q + am)))
 fun (q : Nat) =>
 S.at'
 (S.sprL (List.length (S.mdL nl fun (q : Nat) => tl (q + al)))
 (fun (q : Nat) =>
 (S.at' (S.mdL nl fun (q : Nat) => tl (q + al)) q).2.2.2)
 nm fun (q : Nat) => tm (q + am))
 q) !=
 (0 : Int))
 then (some (.inr (false)))
 else (bif ((↑(List.length
 (Prod.snd
 (S.actS (List.length (S.mdL nl fun (q : Nat) => tl (q + al)))
 (fun (q : Nat) => (S.at' (S.mdL nl fun (q : Nat) => tl (q + al)) q).1)
 (fun (q : Nat) => (S.at' (S.mdL nl fun (q : Nat) => tl (q + al)) q).2.1)
 (fun (q : Nat) =>
 (S.at' (S.mdL nl fun (q : Nat) => tl (q + al)) q).2.2.1)
 (fun (q : Nat) =>
 (S.at' (S.mdL nl fun (q : Nat) => tl (q + al)) q).2.2.2)
 (List.length
 (Prod.snd
 (S.leaS (List.length (S.mdL nl fun (q : Nat) => tl (q + al)))
 (fun (q : Nat) => (S.at' (S.mdL nl fun (q : Nat) => tl (q + al)) q).1)
 (fun (q : Nat) => (S.at' (S.mdL nl fun (q : Nat) => tl (q + al)) q).2.1)
 (fun (q : Nat) =>
 (S.at' (S.mdL nl fun (q : Nat) => tl (q + al)) q).2.2.1)
 fun (q : Nat) =>
 (S.at' (S.mdL nl fun (q : Nat) => tl (q + al)) q).2.2.2)))
 (fun (q : Nat) => (0 : Int)) (5 : Int)
 (List.length
 (S.sprL (List.length (S.mdL nl fun (q : Nat) => tl (q + al)))
 (fun (q : Nat) =>
 (S.at' (S.mdL nl fun (q : Nat) => tl (q + al)) q).2.2.2)
 nm fun (q : Nat) => tm (q + am)))
 fun (q : Nat) =>
 S.at'
 (S.sprL (List.length (S.mdL nl fun (q : Nat) => tl (q + al)))
 (fun (q : Nat) =>
 (S.at' (S.mdL nl fun (q : Nat) => tl (q + al)) q).2.2.2)
 nm fun (q : Nat) => tm (q + am))
 q))) :
 Int) !=
 (↑(List.length
 (Prod.snd
 (S.leaS (List.length (S.mdL nl fun (q : Nat) => tl (q + al)))
 (fun (q : Nat) => (S.at' (S.mdL nl fun (q : Nat) => tl (q + al)) q).1)
 (fun (q : Nat) => (S.at' (S.mdL nl fun (q : Nat) => tl (q + al)) q).2.1)
 (fun (q : Nat) =>
 (S.at' (S.mdL nl fun (q : Nat) => tl (q + al)) q).2.2.1)
 fun (q : Nat) =>
 (S.at' (S.mdL nl fun (q : Nat) => tl (q + al)) q).2.2.2))) :
 Int))
 then (some (.inr (false)))
 else (some (.inl (.h0 ((0 : Int)) (Prod.snd
 (S.dlyS (List.length (S.mdL nl fun (q : Nat) => tl (q + al)))
 (fun (q : Nat) => (S.at' (S.mdL nl fun (q : Nat) => tl (q + al)) q).1)
 (fun (q : Nat) => (S.at' (S.mdL nl fun (q : Nat) => tl (q + al)) q).2.1)
 (fun (q : Nat) => (S.at' (S.mdL nl fun (q : Nat) => tl (q + al)) q).2.2.1)
 fun (q : Nat) => (S.at' (S.mdL nl fun (q : Nat) => tl (q + al)) q).2.2.2)) (Prod.snd
 (S.actS (List.length (S.mdL nl fun (q : Nat) => tl (q + al)))
 (fun (q : Nat) => (S.at' (S.mdL nl fun (q : Nat) => tl (q + al)) q).1)
 (fun (q : Nat) => (S.at' (S.mdL nl fun (q : Nat) => tl (q + al)) q).2.1)
 (fun (q : Nat) => (S.at' (S.mdL nl fun (q : Nat) => tl (q + al)) q).2.2.1)
 (fun (q : Nat) => (S.at' (S.mdL nl fun (q : Nat) => tl (q + al)) q).2.2.2)
 (List.length
 (Prod.snd
 (S.leaS (List.length (S.mdL nl fun (q : Nat) => tl (q + al)))
 (fun (q : Nat) => (S.at' (S.mdL nl fun (q : Nat) => tl (q + al)) q).1)
 (fun (q : Nat) => (S.at' (S.mdL nl fun (q : Nat) => tl (q + al)) q).2.1)
 (fun (q : Nat) =>
 (S.at' (S.mdL nl fun (q : Nat) => tl (q + al)) q).2.2.1)
 fun (q : Nat) =>
 (S.at' (S.mdL nl fun (q : Nat) => tl (q + al)) q).2.2.2)))
 (fun (q : Nat) => (0 : Int)) (5 : Int)
 (List.length
 (S.sprL (List.length (S.mdL nl fun (q : Nat) => tl (q + al)))
 (fun (q : Nat) => (S.at' (S.mdL nl fun (q : Nat) => tl (q + al)) q).2.2.2)
 nm fun (q : Nat) => tm (q + am)))
 fun (q : Nat) =>
 S.at'
 (S.sprL (List.length (S.mdL nl fun (q : Nat) => tl (q + al)))
 (fun (q : Nat) => (S.at' (S.mdL nl fun (q : Nat) => tl (q + al)) q).2.2.2)
 nm fun (q : Nat) => tm (q + am))
 q)) (Prod.snd
 (S.leaS (List.length (S.mdL nl fun (q : Nat) => tl (q + al)))
 (fun (q : Nat) => (S.at' (S.mdL nl fun (q : Nat) => tl (q + al)) q).1)
 (fun (q : Nat) => (S.at' (S.mdL nl fun (q : Nat) => tl (q + al)) q).2.1)
 (fun (q : Nat) => (S.at' (S.mdL nl fun (q : Nat) => tl (q + al)) q).2.2.1)
 fun (q : Nat) => (S.at' (S.mdL nl fun (q : Nat) => tl (q + al)) q).2.2.2)))))))
 else (none))
 else (none))
 else (none)))))
 else (none))
 else (none)))
noncomputable def Te11 (test : Bool → Prop → Prop → Prop) (Kst : KS) (Kret : KR) (al nl ml : Nat) (tl : Nat → Int) (am nm mm : Nat) (tm : Nat → Int) : Prop :=
  test (true)
 (test (true)
 (test (decide ((↑nl : Int) > (30 : Int)))
 (test (true)
 (test (true)
 (Kret (PV.tf true) ([[(1, false, Blk.cols mm [Col.int IntKind.u8 tm]),
 (0, false, Blk.cols ml [Col.int IntKind.u32 tl])]]) (4))
 (Kret (PV.tf false) ([[(1, false, Blk.cols mm [Col.int IntKind.u8 tm]),
 (0, false, Blk.cols ml [Col.int IntKind.u32 tl])]]) (4)))
 (False))
 (test (decide ((↑nm : Int) > (40 : Int)))
 (test (true)
 (test (true)
 (Kret (PV.tf true) ([[(1, false, Blk.cols mm [Col.int IntKind.u8 tm]),
 (0, false, Blk.cols ml [Col.int IntKind.u32 tl])]]) (4))
 (Kret (PV.tf false) ([[(1, false, Blk.cols mm [Col.int IntKind.u8 tm]),
 (0, false, Blk.cols ml [Col.int IntKind.u32 tl])]]) (4)))
 (False))
 (test (decide (al + nl ≤ ml ∧ nl ≤ 1000000 ∧ (S.u32s nl fun (q : Nat) => tl (q + al)) = true))
 (test (decide
 (0 + List.length (S.mdL nl fun (q : Nat) => tl (q + al)) ≤
 List.length (S.mdL nl fun (q : Nat) => tl (q + al)) ∧
 List.length (S.mdL nl fun (q : Nat) => tl (q + al)) ≤ 1000000))
 (test (decide
 (0 + List.length (S.mdL nl fun (q : Nat) => tl (q + al)) ≤
 List.length (S.mdL nl fun (q : Nat) => tl (q + al)) ∧
 List.length (S.mdL nl fun (q : Nat) => tl (q + al)) ≤ 1000000))
 (test (Prod.fst
 (S.leaS (List.length (S.mdL nl fun (q : Nat) => tl (q + al)))
 (fun (q : Nat) => (S.at' (S.mdL nl fun (q : Nat) => tl (q + al)) q).1)
 (fun (q : Nat) => (S.at' (S.mdL nl fun (q : Nat) => tl (q + al)) q).2.1)
 (fun (q : Nat) => (S.at' (S.mdL nl fun (q : Nat) => tl (q + al)) q).2.2.1)
 fun (q : Nat) => (S.at' (S.mdL nl fun (q : Nat) => tl (q + al)) q).2.2.2) !=
 (0 : Int))
 (Kret (PV.tf false) ([[(1, false, Blk.cols mm [Col.int IntKind.u8 tm]),
 (0, false, Blk.cols ml [Col.int IntKind.u32 tl])]]) (10))
 (test (Prod.fst
 (S.dlyS (List.length (S.mdL nl fun (q : Nat) => tl (q + al)))
 (fun (q : Nat) => (S.at' (S.mdL nl fun (q : Nat) => tl (q + al)) q).1)
 (fun (q : Nat) => (S.at' (S.mdL nl fun (q : Nat) => tl (q + al)) q).2.1)
 (fun (q : Nat) => (S.at' (S.mdL nl fun (q : Nat) => tl (q + al)) q).2.2.1)
 fun (q : Nat) => (S.at' (S.mdL nl fun (q : Nat) => tl (q + al)) q).2.2.2) !=
 (0 : Int))
 (Kret (PV.tf false) ([[(1, false, Blk.cols mm [Col.int IntKind.u8 tm]),
 (0, false, Blk.cols ml [Col.int IntKind.u32 tl])]]) (10))
 (test ((↑(List.length
 (Prod.snd
 (S.dlyS (List.length (S.mdL nl fun (q : Nat) => tl (q + al)))
 (fun (q : Nat) => (S.at' (S.mdL nl fun (q : Nat) => tl (q + al)) q).1)
 (fun (q : Nat) => (S.at' (S.mdL nl fun (q : Nat) => tl (q + al)) q).2.1)
 (fun (q : Nat) =>
 (S.at' (S.mdL nl fun (q : Nat) => tl (q + al)) q).2.2.1)
 fun (q : Nat) =>
 (S.at' (S.mdL nl fun (q : Nat) => tl (q + al)) q).2.2.2))) :
 Int) !=
 (↑(List.length (S.mdL nl fun (q : Nat) => tl (q + al))) : Int))
 (Kret (PV.tf false) ([[(1, false, Blk.cols mm [Col.int IntKind.u8 tm]),
 (0, false, Blk.cols ml [Col.int IntKind.u32 tl])]]) (10))
 (test (decide
 ((0 : Int) ≤
 (↑(List.length
 (Prod.snd
 (S.leaS (List.length (S.mdL nl fun (q : Nat) => tl (q + al)))
 (fun (q : Nat) => (S.at' (S.mdL nl fun (q : Nat) => tl (q + al)) q).1)
 (fun (q : Nat) => (S.at' (S.mdL nl fun (q : Nat) => tl (q + al)) q).2.1)
 (fun (q : Nat) =>
 (S.at' (S.mdL nl fun (q : Nat) => tl (q + al)) q).2.2.1)
 fun (q : Nat) =>
 (S.at' (S.mdL nl fun (q : Nat) => tl (q + al)) q).2.2.2))) :
 Int) ∧
 (↑(List.length
 (Prod.snd
 (S.leaS (List.length (S.mdL nl fun (q : Nat) => tl (q + al)))
 (fun (q : Nat) => (S.at' (S.mdL nl fun (q : Nat) => tl (q + al)) q).1)
 (fun (q : Nat) => (S.at' (S.mdL nl fun (q : Nat) => tl (q + al)) q).2.1)
 (fun (q : Nat) =>
 (S.at' (S.mdL nl fun (q : Nat) => tl (q + al)) q).2.2.1)
 fun (q : Nat) =>
 (S.at' (S.mdL nl fun (q : Nat) => tl (q + al)) q).2.2.2))) :
 Int) ≤
 (↑(List.length
 (Prod.snd
 (S.leaS (List.length (S.mdL nl fun (q : Nat) => tl (q + al)))
 (fun (q : Nat) => (S.at' (S.mdL nl fun (q : Nat) => tl (q + al)) q).1)
 (fun (q : Nat) => (S.at' (S.mdL nl fun (q : Nat) => tl (q + al)) q).2.1)
 (fun (q : Nat) =>
 (S.at' (S.mdL nl fun (q : Nat) => tl (q + al)) q).2.2.1)
 fun (q : Nat) =>
 (S.at' (S.mdL nl fun (q : Nat) => tl (q + al)) q).2.2.2))) :
 Int) ∧
 (↑(List.length
 (Prod.snd
 (S.leaS (List.length (S.mdL nl fun (q : Nat) => tl (q + al)))
 (fun (q : Nat) => (S.at' (S.mdL nl fun (q : Nat) => tl (q + al)) q).1)
 (fun (q : Nat) => (S.at' (S.mdL nl fun (q : Nat) => tl (q + al)) q).2.1)
 (fun (q : Nat) =>
 (S.at' (S.mdL nl fun (q : Nat) => tl (q + al)) q).2.2.1)
 fun (q : Nat) =>
 (S.at' (S.mdL nl fun (q : Nat) => tl (q + al)) q).2.2.2))) :
 Int) ≤
 (1000000 : Int)))
 (test (decide
 (0 + List.length (S.mdL nl fun (q : Nat) => tl (q + al)) ≤
 List.length (S.mdL nl fun (q : Nat) => tl (q + al)) ∧
 List.length (S.mdL nl fun (q : Nat) => tl (q + al)) ≤ 1000000 ∧
 (S.treE (List.length (S.mdL nl fun (q : Nat) => tl (q + al)))
 (fun (q : Nat) => (S.at' (S.mdL nl fun (q : Nat) => tl (q + al)) q).1)
 (fun (q : Nat) => (S.at' (S.mdL nl fun (q : Nat) => tl (q + al)) q).2.1)
 (fun (q : Nat) =>
 (S.at' (S.mdL nl fun (q : Nat) => tl (q + al)) q).2.2.1)
 fun (q : Nat) =>
 (S.at' (S.mdL nl fun (q : Nat) => tl (q + al)) q).2.2.2) =
 (0 : Int) ∧
 am + nm ≤ mm ∧ nm ≤ 1000000 ∧ (S.bytes nm fun (q : Nat) => tm (q + am)) = true))
 (test (decide
 (0 + List.length (S.mdL nl fun (q : Nat) => tl (q + al)) ≤
 List.length (S.mdL nl fun (q : Nat) => tl (q + al)) ∧
 List.length (S.mdL nl fun (q : Nat) => tl (q + al)) ≤ 1000000 ∧
 0 +
 List.length
 (Prod.snd
 (S.leaS (List.length (S.mdL nl fun (q : Nat) => tl (q + al)))
 (fun (q : Nat) => (S.at' (S.mdL nl fun (q : Nat) => tl (q + al)) q).1)
 (fun (q : Nat) => (S.at' (S.mdL nl fun (q : Nat) => tl (q + al)) q).2.1)
 (fun (q : Nat) =>
 (S.at' (S.mdL nl fun (q : Nat) => tl (q + al)) q).2.2.1)
 fun (q : Nat) =>
 (S.at' (S.mdL nl fun (q : Nat) => tl (q + al)) q).2.2.2)) ≤
 List.length
 (Prod.snd
 (S.leaS (List.length (S.mdL nl fun (q : Nat) => tl (q + al)))
 (fun (q : Nat) => (S.at' (S.mdL nl fun (q : Nat) => tl (q + al)) q).1)
 (fun (q : Nat) => (S.at' (S.mdL nl fun (q : Nat) => tl (q + al)) q).2.1)
 (fun (q : Nat) =>
 (S.at' (S.mdL nl fun (q : Nat) => tl (q + al)) q).2.2.1)
 fun (q : Nat) =>
 (S.at' (S.mdL nl fun (q : Nat) => tl (q + al)) q).2.2.2)) ∧
 List.length
 (Prod.snd
 (S.leaS (List.length (S.mdL nl fun (q : Nat) => tl (q + al)))
 (fun (q : Nat) => (S.at' (S.mdL nl fun (q : Nat) => tl (q + al)) q).1)
 (fun (q : Nat) => (S.at' (S.mdL nl fun (q : Nat) => tl (q + al)) q).2.1)
 (fun (q : Nat) =>
 (S.at' (S.mdL nl fun (q : Nat) => tl (q + al)) q).2.2.1)
 fun (q : Nat) =>
 (S.at' (S.mdL nl fun (q : Nat) => tl (q + al)) q).2.2.2)) ≤
 1000000 ∧
 0 +
 List.length
 (S.sprL (List.length (S.mdL nl fun (q : Nat) => tl (q + al)))
 (fun (q : Nat) =>
 (S.at' (S.mdL nl fun (q : Nat) => tl (q + al)) q).2.2.2)
 nm fun (q : Nat) => tm (q + am)) ≤
 List.length
 (S.sprL (List.length (S.mdL nl fun (q : Nat) => tl (q + al)))
 (fun (q : Nat) =>
 (S.at' (S.mdL nl fun (q : Nat) => tl (q + al)) q).2.2.2)
 nm fun (q : Nat) => tm (q + am)) ∧
 List.length
 (S.sprL (List.length (S.mdL nl fun (q : Nat) => tl (q + al)))
 (fun (q : Nat) =>
 (S.at' (S.mdL nl fun (q : Nat) => tl (q + al)) q).2.2.2)
 nm fun (q : Nat) => tm (q + am)) ≤
 1000000))
 (test (Prod.fst
 (S.actS (List.length (S.mdL nl fun (q : Nat) => tl (q + al)))
 (fun (q : Nat) => (S.at' (S.mdL nl fun (q : Nat) => tl (q + al)) q).1)
 (fun (q : Nat) => (S.at' (S.mdL nl fun (q : Nat) => tl (q + al)) q).2.1)
 (fun (q : Nat) => (S.at' (S.mdL nl fun (q : Nat) => tl (q + al)) q).2.2.1)
 (fun (q : Nat) => (S.at' (S.mdL nl fun (q : Nat) => tl (q + al)) q).2.2.2)
 (List.length
 (Prod.snd
 (S.leaS (List.length (S.mdL nl fun (q : Nat) => tl (q + al)))
 (fun (q : Nat) => (S.at' (S.mdL nl fun (q : Nat) => tl (q + al)) q).1)
 (fun (q : Nat) => (S.at' (S.mdL nl fun (q : Nat) => tl (q + al)) q).2.1)
 (fun (q : Nat) =>
 (S.at' (S.mdL nl fun (q : Nat) => tl (q + al)) q).2.2.1)
 fun (q : Nat) =>
 (S.at' (S.mdL nl fun (q : Nat) => tl (q + al)) q).2.2.2)))
 (fun (q : Nat) => (0 : Int)) (5 : Int)
 (List.length
 (S.sprL (List.length (S.mdL nl fun (q : Nat) => tl (q + al)))
 (fun (q : Nat) =>
 (S.at' (S.mdL nl fun (q : Nat) => tl (q + al)) q).2.2.2)
 nm fun (q : Nat) => tm (q + am)))
 fun (q : Nat) =>
 S.at'
 (S.sprL (List.length (S.mdL nl fun (q : Nat) => tl (q + al)))
 (fun (q : Nat) =>
 (S.at' (S.mdL nl fun (q : Nat) => tl (q + al)) q).2.2.2)
 nm fun (q : Nat) => tm (q + am))
 q) !=
 (0 : Int))
 (Kret (PV.tf false) ([[(1, false, Blk.cols mm [Col.int IntKind.u8 tm]),
 (0, false, Blk.cols ml [Col.int IntKind.u32 tl])]]) (15))
 (test ((↑(List.length
 (Prod.snd
 (S.actS (List.length (S.mdL nl fun (q : Nat) => tl (q + al)))
 (fun (q : Nat) => (S.at' (S.mdL nl fun (q : Nat) => tl (q + al)) q).1)
 (fun (q : Nat) => (S.at' (S.mdL nl fun (q : Nat) => tl (q + al)) q).2.1)
 (fun (q : Nat) =>
 (S.at' (S.mdL nl fun (q : Nat) => tl (q + al)) q).2.2.1)
 (fun (q : Nat) =>
 (S.at' (S.mdL nl fun (q : Nat) => tl (q + al)) q).2.2.2)
 (List.length
 (Prod.snd
 (S.leaS (List.length (S.mdL nl fun (q : Nat) => tl (q + al)))
 (fun (q : Nat) => (S.at' (S.mdL nl fun (q : Nat) => tl (q + al)) q).1)
 (fun (q : Nat) => (S.at' (S.mdL nl fun (q : Nat) => tl (q + al)) q).2.1)
 (fun (q : Nat) =>
 (S.at' (S.mdL nl fun (q : Nat) => tl (q + al)) q).2.2.1)
 fun (q : Nat) =>
 (S.at' (S.mdL nl fun (q : Nat) => tl (q + al)) q).2.2.2)))
 (fun (q : Nat) => (0 : Int)) (5 : Int)
 (List.length
 (S.sprL (List.length (S.mdL nl fun (q : Nat) => tl (q + al)))
 (fun (q : Nat) =>
 (S.at' (S.mdL nl fun (q : Nat) => tl (q + al)) q).2.2.2)
 nm fun (q : Nat) => tm (q + am)))
 fun (q : Nat) =>
 S.at'
 (S.sprL (List.length (S.mdL nl fun (q : Nat) => tl (q + al)))
 (fun (q : Nat) =>
 (S.at' (S.mdL nl fun (q : Nat) => tl (q + al)) q).2.2.2)
 nm fun (q : Nat) => tm (q + am))
 q))) :
 Int) !=
 (↑(List.length
 (Prod.snd
 (S.leaS (List.length (S.mdL nl fun (q : Nat) => tl (q + al)))
 (fun (q : Nat) => (S.at' (S.mdL nl fun (q : Nat) => tl (q + al)) q).1)
 (fun (q : Nat) => (S.at' (S.mdL nl fun (q : Nat) => tl (q + al)) q).2.1)
 (fun (q : Nat) =>
 (S.at' (S.mdL nl fun (q : Nat) => tl (q + al)) q).2.2.1)
 fun (q : Nat) =>
 (S.at' (S.mdL nl fun (q : Nat) => tl (q + al)) q).2.2.2))) :
 Int))
 (Kret (PV.tf false) ([[(1, false, Blk.cols mm [Col.int IntKind.u8 tm]),
 (0, false, Blk.cols ml [Col.int IntKind.u32 tl])]]) (15))
 (Kst (hd Try.f11 0) ([PV.own (9) (4)
 (List.length
 (Prod.snd
 (S.dlyS (List.length (S.mdL nl fun (q : Nat) => tl (q + al)))
 (fun (q : Nat) => (S.at' (S.mdL nl fun (q : Nat) => tl (q + al)) q).1)
 (fun (q : Nat) => (S.at' (S.mdL nl fun (q : Nat) => tl (q + al)) q).2.1)
 (fun (q : Nat) =>
 (S.at' (S.mdL nl fun (q : Nat) => tl (q + al)) q).2.2.1)
 fun (q : Nat) =>
 (S.at' (S.mdL nl fun (q : Nat) => tl (q + al)) q).2.2.2))),
 PV.own (14) (1)
 (List.length
 (Prod.snd
 (S.actS (List.length (S.mdL nl fun (q : Nat) => tl (q + al)))
 (fun (q : Nat) => (S.at' (S.mdL nl fun (q : Nat) => tl (q + al)) q).1)
 (fun (q : Nat) => (S.at' (S.mdL nl fun (q : Nat) => tl (q + al)) q).2.1)
 (fun (q : Nat) =>
 (S.at' (S.mdL nl fun (q : Nat) => tl (q + al)) q).2.2.1)
 (fun (q : Nat) =>
 (S.at' (S.mdL nl fun (q : Nat) => tl (q + al)) q).2.2.2)
 (List.length
 (Prod.snd
 (S.leaS (List.length (S.mdL nl fun (q : Nat) => tl (q + al)))
 (fun (q : Nat) => (S.at' (S.mdL nl fun (q : Nat) => tl (q + al)) q).1)
 (fun (q : Nat) => (S.at' (S.mdL nl fun (q : Nat) => tl (q + al)) q).2.1)
 (fun (q : Nat) =>
 (S.at' (S.mdL nl fun (q : Nat) => tl (q + al)) q).2.2.1)
 fun (q : Nat) =>
 (S.at' (S.mdL nl fun (q : Nat) => tl (q + al)) q).2.2.2)))
 (fun (q : Nat) => (0 : Int)) (5 : Int)
 (List.length
 (S.sprL (List.length (S.mdL nl fun (q : Nat) => tl (q + al)))
 (fun (q : Nat) =>
 (S.at' (S.mdL nl fun (q : Nat) => tl (q + al)) q).2.2.2)
 nm fun (q : Nat) => tm (q + am)))
 fun (q : Nat) =>
 S.at'
 (S.sprL (List.length (S.mdL nl fun (q : Nat) => tl (q + al)))
 (fun (q : Nat) =>
 (S.at' (S.mdL nl fun (q : Nat) => tl (q + al)) q).2.2.2)
 nm fun (q : Nat) => tm (q + am))
 q))),
 PV.own (7) (1)
 (List.length
 (Prod.snd
 (S.leaS (List.length (S.mdL nl fun (q : Nat) => tl (q + al)))
 (fun (q : Nat) => (S.at' (S.mdL nl fun (q : Nat) => tl (q + al)) q).1)
 (fun (q : Nat) => (S.at' (S.mdL nl fun (q : Nat) => tl (q + al)) q).2.1)
 (fun (q : Nat) =>
 (S.at' (S.mdL nl fun (q : Nat) => tl (q + al)) q).2.2.1)
 fun (q : Nat) =>
 (S.at' (S.mdL nl fun (q : Nat) => tl (q + al)) q).2.2.2))),
 PV.int IntKind.i64
 (↑(List.length
 (Prod.snd
 (S.leaS (List.length (S.mdL nl fun (q : Nat) => tl (q + al)))
 (fun (q : Nat) => (S.at' (S.mdL nl fun (q : Nat) => tl (q + al)) q).1)
 (fun (q : Nat) => (S.at' (S.mdL nl fun (q : Nat) => tl (q + al)) q).2.1)
 (fun (q : Nat) =>
 (S.at' (S.mdL nl fun (q : Nat) => tl (q + al)) q).2.2.1)
 fun (q : Nat) =>
 (S.at' (S.mdL nl fun (q : Nat) => tl (q + al)) q).2.2.2))) :
 Int),
 PV.int IntKind.i64 (0 : Int)]) ([[(1, false, Blk.cols mm [Col.int IntKind.u8 tm]),
 (0, false, Blk.cols ml [Col.int IntKind.u32 tl]),
 (7, true,
 Blk.cols
 (List.length
 (Prod.snd
 (S.leaS (List.length (S.mdL nl fun (q : Nat) => tl (q + al)))
 (fun (q : Nat) => (S.at' (S.mdL nl fun (q : Nat) => tl (q + al)) q).1)
 (fun (q : Nat) => (S.at' (S.mdL nl fun (q : Nat) => tl (q + al)) q).2.1)
 (fun (q : Nat) =>
 (S.at' (S.mdL nl fun (q : Nat) => tl (q + al)) q).2.2.1)
 fun (q : Nat) =>
 (S.at' (S.mdL nl fun (q : Nat) => tl (q + al)) q).2.2.2)))
 [Col.int IntKind.i64 fun (j : Nat) =>
 S.at'
 (Prod.snd
 (S.leaS (List.length (S.mdL nl fun (q : Nat) => tl (q + al)))
 (fun (q : Nat) => (S.at' (S.mdL nl fun (q : Nat) => tl (q + al)) q).1)
 (fun (q : Nat) => (S.at' (S.mdL nl fun (q : Nat) => tl (q + al)) q).2.1)
 (fun (q : Nat) =>
 (S.at' (S.mdL nl fun (q : Nat) => tl (q + al)) q).2.2.1)
 fun (q : Nat) =>
 (S.at' (S.mdL nl fun (q : Nat) => tl (q + al)) q).2.2.2))
 j]),
 (14, true,
 Blk.cols
 (List.length
 (Prod.snd
 (S.actS (List.length (S.mdL nl fun (q : Nat) => tl (q + al)))
 (fun (q : Nat) => (S.at' (S.mdL nl fun (q : Nat) => tl (q + al)) q).1)
 (fun (q : Nat) => (S.at' (S.mdL nl fun (q : Nat) => tl (q + al)) q).2.1)
 (fun (q : Nat) =>
 (S.at' (S.mdL nl fun (q : Nat) => tl (q + al)) q).2.2.1)
 (fun (q : Nat) =>
 (S.at' (S.mdL nl fun (q : Nat) => tl (q + al)) q).2.2.2)
 (List.length
 (Prod.snd
 (S.leaS (List.length (S.mdL nl fun (q : Nat) => tl (q + al)))
 (fun (q : Nat) => (S.at' (S.mdL nl fun (q : Nat) => tl (q + al)) q).1)
 (fun (q : Nat) => (S.at' (S.mdL nl fun (q : Nat) => tl (q + al)) q).2.1)
 (fun (q : Nat) =>
 (S.at' (S.mdL nl fun (q : Nat) => tl (q + al)) q).2.2.1)
 fun (q : Nat) =>
 (S.at' (S.mdL nl fun (q : Nat) => tl (q + al)) q).2.2.2)))
 (fun (q : Nat) => (0 : Int)) (5 : Int)
 (List.length
 (S.sprL (List.length (S.mdL nl fun (q : Nat) => tl (q + al)))
 (fun (q : Nat) =>
 (S.at' (S.mdL nl fun (q : Nat) => tl (q + al)) q).2.2.2)
 nm fun (q : Nat) => tm (q + am)))
 fun (q : Nat) =>
 S.at'
 (S.sprL (List.length (S.mdL nl fun (q : Nat) => tl (q + al)))
 (fun (q : Nat) =>
 (S.at' (S.mdL nl fun (q : Nat) => tl (q + al)) q).2.2.2)
 nm fun (q : Nat) => tm (q + am))
 q)))
 [Col.int IntKind.i64 fun (j : Nat) =>
 S.at'
 (Prod.snd
 (S.actS (List.length (S.mdL nl fun (q : Nat) => tl (q + al)))
 (fun (q : Nat) => (S.at' (S.mdL nl fun (q : Nat) => tl (q + al)) q).1)
 (fun (q : Nat) => (S.at' (S.mdL nl fun (q : Nat) => tl (q + al)) q).2.1)
 (fun (q : Nat) =>
 (S.at' (S.mdL nl fun (q : Nat) => tl (q + al)) q).2.2.1)
 (fun (q : Nat) =>
 (S.at' (S.mdL nl fun (q : Nat) => tl (q + al)) q).2.2.2)
 (List.length
 (Prod.snd
 (S.leaS (List.length (S.mdL nl fun (q : Nat) => tl (q + al)))
 (fun (q : Nat) => (S.at' (S.mdL nl fun (q : Nat) => tl (q + al)) q).1)
 (fun (q : Nat) =>
 (S.at' (S.mdL nl fun (q : Nat) => tl (q + al)) q).2.1)
 (fun (q : Nat) =>
 (S.at' (S.mdL nl fun (q : Nat) => tl (q + al)) q).2.2.1)
 fun (q : Nat) =>
 (S.at' (S.mdL nl fun (q : Nat) => tl (q + al)) q).2.2.2)))
 (fun (q : Nat) => (0 : Int)) (5 : Int)
 (List.length
 (S.sprL (List.length (S.mdL nl fun (q : Nat) => tl (q + al)))
 (fun (q : Nat) =>
 (S.at' (S.mdL nl fun (q : Nat) => tl (q + al)) q).2.2.2)
 nm fun (q : Nat) => tm (q + am)))
 fun (q : Nat) =>
 S.at'
 (S.sprL (List.length (S.mdL nl fun (q : Nat) => tl (q + al)))
 (fun (q : Nat) =>
 (S.at' (S.mdL nl fun (q : Nat) => tl (q + al)) q).2.2.2)
 nm fun (q : Nat) => tm (q + am))
 q))
 j]),
 (9, true,
 Blk.cols
 (List.length
 (Prod.snd
 (S.dlyS (List.length (S.mdL nl fun (q : Nat) => tl (q + al)))
 (fun (q : Nat) => (S.at' (S.mdL nl fun (q : Nat) => tl (q + al)) q).1)
 (fun (q : Nat) => (S.at' (S.mdL nl fun (q : Nat) => tl (q + al)) q).2.1)
 (fun (q : Nat) =>
 (S.at' (S.mdL nl fun (q : Nat) => tl (q + al)) q).2.2.1)
 fun (q : Nat) =>
 (S.at' (S.mdL nl fun (q : Nat) => tl (q + al)) q).2.2.2)))
 [Col.int IntKind.i64 fun (j : Nat) =>
 Prod.fst
 (S.at'
 (Prod.snd
 (S.dlyS (List.length (S.mdL nl fun (q : Nat) => tl (q + al)))
 (fun (q : Nat) => (S.at' (S.mdL nl fun (q : Nat) => tl (q + al)) q).1)
 (fun (q : Nat) => (S.at' (S.mdL nl fun (q : Nat) => tl (q + al)) q).2.1)
 (fun (q : Nat) =>
 (S.at' (S.mdL nl fun (q : Nat) => tl (q + al)) q).2.2.1)
 fun (q : Nat) =>
 (S.at' (S.mdL nl fun (q : Nat) => tl (q + al)) q).2.2.2))
 j),
 Col.int IntKind.i64 fun (j : Nat) =>
 Prod.fst
 (Prod.snd
 (S.at'
 (Prod.snd
 (S.dlyS (List.length (S.mdL nl fun (q : Nat) => tl (q + al)))
 (fun (q : Nat) => (S.at' (S.mdL nl fun (q : Nat) => tl (q + al)) q).1)
 (fun (q : Nat) =>
 (S.at' (S.mdL nl fun (q : Nat) => tl (q + al)) q).2.1)
 (fun (q : Nat) =>
 (S.at' (S.mdL nl fun (q : Nat) => tl (q + al)) q).2.2.1)
 fun (q : Nat) =>
 (S.at' (S.mdL nl fun (q : Nat) => tl (q + al)) q).2.2.2))
 j)),
 Col.bool fun (j : Nat) =>
 Prod.fst
 (Prod.snd
 (Prod.snd
 (S.at'
 (Prod.snd
 (S.dlyS (List.length (S.mdL nl fun (q : Nat) => tl (q + al)))
 (fun (q : Nat) => (S.at' (S.mdL nl fun (q : Nat) => tl (q + al)) q).1)
 (fun (q : Nat) =>
 (S.at' (S.mdL nl fun (q : Nat) => tl (q + al)) q).2.1)
 (fun (q : Nat) =>
 (S.at' (S.mdL nl fun (q : Nat) => tl (q + al)) q).2.2.1)
 fun (q : Nat) =>
 (S.at' (S.mdL nl fun (q : Nat) => tl (q + al)) q).2.2.2))
 j))),
 Col.bool fun (j : Nat) =>
 Prod.snd
 (Prod.snd
 (Prod.snd
 (S.at'
 (Prod.snd
 (S.dlyS (List.length (S.mdL nl fun (q : Nat) => tl (q + al)))
 (fun (q : Nat) => (S.at' (S.mdL nl fun (q : Nat) => tl (q + al)) q).1)
 (fun (q : Nat) =>
 (S.at' (S.mdL nl fun (q : Nat) => tl (q + al)) q).2.1)
 (fun (q : Nat) =>
 (S.at' (S.mdL nl fun (q : Nat) => tl (q + al)) q).2.2.1)
 fun (q : Nat) =>
 (S.at' (S.mdL nl fun (q : Nat) => tl (q + al)) q).2.2.2))
 j)))])]]) (15))))
 (False))
 (False))
 (False)))))
 (False))
 (False))
 (False))))
 (test (true)
 (test (true)
 (Kret (PV.tf true) ([[(1, false, Blk.cols mm [Col.int IntKind.u8 tm]),
 (0, false, Blk.cols ml [Col.int IntKind.u32 tl])]]) (4))
 (Kret (PV.tf false) ([[(1, false, Blk.cols mm [Col.int IntKind.u8 tm]),
 (0, false, Blk.cols ml [Col.int IntKind.u32 tl])]]) (4)))
 (False)))
 (False)
set_option maxRecDepth 100000 in
theorem te11 (test : Bool → Prop → Prop → Prop) (Kst : KS) (Kret : KR) (al nl ml : Nat) (tl : Nat → Int) (am nm mm : Nat) (tm : Nat → Int) : run test Try.env true (xS test) true 400 ⟨11, [.cd (mkFn Try.f11).body], argT 0 [.loose ⟨0, 1, al, 0⟩ nl, .loose ⟨1, 1, am, 0⟩ nm], [[], [(0, (false, .cols ml [.int .u32 tl])), (1, (false, .cols mm [.int .u8 tm]))]], 2⟩ (proj 2 [8, 10, 73, 74, 75] Kst Kret) =
  Te11 test Kst Kret al nl ml tl am nm mm tm := by kernel_rfl
noncomputable def T11_0 (test : Bool → Prop → Prop → Prop) (Kst : KS) (Kret : KR) (al nl ml : Nat) (tl : Nat → Int) (am nm mm : Nat) (tm : Nat → Int) (x0 : Int) (x1 : List (Int × Int × Bool × Bool)) (x2 : List Int) (x3 : List Int) : Prop :=
  test (decide
 (x0 <
 (↑(List.length
 (Prod.snd
 (S.leaS (List.length (S.mdL nl fun (q : Nat) => tl (q + al)))
 (fun (q : Nat) => (S.at' (S.mdL nl fun (q : Nat) => tl (q + al)) q).1)
 (fun (q : Nat) => (S.at' (S.mdL nl fun (q : Nat) => tl (q + al)) q).2.1)
 (fun (q : Nat) =>
 (S.at' (S.mdL nl fun (q : Nat) => tl (q + al)) q).2.2.1)
 fun (q : Nat) =>
 (S.at' (S.mdL nl fun (q : Nat) => tl (q + al)) q).2.2.2))) :
 Int)))
 (test (decide ((0 : Int) ≤ x0 ∧ x0 < (↑(List.length x3) : Int)))
 (test (decide (Int.toNat x0 < List.length x3))
 (test (decide (S.at' x3 (Int.toNat x0) < (0 : Int)))
 (Kret (PV.tf false) ([[(1, false, Blk.cols mm [Col.int IntKind.u8 tm]),
 (0, false, Blk.cols ml [Col.int IntKind.u32 tl])]]) (5))
 (test (decide (S.at' x3 (Int.toNat x0) ≥ (↑(List.length x1) : Int)))
 (Kret (PV.tf false) ([[(1, false, Blk.cols mm [Col.int IntKind.u8 tm]),
 (0, false, Blk.cols ml [Col.int IntKind.u32 tl])]]) (5))
 (test (decide ((0 : Int) ≤ x0 ∧ x0 < (↑(List.length x2) : Int)))
 (test (decide (Int.toNat x0 < List.length x2))
 (test (lim IntKind.i64 (S.at' x2 (Int.toNat x0) - (5 : Int)))
 (test (decide ((0 : Int) ≤ S.at' x3 (Int.toNat x0) ∧ S.at' x3 (Int.toNat x0) < (↑(List.length x1) : Int)))
 (test (decide (Int.toNat (S.at' x3 (Int.toNat x0)) < List.length x1))
 (test (decide
 (S.at' x2 (Int.toNat x0) - (5 : Int) < (S.at' x1 (Int.toNat (S.at' x3 (Int.toNat x0)))).1))
 (Kret (PV.tf false) ([[(1, false, Blk.cols mm [Col.int IntKind.u8 tm]),
 (0, false, Blk.cols ml [Col.int IntKind.u32 tl])]]) (5))
 (test (decide ((0 : Int) ≤ x0 ∧ x0 < (↑(List.length x2) : Int)))
 (test (decide (Int.toNat x0 < List.length x2))
 (test (lim IntKind.i64 (S.at' x2 (Int.toNat x0) - (5 : Int)))
 (test (decide ((0 : Int) ≤ S.at' x3 (Int.toNat x0) ∧ S.at' x3 (Int.toNat x0) < (↑(List.length x1) : Int)))
 (test (decide (Int.toNat (S.at' x3 (Int.toNat x0)) < List.length x1))
 (test (decide
 (S.at' x2 (Int.toNat x0) - (5 : Int) >
 (S.at' x1 (Int.toNat (S.at' x3 (Int.toNat x0)))).2.1))
 (Kret (PV.tf false) ([[(1, false, Blk.cols mm [Col.int IntKind.u8 tm]),
 (0, false, Blk.cols ml [Col.int IntKind.u32 tl])]]) (5))
 (test (lim IntKind.i64 (x0 + (1 : Int)))
 (Kst (hd Try.f11 0) ([PV.own (2) (4) (List.length x1), PV.own (3) (1) (List.length x2),
 PV.own (4) (1) (List.length x3),
 PV.int IntKind.i64
 (↑(List.length
 (Prod.snd
 (S.leaS (List.length (S.mdL nl fun (q : Nat) => tl (q + al)))
 (fun (q : Nat) => (S.at' (S.mdL nl fun (q : Nat) => tl (q + al)) q).1)
 (fun (q : Nat) => (S.at' (S.mdL nl fun (q : Nat) => tl (q + al)) q).2.1)
 (fun (q : Nat) =>
 (S.at' (S.mdL nl fun (q : Nat) => tl (q + al)) q).2.2.1)
 fun (q : Nat) =>
 (S.at' (S.mdL nl fun (q : Nat) => tl (q + al)) q).2.2.2))) :
 Int),
 PV.int IntKind.i64 (x0 + (1 : Int))]) ([[(1, false, Blk.cols mm [Col.int IntKind.u8 tm]),
 (0, false, Blk.cols ml [Col.int IntKind.u32 tl]),
 (4, true,
 Blk.cols (List.length x3) [Col.int IntKind.i64 fun (j : Nat) => S.at' x3 j]),
 (3, true,
 Blk.cols (List.length x2) [Col.int IntKind.i64 fun (j : Nat) => S.at' x2 j]),
 (2, true,
 Blk.cols (List.length x1)
 [Col.int IntKind.i64 fun (j : Nat) => (S.at' x1 j).1,
 Col.int IntKind.i64 fun (j : Nat) => (S.at' x1 j).2.1,
 Col.bool fun (j : Nat) => (S.at' x1 j).2.2.1,
 Col.bool fun (j : Nat) => (S.at' x1 j).2.2.2])]]) (5))
 (False)))
 (False))
 (False))
 (False))
 (False))
 (False)))
 (False))
 (False))
 (False))
 (False))
 (False))))
 (False))
 (False))
 (Kret (PV.tf true) ([[(1, false, Blk.cols mm [Col.int IntKind.u8 tm]),
 (0, false, Blk.cols ml [Col.int IntKind.u32 tl])]]) (5))
set_option maxRecDepth 100000 in
theorem t11_0 (test : Bool → Prop → Prop → Prop) (Kst : KS) (Kret : KR) (al nl ml : Nat) (tl : Nat → Int) (am nm mm : Nat) (tm : Nat → Int) (x0 : Int) (x1 : List (Int × Int × Bool × Bool)) (x2 : List Int) (x3 : List Int) : run test Try.env true (xS test) true 400 ⟨11, hd Try.f11 0, zipT [8, 10, 73, 74, 75] [PV.own (2) (4) (List.length x1), PV.own (3) (1) (List.length x2),
 PV.own (4) (1) (List.length x3),
 PV.int IntKind.i64
 (↑(List.length
 (Prod.snd
 (S.leaS (List.length (S.mdL nl fun (q : Nat) => tl (q + al)))
 (fun (q : Nat) => (S.at' (S.mdL nl fun (q : Nat) => tl (q + al)) q).1)
 (fun (q : Nat) => (S.at' (S.mdL nl fun (q : Nat) => tl (q + al)) q).2.1)
 (fun (q : Nat) =>
 (S.at' (S.mdL nl fun (q : Nat) => tl (q + al)) q).2.2.1)
 fun (q : Nat) =>
 (S.at' (S.mdL nl fun (q : Nat) => tl (q + al)) q).2.2.2))) :
 Int),
 PV.int IntKind.i64 x0], [[(2, (true, Blk.cols (List.length x1)
 [Col.int IntKind.i64 fun (j : Nat) => (S.at' x1 j).1,
 Col.int IntKind.i64 fun (j : Nat) => (S.at' x1 j).2.1,
 Col.bool fun (j : Nat) => (S.at' x1 j).2.2.1,
 Col.bool fun (j : Nat) => (S.at' x1 j).2.2.2])), (3, (true, Blk.cols (List.length x2) [Col.int IntKind.i64 fun (j : Nat) => S.at' x2 j])), (4, (true, Blk.cols (List.length x3) [Col.int IntKind.i64 fun (j : Nat) => S.at' x3 j]))], [(0, (false, .cols ml [.int .u32 tl])), (1, (false, .cols mm [.int .u8 tm]))]], 5⟩ (proj 2 [8, 10, 73, 74, 75] Kst Kret) =
  T11_0 test Kst Kret al nl ml tl am nm mm tm x0 x1 x2 x3 := by kernel_rfl
set_option maxRecDepth 100000 in
theorem be11 (al nl ml : Nat) (tl : Nat → Int) (am nm mm : Nat) (tm : Nat → Int) (Kst : KS) (Kret : KR) (x : St11 ⊕ Rt11) (hS : HS 2 400 ((I11 al nl ml tl am nm mm tm)) Kst x) (hR : HR 2 400 ((V11 al nl ml tl am nm mm tm)) (fun r => [newL (2 + 1) ((N11 al nl ml tl am nm mm tm) r) ++ [(0, (false, .cols ml [.int .u32 tl])), (1, (false, .cols mm [.int .u8 tm]))]]) Kret x) (h : (bif (decide ((↑nl : Int) > (30 : Int)))
 then (some (.inr (true)))
 else (bif (decide ((↑nm : Int) > (40 : Int)))
 then (some (.inr (true)))
 else (bif (decide (al + nl ≤ ml ∧ nl ≤ 1000000 ∧ (S.u32s nl fun (q : Nat) => tl (q + al)) = true))
 then (bif (decide
 (0 + List.length (S.mdL nl fun (q : Nat) => tl (q + al)) ≤
 List.length (S.mdL nl fun (q : Nat) => tl (q + al)) ∧
 List.length (S.mdL nl fun (q : Nat) => tl (q + al)) ≤ 1000000))
 then (bif (Prod.fst
 (S.leaS (List.length (S.mdL nl fun (q : Nat) => tl (q + al)))
 (fun (q : Nat) => (S.at' (S.mdL nl fun (q : Nat) => tl (q + al)) q).1)
 (fun (q : Nat) => (S.at' (S.mdL nl fun (q : Nat) => tl (q + al)) q).2.1)
 (fun (q : Nat) => (S.at' (S.mdL nl fun (q : Nat) => tl (q + al)) q).2.2.1)
 fun (q : Nat) => (S.at' (S.mdL nl fun (q : Nat) => tl (q + al)) q).2.2.2) !=
 (0 : Int))
 then (some (.inr (false)))
 else (bif (Prod.fst
 (S.dlyS (List.length (S.mdL nl fun (q : Nat) => tl (q + al)))
 (fun (q : Nat) => (S.at' (S.mdL nl fun (q : Nat) => tl (q + al)) q).1)
 (fun (q : Nat) => (S.at' (S.mdL nl fun (q : Nat) => tl (q + al)) q).2.1)
 (fun (q : Nat) => (S.at' (S.mdL nl fun (q : Nat) => tl (q + al)) q).2.2.1)
 fun (q : Nat) => (S.at' (S.mdL nl fun (q : Nat) => tl (q + al)) q).2.2.2) !=
 (0 : Int))
 then (some (.inr (false)))
 else (bif ((↑(List.length
 (Prod.snd
 (S.dlyS (List.length (S.mdL nl fun (q : Nat) => tl (q + al)))
 (fun (q : Nat) => (S.at' (S.mdL nl fun (q : Nat) => tl (q + al)) q).1)
 (fun (q : Nat) => (S.at' (S.mdL nl fun (q : Nat) => tl (q + al)) q).2.1)
 (fun (q : Nat) =>
 (S.at' (S.mdL nl fun (q : Nat) => tl (q + al)) q).2.2.1)
 fun (q : Nat) =>
 (S.at' (S.mdL nl fun (q : Nat) => tl (q + al)) q).2.2.2))) :
 Int) !=
 (↑(List.length (S.mdL nl fun (q : Nat) => tl (q + al))) : Int))
 then (some (.inr (false)))
 else (bif (decide
 ((0 : Int) ≤
 (↑(List.length
 (Prod.snd
 (S.leaS (List.length (S.mdL nl fun (q : Nat) => tl (q + al)))
 (fun (q : Nat) => (S.at' (S.mdL nl fun (q : Nat) => tl (q + al)) q).1)
 (fun (q : Nat) => (S.at' (S.mdL nl fun (q : Nat) => tl (q + al)) q).2.1)
 (fun (q : Nat) =>
 (S.at' (S.mdL nl fun (q : Nat) => tl (q + al)) q).2.2.1)
 fun (q : Nat) =>
 (S.at' (S.mdL nl fun (q : Nat) => tl (q + al)) q).2.2.2))) :
 Int) ∧
 (↑(List.length
 (Prod.snd
 (S.leaS (List.length (S.mdL nl fun (q : Nat) => tl (q + al)))
 (fun (q : Nat) => (S.at' (S.mdL nl fun (q : Nat) => tl (q + al)) q).1)
 (fun (q : Nat) => (S.at' (S.mdL nl fun (q : Nat) => tl (q + al)) q).2.1)
 (fun (q : Nat) =>
 (S.at' (S.mdL nl fun (q : Nat) => tl (q + al)) q).2.2.1)
 fun (q : Nat) =>
 (S.at' (S.mdL nl fun (q : Nat) => tl (q + al)) q).2.2.2))) :
 Int) ≤
 (↑(List.length
 (Prod.snd
 (S.leaS (List.length (S.mdL nl fun (q : Nat) => tl (q + al)))
 (fun (q : Nat) => (S.at' (S.mdL nl fun (q : Nat) => tl (q + al)) q).1)
 (fun (q : Nat) => (S.at' (S.mdL nl fun (q : Nat) => tl (q + al)) q).2.1)
 (fun (q : Nat) =>
 (S.at' (S.mdL nl fun (q : Nat) => tl (q + al)) q).2.2.1)
 fun (q : Nat) =>
 (S.at' (S.mdL nl fun (q : Nat) => tl (q + al)) q).2.2.2))) :
 Int) ∧
 (↑(List.length
 (Prod.snd
 (S.leaS (List.length (S.mdL nl fun (q : Nat) => tl (q + al)))
 (fun (q : Nat) => (S.at' (S.mdL nl fun (q : Nat) => tl (q + al)) q).1)
 (fun (q : Nat) => (S.at' (S.mdL nl fun (q : Nat) => tl (q + al)) q).2.1)
 (fun (q : Nat) =>
 (S.at' (S.mdL nl fun (q : Nat) => tl (q + al)) q).2.2.1)
 fun (q : Nat) =>
 (S.at' (S.mdL nl fun (q : Nat) => tl (q + al)) q).2.2.2))) :
 Int) ≤
 (1000000 : Int)))
 then (bif (decide
 (0 + List.length (S.mdL nl fun (q : Nat) => tl (q + al)) ≤
 List.length (S.mdL nl fun (q : Nat) => tl (q + al)) ∧
 List.length (S.mdL nl fun (q : Nat) => tl (q + al)) ≤ 1000000 ∧
 (S.treE (List.length (S.mdL nl fun (q : Nat) => tl (q + al)))
 (fun (q : Nat) => (S.at' (S.mdL nl fun (q : Nat) => tl (q + al)) q).1)
 (fun (q : Nat) => (S.at' (S.mdL nl fun (q : Nat) => tl (q + al)) q).2.1)
 (fun (q : Nat) =>
 (S.at' (S.mdL nl fun (q : Nat) => tl (q + al)) q).2.2.1)
 fun (q : Nat) =>
 (S.at' (S.mdL nl fun (q : Nat) => tl (q + al)) q).2.2.2) =
 (0 : Int) ∧
 am + nm ≤ mm ∧ nm ≤ 1000000 ∧ (S.bytes nm fun (q : Nat) => tm (q + am)) = true))
 then (bif (decide
 (0 + List.length (S.mdL nl fun (q : Nat) => tl (q + al)) ≤
 List.length (S.mdL nl fun (q : Nat) => tl (q + al)) ∧
 List.length (S.mdL nl fun (q : Nat) => tl (q + al)) ≤ 1000000 ∧
 0 +
 List.length
 (Prod.snd
 (S.leaS (List.length (S.mdL nl fun (q : Nat) => tl (q + al)))
 (fun (q : Nat) => (S.at' (S.mdL nl fun (q : Nat) => tl (q + al)) q).1)
 (fun (q : Nat) => (S.at' (S.mdL nl fun (q : Nat) => tl (q + al)) q).2.1)
 (fun (q : Nat) =>
 (S.at' (S.mdL nl fun (q : Nat) => tl (q + al)) q).2.2.1)
 fun (q : Nat) =>
 (S.at' (S.mdL nl fun (q : Nat) => tl (q + al)) q).2.2.2)) ≤
 List.length
 (Prod.snd
 (S.leaS (List.length (S.mdL nl fun (q : Nat) => tl (q + al)))
 (fun (q : Nat) => (S.at' (S.mdL nl fun (q : Nat) => tl (q + al)) q).1)
 (fun (q : Nat) => (S.at' (S.mdL nl fun (q : Nat) => tl (q + al)) q).2.1)
 (fun (q : Nat) =>
 (S.at' (S.mdL nl fun (q : Nat) => tl (q + al)) q).2.2.1)
 fun (q : Nat) =>
 (S.at' (S.mdL nl fun (q : Nat) => tl (q + al)) q).2.2.2)) ∧
 List.length
 (Prod.snd
 (S.leaS (List.length (S.mdL nl fun (q : Nat) => tl (q + al)))
 (fun (q : Nat) => (S.at' (S.mdL nl fun (q : Nat) => tl (q + al)) q).1)
 (fun (q : Nat) => (S.at' (S.mdL nl fun (q : Nat) => tl (q + al)) q).2.1)
 (fun (q : Nat) =>
 (S.at' (S.mdL nl fun (q : Nat) => tl (q + al)) q).2.2.1)
 fun (q : Nat) =>
 (S.at' (S.mdL nl fun (q : Nat) => tl (q + al)) q).2.2.2)) ≤
 1000000 ∧
 0 +
 List.length
 (S.sprL (List.length (S.mdL nl fun (q : Nat) => tl (q + al)))
 (fun (q : Nat) =>
 (S.at' (S.mdL nl fun (q : Nat) => tl (q + al)) q).2.2.2)
 nm fun (q : Nat) => tm (q + am)) ≤
 List.length
 (S.sprL (List.length (S.mdL nl fun (q : Nat) => tl (q + al)))
 (fun (q : Nat) =>
 (S.at' (S.mdL nl fun (q : Nat) => tl (q + al)) q).2.2.2)
 nm fun (q : Nat) => tm (q + am)) ∧
 List.length
 (S.sprL (List.length (S.mdL nl fun (q : Nat) => tl (q + al)))
 (fun (q : Nat) =>
 (S.at' (S.mdL nl fun (q : Nat) => tl (q + al)) q).2.2.2)
 nm fun (q : Nat) => tm (q + am)) ≤
 1000000))
 then (bif (Prod.fst
 (S.actS (List.length (S.mdL nl fun (q : Nat) => tl (q + al)))
 (fun (q : Nat) => (S.at' (S.mdL nl fun (q : Nat) => tl (q + al)) q).1)
 (fun (q : Nat) => (S.at' (S.mdL nl fun (q : Nat) => tl (q + al)) q).2.1)
 (fun (q : Nat) => (S.at' (S.mdL nl fun (q : Nat) => tl (q + al)) q).2.2.1)
 (fun (q : Nat) => (S.at' (S.mdL nl fun (q : Nat) => tl (q + al)) q).2.2.2)
 (List.length
 (Prod.snd
 (S.leaS (List.length (S.mdL nl fun (q : Nat) => tl (q + al)))
 (fun (q : Nat) => (S.at' (S.mdL nl fun (q : Nat) => tl (q + al)) q).1)
 (fun (q : Nat) => (S.at' (S.mdL nl fun (q : Nat) => tl (q + al)) q).2.1)
 (fun (q : Nat) =>
 (S.at' (S.mdL nl fun (q : Nat) => tl (q + al)) q).2.2.1)
 fun (q : Nat) =>
 (S.at' (S.mdL nl fun (q : Nat) => tl (q + al)) q).2.2.2)))
 (fun (q : Nat) => (0 : Int)) (5 : Int)
 (List.length
 (S.sprL (List.length (S.mdL nl fun (q : Nat) => tl (q + al)))
 (fun (q : Nat) =>
 (S.at' (S.mdL nl fun (q : Nat) => tl (q + al)) q).2.2.2)
 nm fun (q : Nat) => tm (q + am)))
 fun (q : Nat) =>
 S.at'
 (S.sprL (List.length (S.mdL nl fun (q : Nat) => tl (q + al)))
 (fun (q : Nat) =>
 (S.at' (S.mdL nl fun (q : Nat) => tl (q + al)) q).2.2.2)
 nm fun (q : Nat) => tm (q + am))
 q) !=
 (0 : Int))
 then (some (.inr (false)))
 else (bif ((↑(List.length
 (Prod.snd
 (S.actS (List.length (S.mdL nl fun (q : Nat) => tl (q + al)))
 (fun (q : Nat) => (S.at' (S.mdL nl fun (q : Nat) => tl (q + al)) q).1)
 (fun (q : Nat) => (S.at' (S.mdL nl fun (q : Nat) => tl (q + al)) q).2.1)
 (fun (q : Nat) =>
 (S.at' (S.mdL nl fun (q : Nat) => tl (q + al)) q).2.2.1)
 (fun (q : Nat) =>
 (S.at' (S.mdL nl fun (q : Nat) => tl (q + al)) q).2.2.2)
 (List.length
 (Prod.snd
 (S.leaS (List.length (S.mdL nl fun (q : Nat) => tl (q + al)))
 (fun (q : Nat) => (S.at' (S.mdL nl fun (q : Nat) => tl (q + al)) q).1)
 (fun (q : Nat) => (S.at' (S.mdL nl fun (q : Nat) => tl (q + al)) q).2.1)
 (fun (q : Nat) =>
 (S.at' (S.mdL nl fun (q : Nat) => tl (q + al)) q).2.2.1)
 fun (q : Nat) =>
 (S.at' (S.mdL nl fun (q : Nat) => tl (q + al)) q).2.2.2)))
 (fun (q : Nat) => (0 : Int)) (5 : Int)
 (List.length
 (S.sprL (List.length (S.mdL nl fun (q : Nat) => tl (q + al)))
 (fun (q : Nat) =>
 (S.at' (S.mdL nl fun (q : Nat) => tl (q + al)) q).2.2.2)
 nm fun (q : Nat) => tm (q + am)))
 fun (q : Nat) =>
 S.at'
 (S.sprL (List.length (S.mdL nl fun (q : Nat) => tl (q + al)))
 (fun (q : Nat) =>
 (S.at' (S.mdL nl fun (q : Nat) => tl (q + al)) q).2.2.2)
 nm fun (q : Nat) => tm (q + am))
 q))) :
 Int) !=
 (↑(List.length
 (Prod.snd
 (S.leaS (List.length (S.mdL nl fun (q : Nat) => tl (q + al)))
 (fun (q : Nat) => (S.at' (S.mdL nl fun (q : Nat) => tl (q + al)) q).1)
 (fun (q : Nat) => (S.at' (S.mdL nl fun (q : Nat) => tl (q + al)) q).2.1)
 (fun (q : Nat) =>
 (S.at' (S.mdL nl fun (q : Nat) => tl (q + al)) q).2.2.1)
 fun (q : Nat) =>
 (S.at' (S.mdL nl fun (q : Nat) => tl (q + al)) q).2.2.2))) :
 Int))
 then (some (.inr (false)))
 else (some (.inl (.h0 ((0 : Int)) (Prod.snd
 (S.dlyS (List.length (S.mdL nl fun (q : Nat) => tl (q + al)))
 (fun (q : Nat) => (S.at' (S.mdL nl fun (q : Nat) => tl (q + al)) q).1)
 (fun (q : Nat) => (S.at' (S.mdL nl fun (q : Nat) => tl (q + al)) q).2.1)
 (fun (q : Nat) => (S.at' (S.mdL nl fun (q : Nat) => tl (q + al)) q).2.2.1)
 fun (q : Nat) => (S.at' (S.mdL nl fun (q : Nat) => tl (q + al)) q).2.2.2)) (Prod.snd
 (S.actS (List.length (S.mdL nl fun (q : Nat) => tl (q + al)))
 (fun (q : Nat) => (S.at' (S.mdL nl fun (q : Nat) => tl (q + al)) q).1)
 (fun (q : Nat) => (S.at' (S.mdL nl fun (q : Nat) => tl (q + al)) q).2.1)
 (fun (q : Nat) => (S.at' (S.mdL nl fun (q : Nat) => tl (q + al)) q).2.2.1)
 (fun (q : Nat) => (S.at' (S.mdL nl fun (q : Nat) => tl (q + al)) q).2.2.2)
 (List.length
 (Prod.snd
 (S.leaS (List.length (S.mdL nl fun (q : Nat) => tl (q + al)))
 (fun (q : Nat) => (S.at' (S.mdL nl fun (q : Nat) => tl (q + al)) q).1)
 (fun (q : Nat) => (S.at' (S.mdL nl fun (q : Nat) => tl (q + al)) q).2.1)
 (fun (q : Nat) =>
 (S.at' (S.mdL nl fun (q : Nat) => tl (q + al)) q).2.2.1)
 fun (q : Nat) =>
 (S.at' (S.mdL nl fun (q : Nat) => tl (q + al)) q).2.2.2)))
 (fun (q : Nat) => (0 : Int)) (5 : Int)
 (List.length
 (S.sprL (List.length (S.mdL nl fun (q : Nat) => tl (q + al)))
 (fun (q : Nat) => (S.at' (S.mdL nl fun (q : Nat) => tl (q + al)) q).2.2.2)
 nm fun (q : Nat) => tm (q + am)))
 fun (q : Nat) =>
 S.at'
 (S.sprL (List.length (S.mdL nl fun (q : Nat) => tl (q + al)))
 (fun (q : Nat) => (S.at' (S.mdL nl fun (q : Nat) => tl (q + al)) q).2.2.2)
 nm fun (q : Nat) => tm (q + am))
 q)) (Prod.snd
 (S.leaS (List.length (S.mdL nl fun (q : Nat) => tl (q + al)))
 (fun (q : Nat) => (S.at' (S.mdL nl fun (q : Nat) => tl (q + al)) q).1)
 (fun (q : Nat) => (S.at' (S.mdL nl fun (q : Nat) => tl (q + al)) q).2.1)
 (fun (q : Nat) => (S.at' (S.mdL nl fun (q : Nat) => tl (q + al)) q).2.2.1)
 fun (q : Nat) => (S.at' (S.mdL nl fun (q : Nat) => tl (q + al)) q).2.2.2)))))))
 else (none))
 else (none))
 else (none)))))
 else (none))
 else (none))) : Option (St11 ⊕ Rt11)) = some x) : Te11 cond Kst Kret al nl ml tl am nm mm tm := by
  unfold Te11
  exact cond_yes rfl (cond_yes rfl (bif_split h
   (fun c0 h => cond_yes rfl (cond_yes rfl (ret_at hR _ h (fun n => n) rfl rfl rfl (rn_bool_tf rfl) rfl (entl_bor (use_lo rfl) rfl rfl (entl_bor (use_lo rfl) rfl rfl entl_nil)))))
   (fun c0 h => bif_split h
   (fun c1 h => cond_yes rfl (cond_yes rfl (ret_at hR _ h (fun n => n) rfl rfl rfl (rn_bool_tf rfl) rfl (entl_bor (use_lo rfl) rfl rfl (entl_bor (use_lo rfl) rfl rfl entl_nil)))))
   (fun c1 h => bif_split h
   (fun c2 h => bif_split h
   (fun c3 h => cond_yes c3 (bif_split h
   (fun c4 h => ret_at hR _ h (fun n => n) rfl rfl rfl (rn_bool_tf rfl) rfl (entl_bor (use_lo rfl) rfl rfl (entl_bor (use_lo rfl) rfl rfl entl_nil)))
   (fun c4 h => bif_split h
   (fun c5 h => ret_at hR _ h (fun n => n) rfl rfl rfl (rn_bool_tf rfl) rfl (entl_bor (use_lo rfl) rfl rfl (entl_bor (use_lo rfl) rfl rfl entl_nil)))
   (fun c5 h => bif_split h
   (fun c6 h => ret_at hR _ h (fun n => n) rfl rfl rfl (rn_bool_tf rfl) rfl (entl_bor (use_lo rfl) rfl rfl (entl_bor (use_lo rfl) rfl rfl entl_nil)))
   (fun c6 h => bif_split h
   (fun c7 h => bif_split h
   (fun c8 h => bif_split h
   (fun c9 h => bif_split h
   (fun c10 h => ret_at hR _ h (fun n => n) rfl rfl rfl (rn_bool_tf rfl) rfl (entl_bor (use_lo rfl) rfl rfl (entl_bor (use_lo rfl) rfl rfl entl_nil)))
   (fun c10 h => bif_split h
   (fun c11 h => ret_at hR _ h (fun n => n) rfl rfl rfl (rn_bool_tf rfl) rfl (entl_bor (use_lo rfl) rfl rfl (entl_bor (use_lo rfl) rfl rfl entl_nil)))
   (fun c11 h => stop_at hS _ h (fun n => bif Nat.beq n 2 then 9 else bif Nat.beq n 3 then 14 else bif Nat.beq n 4 then 7 else n) rfl rfl rfl ⟨(rn_own (use_own rfl) rfl rfl), ⟨(rn_own (use_own rfl) rfl rfl), ⟨(rn_own (use_own rfl) rfl rfl), ⟨(rn_int rfl), ⟨(rn_int rfl), trivial⟩⟩⟩⟩⟩ rfl (entl_new (use_own rfl) rfl (Nat.le_of_eq rfl) (rcs_int (fun _ _ => rfl) (rcs_int (fun _ _ => rfl) (rcs_bool (fun _ _ => rfl) (rcs_bool (fun _ _ => rfl) rcs_nil)))) (entl_new (use_own rfl) rfl (Nat.le_of_eq rfl) (rcs_int (fun _ _ => rfl) rcs_nil) (entl_new (use_own rfl) rfl (Nat.le_of_eq rfl) (rcs_int (fun _ _ => rfl) rcs_nil) (entl_bor (use_lo rfl) rfl rfl (entl_bor (use_lo rfl) rfl rfl entl_nil))))))))
   (fun c9 h => no_some h))
   (fun c8 h => no_some h))
   (fun c7 h => no_some h))))))
   (fun c3 h => no_some h))
   (fun c2 h => no_some h)))))
set_option maxRecDepth 100000 in
theorem b11_0 (al nl ml : Nat) (tl : Nat → Int) (am nm mm : Nat) (tm : Nat → Int) (Kst : KS) (Kret : KR) (x : St11 ⊕ Rt11) (hS : HS 2 400 ((I11 al nl ml tl am nm mm tm)) Kst x) (hR : HR 2 400 ((V11 al nl ml tl am nm mm tm)) (fun r => [newL (2 + 1) ((N11 al nl ml tl am nm mm tm) r) ++ [(0, (false, .cols ml [.int .u32 tl])), (1, (false, .cols mm [.int .u8 tm]))]]) Kret x) (x0 : Int) (x1 : List (Int × Int × Bool × Bool)) (x2 : List Int) (x3 : List Int) (h : (bif (decide
 (x0 <
 (↑(List.length
 (Prod.snd
 (S.leaS (List.length (S.mdL nl fun (q : Nat) => tl (q + al)))
 (fun (q : Nat) => (S.at' (S.mdL nl fun (q : Nat) => tl (q + al)) q).1)
 (fun (q : Nat) => (S.at' (S.mdL nl fun (q : Nat) => tl (q + al)) q).2.1)
 (fun (q : Nat) =>
 (S.at' (S.mdL nl fun (q : Nat) => tl (q + al)) q).2.2.1)
 fun (q : Nat) =>
 (S.at' (S.mdL nl fun (q : Nat) => tl (q + al)) q).2.2.2))) :
 Int)))
 then (bif (decide ((0 : Int) ≤ x0 ∧ x0 < (↑(List.length x3) : Int)))
 then (bif (decide (Int.toNat x0 < List.length x3))
 then (bif (decide (S.at' x3 (Int.toNat x0) < (0 : Int)))
 then (some (.inr (false)))
 else (bif (decide (S.at' x3 (Int.toNat x0) ≥ (↑(List.length x1) : Int)))
 then (some (.inr (false)))
 else (bif (decide ((0 : Int) ≤ x0 ∧ x0 < (↑(List.length x2) : Int)))
 then (bif (decide (Int.toNat x0 < List.length x2))
 then (bif (lim IntKind.i64 (S.at' x2 (Int.toNat x0) - (5 : Int)))
 then (bif (decide ((0 : Int) ≤ S.at' x3 (Int.toNat x0) ∧ S.at' x3 (Int.toNat x0) < (↑(List.length x1) : Int)))
 then (bif (decide (Int.toNat (S.at' x3 (Int.toNat x0)) < List.length x1))
 then (bif (decide
 (S.at' x2 (Int.toNat x0) - (5 : Int) < (S.at' x1 (Int.toNat (S.at' x3 (Int.toNat x0)))).1))
 then (some (.inr (false)))
 else (bif (decide
 (S.at' x2 (Int.toNat x0) - (5 : Int) >
 (S.at' x1 (Int.toNat (S.at' x3 (Int.toNat x0)))).2.1))
 then (some (.inr (false)))
 else (bif (lim IntKind.i64 (x0 + (1 : Int)))
 then (some (.inl (.h0 (x0 + (1 : Int)) (x1) (x2) (x3))))
 else (none))))
 else (none))
 else (none))
 else (none))
 else (none))
 else (none))))
 else (none))
 else (none))
 else (some (.inr (true))) : Option (St11 ⊕ Rt11)) = some x) : T11_0 cond Kst Kret al nl ml tl am nm mm tm x0 x1 x2 x3 := by
  unfold T11_0
  exact bif_split h
   (fun c0 h => bif_split h
   (fun c1 h => bif_split h
   (fun c2 h => bif_split h
   (fun c3 h => ret_at hR _ h (fun n => n) rfl rfl rfl (rn_bool_tf rfl) rfl (entl_bor (use_lo rfl) rfl rfl (entl_bor (use_lo rfl) rfl rfl entl_nil)))
   (fun c3 h => bif_split h
   (fun c4 h => ret_at hR _ h (fun n => n) rfl rfl rfl (rn_bool_tf rfl) rfl (entl_bor (use_lo rfl) rfl rfl (entl_bor (use_lo rfl) rfl rfl entl_nil)))
   (fun c4 h => bif_split h
   (fun c5 h => bif_split h
   (fun c6 h => bif_split h
   (fun c7 h => bif_split h
   (fun c8 h => bif_split h
   (fun c9 h => bif_split h
   (fun c10 h => ret_at hR _ h (fun n => n) rfl rfl rfl (rn_bool_tf rfl) rfl (entl_bor (use_lo rfl) rfl rfl (entl_bor (use_lo rfl) rfl rfl entl_nil)))
   (fun c10 h => cond_yes c5 (cond_yes c6 (cond_yes c7 (cond_yes c8 (cond_yes c9 (bif_split h
   (fun c11 h => ret_at hR _ h (fun n => n) rfl rfl rfl (rn_bool_tf rfl) rfl (entl_bor (use_lo rfl) rfl rfl (entl_bor (use_lo rfl) rfl rfl entl_nil)))
   (fun c11 h => bif_split h
   (fun c12 h => stop_at hS _ h (fun n => bif Nat.beq n 2 then 2 else bif Nat.beq n 3 then 3 else bif Nat.beq n 4 then 4 else n) rfl rfl rfl ⟨(rn_own (use_own rfl) rfl rfl), ⟨(rn_own (use_own rfl) rfl rfl), ⟨(rn_own (use_own rfl) rfl rfl), ⟨(rn_int rfl), ⟨(rn_int rfl), trivial⟩⟩⟩⟩⟩ rfl (entl_new (use_own rfl) rfl (Nat.le_of_eq rfl) (rcs_int (fun _ _ => rfl) (rcs_int (fun _ _ => rfl) (rcs_bool (fun _ _ => rfl) (rcs_bool (fun _ _ => rfl) rcs_nil)))) (entl_new (use_own rfl) rfl (Nat.le_of_eq rfl) (rcs_int (fun _ _ => rfl) rcs_nil) (entl_new (use_own rfl) rfl (Nat.le_of_eq rfl) (rcs_int (fun _ _ => rfl) rcs_nil) (entl_bor (use_lo rfl) rfl rfl (entl_bor (use_lo rfl) rfl rfl entl_nil))))))
   (fun c12 h => no_some h)))))))))
   (fun c9 h => no_some h))
   (fun c8 h => no_some h))
   (fun c7 h => no_some h))
   (fun c6 h => no_some h))
   (fun c5 h => no_some h))))
   (fun c2 h => no_some h))
   (fun c1 h => no_some h))
   (fun c0 h => ret_at hR _ h (fun n => n) rfl rfl rfl (rn_bool_tf rfl) rfl (entl_bor (use_lo rfl) rfl rfl (entl_bor (use_lo rfl) rfl rfl entl_nil)))
theorem a11 (al nl ml : Nat) (tl : Nat → Int) (am nm mm : Nat) (tm : Nat → Int) {r : Rt11} (h : Goes ((q11 al nl ml tl am nm mm tm)) ((p11 al nl ml tl am nm mm tm)) r) : CallR Try.prog 11 [.loose ⟨0, 1, al, 0⟩ nl, .loose ⟨1, 1, am, 0⟩ nm] [[(0, (false, .cols ml [.int .u32 tl])), (1, (false, .cols mm [.int .u8 tm]))]] 2 ((V11 al nl ml tl am nm mm tm) r) ((fun r => [newL (2 + 1) ((N11 al nl ml tl am nm mm tm) r) ++ [(0, (false, .cols ml [.int .u32 tl])), (1, (false, .cols mm [.int .u8 tm]))]]) r) 400 ∧ ∃ F, Try.prog.funcs[11]? = some F ∧ F.body.isSome = true ∧ (F.name == "runtime.NumGoroutine") = false := by
  refine dec_calls (f := 11) (lo := 2) (hi := 400) (H := [[(0, (false, .cols ml [.int .u32 tl])), (1, (false, .cols mm [.int .u8 tm]))]]) (args := [.loose ⟨0, 1, al, 0⟩ nl, .loose ⟨1, 1, am, 0⟩ nm]) Try.envOk Try.mixed xS_ok ((I11 al nl ml tl am nm mm tm)) ((V11 al nl ml tl am nm mm tm)) (fun r => [newL (2 + 1) ((N11 al nl ml tl am nm mm tm) r) ++ [(0, (false, .cols ml [.int .u32 tl])), (1, (false, .cols mm [.int .u8 tm]))]]) (fn := mkFn Try.f11) (ts := [8, 10, 73, 74, 75]) (n := 400) rfl (by decide) (by simp) (names_of rfl) ?_ ?_ ?_ h
  · intro s; cases s <;> exact ⟨hd_ok _ _, by simp [I11], names_of rfl, Nat.le_of_ble_eq_true rfl⟩
  · intro Kst Kret x hS hR h
    exact Holds.eq (te11 cond Kst Kret al nl ml tl am nm mm tm) (be11 al nl ml tl am nm mm tm Kst Kret x hS hR h)
  · intro Kst Kret x hS hR s h
    cases s with
    | h0 x0 x1 x2 x3 => exact Holds.eq (t11_0 cond Kst Kret al nl ml tl am nm mm tm x0 x1 x2 x3) (b11_0 al nl ml tl am nm mm tm Kst Kret x hS hR x0 x1 x2 x3 h)
noncomputable def k11 : Con := ⟨11, [.one (.list [.int .u32]), .one (.list [.int .u8])], fun (x : (Nat × Nat × Nat × (Nat → Int) × Unit) × (Nat × Nat × Nat × (Nat → Int) × Unit) × Unit) => (fun (al nl ml : Nat) (tl : Nat → Int) (am nm mm : Nat) (tm : Nat → Int) => decide (al + nl ≤ ml ∧ am + nm ≤ mm ∧ S.u32s nl (fun q => tl (q + al)) = true ∧ S.bytes nm (fun q => tm (q + am)) = true)) x.1.1 x.1.2.1 x.1.2.2.1 x.1.2.2.2.1 x.2.1.1 x.2.1.2.1 x.2.1.2.2.1 x.2.1.2.2.2.1, fun (x : (Nat × Nat × Nat × (Nat → Int) × Unit) × (Nat × Nat × Nat × (Nat → Int) × Unit) × Unit) => (fun (al nl ml : Nat) (tl : Nat → Int) (am nm mm : Nat) (tm : Nat → Int) => (V11 al nl ml tl am nm mm tm) (true)) x.1.1 x.1.2.1 x.1.2.2.1 x.1.2.2.2.1 x.2.1.1 x.2.1.2.1 x.2.1.2.2.1 x.2.1.2.2.2.1, fun (x : (Nat × Nat × Nat × (Nat → Int) × Unit) × (Nat × Nat × Nat × (Nat → Int) × Unit) × Unit) => (fun (al nl ml : Nat) (tl : Nat → Int) (am nm mm : Nat) (tm : Nat → Int) => (N11 al nl ml tl am nm mm tm) (true)) x.1.1 x.1.2.1 x.1.2.2.1 x.1.2.2.2.1 x.2.1.1 x.2.1.2.1 x.2.1.2.2.1 x.2.1.2.2.2.1, fun _ _ => .dead⟩
theorem s11' (al nl ml : Nat) (tl : Nat → Int) (am nm mm : Nat) (tm : Nat → Int) (hn : (S.mdL nl (fun q => tl (q + al))).length ≤ 31) (ht : S.treE (S.mdL nl (fun q => tl (q + al))).length (fun q => (S.at' (S.mdL nl (fun q => tl (q + al))) q).1) (fun q => (S.at' (S.mdL nl (fun q => tl (q + al))) q).2.1) (fun q => (S.at' (S.mdL nl (fun q => tl (q + al))) q).2.2.1) (fun q => (S.at' (S.mdL nl (fun q => tl (q + al))) q).2.2.2) = 0) (hs : (S.sprL (S.mdL nl (fun q => tl (q + al))).length (fun q => (S.at' (S.mdL nl (fun q => tl (q + al))) q).2.2.2) nm (fun q => tm (q + am))).length = (S.mdL nl (fun q => tl (q + al))).length ∧ ∀ q, q < (S.mdL nl (fun q => tl (q + al))).length → -((fun q => (S.at' (S.mdL nl (fun q => tl (q + al))) q).2.2.2) q) ≤ (fun q => S.at' (S.sprL (S.mdL nl (fun q => tl (q + al))).length (fun q => (S.at' (S.mdL nl (fun q => tl (q + al))) q).2.2.2) nm (fun q => tm (q + am))) q) q ∧ (fun q => S.at' (S.sprL (S.mdL nl (fun q => tl (q + al))).length (fun q => (S.at' (S.mdL nl (fun q => tl (q + al))) q).2.2.2) nm (fun q => tm (q + am))) q) q ≤ (fun q => (S.at' (S.mdL nl (fun q => tl (q + al))) q).2.2.2) q) : ∀ k i : Nat, i + k = (S.leaL (fun q => (S.at' (S.mdL nl (fun q => tl (q + al))) q).1) (S.mdL nl (fun q => tl (q + al))).length).length → Comes (q11 al nl ml tl am nm mm tm) (.h0 (i : Int) (S.mkl (S.mdL nl (fun q => tl (q + al))).length (S.dlyT (fun q => (S.at' (S.mdL nl (fun q => tl (q + al))) q).1) (fun q => (S.at' (S.mdL nl (fun q => tl (q + al))) q).2.1) (fun q => (S.at' (S.mdL nl (fun q => tl (q + al))) q).2.2.2))) (S.mkl (S.leaL (fun q => (S.at' (S.mdL nl (fun q => tl (q + al))) q).1) (S.mdL nl (fun q => tl (q + al))).length).length (S.actT (fun q => (S.at' (S.mdL nl (fun q => tl (q + al))) q).1) (fun q => (S.at' (S.mdL nl (fun q => tl (q + al))) q).2.1) (fun q => S.at' (S.sprL (S.mdL nl (fun q => tl (q + al))).length (fun q => (S.at' (S.mdL nl (fun q => tl (q + al))) q).2.2.2) nm (fun q => tm (q + am))) q) (fun q => 0) 5 (S.leaL (fun q => (S.at' (S.mdL nl (fun q => tl (q + al))) q).1) (S.mdL nl (fun q => tl (q + al))).length))) (S.leaL (fun q => (S.at' (S.mdL nl (fun q => tl (q + al))) q).1) (S.mdL nl (fun q => tl (q + al))).length)) true := by
  obtain ⟨v1, v2, v3, v4, v5, v6⟩ := tre_ok ht
  have hle := lea_is ht
  have hE : (S.leaL (fun q => (S.at' (S.mdL nl (fun q => tl (q + al))) q).1) (S.mdL nl (fun q => tl (q + al))).length).length ≤ (S.mdL nl (fun q => tl (q + al))).length := cho_len
  have hEi : ∀ q, q < (S.leaL (fun q => (S.at' (S.mdL nl (fun q => tl (q + al))) q).1) (S.mdL nl (fun q => tl (q + al))).length).length → 0 ≤ S.at' (S.leaL (fun q => (S.at' (S.mdL nl (fun q => tl (q + al))) q).1) (S.mdL nl (fun q => tl (q + al))).length) q ∧ S.at' (S.leaL (fun q => (S.at' (S.mdL nl (fun q => tl (q + al))) q).1) (S.mdL nl (fun q => tl (q + al))).length) q < (S.mdL nl (fun q => tl (q + al))).length := fun q hq => leaL_in hq
  have hD : (S.mkl (S.mdL nl (fun q => tl (q + al))).length (S.dlyT (fun q => (S.at' (S.mdL nl (fun q => tl (q + al))) q).1) (fun q => (S.at' (S.mdL nl (fun q => tl (q + al))) q).2.1) (fun q => (S.at' (S.mdL nl (fun q => tl (q + al))) q).2.2.2))).length = (S.mdL nl (fun q => tl (q + al))).length := mkl_len
  have hA : (S.mkl (S.leaL (fun q => (S.at' (S.mdL nl (fun q => tl (q + al))) q).1) (S.mdL nl (fun q => tl (q + al))).length).length (S.actT (fun q => (S.at' (S.mdL nl (fun q => tl (q + al))) q).1) (fun q => (S.at' (S.mdL nl (fun q => tl (q + al))) q).2.1) (fun q => S.at' (S.sprL (S.mdL nl (fun q => tl (q + al))).length (fun q => (S.at' (S.mdL nl (fun q => tl (q + al))) q).2.2.2) nm (fun q => tm (q + am))) q) (fun q => 0) 5 (S.leaL (fun q => (S.at' (S.mdL nl (fun q => tl (q + al))) q).1) (S.mdL nl (fun q => tl (q + al))).length))).length = (S.leaL (fun q => (S.at' (S.mdL nl (fun q => tl (q + al))) q).1) (S.mdL nl (fun q => tl (q + al))).length).length := mkl_len
  have hDv : ∀ q, q < (S.mdL nl (fun q => tl (q + al))).length → S.at' (S.mkl (S.mdL nl (fun q => tl (q + al))).length (S.dlyT (fun q => (S.at' (S.mdL nl (fun q => tl (q + al))) q).1) (fun q => (S.at' (S.mdL nl (fun q => tl (q + al))) q).2.1) (fun q => (S.at' (S.mdL nl (fun q => tl (q + al))) q).2.2.2))) q = S.dlyT (fun q => (S.at' (S.mdL nl (fun q => tl (q + al))) q).1) (fun q => (S.at' (S.mdL nl (fun q => tl (q + al))) q).2.1) (fun q => (S.at' (S.mdL nl (fun q => tl (q + al))) q).2.2.2) q := fun q hq => at_mkl hq
  have hAv : ∀ q, q < (S.leaL (fun q => (S.at' (S.mdL nl (fun q => tl (q + al))) q).1) (S.mdL nl (fun q => tl (q + al))).length).length → S.at' (S.mkl (S.leaL (fun q => (S.at' (S.mdL nl (fun q => tl (q + al))) q).1) (S.mdL nl (fun q => tl (q + al))).length).length (S.actT (fun q => (S.at' (S.mdL nl (fun q => tl (q + al))) q).1) (fun q => (S.at' (S.mdL nl (fun q => tl (q + al))) q).2.1) (fun q => S.at' (S.sprL (S.mdL nl (fun q => tl (q + al))).length (fun q => (S.at' (S.mdL nl (fun q => tl (q + al))) q).2.2.2) nm (fun q => tm (q + am))) q) (fun q => 0) 5 (S.leaL (fun q => (S.at' (S.mdL nl (fun q => tl (q + al))) q).1) (S.mdL nl (fun q => tl (q + al))).length))) q = 5 + 0 + S.dl (fun q => (S.at' (S.mdL nl (fun q => tl (q + al))) q).1) (fun y => (fun q => (S.at' (S.mdL nl (fun q => tl (q + al))) q).2.1) y + (fun q => S.at' (S.sprL (S.mdL nl (fun q => tl (q + al))).length (fun q => (S.at' (S.mdL nl (fun q => tl (q + al))) q).2.2.2) nm (fun q => tm (q + am))) q) y) (S.at' (S.leaL (fun q => (S.at' (S.mdL nl (fun q => tl (q + al))) q).1) (S.mdL nl (fun q => tl (q + al))).length) q).toNat := fun q hq => at_mkl hq
  intro k
  induction k with
  | zero =>
    intro i hi
    apply Comes.of
    show Goes _ _ _
    rw [q11]
    simp only [hle]
    repeat' first
      | with_reducible refine goes_if (fun h => ?_) (fun h => ?_) <;> (try simp only [lim64, decide_eq_true_eq, decide_eq_false_iff_not, Int.toNat_natCast, toNat_pred, toNat_succ, Option.getD_some, Option.getD_none, Bool.not_eq_true', Bool.not_eq_false', Bool.and_eq_true, Bool.or_eq_true, Bool.and_eq_false_iff, Bool.or_eq_false_iff, bne_iff_ne, beq_iff_eq, bne_eq_false_iff_eq, beq_eq_false_iff_ne, ne_eq, not_and, Int.not_le, Int.not_lt, ge_iff_le, gt_iff_lt, Nat.not_lt, Nat.not_le, Bool.not_eq_true, Bool.not_eq_false, Bool.true_eq_false, Bool.false_eq_true, not_false_eq_true, not_true_eq_false] at h)
      | exact goes_none.mpr (by omega)
    all_goals first | (exfalso; omega) | exact goes_inr.mpr rfl
  | succ k ih =>
    intro i hi
    have ih := ih (i + 1) (by omega)
    have hb := hEi i (by omega)
    have h1 := hDv (S.at' (S.leaL (fun q => (S.at' (S.mdL nl (fun q => tl (q + al))) q).1) (S.mdL nl (fun q => tl (q + al))).length) i).toNat (by omega)
    have h2 := hAv i (by omega)
    rw [dl_add] at h2
    have h3 := dl_abs (p := (fun q => (S.at' (S.mdL nl (fun q => tl (q + al))) q).1)) hs.2 (S.at' (S.leaL (fun q => (S.at' (S.mdL nl (fun q => tl (q + al))) q).1) (S.mdL nl (fun q => tl (q + al))).length) i).toNat (by omega)
    have h4 := dl_bd ht (x := (S.at' (S.leaL (fun q => (S.at' (S.mdL nl (fun q => tl (q + al))) q).1) (S.mdL nl (fun q => tl (q + al))).length) i).toNat) (by omega)
    have h5 : (S.at' (S.mkl (S.mdL nl (fun q => tl (q + al))).length (S.dlyT (fun q => (S.at' (S.mdL nl (fun q => tl (q + al))) q).1) (fun q => (S.at' (S.mdL nl (fun q => tl (q + al))) q).2.1) (fun q => (S.at' (S.mdL nl (fun q => tl (q + al))) q).2.2.2))) (S.at' (S.leaL (fun q => (S.at' (S.mdL nl (fun q => tl (q + al))) q).1) (S.mdL nl (fun q => tl (q + al))).length) i).toNat).1 = S.dl (fun q => (S.at' (S.mdL nl (fun q => tl (q + al))) q).1) (fun q => (S.at' (S.mdL nl (fun q => tl (q + al))) q).2.1) (S.at' (S.leaL (fun q => (S.at' (S.mdL nl (fun q => tl (q + al))) q).1) (S.mdL nl (fun q => tl (q + al))).length) i).toNat - S.dl (fun q => (S.at' (S.mdL nl (fun q => tl (q + al))) q).1) (fun q => (S.at' (S.mdL nl (fun q => tl (q + al))) q).2.2.2) (S.at' (S.leaL (fun q => (S.at' (S.mdL nl (fun q => tl (q + al))) q).1) (S.mdL nl (fun q => tl (q + al))).length) i).toNat := by rw [h1]; rfl
    have h6 : (S.at' (S.mkl (S.mdL nl (fun q => tl (q + al))).length (S.dlyT (fun q => (S.at' (S.mdL nl (fun q => tl (q + al))) q).1) (fun q => (S.at' (S.mdL nl (fun q => tl (q + al))) q).2.1) (fun q => (S.at' (S.mdL nl (fun q => tl (q + al))) q).2.2.2))) (S.at' (S.leaL (fun q => (S.at' (S.mdL nl (fun q => tl (q + al))) q).1) (S.mdL nl (fun q => tl (q + al))).length) i).toNat).2.1 = S.dl (fun q => (S.at' (S.mdL nl (fun q => tl (q + al))) q).1) (fun q => (S.at' (S.mdL nl (fun q => tl (q + al))) q).2.1) (S.at' (S.leaL (fun q => (S.at' (S.mdL nl (fun q => tl (q + al))) q).1) (S.mdL nl (fun q => tl (q + al))).length) i).toNat + S.dl (fun q => (S.at' (S.mdL nl (fun q => tl (q + al))) q).1) (fun q => (S.at' (S.mdL nl (fun q => tl (q + al))) q).2.2.2) (S.at' (S.leaL (fun q => (S.at' (S.mdL nl (fun q => tl (q + al))) q).1) (S.mdL nl (fun q => tl (q + al))).length) i).toNat := by rw [h1]; rfl
    clear h1 hs hDv hAv
    generalize S.dl (fun q => (S.at' (S.mdL nl (fun q => tl (q + al))) q).1) (fun q => (S.at' (S.mdL nl (fun q => tl (q + al))) q).2.1) (S.at' (S.leaL (fun q => (S.at' (S.mdL nl (fun q => tl (q + al))) q).1) (S.mdL nl (fun q => tl (q + al))).length) i).toNat = z1 at *
    generalize S.dl (fun q => (S.at' (S.mdL nl (fun q => tl (q + al))) q).1) (fun q => (S.at' (S.mdL nl (fun q => tl (q + al))) q).2.2.2) (S.at' (S.leaL (fun q => (S.at' (S.mdL nl (fun q => tl (q + al))) q).1) (S.mdL nl (fun q => tl (q + al))).length) i).toNat = z2 at *
    generalize S.dl (fun q => (S.at' (S.mdL nl (fun q => tl (q + al))) q).1) (fun y => (fun q => S.at' (S.sprL (S.mdL nl (fun q => tl (q + al))).length (fun q => (S.at' (S.mdL nl (fun q => tl (q + al))) q).2.2.2) nm (fun q => tm (q + am))) q) y) (S.at' (S.leaL (fun q => (S.at' (S.mdL nl (fun q => tl (q + al))) q).1) (S.mdL nl (fun q => tl (q + al))).length) i).toNat = z3 at *
    generalize (S.mkl (S.mdL nl (fun q => tl (q + al))).length (S.dlyT (fun q => (S.at' (S.mdL nl (fun q => tl (q + al))) q).1) (fun q => (S.at' (S.mdL nl (fun q => tl (q + al))) q).2.1) (fun q => (S.at' (S.mdL nl (fun q => tl (q + al))) q).2.2.2))) = DY at *
    generalize (S.mkl (S.leaL (fun q => (S.at' (S.mdL nl (fun q => tl (q + al))) q).1) (S.mdL nl (fun q => tl (q + al))).length).length (S.actT (fun q => (S.at' (S.mdL nl (fun q => tl (q + al))) q).1) (fun q => (S.at' (S.mdL nl (fun q => tl (q + al))) q).2.1) (fun q => S.at' (S.sprL (S.mdL nl (fun q => tl (q + al))).length (fun q => (S.at' (S.mdL nl (fun q => tl (q + al))) q).2.2.2) nm (fun q => tm (q + am))) q) (fun q => 0) 5 (S.leaL (fun q => (S.at' (S.mdL nl (fun q => tl (q + al))) q).1) (S.mdL nl (fun q => tl (q + al))).length))) = AC at *
    generalize (S.leaL (fun q => (S.at' (S.mdL nl (fun q => tl (q + al))) q).1) (S.mdL nl (fun q => tl (q + al))).length) = E at *
    apply Comes.of
    show Goes _ _ _
    rw [q11]
    simp only [hle]
    repeat' first
      | with_reducible refine goes_if (fun h => ?_) (fun h => ?_) <;> (try simp only [lim64, decide_eq_true_eq, decide_eq_false_iff_not, Int.toNat_natCast, toNat_pred, toNat_succ, Option.getD_some, Option.getD_none, Bool.not_eq_true', Bool.not_eq_false', Bool.and_eq_true, Bool.or_eq_true, Bool.and_eq_false_iff, Bool.or_eq_false_iff, bne_iff_ne, beq_iff_eq, bne_eq_false_iff_eq, beq_eq_false_iff_ne, ne_eq, not_and, Int.not_le, Int.not_lt, ge_iff_le, gt_iff_lt, Nat.not_lt, Nat.not_le, Bool.not_eq_true, Bool.not_eq_false, Bool.true_eq_false, Bool.false_eq_true, not_false_eq_true, not_true_eq_false] at h)
      | exact goes_none.mpr (by omega)
    all_goals first | (exfalso; omega) | exact ih
theorem s11 (al nl ml : Nat) (tl : Nat → Int) (am nm mm : Nat) (tm : Nat → Int) (hp : al + nl ≤ ml ∧ am + nm ≤ mm ∧ S.u32s nl (fun q => tl (q + al)) = true ∧ S.bytes nm (fun q => tm (q + am)) = true) : Goes ((q11 al nl ml tl am nm mm tm)) ((p11 al nl ml tl am nm mm tm)) (true) := by
  obtain ⟨hp1, hp2, hu, hby⟩ := hp
  have ht : S.treE (S.mdL nl (fun q => tl (q + al))).length (fun q => (S.at' (S.mdL nl (fun q => tl (q + al))) q).1) (fun q => (S.at' (S.mdL nl (fun q => tl (q + al))) q).2.1) (fun q => (S.at' (S.mdL nl (fun q => tl (q + al))) q).2.2.1) (fun q => (S.at' (S.mdL nl (fun q => tl (q + al))) q).2.2.2) = 0 := mdL_ok hu
  have hlen : (S.mdL nl (fun q => tl (q + al))).length = min nl 30 + 1 := mdL_len
  obtain ⟨v1, v2, v3, v4, v5, v6⟩ := tre_ok ht
  by_cases hn : nl ≤ 30
  · by_cases hm : nm ≤ 40
    · have hs := spr_ok (n := (S.mdL nl (fun q => tl (q + al))).length) (m := nm) (w := (fun q => (S.at' (S.mdL nl (fun q => tl (q + al))) q).2.2.2)) (y := (fun q => tm (q + am))) (fun q hq => (v5 q hq).2.2.1) hby
      have hle := lea_is ht
      have hdl := dly_is ht
      have hac : S.actS (S.mdL nl (fun q => tl (q + al))).length (fun q => (S.at' (S.mdL nl (fun q => tl (q + al))) q).1) (fun q => (S.at' (S.mdL nl (fun q => tl (q + al))) q).2.1) (fun q => (S.at' (S.mdL nl (fun q => tl (q + al))) q).2.2.1) (fun q => (S.at' (S.mdL nl (fun q => tl (q + al))) q).2.2.2) (S.leaL (fun q => (S.at' (S.mdL nl (fun q => tl (q + al))) q).1) (S.mdL nl (fun q => tl (q + al))).length).length (fun q => 0) 5 (S.sprL (S.mdL nl (fun q => tl (q + al))).length (fun q => (S.at' (S.mdL nl (fun q => tl (q + al))) q).2.2.2) nm (fun q => tm (q + am))).length (fun q => S.at' (S.sprL (S.mdL nl (fun q => tl (q + al))).length (fun q => (S.at' (S.mdL nl (fun q => tl (q + al))) q).2.2.2) nm (fun q => tm (q + am))) q) = (0, (S.mkl (S.leaL (fun q => (S.at' (S.mdL nl (fun q => tl (q + al))) q).1) (S.mdL nl (fun q => tl (q + al))).length).length (S.actT (fun q => (S.at' (S.mdL nl (fun q => tl (q + al))) q).1) (fun q => (S.at' (S.mdL nl (fun q => tl (q + al))) q).2.1) (fun q => S.at' (S.sprL (S.mdL nl (fun q => tl (q + al))).length (fun q => (S.at' (S.mdL nl (fun q => tl (q + al))) q).2.2.2) nm (fun q => tm (q + am))) q) (fun q => 0) 5 (S.leaL (fun q => (S.at' (S.mdL nl (fun q => tl (q + al))) q).1) (S.mdL nl (fun q => tl (q + al))).length)))) := act_is ht rfl hs.1 (by decide) (fun q _ => by decide) hs.2
      have hx := s11' al nl ml tl am nm mm tm (by omega) ht hs (S.leaL (fun q => (S.at' (S.mdL nl (fun q => tl (q + al))) q).1) (S.mdL nl (fun q => tl (q + al))).length).length 0 (Nat.zero_add _)
      have hD : (S.mkl (S.mdL nl (fun q => tl (q + al))).length (S.dlyT (fun q => (S.at' (S.mdL nl (fun q => tl (q + al))) q).1) (fun q => (S.at' (S.mdL nl (fun q => tl (q + al))) q).2.1) (fun q => (S.at' (S.mdL nl (fun q => tl (q + al))) q).2.2.2))).length = (S.mdL nl (fun q => tl (q + al))).length := mkl_len
      have hA : (S.mkl (S.leaL (fun q => (S.at' (S.mdL nl (fun q => tl (q + al))) q).1) (S.mdL nl (fun q => tl (q + al))).length).length (S.actT (fun q => (S.at' (S.mdL nl (fun q => tl (q + al))) q).1) (fun q => (S.at' (S.mdL nl (fun q => tl (q + al))) q).2.1) (fun q => S.at' (S.sprL (S.mdL nl (fun q => tl (q + al))).length (fun q => (S.at' (S.mdL nl (fun q => tl (q + al))) q).2.2.2) nm (fun q => tm (q + am))) q) (fun q => 0) 5 (S.leaL (fun q => (S.at' (S.mdL nl (fun q => tl (q + al))) q).1) (S.mdL nl (fun q => tl (q + al))).length))).length = (S.leaL (fun q => (S.at' (S.mdL nl (fun q => tl (q + al))) q).1) (S.mdL nl (fun q => tl (q + al))).length).length := mkl_len
      have hE : (S.leaL (fun q => (S.at' (S.mdL nl (fun q => tl (q + al))) q).1) (S.mdL nl (fun q => tl (q + al))).length).length ≤ (S.mdL nl (fun q => tl (q + al))).length := cho_len
      have hs1 := hs.1
      unfold p11
      simp only [hu, hle, hdl, hac, ht, hby, and_true, true_and]
      repeat' first
        | with_reducible refine goes_if (fun h => ?_) (fun h => ?_) <;> (try simp only [lim64, decide_eq_true_eq, decide_eq_false_iff_not, Int.toNat_natCast, toNat_pred, toNat_succ, Option.getD_some, Option.getD_none, Bool.not_eq_true', Bool.not_eq_false', Bool.and_eq_true, Bool.or_eq_true, Bool.and_eq_false_iff, Bool.or_eq_false_iff, bne_iff_ne, beq_iff_eq, bne_eq_false_iff_eq, beq_eq_false_iff_ne, ne_eq, not_and, Int.not_le, Int.not_lt, ge_iff_le, gt_iff_lt, Nat.not_lt, Nat.not_le, Bool.not_eq_true, Bool.not_eq_false, Bool.true_eq_false, Bool.false_eq_true, not_false_eq_true, not_true_eq_false] at h)
        | exact goes_none.mpr (by omega)
      all_goals first | (exfalso; omega) | exact hx | (exfalso; simp_all; done)
    · unfold p11
      repeat' first
        | with_reducible exact goes_inr.mpr rfl
        | (refine goes_no ?_ ?_; focus (apply decide_eq_false; omega))
        | (refine goes_ok ?_ ?_; focus (apply decide_eq_true; omega))
  · unfold p11
    repeat' first
      | with_reducible exact goes_inr.mpr rfl
      | (refine goes_no ?_ ?_; focus (apply decide_eq_false; omega))
      | (refine goes_ok ?_ ?_; focus (apply decide_eq_true; omega))

theorem k11_ok : k11.ok Try.prog := by
  intro x hx
  obtain ⟨⟨al, nl, ml, tl, _⟩, ⟨am, nm, mm, tm, _⟩, _⟩ := x
  obtain ⟨h1, h2⟩ := a11 al nl ml tl am nm mm tm (s11 al nl ml tl am nm mm tm (of_dec hx rfl))
  exact ⟨⟨400, (by decide : 2 + 1 + 0 ≤ 400), h1⟩, h2⟩

theorem pre11 {x : SsI k11.ss} (hx : ssFits k11.ss x) : (0 + x.1.1 ≤ x.1.1) ∧ (0 + x.2.1.1 ≤ x.2.1.1) ∧ (S.u32s x.1.1 fun j => x.1.2.1 (j + 0)) = true ∧ (S.bytes x.2.1.1 fun j => x.2.1.2.1 (j + 0)) = true := by
  obtain ⟨⟨n, t, u'⟩, ⟨m, t2, u2⟩, u''⟩ := x
  obtain ⟨⟨hn, ht, -⟩, ⟨hn2, ht2, -⟩, -⟩ := hx
  exact ⟨Nat.le_of_eq (Nat.zero_add _), Nat.le_of_eq (Nat.zero_add _), u32s_mk ht, bytes_mk ht2⟩

end Go.Ev
