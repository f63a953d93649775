/-
  The program's runs.
-/
import Derived.Test.YtejcmbcmhfejkaaR1
namespace Go.Ev
open Go.Proofs
set_option linter.unusedVariables false
set_option linter.unusedSimpArgs false
set_option maxRecDepth 100000

theorem idx_is {p : Nat → Bool} : ∀ {k i f : Nat}, S.idx p i k = (f : Int) → p f = true
  | 0, i, f, h => by simp only [S.idx] at h; omega
  | k + 1, i, f, h => by
    simp only [S.idx] at h
    split at h
    · rename_i h0
      obtain rfl : i = f := by omega
      exact h0
    · exact idx_is h
inductive St42 where
  | h0 (x0 : Int) (x1 : Int) (x2 : Int) (x3 : List Bool) (x4 : List (Int × Int))
abbrev Rt42 := List (Int × Int)
noncomputable def V42 (hr : Int) (al nl ml : Nat) (tl : Nat → Int) (wd : Bool) (r : Rt42) : PV := PV.own (2) (2) (List.length r)
noncomputable def N42 (hr : Int) (al nl ml : Nat) (tl : Nat → Int) (wd : Bool) (r : Rt42) : List Blk := [Blk.cols (List.length r)
 [Col.int IntKind.i64 fun (j : Nat) => (S.at' r j).1,
 Col.int IntKind.i64 fun (j : Nat) => (S.at' r j).2]]
noncomputable def I42 (hr : Int) (al nl ml : Nat) (tl : Nat → Int) (wd : Bool) : St42 → Hd
  | .h0 x0 x1 x2 x3 x4 => ⟨hd Try.f42 0, [PV.bool wd, PV.ptr (PA.mk (1) (0) (0) (0)),
 PV.own (2) (1) (List.length x3), PV.int IntKind.i64 x0,
 PV.own (3) (2) (List.length x4), PV.int IntKind.i64 x1, PV.int IntKind.i64 x2], [[(1, (true, Blk.cells [PV.int IntKind.i64 hr, PV.loose (PA.mk (0) (1) al (0)) nl])), (2, (true, Blk.cols (List.length x3) [Col.bool fun (j : Nat) => S.at' x3 j])), (3, (true, Blk.cols (List.length x4)
 [Col.int IntKind.i64 fun (j : Nat) => (S.at' x4 j).1,
 Col.int IntKind.i64 fun (j : Nat) => (S.at' x4 j).2]))], [(0, (false, .cols ml [.int .i64 tl]))]], 4⟩
noncomputable def q42 (hr : Int) (al nl ml : Nat) (tl : Nat → Int) (wd : Bool) : St42 → Option (St42 ⊕ Rt42)
  | .h0 x0 x1 x2 x3 x4 => bif (decide (x2 ≤ hr))
 then (bif (lim IntKind.i64 (x0 + x2))
 then (bif (decide (hr = (0 : Int)))
 then (none)
 else (bif (decide ((0 : Int) ≤ Int.tmod (x0 + x2) hr ∧ Int.tmod (x0 + x2) hr < (↑(List.length x3) : Int)))
 then (bif (decide (Int.toNat (Int.tmod (x0 + x2) hr) < List.length x3))
 then (bif (S.at' x3 (Int.toNat (Int.tmod (x0 + x2) hr)))
 then (bif (wd)
 then (bif (lim IntKind.i64 (x1 + (1 : Int)))
 then (bif (lim IntKind.i64 (x2 + (1 : Int)))
 then (some (.inl (.h0 (x0) (x1 + (1 : Int)) (x2 + (1 : Int)) (x3) (x4))))
 else (none))
 else (none))
 else (bif (decide (x1 > (0 : Int)))
 then (bif (lim IntKind.i64 (Int.tmod (x0 + x2) hr - x1))
 then (bif (lim IntKind.i64 (Int.tmod (Int.tmod (x0 + x2) hr - x1) hr + hr))
 then (bif (decide (List.length x4 + 1 ≤ 1000000))
 then (bif (decide (List.length x4 ≤ List.length x4))
 then (bif (lim IntKind.i64 (x2 + (1 : Int)))
 then (some (.inl (.h0 (x0) ((0 : Int)) (x2 + (1 : Int)) (x3) (S.snoc x4 (Int.tmod (Int.tmod (Int.tmod (x0 + x2) hr - x1) hr + hr) hr, x1)))))
 else (none))
 else (none))
 else (none))
 else (none))
 else (none))
 else (bif (lim IntKind.i64 (x2 + (1 : Int)))
 then (some (.inl (.h0 (x0) ((0 : Int)) (x2 + (1 : Int)) (x3) (x4))))
 else (none))))
 else (bif (wd)
 then (bif (decide (x1 > (0 : Int)))
 then (bif (lim IntKind.i64 (Int.tmod (x0 + x2) hr - x1))
 then (bif (lim IntKind.i64 (Int.tmod (Int.tmod (x0 + x2) hr - x1) hr + hr))
 then (bif (decide (List.length x4 + 1 ≤ 1000000))
 then (bif (decide (List.length x4 ≤ List.length x4))
 then (bif (lim IntKind.i64 (x2 + (1 : Int)))
 then (some (.inl (.h0 (x0) ((0 : Int)) (x2 + (1 : Int)) (x3) (S.snoc x4 (Int.tmod (Int.tmod (Int.tmod (x0 + x2) hr - x1) hr + hr) hr, x1)))))
 else (none))
 else (none))
 else (none))
 else (none))
 else (none))
 else (bif (lim IntKind.i64 (x2 + (1 : Int)))
 then (some (.inl (.h0 (x0) ((0 : Int)) (x2 + (1 : Int)) (x3) (x4))))
 else (none)))
 else (bif (lim IntKind.i64 (x1 + (1 : Int)))
 then (bif (lim IntKind.i64 (x2 + (1 : Int)))
 then (some (.inl (.h0 (x0) (x1 + (1 : Int)) (x2 + (1 : Int)) (x3) (x4))))
 else (none))
 else (none))))
 else (none))
 else (none)))
 else (none))
 else (bif (decide (List.length x4 ≤ List.length x4))
 then (bif (decide
 (List.length x4 ≤ 1000000 ∧
 (S.far (List.length x4) fun (j : Nat) => (S.at' x4 j).1) = true))
 then (some (.inr (S.mkl (List.length x4) fun (j : Nat) =>
 (Prod.fst
 (S.at'
 (S.sortT (List.length x4) (fun (j : Nat) => (S.at' x4 j).1) fun (j : Nat) =>
 (S.at' x4 j).2)
 j),
 Prod.snd
 (S.at'
 (S.sortT (List.length x4) (fun (j : Nat) => (S.at' x4 j).1) fun (j : Nat) =>
 (S.at' x4 j).2)
 j)))))
 else (none))
 else (none))
noncomputable def p42 (hr : Int) (al nl ml : Nat) (tl : Nat → Int) (wd : Bool) : Option (St42 ⊕ Rt42) := bif (decide (al + nl ≤ ml ∧ nl ≤ 1000000 ∧ (S.filE hr nl fun (j : Nat) => tl (j + al)) = (0 : Int)))
 then (bif (wd)
 then (bif (decide
 (0 +
 List.length (S.mkl (Int.toNat hr) fun (j : Nat) => S.inB (fun (j : Nat) => tl (j + al)) nl j) ≤
 List.length (S.mkl (Int.toNat hr) fun (j : Nat) => S.inB (fun (j : Nat) => tl (j + al)) nl j) ∧
 List.length (S.mkl (Int.toNat hr) fun (j : Nat) => S.inB (fun (j : Nat) => tl (j + al)) nl j) ≤
 1000000))
 then (bif (decide
 (S.idx
 (fun (j : Nat) =>
 S.at' (S.mkl (Int.toNat hr) fun (j : Nat) => S.inB (fun (j : Nat) => tl (j + al)) nl j) j ==
 false)
 (0)
 (List.length (S.mkl (Int.toNat hr) fun (j : Nat) => S.inB (fun (j : Nat) => tl (j + al)) nl j)) <
 (0 : Int)))
 then (some (.inr ([((0 : Int), hr)])))
 else (some (.inl (.h0 (S.idx
 (fun (j : Nat) =>
 S.at' (S.mkl (Int.toNat hr) fun (j : Nat) => S.inB (fun (j : Nat) => tl (j + al)) nl j) j ==
 false)
 (0)
 (List.length (S.mkl (Int.toNat hr) fun (j : Nat) => S.inB (fun (j : Nat) => tl (j + al)) nl j))) ((0 : Int)) ((1 : Int)) (S.mkl (Int.toNat hr) fun (j : Nat) => S.inB (fun (j : Nat) => tl (j + al)) nl j) ([])))))
 else (none))
 else (bif (decide
 (0 +
 List.length (S.mkl (Int.toNat hr) fun (j : Nat) => S.inB (fun (j : Nat) => tl (j + al)) nl j) ≤
 List.length (S.mkl (Int.toNat hr) fun (j : Nat) => S.inB (fun (j : Nat) => tl (j + al)) nl j) ∧
 List.length (S.mkl (Int.toNat hr) fun (j : Nat) => S.inB (fun (j : Nat) => tl (j + al)) nl j) ≤
 1000000))
 then (bif (decide
 (S.idx
 (fun (j : Nat) =>
 S.at' (S.mkl (Int.toNat hr) fun (j : Nat) => S.inB (fun (j : Nat) => tl (j + al)) nl j) j ==
 true)
 (0)
 (List.length (S.mkl (Int.toNat hr) fun (j : Nat) => S.inB (fun (j : Nat) => tl (j + al)) nl j)) <
 (0 : Int)))
 then (some (.inr ([((0 : Int), hr)])))
 else (some (.inl (.h0 (S.idx
 (fun (j : Nat) =>
 S.at' (S.mkl (Int.toNat hr) fun (j : Nat) => S.inB (fun (j : Nat) => tl (j + al)) nl j) j ==
 true)
 (0)
 (List.length (S.mkl (Int.toNat hr) fun (j : Nat) => S.inB (fun (j : Nat) => tl (j + al)) nl j))) ((0 : Int)) ((1 : Int)) (S.mkl (Int.toNat hr) fun (j : Nat) => S.inB (fun (j : Nat) => tl (j + al)) nl j) ([])))))
 else (none)))
 else (none)
noncomputable def Te42 (test : Bool → Prop → Prop → Prop) (Kst : KS) (Kret : KR) (hr : Int) (al nl ml : Nat) (tl : Nat → Int) (wd : Bool) : Prop :=
  test (decide (al + nl ≤ ml ∧ nl ≤ 1000000 ∧ (S.filE hr nl fun (j : Nat) => tl (j + al)) = (0 : Int)))
 (test (wd)
 (test (decide
 (0 +
 List.length (S.mkl (Int.toNat hr) fun (j : Nat) => S.inB (fun (j : Nat) => tl (j + al)) nl j) ≤
 List.length (S.mkl (Int.toNat hr) fun (j : Nat) => S.inB (fun (j : Nat) => tl (j + al)) nl j) ∧
 List.length (S.mkl (Int.toNat hr) fun (j : Nat) => S.inB (fun (j : Nat) => tl (j + al)) nl j) ≤
 1000000))
 (test (decide
 (S.idx
 (fun (j : Nat) =>
 S.at' (S.mkl (Int.toNat hr) fun (j : Nat) => S.inB (fun (j : Nat) => tl (j + al)) nl j) j ==
 false)
 (0)
 (List.length (S.mkl (Int.toNat hr) fun (j : Nat) => S.inB (fun (j : Nat) => tl (j + al)) nl j)) <
 (0 : Int)))
 (Kret (PV.own (5) (2) (1)) ([[(0, false, Blk.cols ml [Col.int IntKind.i64 tl]),
 (5, true, Blk.cells [PV.int IntKind.i64 (0 : Int), PV.int IntKind.i64 hr])]]) (6))
 (Kst (hd Try.f42 0) ([PV.bool wd, PV.ptr (PA.mk (1) (0) (0) (0)),
 PV.own (3) (1)
 (List.length (S.mkl (Int.toNat hr) fun (j : Nat) => S.inB (fun (j : Nat) => tl (j + al)) nl j)),
 PV.int IntKind.i64
 (S.idx
 (fun (j : Nat) =>
 S.at' (S.mkl (Int.toNat hr) fun (j : Nat) => S.inB (fun (j : Nat) => tl (j + al)) nl j) j ==
 false)
 (0)
 (List.length (S.mkl (Int.toNat hr) fun (j : Nat) => S.inB (fun (j : Nat) => tl (j + al)) nl j))),
 PV.nils, PV.int IntKind.i64 (0 : Int), PV.int IntKind.i64 (1 : Int)]) ([[(0, false, Blk.cols ml [Col.int IntKind.i64 tl]),
 (3, true,
 Blk.cols
 (List.length (S.mkl (Int.toNat hr) fun (j : Nat) => S.inB (fun (j : Nat) => tl (j + al)) nl j))
 [Col.bool fun (j : Nat) =>
 S.at' (S.mkl (Int.toNat hr) fun (j : Nat) => S.inB (fun (j : Nat) => tl (j + al)) nl j)
 j]),
 (1, true,
 Blk.cells
 [PV.int IntKind.i64 hr, PV.loose (PA.mk (0) (1) al (0)) nl])]]) (5)))
 (False))
 (test (decide
 (0 +
 List.length (S.mkl (Int.toNat hr) fun (j : Nat) => S.inB (fun (j : Nat) => tl (j + al)) nl j) ≤
 List.length (S.mkl (Int.toNat hr) fun (j : Nat) => S.inB (fun (j : Nat) => tl (j + al)) nl j) ∧
 List.length (S.mkl (Int.toNat hr) fun (j : Nat) => S.inB (fun (j : Nat) => tl (j + al)) nl j) ≤
 1000000))
 (test (decide
 (S.idx
 (fun (j : Nat) =>
 S.at' (S.mkl (Int.toNat hr) fun (j : Nat) => S.inB (fun (j : Nat) => tl (j + al)) nl j) j ==
 true)
 (0)
 (List.length (S.mkl (Int.toNat hr) fun (j : Nat) => S.inB (fun (j : Nat) => tl (j + al)) nl j)) <
 (0 : Int)))
 (Kret (PV.own (5) (2) (1)) ([[(0, false, Blk.cols ml [Col.int IntKind.i64 tl]),
 (5, true, Blk.cells [PV.int IntKind.i64 (0 : Int), PV.int IntKind.i64 hr])]]) (6))
 (Kst (hd Try.f42 0) ([PV.bool wd, PV.ptr (PA.mk (1) (0) (0) (0)),
 PV.own (3) (1)
 (List.length (S.mkl (Int.toNat hr) fun (j : Nat) => S.inB (fun (j : Nat) => tl (j + al)) nl j)),
 PV.int IntKind.i64
 (S.idx
 (fun (j : Nat) =>
 S.at' (S.mkl (Int.toNat hr) fun (j : Nat) => S.inB (fun (j : Nat) => tl (j + al)) nl j) j ==
 true)
 (0)
 (List.length (S.mkl (Int.toNat hr) fun (j : Nat) => S.inB (fun (j : Nat) => tl (j + al)) nl j))),
 PV.nils, PV.int IntKind.i64 (0 : Int), PV.int IntKind.i64 (1 : Int)]) ([[(0, false, Blk.cols ml [Col.int IntKind.i64 tl]),
 (3, true,
 Blk.cols
 (List.length (S.mkl (Int.toNat hr) fun (j : Nat) => S.inB (fun (j : Nat) => tl (j + al)) nl j))
 [Col.bool fun (j : Nat) =>
 S.at' (S.mkl (Int.toNat hr) fun (j : Nat) => S.inB (fun (j : Nat) => tl (j + al)) nl j)
 j]),
 (1, true,
 Blk.cells
 [PV.int IntKind.i64 hr, PV.loose (PA.mk (0) (1) al (0)) nl])]]) (5)))
 (False)))
 (False)
set_option maxRecDepth 100000 in
theorem te42 (test : Bool → Prop → Prop → Prop) (Kst : KS) (Kret : KR) (hr : Int) (al nl ml : Nat) (tl : Nat → Int) (wd : Bool) : run test Try.env true (xR0 test) true 400 ⟨42, [.cd (mkFn Try.f42).body], argT 0 [.agg [.int .i64 hr, .loose ⟨0, 1, al, 0⟩ nl], .bool wd], [[], [(0, (false, .cols ml [.int .i64 tl]))]], 1⟩ (proj 1 [1, 2, 5, 6, 7, 8, 9] Kst Kret) =
  Te42 test Kst Kret hr al nl ml tl wd := by kernel_rfl
noncomputable def T42_0 (test : Bool → Prop → Prop → Prop) (Kst : KS) (Kret : KR) (hr : Int) (al nl ml : Nat) (tl : Nat → Int) (wd : Bool) (x0 : Int) (x1 : Int) (x2 : Int) (x3 : List Bool) (x4 : List (Int × Int)) : Prop :=
  test (decide (x2 ≤ hr))
 (test (lim IntKind.i64 (x0 + x2))
 (test (decide (hr = (0 : Int)))
 (False)
 (test (decide ((0 : Int) ≤ Int.tmod (x0 + x2) hr ∧ Int.tmod (x0 + x2) hr < (↑(List.length x3) : Int)))
 (test (decide (Int.toNat (Int.tmod (x0 + x2) hr) < List.length x3))
 (test (S.at' x3 (Int.toNat (Int.tmod (x0 + x2) hr)))
 (test (wd)
 (test (lim IntKind.i64 (x1 + (1 : Int)))
 (test (lim IntKind.i64 (x2 + (1 : Int)))
 (Kst (hd Try.f42 0) ([PV.bool wd, PV.ptr (PA.mk (1) (0) (0) (0)),
 PV.own (2) (1) (List.length x3), PV.int IntKind.i64 x0,
 PV.own (3) (2) (List.length x4), PV.int IntKind.i64 (x1 + (1 : Int)),
 PV.int IntKind.i64 (x2 + (1 : Int))]) ([[(0, false, Blk.cols ml [Col.int IntKind.i64 tl]),
 (3, true,
 Blk.cols (List.length x4)
 [Col.int IntKind.i64 fun (j : Nat) => (S.at' x4 j).1,
 Col.int IntKind.i64 fun (j : Nat) => (S.at' x4 j).2]),
 (2, true, Blk.cols (List.length x3) [Col.bool fun (j : Nat) => S.at' x3 j]),
 (1, true,
 Blk.cells
 [PV.int IntKind.i64 hr, PV.loose (PA.mk (0) (1) al (0)) nl])]]) (4))
 (False))
 (False))
 (test (decide (x1 > (0 : Int)))
 (test (lim IntKind.i64 (Int.tmod (x0 + x2) hr - x1))
 (test (decide (hr = (0 : Int)))
 (False)
 (test (lim IntKind.i64 (Int.tmod (Int.tmod (x0 + x2) hr - x1) hr + hr))
 (test (decide (hr = (0 : Int)))
 (False)
 (test (decide (List.length x4 + 1 ≤ 1000000))
 (test (decide (List.length x4 ≤ List.length x4))
 (test (true)
 (test (lim IntKind.i64 (x2 + (1 : Int)))
 (Kst (hd Try.f42 0) ([PV.bool wd, PV.ptr (PA.mk (1) (0) (0) (0)),
 PV.own (2) (1) (List.length x3), PV.int IntKind.i64 x0,
 PV.own (5) (2) (List.length x4 + 1), PV.int IntKind.i64 (0 : Int),
 PV.int IntKind.i64 (x2 + (1 : Int))]) ([[(0, false, Blk.cols ml [Col.int IntKind.i64 tl]),
 (5, true,
 Blk.cols (List.length x4 + 1)
 [Col.int IntKind.i64 fun (j : Nat) =>
 bif Nat.blt j (List.length x4) then (S.at' x4 j).1
 else Int.tmod (Int.tmod (Int.tmod (x0 + x2) hr - x1) hr + hr) hr,
 Col.int IntKind.i64 fun (j : Nat) =>
 bif Nat.blt j (List.length x4) then (S.at' x4 j).2 else x1]),
 (2, true, Blk.cols (List.length x3) [Col.bool fun (j : Nat) => S.at' x3 j]),
 (1, true,
 Blk.cells
 [PV.int IntKind.i64 hr, PV.loose (PA.mk (0) (1) al (0)) nl])]]) (6))
 (False))
 (False))
 (False))
 (False)))
 (False)))
 (False))
 (test (lim IntKind.i64 (x2 + (1 : Int)))
 (Kst (hd Try.f42 0) ([PV.bool wd, PV.ptr (PA.mk (1) (0) (0) (0)),
 PV.own (2) (1) (List.length x3), PV.int IntKind.i64 x0,
 PV.own (3) (2) (List.length x4), PV.int IntKind.i64 (0 : Int),
 PV.int IntKind.i64 (x2 + (1 : Int))]) ([[(0, false, Blk.cols ml [Col.int IntKind.i64 tl]),
 (3, true,
 Blk.cols (List.length x4)
 [Col.int IntKind.i64 fun (j : Nat) => (S.at' x4 j).1,
 Col.int IntKind.i64 fun (j : Nat) => (S.at' x4 j).2]),
 (2, true, Blk.cols (List.length x3) [Col.bool fun (j : Nat) => S.at' x3 j]),
 (1, true,
 Blk.cells
 [PV.int IntKind.i64 hr, PV.loose (PA.mk (0) (1) al (0)) nl])]]) (4))
 (False))))
 (test (wd)
 (test (decide (x1 > (0 : Int)))
 (test (lim IntKind.i64 (Int.tmod (x0 + x2) hr - x1))
 (test (decide (hr = (0 : Int)))
 (False)
 (test (lim IntKind.i64 (Int.tmod (Int.tmod (x0 + x2) hr - x1) hr + hr))
 (test (decide (hr = (0 : Int)))
 (False)
 (test (decide (List.length x4 + 1 ≤ 1000000))
 (test (decide (List.length x4 ≤ List.length x4))
 (test (true)
 (test (lim IntKind.i64 (x2 + (1 : Int)))
 (Kst (hd Try.f42 0) ([PV.bool wd, PV.ptr (PA.mk (1) (0) (0) (0)),
 PV.own (2) (1) (List.length x3), PV.int IntKind.i64 x0,
 PV.own (5) (2) (List.length x4 + 1), PV.int IntKind.i64 (0 : Int),
 PV.int IntKind.i64 (x2 + (1 : Int))]) ([[(0, false, Blk.cols ml [Col.int IntKind.i64 tl]),
 (5, true,
 Blk.cols (List.length x4 + 1)
 [Col.int IntKind.i64 fun (j : Nat) =>
 bif Nat.blt j (List.length x4) then (S.at' x4 j).1
 else Int.tmod (Int.tmod (Int.tmod (x0 + x2) hr - x1) hr + hr) hr,
 Col.int IntKind.i64 fun (j : Nat) =>
 bif Nat.blt j (List.length x4) then (S.at' x4 j).2 else x1]),
 (2, true, Blk.cols (List.length x3) [Col.bool fun (j : Nat) => S.at' x3 j]),
 (1, true,
 Blk.cells
 [PV.int IntKind.i64 hr, PV.loose (PA.mk (0) (1) al (0)) nl])]]) (6))
 (False))
 (False))
 (False))
 (False)))
 (False)))
 (False))
 (test (lim IntKind.i64 (x2 + (1 : Int)))
 (Kst (hd Try.f42 0) ([PV.bool wd, PV.ptr (PA.mk (1) (0) (0) (0)),
 PV.own (2) (1) (List.length x3), PV.int IntKind.i64 x0,
 PV.own (3) (2) (List.length x4), PV.int IntKind.i64 (0 : Int),
 PV.int IntKind.i64 (x2 + (1 : Int))]) ([[(0, false, Blk.cols ml [Col.int IntKind.i64 tl]),
 (3, true,
 Blk.cols (List.length x4)
 [Col.int IntKind.i64 fun (j : Nat) => (S.at' x4 j).1,
 Col.int IntKind.i64 fun (j : Nat) => (S.at' x4 j).2]),
 (2, true, Blk.cols (List.length x3) [Col.bool fun (j : Nat) => S.at' x3 j]),
 (1, true,
 Blk.cells
 [PV.int IntKind.i64 hr, PV.loose (PA.mk (0) (1) al (0)) nl])]]) (4))
 (False)))
 (test (lim IntKind.i64 (x1 + (1 : Int)))
 (test (lim IntKind.i64 (x2 + (1 : Int)))
 (Kst (hd Try.f42 0) ([PV.bool wd, PV.ptr (PA.mk (1) (0) (0) (0)),
 PV.own (2) (1) (List.length x3), PV.int IntKind.i64 x0,
 PV.own (3) (2) (List.length x4), PV.int IntKind.i64 (x1 + (1 : Int)),
 PV.int IntKind.i64 (x2 + (1 : Int))]) ([[(0, false, Blk.cols ml [Col.int IntKind.i64 tl]),
 (3, true,
 Blk.cols (List.length x4)
 [Col.int IntKind.i64 fun (j : Nat) => (S.at' x4 j).1,
 Col.int IntKind.i64 fun (j : Nat) => (S.at' x4 j).2]),
 (2, true, Blk.cols (List.length x3) [Col.bool fun (j : Nat) => S.at' x3 j]),
 (1, true,
 Blk.cells
 [PV.int IntKind.i64 hr, PV.loose (PA.mk (0) (1) al (0)) nl])]]) (4))
 (False))
 (False))))
 (False))
 (False)))
 (False))
 (test (decide (List.length x4 ≤ List.length x4))
 (test (decide
 (List.length x4 ≤ 1000000 ∧
 (S.far (List.length x4) fun (j : Nat) => (S.at' x4 j).1) = true))
 (Kret (PV.own (3) (2) (List.length x4)) ([[(0, false, Blk.cols ml [Col.int IntKind.i64 tl]),
 (3, true,
 Blk.cols (List.length x4)
 [Col.int IntKind.i64 fun (j : Nat) =>
 Prod.fst
 (S.at'
 (S.sortT (List.length x4) (fun (j : Nat) => (S.at' x4 j).1) fun (j : Nat) =>
 (S.at' x4 j).2)
 j),
 Col.int IntKind.i64 fun (j : Nat) =>
 Prod.snd
 (S.at'
 (S.sortT (List.length x4) (fun (j : Nat) => (S.at' x4 j).1) fun (j : Nat) =>
 (S.at' x4 j).2)
 j)])]]) (5))
 (False))
 (False))
set_option maxRecDepth 100000 in
theorem t42_0 (test : Bool → Prop → Prop → Prop) (Kst : KS) (Kret : KR) (hr : Int) (al nl ml : Nat) (tl : Nat → Int) (wd : Bool) (x0 : Int) (x1 : Int) (x2 : Int) (x3 : List Bool) (x4 : List (Int × Int)) : run test Try.env true (xR0 test) true 400 ⟨42, hd Try.f42 0, zipT [1, 2, 5, 6, 7, 8, 9] [PV.bool wd, PV.ptr (PA.mk (1) (0) (0) (0)),
 PV.own (2) (1) (List.length x3), PV.int IntKind.i64 x0,
 PV.own (3) (2) (List.length x4), PV.int IntKind.i64 x1, PV.int IntKind.i64 x2], [[(1, (true, Blk.cells [PV.int IntKind.i64 hr, PV.loose (PA.mk (0) (1) al (0)) nl])), (2, (true, Blk.cols (List.length x3) [Col.bool fun (j : Nat) => S.at' x3 j])), (3, (true, Blk.cols (List.length x4)
 [Col.int IntKind.i64 fun (j : Nat) => (S.at' x4 j).1,
 Col.int IntKind.i64 fun (j : Nat) => (S.at' x4 j).2]))], [(0, (false, .cols ml [.int .i64 tl]))]], 4⟩ (proj 1 [1, 2, 5, 6, 7, 8, 9] Kst Kret) =
  T42_0 test Kst Kret hr al nl ml tl wd x0 x1 x2 x3 x4 := by kernel_rfl
attribute [local irreducible] Int.subNatNat in
set_option maxRecDepth 100000 in
theorem be42 (hr : Int) (al nl ml : Nat) (tl : Nat → Int) (wd : Bool) (Kst : KS) (Kret : KR) (x : St42 ⊕ Rt42) (hS : HS 1 400 ((I42 hr al nl ml tl wd)) Kst x) (hR : HR 1 400 ((V42 hr al nl ml tl wd)) (fun r => [newL (1 + 1) ((N42 hr al nl ml tl wd) r) ++ [(0, (false, .cols ml [.int .i64 tl]))]]) Kret x) (h : (bif (decide (al + nl ≤ ml ∧ nl ≤ 1000000 ∧ (S.filE hr nl fun (j : Nat) => tl (j + al)) = (0 : Int)))
 then (bif (wd)
 then (bif (decide
 (0 +
 List.length (S.mkl (Int.toNat hr) fun (j : Nat) => S.inB (fun (j : Nat) => tl (j + al)) nl j) ≤
 List.length (S.mkl (Int.toNat hr) fun (j : Nat) => S.inB (fun (j : Nat) => tl (j + al)) nl j) ∧
 List.length (S.mkl (Int.toNat hr) fun (j : Nat) => S.inB (fun (j : Nat) => tl (j + al)) nl j) ≤
 1000000))
 then (bif (decide
 (S.idx
 (fun (j : Nat) =>
 S.at' (S.mkl (Int.toNat hr) fun (j : Nat) => S.inB (fun (j : Nat) => tl (j + al)) nl j) j ==
 false)
 (0)
 (List.length (S.mkl (Int.toNat hr) fun (j : Nat) => S.inB (fun (j : Nat) => tl (j + al)) nl j)) <
 (0 : Int)))
 then (some (.inr ([((0 : Int), hr)])))
 else (some (.inl (.h0 (S.idx
 (fun (j : Nat) =>
 S.at' (S.mkl (Int.toNat hr) fun (j : Nat) => S.inB (fun (j : Nat) => tl (j + al)) nl j) j ==
 false)
 (0)
 (List.length (S.mkl (Int.toNat hr) fun (j : Nat) => S.inB (fun (j : Nat) => tl (j + al)) nl j))) ((0 : Int)) ((1 : Int)) (S.mkl (Int.toNat hr) fun (j : Nat) => S.inB (fun (j : Nat) => tl (j + al)) nl j) ([])))))
 else (none))
 else (bif (decide
 (0 +
 List.length (S.mkl (Int.toNat hr) fun (j : Nat) => S.inB (fun (j : Nat) => tl (j + al)) nl j) ≤
 List.length (S.mkl (Int.toNat hr) fun (j : Nat) => S.inB (fun (j : Nat) => tl (j + al)) nl j) ∧
 List.length (S.mkl (Int.toNat hr) fun (j : Nat) => S.inB (fun (j : Nat) => tl (j + al)) nl j) ≤
 1000000))
 then (bif (decide
 (S.idx
 (fun (j : Nat) =>
 S.at' (S.mkl (Int.toNat hr) fun (j : Nat) => S.inB (fun (j : Nat) => tl (j + al)) nl j) j ==
 true)
 (0)
 (List.length (S.mkl (Int.toNat hr) fun (j : Nat) => S.inB (fun (j : Nat) => tl (j + al)) nl j)) <
 (0 : Int)))
 then (some (.inr ([((0 : Int), hr)])))
 else (some (.inl (.h0 (S.idx
 (fun (j : Nat) =>
 S.at' (S.mkl (Int.toNat hr) fun (j : Nat) => S.inB (fun (j : Nat) => tl (j + al)) nl j) j ==
 true)
 (0)
 (List.length (S.mkl (Int.toNat hr) fun (j : Nat) => S.inB (fun (j : Nat) => tl (j + al)) nl j))) ((0 : Int)) ((1 : Int)) (S.mkl (Int.toNat hr) fun (j : Nat) => S.inB (fun (j : Nat) => tl (j + al)) nl j) ([])))))
 else (none)))
 else (none) : Option (St42 ⊕ Rt42)) = some x) : Te42 cond Kst Kret hr al nl ml tl wd := by
  unfold Te42
  exact bif_split h
   (fun c0 h => bif_split h
   (fun c1 h => bif_split h
   (fun c2 h => bif_split h
   (fun c3 h => ret_at hR _ h (fun n => bif Nat.beq n 2 then 5 else n) rfl rfl rfl (rn_own (use_own rfl) rfl rfl) rfl (entl_b (use_own rfl) rfl (by simp) (rb_lit (fun j hj i hi => (match j, hj with | 0, _ => (match i, hi with | 0, _ => ⟨_, rfl, rn_int rfl⟩ | 1, _ => ⟨_, rfl, rn_int rfl⟩ | _ + 2, h => absurd h (by simp [lenc])) | _ + 1, h => absurd h (by simp)))) (entl_bor (use_lo rfl) rfl rfl entl_nil)))
   (fun c3 h => stop_at hS _ h (fun n => bif Nat.beq n 1 then 1 else bif Nat.beq n 2 then 3 else bif Nat.beq n 3 then 399 else n) rfl rfl rfl ⟨(rn_bool rfl), ⟨(rn_ptr (use_own rfl) rfl rfl), ⟨(rn_own (use_own rfl) rfl rfl), ⟨(rn_int rfl), ⟨(rn_own_nils rfl), ⟨(rn_int rfl), ⟨(rn_int rfl), trivial⟩⟩⟩⟩⟩⟩⟩ rfl (entl_b (use_own rfl) rfl (by simp) (rb_cells ⟨(rn_int rfl), (rn_loose (use_lo rfl) rfl rfl rfl), trivial⟩) (entl_new (use_own rfl) rfl (Nat.le_of_eq rfl) (rcs_bool (fun _ _ => rfl) rcs_nil) (entl_fresh (use_own rfl) (fresh_ok rfl) (entl_bor (use_lo rfl) rfl rfl entl_nil))))))
   (fun c2 h => no_some h))
   (fun c1 h => bif_split h
   (fun c2 h => bif_split h
   (fun c3 h => ret_at hR _ h (fun n => bif Nat.beq n 2 then 5 else n) rfl rfl rfl (rn_own (use_own rfl) rfl rfl) rfl (entl_b (use_own rfl) rfl (by simp) (rb_lit (fun j hj i hi => (match j, hj with | 0, _ => (match i, hi with | 0, _ => ⟨_, rfl, rn_int rfl⟩ | 1, _ => ⟨_, rfl, rn_int rfl⟩ | _ + 2, h => absurd h (by simp [lenc])) | _ + 1, h => absurd h (by simp)))) (entl_bor (use_lo rfl) rfl rfl entl_nil)))
   (fun c3 h => stop_at hS _ h (fun n => bif Nat.beq n 1 then 1 else bif Nat.beq n 2 then 3 else bif Nat.beq n 3 then 399 else n) rfl rfl rfl ⟨(rn_bool rfl), ⟨(rn_ptr (use_own rfl) rfl rfl), ⟨(rn_own (use_own rfl) rfl rfl), ⟨(rn_int rfl), ⟨(rn_own_nils rfl), ⟨(rn_int rfl), ⟨(rn_int rfl), trivial⟩⟩⟩⟩⟩⟩⟩ rfl (entl_b (use_own rfl) rfl (by simp) (rb_cells ⟨(rn_int rfl), (rn_loose (use_lo rfl) rfl rfl rfl), trivial⟩) (entl_new (use_own rfl) rfl (Nat.le_of_eq rfl) (rcs_bool (fun _ _ => rfl) rcs_nil) (entl_fresh (use_own rfl) (fresh_ok rfl) (entl_bor (use_lo rfl) rfl rfl entl_nil))))))
   (fun c2 h => no_some h)))
   (fun c0 h => no_some h)
attribute [local irreducible] Int.subNatNat in
set_option maxRecDepth 100000 in
theorem b42_0 (hr : Int) (al nl ml : Nat) (tl : Nat → Int) (wd : Bool) (Kst : KS) (Kret : KR) (x : St42 ⊕ Rt42) (hS : HS 1 400 ((I42 hr al nl ml tl wd)) Kst x) (hR : HR 1 400 ((V42 hr al nl ml tl wd)) (fun r => [newL (1 + 1) ((N42 hr al nl ml tl wd) r) ++ [(0, (false, .cols ml [.int .i64 tl]))]]) Kret x) (x0 : Int) (x1 : Int) (x2 : Int) (x3 : List Bool) (x4 : List (Int × Int)) (h : (bif (decide (x2 ≤ hr))
 then (bif (lim IntKind.i64 (x0 + x2))
 then (bif (decide (hr = (0 : Int)))
 then (none)
 else (bif (decide ((0 : Int) ≤ Int.tmod (x0 + x2) hr ∧ Int.tmod (x0 + x2) hr < (↑(List.length x3) : Int)))
 then (bif (decide (Int.toNat (Int.tmod (x0 + x2) hr) < List.length x3))
 then (bif (S.at' x3 (Int.toNat (Int.tmod (x0 + x2) hr)))
 then (bif (wd)
 then (bif (lim IntKind.i64 (x1 + (1 : Int)))
 then (bif (lim IntKind.i64 (x2 + (1 : Int)))
 then (some (.inl (.h0 (x0) (x1 + (1 : Int)) (x2 + (1 : Int)) (x3) (x4))))
 else (none))
 else (none))
 else (bif (decide (x1 > (0 : Int)))
 then (bif (lim IntKind.i64 (Int.tmod (x0 + x2) hr - x1))
 then (bif (lim IntKind.i64 (Int.tmod (Int.tmod (x0 + x2) hr - x1) hr + hr))
 then (bif (decide (List.length x4 + 1 ≤ 1000000))
 then (bif (decide (List.length x4 ≤ List.length x4))
 then (bif (lim IntKind.i64 (x2 + (1 : Int)))
 then (some (.inl (.h0 (x0) ((0 : Int)) (x2 + (1 : Int)) (x3) (S.snoc x4 (Int.tmod (Int.tmod (Int.tmod (x0 + x2) hr - x1) hr + hr) hr, x1)))))
 else (none))
 else (none))
 else (none))
 else (none))
 else (none))
 else (bif (lim IntKind.i64 (x2 + (1 : Int)))
 then (some (.inl (.h0 (x0) ((0 : Int)) (x2 + (1 : Int)) (x3) (x4))))
 else (none))))
 else (bif (wd)
 then (bif (decide (x1 > (0 : Int)))
 then (bif (lim IntKind.i64 (Int.tmod (x0 + x2) hr - x1))
 then (bif (lim IntKind.i64 (Int.tmod (Int.tmod (x0 + x2) hr - x1) hr + hr))
 then (bif (decide (List.length x4 + 1 ≤ 1000000))
 then (bif (decide (List.length x4 ≤ List.length x4))
 then (bif (lim IntKind.i64 (x2 + (1 : Int)))
 then (some (.inl (.h0 (x0) ((0 : Int)) (x2 + (1 : Int)) (x3) (S.snoc x4 (Int.tmod (Int.tmod (Int.tmod (x0 + x2) hr - x1) hr + hr) hr, x1)))))
 else (none))
 else (none))
 else (none))
 else (none))
 else (none))
 else (bif (lim IntKind.i64 (x2 + (1 : Int)))
 then (some (.inl (.h0 (x0) ((0 : Int)) (x2 + (1 : Int)) (x3) (x4))))
 else (none)))
 else (bif (lim IntKind.i64 (x1 + (1 : Int)))
 then (bif (lim IntKind.i64 (x2 + (1 : Int)))
 then (some (.inl (.h0 (x0) (x1 + (1 : Int)) (x2 + (1 : Int)) (x3) (x4))))
 else (none))
 else (none))))
 else (none))
 else (none)))
 else (none))
 else (bif (decide (List.length x4 ≤ List.length x4))
 then (bif (decide
 (List.length x4 ≤ 1000000 ∧
 (S.far (List.length x4) fun (j : Nat) => (S.at' x4 j).1) = true))
 then (some (.inr (S.mkl (List.length x4) fun (j : Nat) =>
 (Prod.fst
 (S.at'
 (S.sortT (List.length x4) (fun (j : Nat) => (S.at' x4 j).1) fun (j : Nat) =>
 (S.at' x4 j).2)
 j),
 Prod.snd
 (S.at'
 (S.sortT (List.length x4) (fun (j : Nat) => (S.at' x4 j).1) fun (j : Nat) =>
 (S.at' x4 j).2)
 j)))))
 else (none))
 else (none)) : Option (St42 ⊕ Rt42)) = some x) : T42_0 cond Kst Kret hr al nl ml tl wd x0 x1 x2 x3 x4 := by
  unfold T42_0
  exact bif_split h
   (fun c0 h => bif_split h
   (fun c1 h => bif_split h
   (fun c2 h => no_some h)
   (fun c2 h => bif_split h
   (fun c3 h => bif_split h
   (fun c4 h => bif_split h
   (fun c5 h => bif_split h
   (fun c6 h => bif_split h
   (fun c7 h => bif_split h
   (fun c8 h => stop_at hS _ h (fun n => bif Nat.beq n 1 then 1 else bif Nat.beq n 2 then 2 else bif Nat.beq n 3 then 3 else n) rfl rfl rfl ⟨(rn_bool rfl), ⟨(rn_ptr (use_own rfl) rfl rfl), ⟨(rn_own (use_own rfl) rfl rfl), ⟨(rn_int rfl), ⟨(rn_own (use_own rfl) rfl rfl), ⟨(rn_int rfl), ⟨(rn_int rfl), trivial⟩⟩⟩⟩⟩⟩⟩ rfl (entl_b (use_own rfl) rfl (by simp) (rb_cells ⟨(rn_int rfl), (rn_loose (use_lo rfl) rfl rfl rfl), trivial⟩) (entl_new (use_own rfl) rfl (Nat.le_of_eq rfl) (rcs_bool (fun _ _ => rfl) rcs_nil) (entl_new (use_own rfl) rfl (Nat.le_of_eq rfl) (rcs_int (fun _ _ => rfl) (rcs_int (fun _ _ => rfl) rcs_nil)) (entl_bor (use_lo rfl) rfl rfl entl_nil)))))
   (fun c8 h => no_some h))
   (fun c7 h => no_some h))
   (fun c6 h => bif_split h
   (fun c7 h => bif_split h
   (fun c8 h => cond_no c2 (bif_split h
   (fun c9 h => cond_no c2 (bif_split h
   (fun c10 h => bif_split h
   (fun c11 h => cond_yes rfl (bif_split h
   (fun c12 h => stop_at hS _ h (fun n => bif Nat.beq n 1 then 1 else bif Nat.beq n 2 then 2 else bif Nat.beq n 3 then 5 else n) rfl rfl rfl ⟨(rn_bool rfl), ⟨(rn_ptr (use_own rfl) rfl rfl), ⟨(rn_own (use_own rfl) rfl rfl), ⟨(rn_int rfl), ⟨(rn_own (use_own rfl) rfl (snoc_len' rfl)), ⟨(rn_int rfl), ⟨(rn_int rfl), trivial⟩⟩⟩⟩⟩⟩⟩ rfl (entl_b (use_own rfl) rfl (by simp) (rb_cells ⟨(rn_int rfl), (rn_loose (use_lo rfl) rfl rfl rfl), trivial⟩) (entl_new (use_own rfl) rfl (Nat.le_of_eq rfl) (rcs_bool (fun _ _ => rfl) rcs_nil) (entl_new (use_own rfl) rfl (Nat.le_of_eq (snoc_len' rfl)) (rcs_int (col_snoc' (fun (t : Int × Int) => t.1) rfl (fun _ _ => rfl)) (rcs_int (col_snoc' (fun (t : Int × Int) => t.2) rfl (fun _ _ => rfl)) rcs_nil)) (entl_bor (use_lo rfl) rfl rfl entl_nil)))))
   (fun c12 h => no_some h)))
   (fun c11 h => no_some h))
   (fun c10 h => no_some h)))
   (fun c9 h => no_some h)))
   (fun c8 h => no_some h))
   (fun c7 h => bif_split h
   (fun c8 h => stop_at hS _ h (fun n => bif Nat.beq n 1 then 1 else bif Nat.beq n 2 then 2 else bif Nat.beq n 3 then 3 else n) rfl rfl rfl ⟨(rn_bool rfl), ⟨(rn_ptr (use_own rfl) rfl rfl), ⟨(rn_own (use_own rfl) rfl rfl), ⟨(rn_int rfl), ⟨(rn_own (use_own rfl) rfl rfl), ⟨(rn_int rfl), ⟨(rn_int rfl), trivial⟩⟩⟩⟩⟩⟩⟩ rfl (entl_b (use_own rfl) rfl (by simp) (rb_cells ⟨(rn_int rfl), (rn_loose (use_lo rfl) rfl rfl rfl), trivial⟩) (entl_new (use_own rfl) rfl (Nat.le_of_eq rfl) (rcs_bool (fun _ _ => rfl) rcs_nil) (entl_new (use_own rfl) rfl (Nat.le_of_eq rfl) (rcs_int (fun _ _ => rfl) (rcs_int (fun _ _ => rfl) rcs_nil)) (entl_bor (use_lo rfl) rfl rfl entl_nil)))))
   (fun c8 h => no_some h))))
   (fun c5 h => bif_split h
   (fun c6 h => bif_split h
   (fun c7 h => bif_split h
   (fun c8 h => cond_no c2 (bif_split h
   (fun c9 h => cond_no c2 (bif_split h
   (fun c10 h => bif_split h
   (fun c11 h => cond_yes rfl (bif_split h
   (fun c12 h => stop_at hS _ h (fun n => bif Nat.beq n 1 then 1 else bif Nat.beq n 2 then 2 else bif Nat.beq n 3 then 5 else n) rfl rfl rfl ⟨(rn_bool rfl), ⟨(rn_ptr (use_own rfl) rfl rfl), ⟨(rn_own (use_own rfl) rfl rfl), ⟨(rn_int rfl), ⟨(rn_own (use_own rfl) rfl (snoc_len' rfl)), ⟨(rn_int rfl), ⟨(rn_int rfl), trivial⟩⟩⟩⟩⟩⟩⟩ rfl (entl_b (use_own rfl) rfl (by simp) (rb_cells ⟨(rn_int rfl), (rn_loose (use_lo rfl) rfl rfl rfl), trivial⟩) (entl_new (use_own rfl) rfl (Nat.le_of_eq rfl) (rcs_bool (fun _ _ => rfl) rcs_nil) (entl_new (use_own rfl) rfl (Nat.le_of_eq (snoc_len' rfl)) (rcs_int (col_snoc' (fun (t : Int × Int) => t.1) rfl (fun _ _ => rfl)) (rcs_int (col_snoc' (fun (t : Int × Int) => t.2) rfl (fun _ _ => rfl)) rcs_nil)) (entl_bor (use_lo rfl) rfl rfl entl_nil)))))
   (fun c12 h => no_some h)))
   (fun c11 h => no_some h))
   (fun c10 h => no_some h)))
   (fun c9 h => no_some h)))
   (fun c8 h => no_some h))
   (fun c7 h => bif_split h
   (fun c8 h => stop_at hS _ h (fun n => bif Nat.beq n 1 then 1 else bif Nat.beq n 2 then 2 else bif Nat.beq n 3 then 3 else n) rfl rfl rfl ⟨(rn_bool rfl), ⟨(rn_ptr (use_own rfl) rfl rfl), ⟨(rn_own (use_own rfl) rfl rfl), ⟨(rn_int rfl), ⟨(rn_own (use_own rfl) rfl rfl), ⟨(rn_int rfl), ⟨(rn_int rfl), trivial⟩⟩⟩⟩⟩⟩⟩ rfl (entl_b (use_own rfl) rfl (by simp) (rb_cells ⟨(rn_int rfl), (rn_loose (use_lo rfl) rfl rfl rfl), trivial⟩) (entl_new (use_own rfl) rfl (Nat.le_of_eq rfl) (rcs_bool (fun _ _ => rfl) rcs_nil) (entl_new (use_own rfl) rfl (Nat.le_of_eq rfl) (rcs_int (fun _ _ => rfl) (rcs_int (fun _ _ => rfl) rcs_nil)) (entl_bor (use_lo rfl) rfl rfl entl_nil)))))
   (fun c8 h => no_some h)))
   (fun c6 h => bif_split h
   (fun c7 h => bif_split h
   (fun c8 h => stop_at hS _ h (fun n => bif Nat.beq n 1 then 1 else bif Nat.beq n 2 then 2 else bif Nat.beq n 3 then 3 else n) rfl rfl rfl ⟨(rn_bool rfl), ⟨(rn_ptr (use_own rfl) rfl rfl), ⟨(rn_own (use_own rfl) rfl rfl), ⟨(rn_int rfl), ⟨(rn_own (use_own rfl) rfl rfl), ⟨(rn_int rfl), ⟨(rn_int rfl), trivial⟩⟩⟩⟩⟩⟩⟩ rfl (entl_b (use_own rfl) rfl (by simp) (rb_cells ⟨(rn_int rfl), (rn_loose (use_lo rfl) rfl rfl rfl), trivial⟩) (entl_new (use_own rfl) rfl (Nat.le_of_eq rfl) (rcs_bool (fun _ _ => rfl) rcs_nil) (entl_new (use_own rfl) rfl (Nat.le_of_eq rfl) (rcs_int (fun _ _ => rfl) (rcs_int (fun _ _ => rfl) rcs_nil)) (entl_bor (use_lo rfl) rfl rfl entl_nil)))))
   (fun c8 h => no_some h))
   (fun c7 h => no_some h))))
   (fun c4 h => no_some h))
   (fun c3 h => no_some h)))
   (fun c1 h => no_some h))
   (fun c0 h => bif_split h
   (fun c1 h => bif_split h
   (fun c2 h => ret_at hR _ h (fun n => bif Nat.beq n 2 then 3 else n) rfl rfl rfl (rn_own (use_own rfl) rfl mkl_len) rfl (entl_new (use_own rfl) rfl (Nat.le_of_eq mkl_len) (rcs_int (fun _ hj => col_mkl (fun (t : Int × Int) => t.1) hj) (rcs_int (fun _ hj => col_mkl (fun (t : Int × Int) => t.2) hj) rcs_nil)) (entl_bor (use_lo rfl) rfl rfl entl_nil)))
   (fun c2 h => no_some h))
   (fun c1 h => no_some h))
theorem a42 (hr : Int) (al nl ml : Nat) (tl : Nat → Int) (wd : Bool) {r : Rt42} (h : Goes ((q42 hr al nl ml tl wd)) ((p42 hr al nl ml tl wd)) r) : CallR Try.prog 42 [.agg [.int .i64 hr, .loose ⟨0, 1, al, 0⟩ nl], .bool wd] [[(0, (false, .cols ml [.int .i64 tl]))]] 1 ((V42 hr al nl ml tl wd) r) ((fun r => [newL (1 + 1) ((N42 hr al nl ml tl wd) r) ++ [(0, (false, .cols ml [.int .i64 tl]))]]) r) 400 ∧ ∃ F, Try.prog.funcs[42]? = some F ∧ F.body.isSome = true ∧ (F.name == "runtime.NumGoroutine") = false := by
  refine dec_calls (f := 42) (lo := 1) (hi := 400) (H := [[(0, (false, .cols ml [.int .i64 tl]))]]) (args := [.agg [.int .i64 hr, .loose ⟨0, 1, al, 0⟩ nl], .bool wd]) Try.envOk Try.mixed xR0_ok ((I42 hr al nl ml tl wd)) ((V42 hr al nl ml tl wd)) (fun r => [newL (1 + 1) ((N42 hr al nl ml tl wd) r) ++ [(0, (false, .cols ml [.int .i64 tl]))]]) (fn := mkFn Try.f42) (ts := [1, 2, 5, 6, 7, 8, 9]) (n := 400) rfl (by decide) (by simp) (names_of rfl) ?_ ?_ ?_ h
  · intro s; cases s <;> exact ⟨hd_ok _ _, by simp [I42], names_of rfl, Nat.le_of_ble_eq_true rfl⟩
  · intro Kst Kret x hS hR h
    exact Holds.eq (te42 cond Kst Kret hr al nl ml tl wd) (be42 hr al nl ml tl wd Kst Kret x hS hR h)
  · intro Kst Kret x hS hR s h
    cases s with
    | h0 x0 x1 x2 x3 x4 => exact Holds.eq (t42_0 cond Kst Kret hr al nl ml tl wd x0 x1 x2 x3 x4) (b42_0 hr al nl ml tl wd Kst Kret x hS hR x0 x1 x2 x3 x4 h)
noncomputable def k42 : Con := ⟨42, [.agg [.plain (.int .i64), .list [.int .i64]], .one (.plain (.bool))], fun (x : (Int × (Nat × Nat × Nat × (Nat → Int) × Unit) × Unit) × Bool × Unit) => (fun (hr : Int) (al nl ml : Nat) (tl : Nat → Int) (wd : Bool) => decide (al + nl ≤ ml ∧ nl ≤ 1000000 ∧ S.filE hr nl (fun j => tl (j + al)) = 0)) x.1.1 x.1.2.1.1 x.1.2.1.2.1 x.1.2.1.2.2.1 x.1.2.1.2.2.2.1 x.2.1, fun (x : (Int × (Nat × Nat × Nat × (Nat → Int) × Unit) × Unit) × Bool × Unit) => (fun (hr : Int) (al nl ml : Nat) (tl : Nat → Int) (wd : Bool) => (V42 hr al nl ml tl wd) (S.runsS (fun j => S.inB (fun j => tl (j + al)) nl j) hr.toNat wd)) x.1.1 x.1.2.1.1 x.1.2.1.2.1 x.1.2.1.2.2.1 x.1.2.1.2.2.2.1 x.2.1, fun (x : (Int × (Nat × Nat × Nat × (Nat → Int) × Unit) × Unit) × Bool × Unit) => (fun (hr : Int) (al nl ml : Nat) (tl : Nat → Int) (wd : Bool) => (N42 hr al nl ml tl wd) (S.runsS (fun j => S.inB (fun j => tl (j + al)) nl j) hr.toNat wd)) x.1.1 x.1.2.1.1 x.1.2.1.2.1 x.1.2.1.2.2.1 x.1.2.1.2.2.2.1 x.2.1, fun _ _ => .dead⟩
theorem s42' (H : Nat) (al nl ml : Nat) (tl : Nat → Int) (wd : Bool) (hH : 0 < H ∧ H ≤ 2000) (f : Nat) (hf : f < H) (hb : (S.inB (fun j => tl (j + al)) nl) f ≠ wd) : ∀ (d k n : Nat) (L : List (Int × Int)), k + d = H + 1 → 1 ≤ k → n < k → Holds (L = S.rF (S.inB (fun j => tl (j + al)) nl) H wd f (k - n)) → (∀ t, k - n ≤ t → t < k → (S.inB (fun j => tl (j + al)) nl) ((f + t) % H) = wd) → (S.inB (fun j => tl (j + al)) nl) ((f + (k - n - 1)) % H) ≠ wd →
    Comes (q42 (H : Int) al nl ml tl wd) (.h0 (f : Int) (n : Int) (k : Int) (S.mkl H fun j => (S.inB (fun j => tl (j + al)) nl) j) L) (S.rns (S.inB (fun j => tl (j + al)) nl) H wd) := by
  obtain ⟨hH0, hH1⟩ := hH
  generalize (S.inB (fun j => tl (j + al)) nl) = B at *
  intro d
  induction d with
  | zero =>
    intro k n L hk h1 hn eL hr hs
    have hn0 : n = 0 := by
      rcases Nat.eq_zero_or_pos n with h | h
      · exact h
      · have := hr H (by omega) (by omega)
        rw [Nat.add_mod_right, Nat.mod_eq_of_lt hf] at this
        exact absurd this hb
    subst hn0
    obtain rfl : k = H + 1 := by omega
    obtain ⟨g1, g2⟩ := sort_runs (b := B) (L := L) hf (by omega) hb eL.get
    have hlen : L.length ≤ H + 1 := by rw [eL.get]; exact rF_len
    have g0 : decide (L.length ≤ 1000000 ∧ S.far L.length (fun j => (S.at' L j).1) = true) = true := decide_eq_true ⟨by omega, g1⟩
    apply Comes.of
    show Goes _ _ _
    rw [q42]
    refine goes_no (decide_eq_false (by omega)) ?_
    refine goes_ok (decide_eq_true (Nat.le_refl _)) ?_
    refine goes_ok g0 ?_
    refine goes_inr.mpr ?_
    have e := mkl_at (S.sortT L.length (fun j => (S.at' L j).1) (fun j => (S.at' L j).2))
    rw [sortT_len] at e
    exact e.trans g2
  | succ d ih =>
    intro k n L hk h1 hn eL hr hs
    have hlen : L.length ≤ k - n := by rw [eL.get]; exact rF_len
    have hm : (f + k) % H < H := Nat.mod_lt _ hH0
    have e1 : Int.tmod ((f : Int) + (k : Int)) (H : Int) = (((f + k) % H : Nat) : Int) := by
      rw [← Int.natCast_add]; rfl
    have e2 : S.at' (S.mkl H fun j => B j) ((f + k) % H) = B ((f + k) % H) := at_mkl hm
    have e3 : (S.mkl H fun j => B j).length = H := mkl_len
    have e4 := mod_sub (k := k) (f := f) (n := n) hH0 rfl (by omega) (by omega)
    have e5 : Int.tmod ((((f + k) % H : Nat) : Int) - (n : Int)) (H : Int) = (((f + k) % H : Nat) : Int) - (n : Int) := by
      rcases Int.le_total (n : Int) (((f + k) % H : Nat) : Int) with h | h
      · exact Int.tmod_eq_of_lt (by omega) (by omega)
      · rw [show (((f + k) % H : Nat) : Int) - (n : Int) = -((n - (f + k) % H : Nat) : Int) by omega, Int.neg_tmod, Int.tmod_eq_of_lt (by omega) (by omega)]
    rw [e5] at e4
    have i1 : B ((f + k) % H) = wd → _ := fun hc => ih (k + 1) (n + 1) L (by omega) (by omega) (by omega) ⟨by rw [eL.get, show k + 1 - (n + 1) = k - n by omega]⟩ (fun t h2 h3 => by
      rcases Nat.lt_or_ge t k with h4 | h4
      · exact hr t (by omega) h4
      · obtain rfl : t = k := by omega
        exact hc) (by rwa [show k + 1 - (n + 1) = k - n by omega])
    have i2 : B ((f + k) % H) ≠ wd → n = 0 → _ := fun hc h0 => ih (k + 1) 0 L (by omega) (by omega) (by omega) ⟨by
      subst h0
      rw [eL.get]
      exact (rF_none (rg_off hc)).symm⟩ (fun t h2 h3 => by omega) hc
    have i3 : B ((f + k) % H) ≠ wd → 0 < n → _ := fun hc h0 => ih (k + 1) 0 (S.snoc L ((((f + (k - n)) % H : Nat) : Int), (n : Int))) (by omega) (by omega) (by omega) ⟨by
      have g := rg_on (b := B) (w := wd) (f := f) (s := k - n) (n := n) hH0 (by omega) hs h0 (fun t h2 h3 => hr t h2 (by omega)) (by rwa [show k - n + n = k by omega]) (by omega)
      have g2 := rF_skip (b := B) (H := H) (w := wd) (f := f) (m := k - n + 1) (n := n) (fun t h2 h3 => by
        rcases Nat.lt_or_ge t k with h4 | h4
        · exact rg_mid hH0 (by omega) (hr _ (by omega) (by omega))
        · obtain rfl : t = k := by omega
          exact rg_off hc)
      rw [show k + 1 - 0 = k - n + 1 + n by omega, g2, rF_succ, g, eL.get]
      rfl⟩ (fun t h2 h3 => by omega) hc
    clear ih
    cases hbv : B ((f + k) % H) <;> cases wd
    · replace i1 := i1 hbv
      clear i2 i3
      apply Comes.of
      rw [q42]
      simp only [Int.toNat_natCast, e1, e2, e3, e5, e4, hbv]
      repeat' first
        | with_reducible refine goes_if (fun h => ?_) (fun h => ?_) <;> (try simp only [lim64, imp_false, decide_eq_true_eq, decide_eq_false_iff_not, Int.toNat_natCast, toNat_pred, toNat_succ, Option.getD_some, Option.getD_none, Bool.not_eq_true', Bool.not_eq_false', Bool.and_eq_true, Bool.or_eq_true, Bool.and_eq_false_iff, Bool.or_eq_false_iff, bne_iff_ne, beq_iff_eq, bne_eq_false_iff_eq, beq_eq_false_iff_ne, ne_eq, not_and, Int.not_le, Int.not_lt, ge_iff_le, gt_iff_lt, Nat.not_lt, Nat.not_le, Bool.not_eq_true, Bool.not_eq_false, Bool.true_eq_false, Bool.false_eq_true, not_false_eq_true, not_true_eq_false] at h)
        | exact goes_none.mpr (by omega)
      all_goals first | (exfalso; omega) | exact i1
    · replace i2 := i2 (by rw [hbv]; exact Bool.false_ne_true)
      replace i3 := i3 (by rw [hbv]; exact Bool.false_ne_true)
      clear i1
      apply Comes.of
      rw [q42]
      simp only [Int.toNat_natCast, e1, e2, e3, e5, e4, hbv]
      repeat' first
        | with_reducible refine goes_if (fun h => ?_) (fun h => ?_) <;> (try simp only [lim64, imp_false, decide_eq_true_eq, decide_eq_false_iff_not, Int.toNat_natCast, toNat_pred, toNat_succ, Option.getD_some, Option.getD_none, Bool.not_eq_true', Bool.not_eq_false', Bool.and_eq_true, Bool.or_eq_true, Bool.and_eq_false_iff, Bool.or_eq_false_iff, bne_iff_ne, beq_iff_eq, bne_eq_false_iff_eq, beq_eq_false_iff_ne, ne_eq, not_and, Int.not_le, Int.not_lt, ge_iff_le, gt_iff_lt, Nat.not_lt, Nat.not_le, Bool.not_eq_true, Bool.not_eq_false, Bool.true_eq_false, Bool.false_eq_true, not_false_eq_true, not_true_eq_false] at h)
        | exact goes_none.mpr (by omega)
      all_goals first | (exfalso; omega) | exact i3 (by omega) | exact i2 (by omega)
    · replace i2 := i2 (by rw [hbv]; exact fun h => Bool.noConfusion h)
      replace i3 := i3 (by rw [hbv]; exact fun h => Bool.noConfusion h)
      clear i1
      apply Comes.of
      rw [q42]
      simp only [Int.toNat_natCast, e1, e2, e3, e5, e4, hbv]
      repeat' first
        | with_reducible refine goes_if (fun h => ?_) (fun h => ?_) <;> (try simp only [lim64, imp_false, decide_eq_true_eq, decide_eq_false_iff_not, Int.toNat_natCast, toNat_pred, toNat_succ, Option.getD_some, Option.getD_none, Bool.not_eq_true', Bool.not_eq_false', Bool.and_eq_true, Bool.or_eq_true, Bool.and_eq_false_iff, Bool.or_eq_false_iff, bne_iff_ne, beq_iff_eq, bne_eq_false_iff_eq, beq_eq_false_iff_ne, ne_eq, not_and, Int.not_le, Int.not_lt, ge_iff_le, gt_iff_lt, Nat.not_lt, Nat.not_le, Bool.not_eq_true, Bool.not_eq_false, Bool.true_eq_false, Bool.false_eq_true, not_false_eq_true, not_true_eq_false] at h)
        | exact goes_none.mpr (by omega)
      all_goals first | (exfalso; omega) | exact i3 (by omega) | exact i2 (by omega)
    · replace i1 := i1 hbv
      clear i2 i3
      apply Comes.of
      rw [q42]
      simp only [Int.toNat_natCast, e1, e2, e3, e5, e4, hbv]
      repeat' first
        | with_reducible refine goes_if (fun h => ?_) (fun h => ?_) <;> (try simp only [lim64, imp_false, decide_eq_true_eq, decide_eq_false_iff_not, Int.toNat_natCast, toNat_pred, toNat_succ, Option.getD_some, Option.getD_none, Bool.not_eq_true', Bool.not_eq_false', Bool.and_eq_true, Bool.or_eq_true, Bool.and_eq_false_iff, Bool.or_eq_false_iff, bne_iff_ne, beq_iff_eq, bne_eq_false_iff_eq, beq_eq_false_iff_ne, ne_eq, not_and, Int.not_le, Int.not_lt, ge_iff_le, gt_iff_lt, Nat.not_lt, Nat.not_le, Bool.not_eq_true, Bool.not_eq_false, Bool.true_eq_false, Bool.false_eq_true, not_false_eq_true, not_true_eq_false] at h)
        | exact goes_none.mpr (by omega)
      all_goals first | (exfalso; omega) | exact i1
theorem s42 (hr : Int) (al nl ml : Nat) (tl : Nat → Int) (wd : Bool) (hp : al + nl ≤ ml ∧ nl ≤ 1000000 ∧ S.filE hr nl (fun j => tl (j + al)) = 0) : Goes ((q42 hr al nl ml tl wd)) ((p42 hr al nl ml tl wd)) (S.runsS (fun j => S.inB (fun j => tl (j + al)) nl j) hr.toNat wd) := by
  show Goes _ _ (S.runsS (S.inB (fun j => tl (j + al)) nl) hr.toNat wd)
  obtain ⟨hp1, hp2, hp3⟩ := hp
  obtain ⟨v1, v2, v3, v4⟩ := fil_ok hp3
  obtain ⟨H, rfl⟩ := Int.eq_ofNat_of_zero_le (show 0 ≤ hr by omega)
  rw [Int.toNat_natCast]
  have hm := s42' H al nl ml tl wd ⟨by omega, by omega⟩
  have e3 : (S.mkl H fun j => (S.inB (fun j => tl (j + al)) nl) j).length = H := mkl_len
  have ei : ∀ z : Bool, S.idx (fun j => S.at' (S.mkl H fun j => (S.inB (fun j => tl (j + al)) nl) j) j == z) 0 H = S.idx (fun j => (S.inB (fun j => tl (j + al)) nl) j == z) 0 H := fun z => idx_congr fun j _ hj => by
    show (S.at' _ j == z) = _
    rw [at_mkl (by omega)]
  unfold p42
  simp only [Int.toNat_natCast, e3, ei]
  unfold S.runsS
  generalize hB : (S.inB (fun j => tl (j + al)) nl) = B at *
  have hgo : ∀ z : Bool, (!wd) = z → ((S.idx (fun j => B j == z) 0 H < 0 ∧ S.any (fun i => B i == !wd) H = false) ∨ ∃ f : Nat, S.idx (fun j => B j == z) 0 H = (f : Int) ∧ f < H ∧ B f ≠ wd ∧ S.any (fun i => B i == !wd) H = true) := fun z hz => by
    rw [hz]
    rcases idx_ge (p := fun j => B j == z) (k := H) (i := 0) with h | ⟨h1, h2⟩
    · left
      refine ⟨by omega, any_no.mpr fun j hj => ?_⟩
      exact idx_no.mp h j (Nat.zero_le _) (by omega)
    · right
      obtain ⟨f, hf⟩ := Int.eq_ofNat_of_zero_le (show 0 ≤ S.idx (fun j => B j == z) 0 H by omega)
      have ht := idx_is hf
      refine ⟨f, hf, by omega, ?_, any_iff.mpr ⟨f, by omega, ht⟩⟩
      have ht : B f = z := by simpa using ht
      rw [ht, ← hz]; cases wd <;> simp
  rcases hgo (!wd) rfl with ⟨g1, g2⟩ | ⟨f, g1, g2, g3, g4⟩
  · rw [g2, if_neg Bool.false_ne_true]
    cases wd
    all_goals
      simp only [Bool.not_true, Bool.not_false] at g1
      refine goes_ok (decide_eq_true ⟨hp1, hp2, hp3⟩) ?_
      first | refine goes_ok rfl ?_ | refine goes_no rfl ?_
      refine goes_ok (decide_eq_true (by omega)) ?_
      exact goes_ok (decide_eq_true g1) (goes_inr.mpr rfl)
  · rw [g4, if_pos rfl]
    have hm := hm f g2 g3 H 1 0 [] (by omega) (Nat.le_refl _) (by omega) ⟨by
      show [] = S.rF B H wd f 1
      rw [rF_none (rg_off (by rw [Nat.add_zero, Nat.mod_eq_of_lt g2]; exact g3))]; rfl⟩ (fun t h1 h2 => by omega) (by rwa [show f + (1 - 0 - 1) = f by omega, Nat.mod_eq_of_lt g2])
    cases wd
    all_goals
      simp only [Bool.not_true, Bool.not_false] at g1
      refine goes_ok (decide_eq_true ⟨hp1, hp2, hp3⟩) ?_
      first | refine goes_ok rfl ?_ | refine goes_no rfl ?_
      refine goes_ok (decide_eq_true (by omega)) ?_
      refine goes_no (decide_eq_false (by omega)) ?_
      rw [g1]
      exact hm

theorem k42_ok : k42.ok Try.prog := by
  intro x hx
  obtain ⟨⟨hr, ⟨al, nl, ml, tl, _⟩, _⟩, wd, _⟩ := x
  obtain ⟨h1, h2⟩ := a42 hr al nl ml tl wd (s42 hr al nl ml tl wd (of_dec hx rfl))
  exact ⟨⟨400, (by decide : 1 + 1 + 1 ≤ 400), h1⟩, h2⟩

end Go.Ev
