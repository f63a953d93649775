/-
  The reference's runs.
-/
import Derived.Test.YtejcmbcmhfejkaaR2
namespace Go.Ev
open Go.Proofs
set_option linter.unusedVariables false
set_option linter.unusedSimpArgs false
set_option maxRecDepth 100000

namespace S
def rP (b : Nat → Bool) (H : Nat) (w : Bool) (m : Nat) : List (Int × Int) := (List.range m).filterMap (rg b H w)
end S
theorem rP_succ {b : Nat → Bool} {H : Nat} {w : Bool} {m : Nat} : S.rP b H w (m + 1) = S.rP b H w m ++ (S.rg b H w m).toList := by
  unfold S.rP
  rw [List.range_succ, List.filterMap_append]
  congr 1
theorem rP_len {b : Nat → Bool} {H : Nat} {w : Bool} {m : Nat} : (S.rP b H w m).length ≤ m := by
  have := List.length_filterMap_le (S.rg b H w) (List.range m)
  rwa [List.length_range] at this
inductive St44 where
  | h0 (x0 : Bool) (x1 : Int)
  | h1 (x0 : Int) (x1 : List (Int × Int))
  | h2 (x0 : Int) (x1 : Int) (x2 : Int) (x3 : Int) (x4 : Int) (x5 : Int) (x6 : Nat) (x7 : Bool) (x8 : Bool) (x9 : List (Int × Int))
abbrev Rt44 := List (Int × Int)
noncomputable def V44 (al nl ml : Nat) (tl : Nat → Bool) (wd : Bool) (r : Rt44) : PV := PV.own (2) (2) (List.length r)
noncomputable def N44 (al nl ml : Nat) (tl : Nat → Bool) (wd : Bool) (r : Rt44) : List Blk := [Blk.cols (List.length r)
 [Col.int IntKind.i64 fun (j : Nat) => (S.at' r j).1,
 Col.int IntKind.i64 fun (j : Nat) => (S.at' r j).2]]
noncomputable def I44 (al nl ml : Nat) (tl : Nat → Bool) (wd : Bool) : St44 → Hd
  | .h0 x0 x1 => ⟨hd Try.f44 0, [PV.loose (PA.mk (0) (1) al (0)) nl, PV.bool wd,
 PV.int IntKind.i64 (↑nl : Int), PV.bool x0, PV.int IntKind.i64 x1, PV.unk, PV.unk,
 PV.unk, PV.unk, PV.unk, PV.unk, PV.unk, PV.unk, PV.unk, PV.unk,
 PV.unk, PV.unk, PV.unk, PV.unk], [[], [(0, (false, .cols ml [.bool tl]))]], 1⟩
  | .h1 x0 x1 => ⟨hd Try.f44 1, [PV.loose (PA.mk (0) (1) al (0)) nl, PV.bool wd,
 PV.int IntKind.i64 (↑nl : Int), PV.unk, PV.unk,
 PV.own (1) (2) (List.length x1), PV.int IntKind.i64 x0, PV.unk, PV.unk,
 PV.unk, PV.unk, PV.unk, PV.unk, PV.unk, PV.unk, PV.unk, PV.unk,
 PV.unk, PV.unk], [[(1, (true, Blk.cols (List.length x1)
 [Col.int IntKind.i64 fun (j : Nat) => (S.at' x1 j).1,
 Col.int IntKind.i64 fun (j : Nat) => (S.at' x1 j).2]))], [(0, (false, .cols ml [.bool tl]))]], 2⟩
  | .h2 x0 x1 x2 x3 x4 x5 x6 x7 x8 x9 => ⟨hd Try.f44 2, [PV.loose (PA.mk (0) (1) al (0)) nl, PV.bool wd,
 PV.int IntKind.i64 (↑nl : Int), PV.unk, PV.unk,
 PV.own (1) (2) (List.length x9), PV.int IntKind.i64 x0, PV.int IntKind.i64 x1,
 PV.loose (PA.mk (0) (1) al (0)) nl, PV.int IntKind.i64 x2,
 PV.int IntKind.i64 (↑nl : Int), PV.int IntKind.i64 x3, PV.int IntKind.i64 x4,
 PV.int IntKind.i64 (↑nl : Int), PV.int IntKind.i64 x5,
 PV.ptr (PA.mk (0) (1) x6 (0)), PV.bool x7, PV.bool x8,
 PV.tf false], [[(1, (true, Blk.cols (List.length x9)
 [Col.int IntKind.i64 fun (j : Nat) => (S.at' x9 j).1,
 Col.int IntKind.i64 fun (j : Nat) => (S.at' x9 j).2]))], [(0, (false, .cols ml [.bool tl]))]], 2⟩
noncomputable def q44 (al nl ml : Nat) (tl : Nat → Bool) (wd : Bool) : St44 → Option (St44 ⊕ Rt44)
  | .h0 x0 x1 => bif (decide (x1 < (↑nl : Int)))
 then (bif (x0)
 then (bif (decide ((0 : Int) ≤ x1 ∧ x1 < (↑nl : Int)))
 then (bif (decide (Int.toNat x1 + al < ml))
 then (bif (tl (Int.toNat x1 + al))
 then (bif (wd)
 then (bif (lim IntKind.i64 (x1 + (1 : Int)))
 then (some (.inl (.h0 (true) (x1 + (1 : Int)))))
 else (none))
 else (bif (lim IntKind.i64 (x1 + (1 : Int)))
 then (some (.inl (.h0 (false) (x1 + (1 : Int)))))
 else (none)))
 else (bif (wd)
 then (bif (lim IntKind.i64 (x1 + (1 : Int)))
 then (some (.inl (.h0 (false) (x1 + (1 : Int)))))
 else (none))
 else (bif (lim IntKind.i64 (x1 + (1 : Int)))
 then (some (.inl (.h0 (true) (x1 + (1 : Int)))))
 else (none))))
 else (none))
 else (none))
 else (bif (lim IntKind.i64 (x1 + (1 : Int)))
 then (some (.inl (.h0 (false) (x1 + (1 : Int)))))
 else (none)))
 else (bif (x0)
 then (some (.inr ([((0 : Int), (↑nl : Int))])))
 else (some (.inl (.h1 ((0 : Int)) ([])))))
  | .h1 x0 x1 => bif (decide (x0 < (↑nl : Int)))
 then (bif (decide ((0 : Int) ≤ x0 ∧ x0 < (↑nl : Int)))
 then (bif (decide (Int.toNat x0 + al < ml))
 then (bif (tl (Int.toNat x0 + al))
 then (bif (wd)
 then (bif (lim IntKind.i64 (x0 + (↑nl : Int)))
 then (bif (lim IntKind.i64 (x0 + (↑nl : Int) - (1 : Int)))
 then (bif (decide ((↑nl : Int) = (0 : Int)))
 then (none)
 else (bif (decide
 ((0 : Int) ≤ Int.tmod (x0 + (↑nl : Int) - (1 : Int)) (↑nl : Int) ∧
 Int.tmod (x0 + (↑nl : Int) - (1 : Int)) (↑nl : Int) < (↑nl : Int)))
 then (bif (decide (Int.toNat (Int.tmod (x0 + (↑nl : Int) - (1 : Int)) (↑nl : Int)) + al < ml))
 then (bif (tl (Int.toNat (Int.tmod (x0 + (↑nl : Int) - (1 : Int)) (↑nl : Int)) + al))
 then (bif (lim IntKind.i64 (x0 + (1 : Int)))
 then (some (.inl (.h1 (x0 + (1 : Int)) (x1))))
 else (none))
 else (some (.inl (.h2 (x0) ((1 : Int)) (x0) (x0 + (↑nl : Int)) (x0 + (↑nl : Int) - (1 : Int)) (Int.tmod (x0 + (↑nl : Int) - (1 : Int)) (↑nl : Int)) (Int.toNat (Int.tmod (x0 + (↑nl : Int) - (1 : Int)) (↑nl : Int)) + al) (false) (true) (x1)))))
 else (none))
 else (none)))
 else (none))
 else (none))
 else (bif (lim IntKind.i64 (x0 + (1 : Int)))
 then (some (.inl (.h1 (x0 + (1 : Int)) (x1))))
 else (none)))
 else (bif (wd)
 then (bif (lim IntKind.i64 (x0 + (1 : Int)))
 then (some (.inl (.h1 (x0 + (1 : Int)) (x1))))
 else (none))
 else (bif (lim IntKind.i64 (x0 + (↑nl : Int)))
 then (bif (lim IntKind.i64 (x0 + (↑nl : Int) - (1 : Int)))
 then (bif (decide ((↑nl : Int) = (0 : Int)))
 then (none)
 else (bif (decide
 ((0 : Int) ≤ Int.tmod (x0 + (↑nl : Int) - (1 : Int)) (↑nl : Int) ∧
 Int.tmod (x0 + (↑nl : Int) - (1 : Int)) (↑nl : Int) < (↑nl : Int)))
 then (bif (decide (Int.toNat (Int.tmod (x0 + (↑nl : Int) - (1 : Int)) (↑nl : Int)) + al < ml))
 then (bif (tl (Int.toNat (Int.tmod (x0 + (↑nl : Int) - (1 : Int)) (↑nl : Int)) + al))
 then (some (.inl (.h2 (x0) ((1 : Int)) (x0) (x0 + (↑nl : Int)) (x0 + (↑nl : Int) - (1 : Int)) (Int.tmod (x0 + (↑nl : Int) - (1 : Int)) (↑nl : Int)) (Int.toNat (Int.tmod (x0 + (↑nl : Int) - (1 : Int)) (↑nl : Int)) + al) (true) (false) (x1))))
 else (bif (lim IntKind.i64 (x0 + (1 : Int)))
 then (some (.inl (.h1 (x0 + (1 : Int)) (x1))))
 else (none)))
 else (none))
 else (none)))
 else (none))
 else (none))))
 else (none))
 else (none))
 else (some (.inr (x1)))
  | .h2 x0 x1 x2 x3 x4 x5 x6 x7 x8 x9 => bif (lim IntKind.i64 (x0 + x1))
 then (bif (decide ((↑nl : Int) = (0 : Int)))
 then (none)
 else (bif (decide ((0 : Int) ≤ Int.tmod (x0 + x1) (↑nl : Int) ∧ Int.tmod (x0 + x1) (↑nl : Int) < (↑nl : Int)))
 then (bif (decide (Int.toNat (Int.tmod (x0 + x1) (↑nl : Int)) + al < ml))
 then (bif (tl (Int.toNat (Int.tmod (x0 + x1) (↑nl : Int)) + al))
 then (bif (wd)
 then (bif (lim IntKind.i64 (x1 + (1 : Int)))
 then (some (.inl (.h2 (x0) (x1 + (1 : Int)) (x2) (x3) (x4) (x5) (x6) (x7) (x8) (x9))))
 else (none))
 else (bif (decide (List.length x9 + 1 ≤ 1000000))
 then (bif (decide (List.length x9 ≤ List.length x9))
 then (bif (lim IntKind.i64 (x0 + (1 : Int)))
 then (some (.inl (.h1 (x0 + (1 : Int)) (S.snoc x9 (x0, x1)))))
 else (none))
 else (none))
 else (none)))
 else (bif (wd)
 then (bif (decide (List.length x9 + 1 ≤ 1000000))
 then (bif (decide (List.length x9 ≤ List.length x9))
 then (bif (lim IntKind.i64 (x0 + (1 : Int)))
 then (some (.inl (.h1 (x0 + (1 : Int)) (S.snoc x9 (x0, x1)))))
 else (none))
 else (none))
 else (none))
 else (bif (lim IntKind.i64 (x1 + (1 : Int)))
 then (some (.inl (.h2 (x0) (x1 + (1 : Int)) (x2) (x3) (x4) (x5) (x6) (x7) (x8) (x9))))
 else (none))))
 else (none))
 else (none)))
 else (none)
noncomputable def p44 (al nl ml : Nat) (tl : Nat → Bool) (wd : Bool) : Option (St44 ⊕ Rt44) := some (.inl (.h0 (true) ((0 : Int))))
noncomputable def Te44 (test : Bool → Prop → Prop → Prop) (Kst : KS) (Kret : KR) (al nl ml : Nat) (tl : Nat → Bool) (wd : Bool) : Prop :=
  Kst (hd Try.f44 0) ([PV.loose (PA.mk (0) (1) al (0)) nl, PV.bool wd,
 PV.int IntKind.i64 (↑nl : Int), PV.tf true, PV.int IntKind.i64 (0 : Int), PV.unk,
 PV.unk, PV.unk, PV.unk, PV.unk, PV.unk, PV.unk, PV.unk, PV.unk,
 PV.unk, PV.unk, PV.unk, PV.unk, PV.unk]) ([[(0, false, Blk.cols ml [Col.bool tl])]]) (1)
set_option maxRecDepth 100000 in
theorem te44 (test : Bool → Prop → Prop → Prop) (Kst : KS) (Kret : KR) (al nl ml : Nat) (tl : Nat → Bool) (wd : Bool) : run test Try.env true noX true 400 ⟨44, [.cd (mkFn Try.f44).body], argT 0 [.loose ⟨0, 1, al, 0⟩ nl, .bool wd], [[], [(0, (false, .cols ml [.bool tl]))]], 1⟩ (proj 1 [0, 1, 5, 6, 7, 8, 9, 10, 43, 44, 45, 46, 47, 48, 49, 50, 51, 52, 53] Kst Kret) =
  Te44 test Kst Kret al nl ml tl wd := by kernel_rfl
noncomputable def T44_0 (test : Bool → Prop → Prop → Prop) (Kst : KS) (Kret : KR) (al nl ml : Nat) (tl : Nat → Bool) (wd : Bool) (x0 : Bool) (x1 : Int) : Prop :=
  test (decide (x1 < (↑nl : Int)))
 (test (x0)
 (test (decide ((0 : Int) ≤ x1 ∧ x1 < (↑nl : Int)))
 (test (decide (Int.toNat x1 + al < ml))
 (test (tl (Int.toNat x1 + al))
 (test (wd)
 (test (lim IntKind.i64 (x1 + (1 : Int)))
 (Kst (hd Try.f44 0) ([PV.loose (PA.mk (0) (1) al (0)) nl, PV.bool wd,
 PV.int IntKind.i64 (↑nl : Int), PV.tf true, PV.int IntKind.i64 (x1 + (1 : Int)),
 PV.unk, PV.unk, PV.unk, PV.unk, PV.unk, PV.unk, PV.unk, PV.unk,
 PV.unk, PV.unk, PV.unk, PV.unk, PV.unk, PV.unk]) ([[(0, false, Blk.cols ml [Col.bool tl])]]) (1))
 (False))
 (test (lim IntKind.i64 (x1 + (1 : Int)))
 (Kst (hd Try.f44 0) ([PV.loose (PA.mk (0) (1) al (0)) nl, PV.bool wd,
 PV.int IntKind.i64 (↑nl : Int), PV.tf false, PV.int IntKind.i64 (x1 + (1 : Int)),
 PV.unk, PV.unk, PV.unk, PV.unk, PV.unk, PV.unk, PV.unk, PV.unk,
 PV.unk, PV.unk, PV.unk, PV.unk, PV.unk, PV.unk]) ([[(0, false, Blk.cols ml [Col.bool tl])]]) (1))
 (False)))
 (test (wd)
 (test (lim IntKind.i64 (x1 + (1 : Int)))
 (Kst (hd Try.f44 0) ([PV.loose (PA.mk (0) (1) al (0)) nl, PV.bool wd,
 PV.int IntKind.i64 (↑nl : Int), PV.tf false, PV.int IntKind.i64 (x1 + (1 : Int)),
 PV.unk, PV.unk, PV.unk, PV.unk, PV.unk, PV.unk, PV.unk, PV.unk,
 PV.unk, PV.unk, PV.unk, PV.unk, PV.unk, PV.unk]) ([[(0, false, Blk.cols ml [Col.bool tl])]]) (1))
 (False))
 (test (lim IntKind.i64 (x1 + (1 : Int)))
 (Kst (hd Try.f44 0) ([PV.loose (PA.mk (0) (1) al (0)) nl, PV.bool wd,
 PV.int IntKind.i64 (↑nl : Int), PV.tf true, PV.int IntKind.i64 (x1 + (1 : Int)),
 PV.unk, PV.unk, PV.unk, PV.unk, PV.unk, PV.unk, PV.unk, PV.unk,
 PV.unk, PV.unk, PV.unk, PV.unk, PV.unk, PV.unk]) ([[(0, false, Blk.cols ml [Col.bool tl])]]) (1))
 (False))))
 (False))
 (False))
 (test (lim IntKind.i64 (x1 + (1 : Int)))
 (Kst (hd Try.f44 0) ([PV.loose (PA.mk (0) (1) al (0)) nl, PV.bool wd,
 PV.int IntKind.i64 (↑nl : Int), PV.tf false, PV.int IntKind.i64 (x1 + (1 : Int)),
 PV.unk, PV.unk, PV.unk, PV.unk, PV.unk, PV.unk, PV.unk, PV.unk,
 PV.unk, PV.unk, PV.unk, PV.unk, PV.unk, PV.unk]) ([[(0, false, Blk.cols ml [Col.bool tl])]]) (1))
 (False)))
 (test (x0)
 (Kret (PV.own (1) (2) (1)) ([[(0, false, Blk.cols ml [Col.bool tl]),
 (1, true,
 Blk.cells [PV.int IntKind.i64 (0 : Int), PV.int IntKind.i64 (↑nl : Int)])]]) (2))
 (Kst (hd Try.f44 1) ([PV.loose (PA.mk (0) (1) al (0)) nl, PV.bool wd,
 PV.int IntKind.i64 (↑nl : Int), PV.bool x0, PV.int IntKind.i64 x1, PV.nils,
 PV.int IntKind.i64 (0 : Int), PV.unk, PV.unk, PV.unk, PV.unk, PV.unk,
 PV.unk, PV.unk, PV.unk, PV.unk, PV.unk, PV.unk, PV.unk]) ([[(0, false, Blk.cols ml [Col.bool tl])]]) (1)))
set_option maxRecDepth 100000 in
theorem t44_0 (test : Bool → Prop → Prop → Prop) (Kst : KS) (Kret : KR) (al nl ml : Nat) (tl : Nat → Bool) (wd : Bool) (x0 : Bool) (x1 : Int) : run test Try.env true noX true 400 ⟨44, hd Try.f44 0, zipT [0, 1, 5, 6, 7, 8, 9, 10, 43, 44, 45, 46, 47, 48, 49, 50, 51, 52, 53] [PV.loose (PA.mk (0) (1) al (0)) nl, PV.bool wd,
 PV.int IntKind.i64 (↑nl : Int), PV.bool x0, PV.int IntKind.i64 x1, PV.unk, PV.unk,
 PV.unk, PV.unk, PV.unk, PV.unk, PV.unk, PV.unk, PV.unk, PV.unk,
 PV.unk, PV.unk, PV.unk, PV.unk], [[], [(0, (false, .cols ml [.bool tl]))]], 1⟩ (proj 1 [0, 1, 5, 6, 7, 8, 9, 10, 43, 44, 45, 46, 47, 48, 49, 50, 51, 52, 53] Kst Kret) =
  T44_0 test Kst Kret al nl ml tl wd x0 x1 := by kernel_rfl
noncomputable def T44_1 (test : Bool → Prop → Prop → Prop) (Kst : KS) (Kret : KR) (al nl ml : Nat) (tl : Nat → Bool) (wd : Bool) (x0 : Int) (x1 : List (Int × Int)) : Prop :=
  test (decide (x0 < (↑nl : Int)))
 (test (decide ((0 : Int) ≤ x0 ∧ x0 < (↑nl : Int)))
 (test (decide (Int.toNat x0 + al < ml))
 (test (tl (Int.toNat x0 + al))
 (test (wd)
 (test (lim IntKind.i64 (x0 + (↑nl : Int)))
 (test (lim IntKind.i64 (x0 + (↑nl : Int) - (1 : Int)))
 (test (decide ((↑nl : Int) = (0 : Int)))
 (False)
 (test (decide
 ((0 : Int) ≤ Int.tmod (x0 + (↑nl : Int) - (1 : Int)) (↑nl : Int) ∧
 Int.tmod (x0 + (↑nl : Int) - (1 : Int)) (↑nl : Int) < (↑nl : Int)))
 (test (decide (Int.toNat (Int.tmod (x0 + (↑nl : Int) - (1 : Int)) (↑nl : Int)) + al < ml))
 (test (tl (Int.toNat (Int.tmod (x0 + (↑nl : Int) - (1 : Int)) (↑nl : Int)) + al))
 (test (wd)
 (test (lim IntKind.i64 (x0 + (1 : Int)))
 (Kst (hd Try.f44 1) ([PV.loose (PA.mk (0) (1) al (0)) nl, PV.bool wd,
 PV.int IntKind.i64 (↑nl : Int), PV.unk, PV.unk,
 PV.own (1) (2) (List.length x1), PV.int IntKind.i64 (x0 + (1 : Int)), PV.unk,
 PV.loose (PA.mk (0) (1) al (0)) nl, PV.int IntKind.i64 x0,
 PV.int IntKind.i64 (↑nl : Int), PV.int IntKind.i64 (x0 + (↑nl : Int)),
 PV.int IntKind.i64 (x0 + (↑nl : Int) - (1 : Int)), PV.int IntKind.i64 (↑nl : Int),
 PV.int IntKind.i64 (Int.tmod (x0 + (↑nl : Int) - (1 : Int)) (↑nl : Int)),
 PV.ptr
 (PA.mk (0) (1) (Int.toNat (Int.tmod (x0 + (↑nl : Int) - (1 : Int)) (↑nl : Int)) + al)
 (0)),
 PV.tf true, PV.tf true, PV.tf true]) ([[(0, false, Blk.cols ml [Col.bool tl]),
 (1, true,
 Blk.cols (List.length x1)
 [Col.int IntKind.i64 fun (j : Nat) => (S.at' x1 j).1,
 Col.int IntKind.i64 fun (j : Nat) => (S.at' x1 j).2])]]) (2))
 (False))
 (Kst (hd Try.f44 2) ([PV.loose (PA.mk (0) (1) al (0)) nl, PV.bool wd,
 PV.int IntKind.i64 (↑nl : Int), PV.unk, PV.unk,
 PV.own (1) (2) (List.length x1), PV.int IntKind.i64 x0,
 PV.int IntKind.i64 (1 : Int), PV.loose (PA.mk (0) (1) al (0)) nl,
 PV.int IntKind.i64 x0, PV.int IntKind.i64 (↑nl : Int),
 PV.int IntKind.i64 (x0 + (↑nl : Int)), PV.int IntKind.i64 (x0 + (↑nl : Int) - (1 : Int)),
 PV.int IntKind.i64 (↑nl : Int),
 PV.int IntKind.i64 (Int.tmod (x0 + (↑nl : Int) - (1 : Int)) (↑nl : Int)),
 PV.ptr
 (PA.mk (0) (1) (Int.toNat (Int.tmod (x0 + (↑nl : Int) - (1 : Int)) (↑nl : Int)) + al)
 (0)),
 PV.tf true, PV.tf false, PV.tf false]) ([[(0, false, Blk.cols ml [Col.bool tl]),
 (1, true,
 Blk.cols (List.length x1)
 [Col.int IntKind.i64 fun (j : Nat) => (S.at' x1 j).1,
 Col.int IntKind.i64 fun (j : Nat) => (S.at' x1 j).2])]]) (2)))
 (test (wd)
 (Kst (hd Try.f44 2) ([PV.loose (PA.mk (0) (1) al (0)) nl, PV.bool wd,
 PV.int IntKind.i64 (↑nl : Int), PV.unk, PV.unk,
 PV.own (1) (2) (List.length x1), PV.int IntKind.i64 x0,
 PV.int IntKind.i64 (1 : Int), PV.loose (PA.mk (0) (1) al (0)) nl,
 PV.int IntKind.i64 x0, PV.int IntKind.i64 (↑nl : Int),
 PV.int IntKind.i64 (x0 + (↑nl : Int)), PV.int IntKind.i64 (x0 + (↑nl : Int) - (1 : Int)),
 PV.int IntKind.i64 (↑nl : Int),
 PV.int IntKind.i64 (Int.tmod (x0 + (↑nl : Int) - (1 : Int)) (↑nl : Int)),
 PV.ptr
 (PA.mk (0) (1) (Int.toNat (Int.tmod (x0 + (↑nl : Int) - (1 : Int)) (↑nl : Int)) + al)
 (0)),
 PV.tf false, PV.tf true, PV.tf false]) ([[(0, false, Blk.cols ml [Col.bool tl]),
 (1, true,
 Blk.cols (List.length x1)
 [Col.int IntKind.i64 fun (j : Nat) => (S.at' x1 j).1,
 Col.int IntKind.i64 fun (j : Nat) => (S.at' x1 j).2])]]) (2))
 (test (lim IntKind.i64 (x0 + (1 : Int)))
 (Kst (hd Try.f44 1) ([PV.loose (PA.mk (0) (1) al (0)) nl, PV.bool wd,
 PV.int IntKind.i64 (↑nl : Int), PV.unk, PV.unk,
 PV.own (1) (2) (List.length x1), PV.int IntKind.i64 (x0 + (1 : Int)), PV.unk,
 PV.loose (PA.mk (0) (1) al (0)) nl, PV.int IntKind.i64 x0,
 PV.int IntKind.i64 (↑nl : Int), PV.int IntKind.i64 (x0 + (↑nl : Int)),
 PV.int IntKind.i64 (x0 + (↑nl : Int) - (1 : Int)), PV.int IntKind.i64 (↑nl : Int),
 PV.int IntKind.i64 (Int.tmod (x0 + (↑nl : Int) - (1 : Int)) (↑nl : Int)),
 PV.ptr
 (PA.mk (0) (1) (Int.toNat (Int.tmod (x0 + (↑nl : Int) - (1 : Int)) (↑nl : Int)) + al)
 (0)),
 PV.tf false, PV.tf false, PV.tf true]) ([[(0, false, Blk.cols ml [Col.bool tl]),
 (1, true,
 Blk.cols (List.length x1)
 [Col.int IntKind.i64 fun (j : Nat) => (S.at' x1 j).1,
 Col.int IntKind.i64 fun (j : Nat) => (S.at' x1 j).2])]]) (2))
 (False))))
 (False))
 (False)))
 (False))
 (False))
 (test (lim IntKind.i64 (x0 + (1 : Int)))
 (Kst (hd Try.f44 1) ([PV.loose (PA.mk (0) (1) al (0)) nl, PV.bool wd,
 PV.int IntKind.i64 (↑nl : Int), PV.unk, PV.unk,
 PV.own (1) (2) (List.length x1), PV.int IntKind.i64 (x0 + (1 : Int)), PV.unk,
 PV.tup [], PV.tup [], PV.tup [], PV.tup [], PV.tup [], PV.tup [], PV.tup [],
 PV.tup [], PV.tup [], PV.tup [], PV.tup []]) ([[(0, false, Blk.cols ml [Col.bool tl]),
 (1, true,
 Blk.cols (List.length x1)
 [Col.int IntKind.i64 fun (j : Nat) => (S.at' x1 j).1,
 Col.int IntKind.i64 fun (j : Nat) => (S.at' x1 j).2])]]) (2))
 (False)))
 (test (wd)
 (test (lim IntKind.i64 (x0 + (1 : Int)))
 (Kst (hd Try.f44 1) ([PV.loose (PA.mk (0) (1) al (0)) nl, PV.bool wd,
 PV.int IntKind.i64 (↑nl : Int), PV.unk, PV.unk,
 PV.own (1) (2) (List.length x1), PV.int IntKind.i64 (x0 + (1 : Int)), PV.unk,
 PV.tup [], PV.tup [], PV.tup [], PV.tup [], PV.tup [], PV.tup [], PV.tup [],
 PV.tup [], PV.tup [], PV.tup [], PV.tup []]) ([[(0, false, Blk.cols ml [Col.bool tl]),
 (1, true,
 Blk.cols (List.length x1)
 [Col.int IntKind.i64 fun (j : Nat) => (S.at' x1 j).1,
 Col.int IntKind.i64 fun (j : Nat) => (S.at' x1 j).2])]]) (2))
 (False))
 (test (lim IntKind.i64 (x0 + (↑nl : Int)))
 (test (lim IntKind.i64 (x0 + (↑nl : Int) - (1 : Int)))
 (test (decide ((↑nl : Int) = (0 : Int)))
 (False)
 (test (decide
 ((0 : Int) ≤ Int.tmod (x0 + (↑nl : Int) - (1 : Int)) (↑nl : Int) ∧
 Int.tmod (x0 + (↑nl : Int) - (1 : Int)) (↑nl : Int) < (↑nl : Int)))
 (test (decide (Int.toNat (Int.tmod (x0 + (↑nl : Int) - (1 : Int)) (↑nl : Int)) + al < ml))
 (test (tl (Int.toNat (Int.tmod (x0 + (↑nl : Int) - (1 : Int)) (↑nl : Int)) + al))
 (test (wd)
 (test (lim IntKind.i64 (x0 + (1 : Int)))
 (Kst (hd Try.f44 1) ([PV.loose (PA.mk (0) (1) al (0)) nl, PV.bool wd,
 PV.int IntKind.i64 (↑nl : Int), PV.unk, PV.unk,
 PV.own (1) (2) (List.length x1), PV.int IntKind.i64 (x0 + (1 : Int)), PV.unk,
 PV.loose (PA.mk (0) (1) al (0)) nl, PV.int IntKind.i64 x0,
 PV.int IntKind.i64 (↑nl : Int), PV.int IntKind.i64 (x0 + (↑nl : Int)),
 PV.int IntKind.i64 (x0 + (↑nl : Int) - (1 : Int)), PV.int IntKind.i64 (↑nl : Int),
 PV.int IntKind.i64 (Int.tmod (x0 + (↑nl : Int) - (1 : Int)) (↑nl : Int)),
 PV.ptr
 (PA.mk (0) (1) (Int.toNat (Int.tmod (x0 + (↑nl : Int) - (1 : Int)) (↑nl : Int)) + al)
 (0)),
 PV.tf true, PV.tf true, PV.tf true]) ([[(0, false, Blk.cols ml [Col.bool tl]),
 (1, true,
 Blk.cols (List.length x1)
 [Col.int IntKind.i64 fun (j : Nat) => (S.at' x1 j).1,
 Col.int IntKind.i64 fun (j : Nat) => (S.at' x1 j).2])]]) (2))
 (False))
 (Kst (hd Try.f44 2) ([PV.loose (PA.mk (0) (1) al (0)) nl, PV.bool wd,
 PV.int IntKind.i64 (↑nl : Int), PV.unk, PV.unk,
 PV.own (1) (2) (List.length x1), PV.int IntKind.i64 x0,
 PV.int IntKind.i64 (1 : Int), PV.loose (PA.mk (0) (1) al (0)) nl,
 PV.int IntKind.i64 x0, PV.int IntKind.i64 (↑nl : Int),
 PV.int IntKind.i64 (x0 + (↑nl : Int)), PV.int IntKind.i64 (x0 + (↑nl : Int) - (1 : Int)),
 PV.int IntKind.i64 (↑nl : Int),
 PV.int IntKind.i64 (Int.tmod (x0 + (↑nl : Int) - (1 : Int)) (↑nl : Int)),
 PV.ptr
 (PA.mk (0) (1) (Int.toNat (Int.tmod (x0 + (↑nl : Int) - (1 : Int)) (↑nl : Int)) + al)
 (0)),
 PV.tf true, PV.tf false, PV.tf false]) ([[(0, false, Blk.cols ml [Col.bool tl]),
 (1, true,
 Blk.cols (List.length x1)
 [Col.int IntKind.i64 fun (j : Nat) => (S.at' x1 j).1,
 Col.int IntKind.i64 fun (j : Nat) => (S.at' x1 j).2])]]) (2)))
 (test (wd)
 (Kst (hd Try.f44 2) ([PV.loose (PA.mk (0) (1) al (0)) nl, PV.bool wd,
 PV.int IntKind.i64 (↑nl : Int), PV.unk, PV.unk,
 PV.own (1) (2) (List.length x1), PV.int IntKind.i64 x0,
 PV.int IntKind.i64 (1 : Int), PV.loose (PA.mk (0) (1) al (0)) nl,
 PV.int IntKind.i64 x0, PV.int IntKind.i64 (↑nl : Int),
 PV.int IntKind.i64 (x0 + (↑nl : Int)), PV.int IntKind.i64 (x0 + (↑nl : Int) - (1 : Int)),
 PV.int IntKind.i64 (↑nl : Int),
 PV.int IntKind.i64 (Int.tmod (x0 + (↑nl : Int) - (1 : Int)) (↑nl : Int)),
 PV.ptr
 (PA.mk (0) (1) (Int.toNat (Int.tmod (x0 + (↑nl : Int) - (1 : Int)) (↑nl : Int)) + al)
 (0)),
 PV.tf false, PV.tf true, PV.tf false]) ([[(0, false, Blk.cols ml [Col.bool tl]),
 (1, true,
 Blk.cols (List.length x1)
 [Col.int IntKind.i64 fun (j : Nat) => (S.at' x1 j).1,
 Col.int IntKind.i64 fun (j : Nat) => (S.at' x1 j).2])]]) (2))
 (test (lim IntKind.i64 (x0 + (1 : Int)))
 (Kst (hd Try.f44 1) ([PV.loose (PA.mk (0) (1) al (0)) nl, PV.bool wd,
 PV.int IntKind.i64 (↑nl : Int), PV.unk, PV.unk,
 PV.own (1) (2) (List.length x1), PV.int IntKind.i64 (x0 + (1 : Int)), PV.unk,
 PV.loose (PA.mk (0) (1) al (0)) nl, PV.int IntKind.i64 x0,
 PV.int IntKind.i64 (↑nl : Int), PV.int IntKind.i64 (x0 + (↑nl : Int)),
 PV.int IntKind.i64 (x0 + (↑nl : Int) - (1 : Int)), PV.int IntKind.i64 (↑nl : Int),
 PV.int IntKind.i64 (Int.tmod (x0 + (↑nl : Int) - (1 : Int)) (↑nl : Int)),
 PV.ptr
 (PA.mk (0) (1) (Int.toNat (Int.tmod (x0 + (↑nl : Int) - (1 : Int)) (↑nl : Int)) + al)
 (0)),
 PV.tf false, PV.tf false, PV.tf true]) ([[(0, false, Blk.cols ml [Col.bool tl]),
 (1, true,
 Blk.cols (List.length x1)
 [Col.int IntKind.i64 fun (j : Nat) => (S.at' x1 j).1,
 Col.int IntKind.i64 fun (j : Nat) => (S.at' x1 j).2])]]) (2))
 (False))))
 (False))
 (False)))
 (False))
 (False))))
 (False))
 (False))
 (Kret (PV.own (1) (2) (List.length x1)) ([[(0, false, Blk.cols ml [Col.bool tl]),
 (1, true,
 Blk.cols (List.length x1)
 [Col.int IntKind.i64 fun (j : Nat) => (S.at' x1 j).1,
 Col.int IntKind.i64 fun (j : Nat) => (S.at' x1 j).2])]]) (2))
set_option maxRecDepth 100000 in
theorem t44_1 (test : Bool → Prop → Prop → Prop) (Kst : KS) (Kret : KR) (al nl ml : Nat) (tl : Nat → Bool) (wd : Bool) (x0 : Int) (x1 : List (Int × Int)) : run test Try.env true noX true 400 ⟨44, hd Try.f44 1, zipT [0, 1, 5, 6, 7, 8, 9, 10, 43, 44, 45, 46, 47, 48, 49, 50, 51, 52, 53] [PV.loose (PA.mk (0) (1) al (0)) nl, PV.bool wd,
 PV.int IntKind.i64 (↑nl : Int), PV.unk, PV.unk,
 PV.own (1) (2) (List.length x1), PV.int IntKind.i64 x0, PV.unk, PV.unk,
 PV.unk, PV.unk, PV.unk, PV.unk, PV.unk, PV.unk, PV.unk, PV.unk,
 PV.unk, PV.unk], [[(1, (true, Blk.cols (List.length x1)
 [Col.int IntKind.i64 fun (j : Nat) => (S.at' x1 j).1,
 Col.int IntKind.i64 fun (j : Nat) => (S.at' x1 j).2]))], [(0, (false, .cols ml [.bool tl]))]], 2⟩ (proj 1 [0, 1, 5, 6, 7, 8, 9, 10, 43, 44, 45, 46, 47, 48, 49, 50, 51, 52, 53] Kst Kret) =
  T44_1 test Kst Kret al nl ml tl wd x0 x1 := by kernel_rfl
noncomputable def T44_2 (test : Bool → Prop → Prop → Prop) (Kst : KS) (Kret : KR) (al nl ml : Nat) (tl : Nat → Bool) (wd : Bool) (x0 : Int) (x1 : Int) (x2 : Int) (x3 : Int) (x4 : Int) (x5 : Int) (x6 : Nat) (x7 : Bool) (x8 : Bool) (x9 : List (Int × Int)) : Prop :=
  test (lim IntKind.i64 (x0 + x1))
 (test (decide ((↑nl : Int) = (0 : Int)))
 (False)
 (test (decide ((0 : Int) ≤ Int.tmod (x0 + x1) (↑nl : Int) ∧ Int.tmod (x0 + x1) (↑nl : Int) < (↑nl : Int)))
 (test (decide (Int.toNat (Int.tmod (x0 + x1) (↑nl : Int)) + al < ml))
 (test (tl (Int.toNat (Int.tmod (x0 + x1) (↑nl : Int)) + al))
 (test (wd)
 (test (lim IntKind.i64 (x1 + (1 : Int)))
 (Kst (hd Try.f44 2) ([PV.loose (PA.mk (0) (1) al (0)) nl, PV.bool wd,
 PV.int IntKind.i64 (↑nl : Int), PV.unk, PV.unk,
 PV.own (1) (2) (List.length x9), PV.int IntKind.i64 x0,
 PV.int IntKind.i64 (x1 + (1 : Int)), PV.loose (PA.mk (0) (1) al (0)) nl,
 PV.int IntKind.i64 x2, PV.int IntKind.i64 (↑nl : Int), PV.int IntKind.i64 x3,
 PV.int IntKind.i64 x4, PV.int IntKind.i64 (↑nl : Int), PV.int IntKind.i64 x5,
 PV.ptr (PA.mk (0) (1) x6 (0)), PV.bool x7, PV.bool x8,
 PV.tf false]) ([[(0, false, Blk.cols ml [Col.bool tl]),
 (1, true,
 Blk.cols (List.length x9)
 [Col.int IntKind.i64 fun (j : Nat) => (S.at' x9 j).1,
 Col.int IntKind.i64 fun (j : Nat) => (S.at' x9 j).2])]]) (2))
 (False))
 (test (decide (List.length x9 + 1 ≤ 1000000))
 (test (decide (List.length x9 ≤ List.length x9))
 (test (true)
 (test (lim IntKind.i64 (x0 + (1 : Int)))
 (Kst (hd Try.f44 1) ([PV.loose (PA.mk (0) (1) al (0)) nl, PV.bool wd,
 PV.int IntKind.i64 (↑nl : Int), PV.unk, PV.unk,
 PV.own (3) (2) (List.length x9 + 1), PV.int IntKind.i64 (x0 + (1 : Int)),
 PV.int IntKind.i64 x1, PV.loose (PA.mk (0) (1) al (0)) nl,
 PV.int IntKind.i64 x2, PV.int IntKind.i64 (↑nl : Int), PV.int IntKind.i64 x3,
 PV.int IntKind.i64 x4, PV.int IntKind.i64 (↑nl : Int), PV.int IntKind.i64 x5,
 PV.ptr (PA.mk (0) (1) x6 (0)), PV.bool x7, PV.bool x8,
 PV.tf false]) ([[(0, false, Blk.cols ml [Col.bool tl]),
 (3, true,
 Blk.cols (List.length x9 + 1)
 [Col.int IntKind.i64 fun (j : Nat) =>
 bif Nat.blt j (List.length x9) then (S.at' x9 j).1 else x0,
 Col.int IntKind.i64 fun (j : Nat) =>
 bif Nat.blt j (List.length x9) then (S.at' x9 j).2 else x1])]]) (4))
 (False))
 (False))
 (False))
 (False)))
 (test (wd)
 (test (decide (List.length x9 + 1 ≤ 1000000))
 (test (decide (List.length x9 ≤ List.length x9))
 (test (true)
 (test (lim IntKind.i64 (x0 + (1 : Int)))
 (Kst (hd Try.f44 1) ([PV.loose (PA.mk (0) (1) al (0)) nl, PV.bool wd,
 PV.int IntKind.i64 (↑nl : Int), PV.unk, PV.unk,
 PV.own (3) (2) (List.length x9 + 1), PV.int IntKind.i64 (x0 + (1 : Int)),
 PV.int IntKind.i64 x1, PV.loose (PA.mk (0) (1) al (0)) nl,
 PV.int IntKind.i64 x2, PV.int IntKind.i64 (↑nl : Int), PV.int IntKind.i64 x3,
 PV.int IntKind.i64 x4, PV.int IntKind.i64 (↑nl : Int), PV.int IntKind.i64 x5,
 PV.ptr (PA.mk (0) (1) x6 (0)), PV.bool x7, PV.bool x8,
 PV.tf false]) ([[(0, false, Blk.cols ml [Col.bool tl]),
 (3, true,
 Blk.cols (List.length x9 + 1)
 [Col.int IntKind.i64 fun (j : Nat) =>
 bif Nat.blt j (List.length x9) then (S.at' x9 j).1 else x0,
 Col.int IntKind.i64 fun (j : Nat) =>
 bif Nat.blt j (List.length x9) then (S.at' x9 j).2 else x1])]]) (4))
 (False))
 (False))
 (False))
 (False))
 (test (lim IntKind.i64 (x1 + (1 : Int)))
 (Kst (hd Try.f44 2) ([PV.loose (PA.mk (0) (1) al (0)) nl, PV.bool wd,
 PV.int IntKind.i64 (↑nl : Int), PV.unk, PV.unk,
 PV.own (1) (2) (List.length x9), PV.int IntKind.i64 x0,
 PV.int IntKind.i64 (x1 + (1 : Int)), PV.loose (PA.mk (0) (1) al (0)) nl,
 PV.int IntKind.i64 x2, PV.int IntKind.i64 (↑nl : Int), PV.int IntKind.i64 x3,
 PV.int IntKind.i64 x4, PV.int IntKind.i64 (↑nl : Int), PV.int IntKind.i64 x5,
 PV.ptr (PA.mk (0) (1) x6 (0)), PV.bool x7, PV.bool x8,
 PV.tf false]) ([[(0, false, Blk.cols ml [Col.bool tl]),
 (1, true,
 Blk.cols (List.length x9)
 [Col.int IntKind.i64 fun (j : Nat) => (S.at' x9 j).1,
 Col.int IntKind.i64 fun (j : Nat) => (S.at' x9 j).2])]]) (2))
 (False))))
 (False))
 (False)))
 (False)
set_option maxRecDepth 100000 in
theorem t44_2 (test : Bool → Prop → Prop → Prop) (Kst : KS) (Kret : KR) (al nl ml : Nat) (tl : Nat → Bool) (wd : Bool) (x0 : Int) (x1 : Int) (x2 : Int) (x3 : Int) (x4 : Int) (x5 : Int) (x6 : Nat) (x7 : Bool) (x8 : Bool) (x9 : List (Int × Int)) : run test Try.env true noX true 400 ⟨44, hd Try.f44 2, zipT [0, 1, 5, 6, 7, 8, 9, 10, 43, 44, 45, 46, 47, 48, 49, 50, 51, 52, 53] [PV.loose (PA.mk (0) (1) al (0)) nl, PV.bool wd,
 PV.int IntKind.i64 (↑nl : Int), PV.unk, PV.unk,
 PV.own (1) (2) (List.length x9), PV.int IntKind.i64 x0, PV.int IntKind.i64 x1,
 PV.loose (PA.mk (0) (1) al (0)) nl, PV.int IntKind.i64 x2,
 PV.int IntKind.i64 (↑nl : Int), PV.int IntKind.i64 x3, PV.int IntKind.i64 x4,
 PV.int IntKind.i64 (↑nl : Int), PV.int IntKind.i64 x5,
 PV.ptr (PA.mk (0) (1) x6 (0)), PV.bool x7, PV.bool x8,
 PV.tf false], [[(1, (true, Blk.cols (List.length x9)
 [Col.int IntKind.i64 fun (j : Nat) => (S.at' x9 j).1,
 Col.int IntKind.i64 fun (j : Nat) => (S.at' x9 j).2]))], [(0, (false, .cols ml [.bool tl]))]], 2⟩ (proj 1 [0, 1, 5, 6, 7, 8, 9, 10, 43, 44, 45, 46, 47, 48, 49, 50, 51, 52, 53] Kst Kret) =
  T44_2 test Kst Kret al nl ml tl wd x0 x1 x2 x3 x4 x5 x6 x7 x8 x9 := by kernel_rfl
attribute [local irreducible] Int.subNatNat in
set_option maxRecDepth 100000 in
theorem be44 (al nl ml : Nat) (tl : Nat → Bool) (wd : Bool) (Kst : KS) (Kret : KR) (x : St44 ⊕ Rt44) (hS : HS 1 400 ((I44 al nl ml tl wd)) Kst x) (hR : HR 1 400 ((V44 al nl ml tl wd)) (fun r => [newL (1 + 1) ((N44 al nl ml tl wd) r) ++ [(0, (false, .cols ml [.bool tl]))]]) Kret x) (h : (some (.inl (.h0 (true) ((0 : Int)))) : Option (St44 ⊕ Rt44)) = some x) : Te44 cond Kst Kret al nl ml tl wd := by
  unfold Te44
  exact stop_at hS _ h (fun n => n) rfl rfl rfl ⟨(rn_loose (use_lo rfl) rfl rfl rfl), ⟨(rn_bool rfl), ⟨(rn_int rfl), ⟨(rn_bool_tf rfl), ⟨(rn_int rfl), ⟨(rn_unk _), ⟨(rn_unk _), ⟨(rn_unk _), ⟨(rn_unk _), ⟨(rn_unk _), ⟨(rn_unk _), ⟨(rn_unk _), ⟨(rn_unk _), ⟨(rn_unk _), ⟨(rn_unk _), ⟨(rn_unk _), ⟨(rn_unk _), ⟨(rn_unk _), ⟨(rn_unk _), trivial⟩⟩⟩⟩⟩⟩⟩⟩⟩⟩⟩⟩⟩⟩⟩⟩⟩⟩⟩ rfl (entl_bor (use_lo rfl) rfl rfl entl_nil)
attribute [local irreducible] Int.subNatNat in
set_option maxRecDepth 100000 in
theorem b44_0 (al nl ml : Nat) (tl : Nat → Bool) (wd : Bool) (Kst : KS) (Kret : KR) (x : St44 ⊕ Rt44) (hS : HS 1 400 ((I44 al nl ml tl wd)) Kst x) (hR : HR 1 400 ((V44 al nl ml tl wd)) (fun r => [newL (1 + 1) ((N44 al nl ml tl wd) r) ++ [(0, (false, .cols ml [.bool tl]))]]) Kret x) (x0 : Bool) (x1 : Int) (h : (bif (decide (x1 < (↑nl : Int)))
 then (bif (x0)
 then (bif (decide ((0 : Int) ≤ x1 ∧ x1 < (↑nl : Int)))
 then (bif (decide (Int.toNat x1 + al < ml))
 then (bif (tl (Int.toNat x1 + al))
 then (bif (wd)
 then (bif (lim IntKind.i64 (x1 + (1 : Int)))
 then (some (.inl (.h0 (true) (x1 + (1 : Int)))))
 else (none))
 else (bif (lim IntKind.i64 (x1 + (1 : Int)))
 then (some (.inl (.h0 (false) (x1 + (1 : Int)))))
 else (none)))
 else (bif (wd)
 then (bif (lim IntKind.i64 (x1 + (1 : Int)))
 then (some (.inl (.h0 (false) (x1 + (1 : Int)))))
 else (none))
 else (bif (lim IntKind.i64 (x1 + (1 : Int)))
 then (some (.inl (.h0 (true) (x1 + (1 : Int)))))
 else (none))))
 else (none))
 else (none))
 else (bif (lim IntKind.i64 (x1 + (1 : Int)))
 then (some (.inl (.h0 (false) (x1 + (1 : Int)))))
 else (none)))
 else (bif (x0)
 then (some (.inr ([((0 : Int), (↑nl : Int))])))
 else (some (.inl (.h1 ((0 : Int)) ([]))))) : Option (St44 ⊕ Rt44)) = some x) : T44_0 cond Kst Kret al nl ml tl wd x0 x1 := by
  unfold T44_0
  exact bif_split h
   (fun c0 h => bif_split h
   (fun c1 h => bif_split h
   (fun c2 h => bif_split h
   (fun c3 h => bif_split h
   (fun c4 h => bif_split h
   (fun c5 h => bif_split h
   (fun c6 h => stop_at hS _ h (fun n => n) rfl rfl rfl ⟨(rn_loose (use_lo rfl) rfl rfl rfl), ⟨(rn_bool rfl), ⟨(rn_int rfl), ⟨(rn_bool_tf rfl), ⟨(rn_int rfl), ⟨(rn_unk _), ⟨(rn_unk _), ⟨(rn_unk _), ⟨(rn_unk _), ⟨(rn_unk _), ⟨(rn_unk _), ⟨(rn_unk _), ⟨(rn_unk _), ⟨(rn_unk _), ⟨(rn_unk _), ⟨(rn_unk _), ⟨(rn_unk _), ⟨(rn_unk _), ⟨(rn_unk _), trivial⟩⟩⟩⟩⟩⟩⟩⟩⟩⟩⟩⟩⟩⟩⟩⟩⟩⟩⟩ rfl (entl_bor (use_lo rfl) rfl rfl entl_nil))
   (fun c6 h => no_some h))
   (fun c5 h => bif_split h
   (fun c6 h => stop_at hS _ h (fun n => n) rfl rfl rfl ⟨(rn_loose (use_lo rfl) rfl rfl rfl), ⟨(rn_bool rfl), ⟨(rn_int rfl), ⟨(rn_bool_tf rfl), ⟨(rn_int rfl), ⟨(rn_unk _), ⟨(rn_unk _), ⟨(rn_unk _), ⟨(rn_unk _), ⟨(rn_unk _), ⟨(rn_unk _), ⟨(rn_unk _), ⟨(rn_unk _), ⟨(rn_unk _), ⟨(rn_unk _), ⟨(rn_unk _), ⟨(rn_unk _), ⟨(rn_unk _), ⟨(rn_unk _), trivial⟩⟩⟩⟩⟩⟩⟩⟩⟩⟩⟩⟩⟩⟩⟩⟩⟩⟩⟩ rfl (entl_bor (use_lo rfl) rfl rfl entl_nil))
   (fun c6 h => no_some h)))
   (fun c4 h => bif_split h
   (fun c5 h => bif_split h
   (fun c6 h => stop_at hS _ h (fun n => n) rfl rfl rfl ⟨(rn_loose (use_lo rfl) rfl rfl rfl), ⟨(rn_bool rfl), ⟨(rn_int rfl), ⟨(rn_bool_tf rfl), ⟨(rn_int rfl), ⟨(rn_unk _), ⟨(rn_unk _), ⟨(rn_unk _), ⟨(rn_unk _), ⟨(rn_unk _), ⟨(rn_unk _), ⟨(rn_unk _), ⟨(rn_unk _), ⟨(rn_unk _), ⟨(rn_unk _), ⟨(rn_unk _), ⟨(rn_unk _), ⟨(rn_unk _), ⟨(rn_unk _), trivial⟩⟩⟩⟩⟩⟩⟩⟩⟩⟩⟩⟩⟩⟩⟩⟩⟩⟩⟩ rfl (entl_bor (use_lo rfl) rfl rfl entl_nil))
   (fun c6 h => no_some h))
   (fun c5 h => bif_split h
   (fun c6 h => stop_at hS _ h (fun n => n) rfl rfl rfl ⟨(rn_loose (use_lo rfl) rfl rfl rfl), ⟨(rn_bool rfl), ⟨(rn_int rfl), ⟨(rn_bool_tf rfl), ⟨(rn_int rfl), ⟨(rn_unk _), ⟨(rn_unk _), ⟨(rn_unk _), ⟨(rn_unk _), ⟨(rn_unk _), ⟨(rn_unk _), ⟨(rn_unk _), ⟨(rn_unk _), ⟨(rn_unk _), ⟨(rn_unk _), ⟨(rn_unk _), ⟨(rn_unk _), ⟨(rn_unk _), ⟨(rn_unk _), trivial⟩⟩⟩⟩⟩⟩⟩⟩⟩⟩⟩⟩⟩⟩⟩⟩⟩⟩⟩ rfl (entl_bor (use_lo rfl) rfl rfl entl_nil))
   (fun c6 h => no_some h))))
   (fun c3 h => no_some h))
   (fun c2 h => no_some h))
   (fun c1 h => bif_split h
   (fun c2 h => stop_at hS _ h (fun n => n) rfl rfl rfl ⟨(rn_loose (use_lo rfl) rfl rfl rfl), ⟨(rn_bool rfl), ⟨(rn_int rfl), ⟨(rn_bool_tf rfl), ⟨(rn_int rfl), ⟨(rn_unk _), ⟨(rn_unk _), ⟨(rn_unk _), ⟨(rn_unk _), ⟨(rn_unk _), ⟨(rn_unk _), ⟨(rn_unk _), ⟨(rn_unk _), ⟨(rn_unk _), ⟨(rn_unk _), ⟨(rn_unk _), ⟨(rn_unk _), ⟨(rn_unk _), ⟨(rn_unk _), trivial⟩⟩⟩⟩⟩⟩⟩⟩⟩⟩⟩⟩⟩⟩⟩⟩⟩⟩⟩ rfl (entl_bor (use_lo rfl) rfl rfl entl_nil))
   (fun c2 h => no_some h)))
   (fun c0 h => bif_split h
   (fun c1 h => ret_at hR _ h (fun n => bif Nat.beq n 2 then 1 else n) rfl rfl rfl (rn_own (use_own rfl) rfl rfl) rfl (entl_b (use_own rfl) rfl (by simp) (rb_lit (fun j hj i hi => (match j, hj with | 0, _ => (match i, hi with | 0, _ => ⟨_, rfl, rn_int rfl⟩ | 1, _ => ⟨_, rfl, rn_int rfl⟩ | _ + 2, h => absurd h (by simp [lenc])) | _ + 1, h => absurd h (by simp)))) (entl_bor (use_lo rfl) rfl rfl entl_nil)))
   (fun c1 h => stop_at hS _ h (fun n => bif Nat.beq n 1 then 399 else n) rfl rfl rfl ⟨(rn_loose (use_lo rfl) rfl rfl rfl), ⟨(rn_bool rfl), ⟨(rn_int rfl), ⟨(rn_unk _), ⟨(rn_unk _), ⟨(rn_own_nils rfl), ⟨(rn_int rfl), ⟨(rn_unk _), ⟨(rn_unk _), ⟨(rn_unk _), ⟨(rn_unk _), ⟨(rn_unk _), ⟨(rn_unk _), ⟨(rn_unk _), ⟨(rn_unk _), ⟨(rn_unk _), ⟨(rn_unk _), ⟨(rn_unk _), ⟨(rn_unk _), trivial⟩⟩⟩⟩⟩⟩⟩⟩⟩⟩⟩⟩⟩⟩⟩⟩⟩⟩⟩ rfl (entl_fresh (use_own rfl) (fresh_ok rfl) (entl_bor (use_lo rfl) rfl rfl entl_nil))))
attribute [local irreducible] Int.subNatNat in
set_option maxRecDepth 100000 in
theorem b44_1 (al nl ml : Nat) (tl : Nat → Bool) (wd : Bool) (Kst : KS) (Kret : KR) (x : St44 ⊕ Rt44) (hS : HS 1 400 ((I44 al nl ml tl wd)) Kst x) (hR : HR 1 400 ((V44 al nl ml tl wd)) (fun r => [newL (1 + 1) ((N44 al nl ml tl wd) r) ++ [(0, (false, .cols ml [.bool tl]))]]) Kret x) (x0 : Int) (x1 : List (Int × Int)) (h : (bif (decide (x0 < (↑nl : Int)))
 then (bif (decide ((0 : Int) ≤ x0 ∧ x0 < (↑nl : Int)))
 then (bif (decide (Int.toNat x0 + al < ml))
 then (bif (tl (Int.toNat x0 + al))
 then (bif (wd)
 then (bif (lim IntKind.i64 (x0 + (↑nl : Int)))
 then (bif (lim IntKind.i64 (x0 + (↑nl : Int) - (1 : Int)))
 then (bif (decide ((↑nl : Int) = (0 : Int)))
 then (none)
 else (bif (decide
 ((0 : Int) ≤ Int.tmod (x0 + (↑nl : Int) - (1 : Int)) (↑nl : Int) ∧
 Int.tmod (x0 + (↑nl : Int) - (1 : Int)) (↑nl : Int) < (↑nl : Int)))
 then (bif (decide (Int.toNat (Int.tmod (x0 + (↑nl : Int) - (1 : Int)) (↑nl : Int)) + al < ml))
 then (bif (tl (Int.toNat (Int.tmod (x0 + (↑nl : Int) - (1 : Int)) (↑nl : Int)) + al))
 then (bif (lim IntKind.i64 (x0 + (1 : Int)))
 then (some (.inl (.h1 (x0 + (1 : Int)) (x1))))
 else (none))
 else (some (.inl (.h2 (x0) ((1 : Int)) (x0) (x0 + (↑nl : Int)) (x0 + (↑nl : Int) - (1 : Int)) (Int.tmod (x0 + (↑nl : Int) - (1 : Int)) (↑nl : Int)) (Int.toNat (Int.tmod (x0 + (↑nl : Int) - (1 : Int)) (↑nl : Int)) + al) (false) (true) (x1)))))
 else (none))
 else (none)))
 else (none))
 else (none))
 else (bif (lim IntKind.i64 (x0 + (1 : Int)))
 then (some (.inl (.h1 (x0 + (1 : Int)) (x1))))
 else (none)))
 else (bif (wd)
 then (bif (lim IntKind.i64 (x0 + (1 : Int)))
 then (some (.inl (.h1 (x0 + (1 : Int)) (x1))))
 else (none))
 else (bif (lim IntKind.i64 (x0 + (↑nl : Int)))
 then (bif (lim IntKind.i64 (x0 + (↑nl : Int) - (1 : Int)))
 then (bif (decide ((↑nl : Int) = (0 : Int)))
 then (none)
 else (bif (decide
 ((0 : Int) ≤ Int.tmod (x0 + (↑nl : Int) - (1 : Int)) (↑nl : Int) ∧
 Int.tmod (x0 + (↑nl : Int) - (1 : Int)) (↑nl : Int) < (↑nl : Int)))
 then (bif (decide (Int.toNat (Int.tmod (x0 + (↑nl : Int) - (1 : Int)) (↑nl : Int)) + al < ml))
 then (bif (tl (Int.toNat (Int.tmod (x0 + (↑nl : Int) - (1 : Int)) (↑nl : Int)) + al))
 then (some (.inl (.h2 (x0) ((1 : Int)) (x0) (x0 + (↑nl : Int)) (x0 + (↑nl : Int) - (1 : Int)) (Int.tmod (x0 + (↑nl : Int) - (1 : Int)) (↑nl : Int)) (Int.toNat (Int.tmod (x0 + (↑nl : Int) - (1 : Int)) (↑nl : Int)) + al) (true) (false) (x1))))
 else (bif (lim IntKind.i64 (x0 + (1 : Int)))
 then (some (.inl (.h1 (x0 + (1 : Int)) (x1))))
 else (none)))
 else (none))
 else (none)))
 else (none))
 else (none))))
 else (none))
 else (none))
 else (some (.inr (x1))) : Option (St44 ⊕ Rt44)) = some x) : T44_1 cond Kst Kret al nl ml tl wd x0 x1 := by
  unfold T44_1
  exact bif_split h
   (fun c0 h => bif_split h
   (fun c1 h => bif_split h
   (fun c2 h => bif_split h
   (fun c3 h => bif_split h
   (fun c4 h => bif_split h
   (fun c5 h => bif_split h
   (fun c6 h => bif_split h
   (fun c7 h => no_some h)
   (fun c7 h => bif_split h
   (fun c8 h => bif_split h
   (fun c9 h => bif_split h
   (fun c10 h => cond_yes c4 (bif_split h
   (fun c11 h => stop_at hS _ h (fun n => bif Nat.beq n 1 then 1 else n) rfl rfl rfl ⟨(rn_loose (use_lo rfl) rfl rfl rfl), ⟨(rn_bool rfl), ⟨(rn_int rfl), ⟨(rn_unk _), ⟨(rn_unk _), ⟨(rn_own (use_own rfl) rfl rfl), ⟨(rn_int rfl), ⟨(rn_unk _), ⟨(rn_unk _), ⟨(rn_unk _), ⟨(rn_unk _), ⟨(rn_unk _), ⟨(rn_unk _), ⟨(rn_unk _), ⟨(rn_unk _), ⟨(rn_unk _), ⟨(rn_unk _), ⟨(rn_unk _), ⟨(rn_unk _), trivial⟩⟩⟩⟩⟩⟩⟩⟩⟩⟩⟩⟩⟩⟩⟩⟩⟩⟩⟩ rfl (entl_new (use_own rfl) rfl (Nat.le_of_eq rfl) (rcs_int (fun _ _ => rfl) (rcs_int (fun _ _ => rfl) rcs_nil)) (entl_bor (use_lo rfl) rfl rfl entl_nil)))
   (fun c11 h => no_some h)))
   (fun c10 h => cond_yes c4 (stop_at hS _ h (fun n => bif Nat.beq n 1 then 1 else n) rfl rfl rfl ⟨(rn_loose (use_lo rfl) rfl rfl rfl), ⟨(rn_bool rfl), ⟨(rn_int rfl), ⟨(rn_unk _), ⟨(rn_unk _), ⟨(rn_own (use_own rfl) rfl rfl), ⟨(rn_int rfl), ⟨(rn_int rfl), ⟨(rn_loose (use_lo rfl) rfl rfl rfl), ⟨(rn_int rfl), ⟨(rn_int rfl), ⟨(rn_int rfl), ⟨(rn_int rfl), ⟨(rn_int rfl), ⟨(rn_int rfl), ⟨(rn_ptr (use_lo rfl) rfl rfl), ⟨(rn_bool_tf rfl), ⟨(rn_bool_tf rfl), ⟨(rn_tf rfl), trivial⟩⟩⟩⟩⟩⟩⟩⟩⟩⟩⟩⟩⟩⟩⟩⟩⟩⟩⟩ rfl (entl_new (use_own rfl) rfl (Nat.le_of_eq rfl) (rcs_int (fun _ _ => rfl) (rcs_int (fun _ _ => rfl) rcs_nil)) (entl_bor (use_lo rfl) rfl rfl entl_nil)))))
   (fun c9 h => no_some h))
   (fun c8 h => no_some h)))
   (fun c6 h => no_some h))
   (fun c5 h => no_some h))
   (fun c4 h => bif_split h
   (fun c5 h => stop_at hS _ h (fun n => bif Nat.beq n 1 then 1 else n) rfl rfl rfl ⟨(rn_loose (use_lo rfl) rfl rfl rfl), ⟨(rn_bool rfl), ⟨(rn_int rfl), ⟨(rn_unk _), ⟨(rn_unk _), ⟨(rn_own (use_own rfl) rfl rfl), ⟨(rn_int rfl), ⟨(rn_unk _), ⟨(rn_unk _), ⟨(rn_unk _), ⟨(rn_unk _), ⟨(rn_unk _), ⟨(rn_unk _), ⟨(rn_unk _), ⟨(rn_unk _), ⟨(rn_unk _), ⟨(rn_unk _), ⟨(rn_unk _), ⟨(rn_unk _), trivial⟩⟩⟩⟩⟩⟩⟩⟩⟩⟩⟩⟩⟩⟩⟩⟩⟩⟩⟩ rfl (entl_new (use_own rfl) rfl (Nat.le_of_eq rfl) (rcs_int (fun _ _ => rfl) (rcs_int (fun _ _ => rfl) rcs_nil)) (entl_bor (use_lo rfl) rfl rfl entl_nil)))
   (fun c5 h => no_some h)))
   (fun c3 h => bif_split h
   (fun c4 h => bif_split h
   (fun c5 h => stop_at hS _ h (fun n => bif Nat.beq n 1 then 1 else n) rfl rfl rfl ⟨(rn_loose (use_lo rfl) rfl rfl rfl), ⟨(rn_bool rfl), ⟨(rn_int rfl), ⟨(rn_unk _), ⟨(rn_unk _), ⟨(rn_own (use_own rfl) rfl rfl), ⟨(rn_int rfl), ⟨(rn_unk _), ⟨(rn_unk _), ⟨(rn_unk _), ⟨(rn_unk _), ⟨(rn_unk _), ⟨(rn_unk _), ⟨(rn_unk _), ⟨(rn_unk _), ⟨(rn_unk _), ⟨(rn_unk _), ⟨(rn_unk _), ⟨(rn_unk _), trivial⟩⟩⟩⟩⟩⟩⟩⟩⟩⟩⟩⟩⟩⟩⟩⟩⟩⟩⟩ rfl (entl_new (use_own rfl) rfl (Nat.le_of_eq rfl) (rcs_int (fun _ _ => rfl) (rcs_int (fun _ _ => rfl) rcs_nil)) (entl_bor (use_lo rfl) rfl rfl entl_nil)))
   (fun c5 h => no_some h))
   (fun c4 h => bif_split h
   (fun c5 h => bif_split h
   (fun c6 h => bif_split h
   (fun c7 h => no_some h)
   (fun c7 h => bif_split h
   (fun c8 h => bif_split h
   (fun c9 h => bif_split h
   (fun c10 h => cond_no c4 (stop_at hS _ h (fun n => bif Nat.beq n 1 then 1 else n) rfl rfl rfl ⟨(rn_loose (use_lo rfl) rfl rfl rfl), ⟨(rn_bool rfl), ⟨(rn_int rfl), ⟨(rn_unk _), ⟨(rn_unk _), ⟨(rn_own (use_own rfl) rfl rfl), ⟨(rn_int rfl), ⟨(rn_int rfl), ⟨(rn_loose (use_lo rfl) rfl rfl rfl), ⟨(rn_int rfl), ⟨(rn_int rfl), ⟨(rn_int rfl), ⟨(rn_int rfl), ⟨(rn_int rfl), ⟨(rn_int rfl), ⟨(rn_ptr (use_lo rfl) rfl rfl), ⟨(rn_bool_tf rfl), ⟨(rn_bool_tf rfl), ⟨(rn_tf rfl), trivial⟩⟩⟩⟩⟩⟩⟩⟩⟩⟩⟩⟩⟩⟩⟩⟩⟩⟩⟩ rfl (entl_new (use_own rfl) rfl (Nat.le_of_eq rfl) (rcs_int (fun _ _ => rfl) (rcs_int (fun _ _ => rfl) rcs_nil)) (entl_bor (use_lo rfl) rfl rfl entl_nil))))
   (fun c10 h => cond_no c4 (bif_split h
   (fun c11 h => stop_at hS _ h (fun n => bif Nat.beq n 1 then 1 else n) rfl rfl rfl ⟨(rn_loose (use_lo rfl) rfl rfl rfl), ⟨(rn_bool rfl), ⟨(rn_int rfl), ⟨(rn_unk _), ⟨(rn_unk _), ⟨(rn_own (use_own rfl) rfl rfl), ⟨(rn_int rfl), ⟨(rn_unk _), ⟨(rn_unk _), ⟨(rn_unk _), ⟨(rn_unk _), ⟨(rn_unk _), ⟨(rn_unk _), ⟨(rn_unk _), ⟨(rn_unk _), ⟨(rn_unk _), ⟨(rn_unk _), ⟨(rn_unk _), ⟨(rn_unk _), trivial⟩⟩⟩⟩⟩⟩⟩⟩⟩⟩⟩⟩⟩⟩⟩⟩⟩⟩⟩ rfl (entl_new (use_own rfl) rfl (Nat.le_of_eq rfl) (rcs_int (fun _ _ => rfl) (rcs_int (fun _ _ => rfl) rcs_nil)) (entl_bor (use_lo rfl) rfl rfl entl_nil)))
   (fun c11 h => no_some h))))
   (fun c9 h => no_some h))
   (fun c8 h => no_some h)))
   (fun c6 h => no_some h))
   (fun c5 h => no_some h))))
   (fun c2 h => no_some h))
   (fun c1 h => no_some h))
   (fun c0 h => ret_at hR _ h (fun n => bif Nat.beq n 2 then 1 else n) rfl rfl rfl (rn_own (use_own rfl) rfl rfl) rfl (entl_new (use_own rfl) rfl (Nat.le_of_eq rfl) (rcs_int (fun _ _ => rfl) (rcs_int (fun _ _ => rfl) rcs_nil)) (entl_bor (use_lo rfl) rfl rfl entl_nil)))
attribute [local irreducible] Int.subNatNat in
set_option maxRecDepth 100000 in
theorem b44_2 (al nl ml : Nat) (tl : Nat → Bool) (wd : Bool) (Kst : KS) (Kret : KR) (x : St44 ⊕ Rt44) (hS : HS 1 400 ((I44 al nl ml tl wd)) Kst x) (hR : HR 1 400 ((V44 al nl ml tl wd)) (fun r => [newL (1 + 1) ((N44 al nl ml tl wd) r) ++ [(0, (false, .cols ml [.bool tl]))]]) Kret x) (x0 : Int) (x1 : Int) (x2 : Int) (x3 : Int) (x4 : Int) (x5 : Int) (x6 : Nat) (x7 : Bool) (x8 : Bool) (x9 : List (Int × Int)) (h : (bif (lim IntKind.i64 (x0 + x1))
 then (bif (decide ((↑nl : Int) = (0 : Int)))
 then (none)
 else (bif (decide ((0 : Int) ≤ Int.tmod (x0 + x1) (↑nl : Int) ∧ Int.tmod (x0 + x1) (↑nl : Int) < (↑nl : Int)))
 then (bif (decide (Int.toNat (Int.tmod (x0 + x1) (↑nl : Int)) + al < ml))
 then (bif (tl (Int.toNat (Int.tmod (x0 + x1) (↑nl : Int)) + al))
 then (bif (wd)
 then (bif (lim IntKind.i64 (x1 + (1 : Int)))
 then (some (.inl (.h2 (x0) (x1 + (1 : Int)) (x2) (x3) (x4) (x5) (x6) (x7) (x8) (x9))))
 else (none))
 else (bif (decide (List.length x9 + 1 ≤ 1000000))
 then (bif (decide (List.length x9 ≤ List.length x9))
 then (bif (lim IntKind.i64 (x0 + (1 : Int)))
 then (some (.inl (.h1 (x0 + (1 : Int)) (S.snoc x9 (x0, x1)))))
 else (none))
 else (none))
 else (none)))
 else (bif (wd)
 then (bif (decide (List.length x9 + 1 ≤ 1000000))
 then (bif (decide (List.length x9 ≤ List.length x9))
 then (bif (lim IntKind.i64 (x0 + (1 : Int)))
 then (some (.inl (.h1 (x0 + (1 : Int)) (S.snoc x9 (x0, x1)))))
 else (none))
 else (none))
 else (none))
 else (bif (lim IntKind.i64 (x1 + (1 : Int)))
 then (some (.inl (.h2 (x0) (x1 + (1 : Int)) (x2) (x3) (x4) (x5) (x6) (x7) (x8) (x9))))
 else (none))))
 else (none))
 else (none)))
 else (none) : Option (St44 ⊕ Rt44)) = some x) : T44_2 cond Kst Kret al nl ml tl wd x0 x1 x2 x3 x4 x5 x6 x7 x8 x9 := by
  unfold T44_2
  exact bif_split h
   (fun c0 h => bif_split h
   (fun c1 h => no_some h)
   (fun c1 h => bif_split h
   (fun c2 h => bif_split h
   (fun c3 h => bif_split h
   (fun c4 h => bif_split h
   (fun c5 h => bif_split h
   (fun c6 h => stop_at hS _ h (fun n => bif Nat.beq n 1 then 1 else n) rfl rfl rfl ⟨(rn_loose (use_lo rfl) rfl rfl rfl), ⟨(rn_bool rfl), ⟨(rn_int rfl), ⟨(rn_unk _), ⟨(rn_unk _), ⟨(rn_own (use_own rfl) rfl rfl), ⟨(rn_int rfl), ⟨(rn_int rfl), ⟨(rn_loose (use_lo rfl) rfl rfl rfl), ⟨(rn_int rfl), ⟨(rn_int rfl), ⟨(rn_int rfl), ⟨(rn_int rfl), ⟨(rn_int rfl), ⟨(rn_int rfl), ⟨(rn_ptr (use_lo rfl) rfl rfl), ⟨(rn_bool rfl), ⟨(rn_bool rfl), ⟨(rn_tf rfl), trivial⟩⟩⟩⟩⟩⟩⟩⟩⟩⟩⟩⟩⟩⟩⟩⟩⟩⟩⟩ rfl (entl_new (use_own rfl) rfl (Nat.le_of_eq rfl) (rcs_int (fun _ _ => rfl) (rcs_int (fun _ _ => rfl) rcs_nil)) (entl_bor (use_lo rfl) rfl rfl entl_nil)))
   (fun c6 h => no_some h))
   (fun c5 h => bif_split h
   (fun c6 h => bif_split h
   (fun c7 h => cond_yes rfl (bif_split h
   (fun c8 h => stop_at hS _ h (fun n => bif Nat.beq n 1 then 3 else n) rfl rfl rfl ⟨(rn_loose (use_lo rfl) rfl rfl rfl), ⟨(rn_bool rfl), ⟨(rn_int rfl), ⟨(rn_unk _), ⟨(rn_unk _), ⟨(rn_own (use_own rfl) rfl (snoc_len' rfl)), ⟨(rn_int rfl), ⟨(rn_unk _), ⟨(rn_unk _), ⟨(rn_unk _), ⟨(rn_unk _), ⟨(rn_unk _), ⟨(rn_unk _), ⟨(rn_unk _), ⟨(rn_unk _), ⟨(rn_unk _), ⟨(rn_unk _), ⟨(rn_unk _), ⟨(rn_unk _), trivial⟩⟩⟩⟩⟩⟩⟩⟩⟩⟩⟩⟩⟩⟩⟩⟩⟩⟩⟩ rfl (entl_new (use_own rfl) rfl (Nat.le_of_eq (snoc_len' rfl)) (rcs_int (col_snoc' (fun (t : Int × Int) => t.1) rfl (fun _ _ => rfl)) (rcs_int (col_snoc' (fun (t : Int × Int) => t.2) rfl (fun _ _ => rfl)) rcs_nil)) (entl_bor (use_lo rfl) rfl rfl entl_nil)))
   (fun c8 h => no_some h)))
   (fun c7 h => no_some h))
   (fun c6 h => no_some h)))
   (fun c4 h => bif_split h
   (fun c5 h => bif_split h
   (fun c6 h => bif_split h
   (fun c7 h => cond_yes rfl (bif_split h
   (fun c8 h => stop_at hS _ h (fun n => bif Nat.beq n 1 then 3 else n) rfl rfl rfl ⟨(rn_loose (use_lo rfl) rfl rfl rfl), ⟨(rn_bool rfl), ⟨(rn_int rfl), ⟨(rn_unk _), ⟨(rn_unk _), ⟨(rn_own (use_own rfl) rfl (snoc_len' rfl)), ⟨(rn_int rfl), ⟨(rn_unk _), ⟨(rn_unk _), ⟨(rn_unk _), ⟨(rn_unk _), ⟨(rn_unk _), ⟨(rn_unk _), ⟨(rn_unk _), ⟨(rn_unk _), ⟨(rn_unk _), ⟨(rn_unk _), ⟨(rn_unk _), ⟨(rn_unk _), trivial⟩⟩⟩⟩⟩⟩⟩⟩⟩⟩⟩⟩⟩⟩⟩⟩⟩⟩⟩ rfl (entl_new (use_own rfl) rfl (Nat.le_of_eq (snoc_len' rfl)) (rcs_int (col_snoc' (fun (t : Int × Int) => t.1) rfl (fun _ _ => rfl)) (rcs_int (col_snoc' (fun (t : Int × Int) => t.2) rfl (fun _ _ => rfl)) rcs_nil)) (entl_bor (use_lo rfl) rfl rfl entl_nil)))
   (fun c8 h => no_some h)))
   (fun c7 h => no_some h))
   (fun c6 h => no_some h))
   (fun c5 h => bif_split h
   (fun c6 h => stop_at hS _ h (fun n => bif Nat.beq n 1 then 1 else n) rfl rfl rfl ⟨(rn_loose (use_lo rfl) rfl rfl rfl), ⟨(rn_bool rfl), ⟨(rn_int rfl), ⟨(rn_unk _), ⟨(rn_unk _), ⟨(rn_own (use_own rfl) rfl rfl), ⟨(rn_int rfl), ⟨(rn_int rfl), ⟨(rn_loose (use_lo rfl) rfl rfl rfl), ⟨(rn_int rfl), ⟨(rn_int rfl), ⟨(rn_int rfl), ⟨(rn_int rfl), ⟨(rn_int rfl), ⟨(rn_int rfl), ⟨(rn_ptr (use_lo rfl) rfl rfl), ⟨(rn_bool rfl), ⟨(rn_bool rfl), ⟨(rn_tf rfl), trivial⟩⟩⟩⟩⟩⟩⟩⟩⟩⟩⟩⟩⟩⟩⟩⟩⟩⟩⟩ rfl (entl_new (use_own rfl) rfl (Nat.le_of_eq rfl) (rcs_int (fun _ _ => rfl) (rcs_int (fun _ _ => rfl) rcs_nil)) (entl_bor (use_lo rfl) rfl rfl entl_nil)))
   (fun c6 h => no_some h))))
   (fun c3 h => no_some h))
   (fun c2 h => no_some h)))
   (fun c0 h => no_some h)
theorem a44 (al nl ml : Nat) (tl : Nat → Bool) (wd : Bool) {r : Rt44} (h : Goes ((q44 al nl ml tl wd)) ((p44 al nl ml tl wd)) r) : CallR Try.prog 44 [.loose ⟨0, 1, al, 0⟩ nl, .bool wd] [[(0, (false, .cols ml [.bool tl]))]] 1 ((V44 al nl ml tl wd) r) ((fun r => [newL (1 + 1) ((N44 al nl ml tl wd) r) ++ [(0, (false, .cols ml [.bool tl]))]]) r) 400 ∧ ∃ F, Try.prog.funcs[44]? = some F ∧ F.body.isSome = true ∧ (F.name == "runtime.NumGoroutine") = false := by
  refine dec_calls (f := 44) (lo := 1) (hi := 400) (H := [[(0, (false, .cols ml [.bool tl]))]]) (args := [.loose ⟨0, 1, al, 0⟩ nl, .bool wd]) Try.envOk Try.mixed noX_ok ((I44 al nl ml tl wd)) ((V44 al nl ml tl wd)) (fun r => [newL (1 + 1) ((N44 al nl ml tl wd) r) ++ [(0, (false, .cols ml [.bool tl]))]]) (fn := mkFn Try.f44) (ts := [0, 1, 5, 6, 7, 8, 9, 10, 43, 44, 45, 46, 47, 48, 49, 50, 51, 52, 53]) (n := 400) rfl (by decide) (by simp) (names_of rfl) ?_ ?_ ?_ h
  · intro s; cases s <;> exact ⟨hd_ok _ _, by simp [I44], names_of rfl, Nat.le_of_ble_eq_true rfl⟩
  · intro Kst Kret x hS hR h
    exact Holds.eq (te44 cond Kst Kret al nl ml tl wd) (be44 al nl ml tl wd Kst Kret x hS hR h)
  · intro Kst Kret x hS hR s h
    cases s with
    | h0 x0 x1 => exact Holds.eq (t44_0 cond Kst Kret al nl ml tl wd x0 x1) (b44_0 al nl ml tl wd Kst Kret x hS hR x0 x1 h)
    | h1 x0 x1 => exact Holds.eq (t44_1 cond Kst Kret al nl ml tl wd x0 x1) (b44_1 al nl ml tl wd Kst Kret x hS hR x0 x1 h)
    | h2 x0 x1 x2 x3 x4 x5 x6 x7 x8 x9 => exact Holds.eq (t44_2 cond Kst Kret al nl ml tl wd x0 x1 x2 x3 x4 x5 x6 x7 x8 x9) (b44_2 al nl ml tl wd Kst Kret x hS hR x0 x1 x2 x3 x4 x5 x6 x7 x8 x9 h)
noncomputable def k44 : Con := ⟨44, [.one (.list [.bool]), .one (.plain (.bool))], fun (x : (Nat × Nat × Nat × (Nat → Bool) × Unit) × Bool × Unit) => (fun (al nl ml : Nat) (tl : Nat → Bool) (wd : Bool) => decide (al + nl ≤ ml ∧ nl ≤ 2000)) x.1.1 x.1.2.1 x.1.2.2.1 x.1.2.2.2.1 x.2.1, fun (x : (Nat × Nat × Nat × (Nat → Bool) × Unit) × Bool × Unit) => (fun (al nl ml : Nat) (tl : Nat → Bool) (wd : Bool) => (V44 al nl ml tl wd) (S.runsS (fun j => tl (j + al)) nl wd)) x.1.1 x.1.2.1 x.1.2.2.1 x.1.2.2.2.1 x.2.1, fun (x : (Nat × Nat × Nat × (Nat → Bool) × Unit) × Bool × Unit) => (fun (al nl ml : Nat) (tl : Nat → Bool) (wd : Bool) => (N44 al nl ml tl wd) (S.runsS (fun j => tl (j + al)) nl wd)) x.1.1 x.1.2.1 x.1.2.2.1 x.1.2.2.2.1 x.2.1, fun _ _ => .dead⟩
theorem s44i (al nl ml : Nat) (tl : Nat → Bool) (wd : Bool) (hp : al + nl ≤ ml ∧ nl ≤ 2000) (R : List (Int × Int)) (i : Nat) (hi : i < nl) (out : List (Int × Int)) (x2 x3 x4 x5 : Int) (x6 : Nat) (x7 x8 : Bool) (hs : tl ((i + (nl - 1)) % nl + al) ≠ wd)
    (hR : Comes (q44 al nl ml tl wd) (.h1 ((i : Int) + 1) (S.snoc out ((i : Int), (S.rlen (fun j => tl (j + al)) nl wd i : Int)))) R) (ho : out.length ≤ i) : ∀ d n : Nat, n + d = nl - 1 → 1 ≤ n → (∀ t, t < n → tl ((i + t) % nl + al) = wd) → Comes (q44 al nl ml tl wd) (.h2 (i : Int) (n : Int) x2 x3 x4 x5 x6 x7 x8 out) R := by
  obtain ⟨hp1, hp2⟩ := hp
  intro d
  induction d with
  | zero =>
    intro n hn h1 ht
    obtain rfl : n = nl - 1 := by omega
    have hm : (i + (nl - 1)) % nl < nl := Nat.mod_lt _ (by omega)
    have e1 : Int.tmod ((i : Int) + ((nl - 1 : Nat) : Int)) (nl : Int) = (((i + (nl - 1)) % nl : Nat) : Int) := by rw [← Int.natCast_add]; rfl
    have er : S.rlen (fun j => tl (j + al)) nl wd i = nl - 1 := by
      unfold S.rlen
      refine runN_is (fun j hj => ?_) ?_ (by omega)
      · simp only [Nat.zero_add]; rw [ht j hj]; simp
      · simp only [Nat.zero_add]; simpa using hs
    rw [er] at hR
    generalize (i + (nl - 1)) % nl = a at *
    cases hbv : tl (a + al) <;> cases wd <;> first | exact absurd hbv hs | skip
    all_goals
      apply Comes.of
      rw [q44]
      simp only [e1, Int.toNat_natCast, hbv]
      repeat' first
        | with_reducible refine goes_if (fun h => ?_) (fun h => ?_) <;> (try simp only [lim64, imp_false, decide_eq_true_eq, decide_eq_false_iff_not, Int.toNat_natCast, toNat_pred, toNat_succ, Option.getD_some, Option.getD_none, Bool.not_eq_true', Bool.not_eq_false', Bool.and_eq_true, Bool.or_eq_true, Bool.and_eq_false_iff, Bool.or_eq_false_iff, bne_iff_ne, beq_iff_eq, bne_eq_false_iff_eq, beq_eq_false_iff_ne, ne_eq, not_and, Int.not_le, Int.not_lt, ge_iff_le, gt_iff_lt, Nat.not_lt, Nat.not_le, Bool.not_eq_true, Bool.not_eq_false, Bool.true_eq_false, Bool.false_eq_true, not_false_eq_true, not_true_eq_false] at h)
        | exact goes_none.mpr (by omega)
      all_goals first | (exfalso; omega) | exact hR
  | succ d ih =>
    intro n hn h1 ht
    have hm : (i + n) % nl < nl := Nat.mod_lt _ (by omega)
    have e1 : Int.tmod ((i : Int) + (n : Int)) (nl : Int) = (((i + n) % nl : Nat) : Int) := by rw [← Int.natCast_add]; rfl
    have i1 : tl ((i + n) % nl + al) = wd → _ := fun hc => ih (n + 1) (by omega) (by omega) fun t h2 => by
      rcases Nat.lt_or_ge t n with h3 | h3
      · exact ht t h3
      · obtain rfl : t = n := by omega
        exact hc
    have er : tl ((i + n) % nl + al) ≠ wd → S.rlen (fun j => tl (j + al)) nl wd i = n := fun hc => by
      unfold S.rlen
      refine runN_is (fun j hj => ?_) ?_ (by omega)
      · simp only [Nat.zero_add]; rw [ht j hj]; simp
      · simp only [Nat.zero_add]; simpa using hc
    clear ih
    generalize (i + n) % nl = a at *
    cases hbv : tl (a + al) <;> cases wd
    all_goals first
      | (replace i1 := i1 hbv
         clear er
         apply Comes.of
         rw [q44]
         simp only [e1, Int.toNat_natCast, hbv]
         repeat' first
           | with_reducible refine goes_if (fun h => ?_) (fun h => ?_) <;> (try simp only [lim64, imp_false, decide_eq_true_eq, decide_eq_false_iff_not, Int.toNat_natCast, toNat_pred, toNat_succ, Option.getD_some, Option.getD_none, Bool.not_eq_true', Bool.not_eq_false', Bool.and_eq_true, Bool.or_eq_true, Bool.and_eq_false_iff, Bool.or_eq_false_iff, bne_iff_ne, beq_iff_eq, bne_eq_false_iff_eq, beq_eq_false_iff_ne, ne_eq, not_and, Int.not_le, Int.not_lt, ge_iff_le, gt_iff_lt, Nat.not_lt, Nat.not_le, Bool.not_eq_true, Bool.not_eq_false, Bool.true_eq_false, Bool.false_eq_true, not_false_eq_true, not_true_eq_false] at h)
           | exact goes_none.mpr (by omega)
         all_goals first | (exfalso; omega) | exact i1)
      | (rw [er (by rw [hbv]; exact fun h => Bool.noConfusion h)] at hR
         clear i1 er
         apply Comes.of
         rw [q44]
         simp only [e1, Int.toNat_natCast, hbv]
         repeat' first
           | with_reducible refine goes_if (fun h => ?_) (fun h => ?_) <;> (try simp only [lim64, imp_false, decide_eq_true_eq, decide_eq_false_iff_not, Int.toNat_natCast, toNat_pred, toNat_succ, Option.getD_some, Option.getD_none, Bool.not_eq_true', Bool.not_eq_false', Bool.and_eq_true, Bool.or_eq_true, Bool.and_eq_false_iff, Bool.or_eq_false_iff, bne_iff_ne, beq_iff_eq, bne_eq_false_iff_eq, beq_eq_false_iff_ne, ne_eq, not_and, Int.not_le, Int.not_lt, ge_iff_le, gt_iff_lt, Nat.not_lt, Nat.not_le, Bool.not_eq_true, Bool.not_eq_false, Bool.true_eq_false, Bool.false_eq_true, not_false_eq_true, not_true_eq_false] at h)
           | exact goes_none.mpr (by omega)
         all_goals first | (exfalso; omega) | exact hR)
theorem s44o (al nl ml : Nat) (tl : Nat → Bool) (wd : Bool) (hp : al + nl ≤ ml ∧ nl ≤ 2000) : ∀ d i : Nat, ∀ L, i + d = nl → Holds (L = S.rP (fun j => tl (j + al)) nl wd i) → Comes (q44 al nl ml tl wd) (.h1 (i : Int) L) (S.rns (fun j => tl (j + al)) nl wd) := by
  have hp' := hp
  obtain ⟨hp1, hp2⟩ := hp
  intro d
  induction d with
  | zero =>
    intro i L hi eL
    obtain rfl : i = nl := by omega
    apply Comes.of
    rw [q44]
    refine goes_no (decide_eq_false (by omega)) ?_
    exact goes_inr.mpr eL.get
  | succ d ih =>
    intro i L hi eL
    have hlen : L.length ≤ i := by rw [eL.get]; exact rP_len
    have hm : (i + (nl - 1)) % nl < nl := Nat.mod_lt _ (by omega)
    have e1 : Int.tmod ((i : Int) + (nl : Int) - 1) (nl : Int) = (((i + (nl - 1)) % nl : Nat) : Int) := by rw [show (i : Int) + (nl : Int) - 1 = ((i + (nl - 1) : Nat) : Int) by omega]; rfl
    have i0 : S.rst (fun j => tl (j + al)) nl wd i = false → Comes (q44 al nl ml tl wd) (.h1 ((i : Int) + 1) L) (S.rns (fun j => tl (j + al)) nl wd) := fun h => ih (i + 1) L (by omega) ⟨by
      rw [eL.get, rP_succ]
      have : S.rg (fun j => tl (j + al)) nl wd i = none := by unfold S.rg; rw [if_neg (by rw [h]; exact Bool.false_ne_true)]
      rw [this]; simp⟩
    have i1 : S.rst (fun j => tl (j + al)) nl wd i = true → Comes (q44 al nl ml tl wd) (.h1 ((i : Int) + 1) (S.snoc L ((i : Int), (S.rlen (fun j => tl (j + al)) nl wd i : Int)))) (S.rns (fun j => tl (j + al)) nl wd) := fun h => ih (i + 1) _ (by omega) ⟨by
      rw [eL.get, rP_succ]
      have : S.rg (fun j => tl (j + al)) nl wd i = some ((i : Int), (S.rlen (fun j => tl (j + al)) nl wd i : Int)) := by unfold S.rg; rw [if_pos h]
      rw [this]; rfl⟩
    clear ih
    have hst : S.rst (fun j => tl (j + al)) nl wd i = ((tl (i + al) == wd) && (tl ((i + (nl - 1)) % nl + al) != wd)) := rfl
    have hin := fun hs hR x2 x3 x4 x5 x6 x7 x8 (h0 : tl (i + al) = wd) => s44i al nl ml tl wd hp' (S.rns (fun j => tl (j + al)) nl wd) i (by omega) L x2 x3 x4 x5 x6 x7 x8 hs hR hlen (nl - 2) 1
    rw [hst] at i0 i1
    clear hst
    by_cases h1 : nl = 1
    · subst h1
      obtain rfl : i = 0 := by omega
      have i0 := i0 (by cases tl (0 + al) <;> cases wd <;> rfl)
      clear i1 hin
      have hz : (0 + (1 - 1)) % 1 = 0 := rfl
      rw [hz] at e1
      cases hb0 : tl (0 + al) <;> cases wd
      all_goals
        apply Comes.of
        rw [q44]
        simp only [e1, Int.toNat_natCast, hb0]
        repeat' first
          | with_reducible refine goes_if (fun h => ?_) (fun h => ?_) <;> (try simp only [lim64, imp_false, decide_eq_true_eq, decide_eq_false_iff_not, Int.toNat_natCast, toNat_pred, toNat_succ, Option.getD_some, Option.getD_none, Bool.not_eq_true', Bool.not_eq_false', Bool.and_eq_true, Bool.or_eq_true, Bool.and_eq_false_iff, Bool.or_eq_false_iff, bne_iff_ne, beq_iff_eq, bne_eq_false_iff_eq, beq_eq_false_iff_ne, ne_eq, not_and, Int.not_le, Int.not_lt, ge_iff_le, gt_iff_lt, Nat.not_lt, Nat.not_le, Bool.not_eq_true, Bool.not_eq_false, Bool.true_eq_false, Bool.false_eq_true, not_false_eq_true, not_true_eq_false] at h)
          | exact goes_none.mpr (by omega)
        all_goals first | (exfalso; omega) | exact i0
    · have hw : ∀ (h0 : tl (i + al) = wd) (t : Nat), t < 1 → tl ((i + t) % nl + al) = wd := fun h0 t ht => by
        obtain rfl : t = 0 := by omega
        rw [Nat.add_zero, Nat.mod_eq_of_lt (by omega)]; exact h0
      generalize (i + (nl - 1)) % nl = a at *
      cases hb0 : tl (i + al) <;> cases hba : tl (a + al) <;> cases wd
      all_goals
        first
        | (have i0 := i0 (by rw [hb0, hba]; rfl)
           clear i1 hin
           apply Comes.of
           rw [q44]
           simp only [e1, Int.toNat_natCast, hb0, hba]
           repeat' first
             | with_reducible refine goes_if (fun h => ?_) (fun h => ?_) <;> (try simp only [lim64, imp_false, decide_eq_true_eq, decide_eq_false_iff_not, Int.toNat_natCast, toNat_pred, toNat_succ, Option.getD_some, Option.getD_none, Bool.not_eq_true', Bool.not_eq_false', Bool.and_eq_true, Bool.or_eq_true, Bool.and_eq_false_iff, Bool.or_eq_false_iff, bne_iff_ne, beq_iff_eq, bne_eq_false_iff_eq, beq_eq_false_iff_ne, ne_eq, not_and, Int.not_le, Int.not_lt, ge_iff_le, gt_iff_lt, Nat.not_lt, Nat.not_le, Bool.not_eq_true, Bool.not_eq_false, Bool.true_eq_false, Bool.false_eq_true, not_false_eq_true, not_true_eq_false] at h)
             | exact goes_none.mpr (by omega)
           all_goals first | (exfalso; omega) | exact i0)
        | (have i1 := i1 (by rw [hb0, hba]; rfl)
           have hin := fun x2 x3 x4 x5 x6 x7 x8 => hin (by rw [hba]; exact fun h => Bool.noConfusion h) i1 x2 x3 x4 x5 x6 x7 x8 hb0 (by omega) (Nat.le_refl _) (hw hb0)
           clear i0
           apply Comes.of
           rw [q44]
           simp only [e1, Int.toNat_natCast, hb0, hba]
           repeat' first
             | with_reducible refine goes_if (fun h => ?_) (fun h => ?_) <;> (try simp only [lim64, imp_false, decide_eq_true_eq, decide_eq_false_iff_not, Int.toNat_natCast, toNat_pred, toNat_succ, Option.getD_some, Option.getD_none, Bool.not_eq_true', Bool.not_eq_false', Bool.and_eq_true, Bool.or_eq_true, Bool.and_eq_false_iff, Bool.or_eq_false_iff, bne_iff_ne, beq_iff_eq, bne_eq_false_iff_eq, beq_eq_false_iff_ne, ne_eq, not_and, Int.not_le, Int.not_lt, ge_iff_le, gt_iff_lt, Nat.not_lt, Nat.not_le, Bool.not_eq_true, Bool.not_eq_false, Bool.true_eq_false, Bool.false_eq_true, not_false_eq_true, not_true_eq_false] at h)
             | exact goes_none.mpr (by omega)
           all_goals first | (exfalso; omega) | exact hin _ _ _ _ _ _ _)
theorem s44a (al nl ml : Nat) (tl : Nat → Bool) (wd : Bool) (hp : al + nl ≤ ml ∧ nl ≤ 2000) (R : List (Int × Int)) (hR : S.any (fun i => tl (i + al) == !wd) nl = true → Comes (q44 al nl ml tl wd) (.h1 0 []) R) (hE : S.any (fun i => tl (i + al) == !wd) nl = false → [((0 : Int), (nl : Int))] = R) :
    ∀ d i : Nat, ∀ x : Bool, i + d = nl → x = (!S.any (fun i => tl (i + al) == !wd) i) → Comes (q44 al nl ml tl wd) (.h0 x (i : Int)) R := by
  obtain ⟨hp1, hp2⟩ := hp
  intro d
  induction d with
  | zero =>
    intro i x hi ex
    obtain rfl : i = nl := by omega
    subst ex
    cases ha : S.any (fun i => tl (i + al) == !wd) i
    · have hE := hE ha
      apply Comes.of
      rw [q44]
      refine goes_no (decide_eq_false (by omega)) ?_
      exact goes_ok rfl (goes_inr.mpr hE)
    · have hR := hR ha
      apply Comes.of
      rw [q44]
      refine goes_no (decide_eq_false (by omega)) ?_
      exact goes_no rfl hR
  | succ d ih =>
    intro i x hi ex
    have ih := ih (i + 1)
    rw [any_succ] at ih
    rw [← Bool.not_not (S.any (fun i => tl (i + al) == !wd) i), ← ex] at ih
    clear ex hR hE
    cases x <;> cases hb0 : tl (i + al) <;> cases wd
    all_goals
      have ih := ih _ (by omega) rfl
      rw [hb0] at ih
      apply Comes.of
      rw [q44]
      simp only [Int.toNat_natCast, hb0]
      repeat' first
        | with_reducible refine goes_if (fun h => ?_) (fun h => ?_) <;> (try simp only [lim64, imp_false, decide_eq_true_eq, decide_eq_false_iff_not, Int.toNat_natCast, toNat_pred, toNat_succ, Option.getD_some, Option.getD_none, Bool.not_eq_true', Bool.not_eq_false', Bool.and_eq_true, Bool.or_eq_true, Bool.and_eq_false_iff, Bool.or_eq_false_iff, bne_iff_ne, beq_iff_eq, bne_eq_false_iff_eq, beq_eq_false_iff_ne, ne_eq, not_and, Int.not_le, Int.not_lt, ge_iff_le, gt_iff_lt, Nat.not_lt, Nat.not_le, Bool.not_eq_true, Bool.not_eq_false, Bool.true_eq_false, Bool.false_eq_true, not_false_eq_true, not_true_eq_false] at h)
        | exact goes_none.mpr (by omega)
      all_goals first | (exfalso; omega) | exact ih
theorem s44 (al nl ml : Nat) (tl : Nat → Bool) (wd : Bool) (hp : al + nl ≤ ml ∧ nl ≤ 2000) : Goes ((q44 al nl ml tl wd)) ((p44 al nl ml tl wd)) (S.runsS (fun j => tl (j + al)) nl wd) := by
  have ha := s44a al nl ml tl wd hp (S.runsS (fun j => tl (j + al)) nl wd) (fun h => by
    have := s44o al nl ml tl wd hp nl 0 [] (by omega) ⟨rfl⟩
    unfold S.runsS; rw [h, if_pos rfl]; exact this) (fun h => by unfold S.runsS; rw [h, if_neg Bool.false_ne_true]) nl 0 true (by omega) rfl
  exact ha

theorem k44_ok : k44.ok Try.prog := by
  intro x hx
  obtain ⟨⟨al, nl, ml, tl, _⟩, wd, _⟩ := x
  obtain ⟨h1, h2⟩ := a44 al nl ml tl wd (s44 al nl ml tl wd (of_dec hx rfl))
  exact ⟨⟨400, (by decide : 1 + 1 + 1 ≤ 400), h1⟩, h2⟩

end Go.Ev
