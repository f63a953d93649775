/-
  Reduce, in the reference.
-/
import Derived.Test.YtccojphjkaikeaaMD1
namespace Go.Ev
open Go.Proofs
set_option linter.unusedVariables false
set_option linter.unusedSimpArgs false
set_option maxRecDepth 100000
noncomputable def yD3 (test : Bool → Prop → Prop → Prop) : Ext := consX test []
theorem yD3_ok : ExtOk Try.prog (yD3 cond) := consX_ok (l := []) trivial

theorem dall_succ {p : Nat → Prop} [DecidablePred p] {m : Nat} : decide (∀ k, k < m + 1 → p k) = (decide (∀ k, k < m → p k) && decide (p m)) := by
  rw [Bool.eq_iff_iff, Bool.and_eq_true, decide_eq_true_eq, decide_eq_true_eq, decide_eq_true_eq]
  exact ⟨fun h => ⟨fun k hk => h k (by omega), h m (by omega)⟩, fun h k hk => by rcases Nat.lt_or_eq_of_le (Nat.le_of_lt_succ hk) with h1 | rfl; exact h.1 k h1; exact h.2⟩
inductive St29 where
  | h0 (x0 : Int) (x1 : List Int)
  | h1 (x0 : Int) (x1 : Bool) (x2 : Bool) (x3 : Int) (x4 : List Int)
abbrev Rt29 := List Int
noncomputable def V29 (al nl ml : Nat) (tl : Nat → Int) (r : Rt29) : PV := PV.own (2) (1) (List.length r)
noncomputable def N29 (al nl ml : Nat) (tl : Nat → Int) (r : Rt29) : List Blk := [Blk.cols (List.length r) [Col.int IntKind.i64 fun (j : Nat) => S.at' r j]]
noncomputable def I29 (al nl ml : Nat) (tl : Nat → Int) : St29 → Hd
  | .h0 x0 x1 => ⟨hd Try.f29 0, [PV.loose (PA.mk (0) (1) al (0)) nl,
 PV.own (1) (1) (List.length x1), PV.int IntKind.i64 x0, PV.unk, PV.unk,
 PV.unk], [[(1, (true, Blk.cols (List.length x1) [Col.int IntKind.i64 fun (j : Nat) => S.at' x1 j]))], [(0, (false, .cols ml [.int .i64 tl]))]], 2⟩
  | .h1 x0 x1 x2 x3 x4 => ⟨hd Try.f29 1, [PV.loose (PA.mk (0) (1) al (0)) nl,
 PV.own (1) (1) (List.length x4), PV.int IntKind.i64 x0, PV.bool x1,
 PV.bool x2, PV.int IntKind.i64 x3], [[(1, (true, Blk.cols (List.length x4) [Col.int IntKind.i64 fun (j : Nat) => S.at' x4 j]))], [(0, (false, .cols ml [.int .i64 tl]))]], 2⟩
noncomputable def q29 (al nl ml : Nat) (tl : Nat → Int) : St29 → Option (St29 ⊕ Rt29)
  | .h0 x0 x1 => bif (decide (x0 < (↑nl : Int)))
 then (bif (lim IntKind.i64 (x0 + (1 : Int)))
 then (some (.inl (.h1 (x0) (true) (true) (x0 + (1 : Int)) (x1))))
 else (none))
 else (some (.inr (x1)))
  | .h1 x0 x1 x2 x3 x4 => bif (decide (x3 < (↑nl : Int)))
 then (bif (x1)
 then (bif (decide ((0 : Int) ≤ x0 ∧ x0 < (↑nl : Int)))
 then (bif (decide (Int.toNat x0 + al < ml))
 then (bif (decide ((0 : Int) ≤ x3 ∧ x3 < (↑nl : Int)))
 then (bif (decide (Int.toNat x3 + al < ml))
 then (bif (decide (tl (Int.toNat x0 + al) > tl (Int.toNat x3 + al)))
 then (bif (x2)
 then (bif (decide (tl (Int.toNat x0 + al) < tl (Int.toNat x3 + al)))
 then (bif (lim IntKind.i64 (x3 + (1 : Int)))
 then (some (.inl (.h1 (x0) (true) (true) (x3 + (1 : Int)) (x4))))
 else (none))
 else (bif (lim IntKind.i64 (x3 + (1 : Int)))
 then (some (.inl (.h1 (x0) (true) (false) (x3 + (1 : Int)) (x4))))
 else (none)))
 else (bif (lim IntKind.i64 (x3 + (1 : Int)))
 then (some (.inl (.h1 (x0) (true) (false) (x3 + (1 : Int)) (x4))))
 else (none)))
 else (bif (x2)
 then (bif (decide (tl (Int.toNat x0 + al) < tl (Int.toNat x3 + al)))
 then (bif (lim IntKind.i64 (x3 + (1 : Int)))
 then (some (.inl (.h1 (x0) (false) (true) (x3 + (1 : Int)) (x4))))
 else (none))
 else (bif (lim IntKind.i64 (x3 + (1 : Int)))
 then (some (.inl (.h1 (x0) (false) (false) (x3 + (1 : Int)) (x4))))
 else (none)))
 else (bif (lim IntKind.i64 (x3 + (1 : Int)))
 then (some (.inl (.h1 (x0) (false) (false) (x3 + (1 : Int)) (x4))))
 else (none))))
 else (none))
 else (none))
 else (none))
 else (none))
 else (bif (x2)
 then (bif (decide ((0 : Int) ≤ x0 ∧ x0 < (↑nl : Int)))
 then (bif (decide (Int.toNat x0 + al < ml))
 then (bif (decide ((0 : Int) ≤ x3 ∧ x3 < (↑nl : Int)))
 then (bif (decide (Int.toNat x3 + al < ml))
 then (bif (decide (tl (Int.toNat x0 + al) < tl (Int.toNat x3 + al)))
 then (bif (lim IntKind.i64 (x3 + (1 : Int)))
 then (some (.inl (.h1 (x0) (false) (true) (x3 + (1 : Int)) (x4))))
 else (none))
 else (bif (lim IntKind.i64 (x3 + (1 : Int)))
 then (some (.inl (.h1 (x0) (false) (false) (x3 + (1 : Int)) (x4))))
 else (none)))
 else (none))
 else (none))
 else (none))
 else (none))
 else (bif (lim IntKind.i64 (x3 + (1 : Int)))
 then (some (.inl (.h1 (x0) (false) (false) (x3 + (1 : Int)) (x4))))
 else (none))))
 else (bif (x1)
 then (bif (decide ((0 : Int) ≤ x0 ∧ x0 < (↑nl : Int)))
 then (bif (decide (Int.toNat x0 + al < ml))
 then (bif (decide (List.length x4 + 1 ≤ 1000000))
 then (bif (decide (List.length x4 ≤ List.length x4))
 then (bif (lim IntKind.i64 (x0 + (1 : Int)))
 then (some (.inl (.h0 (x0 + (1 : Int)) (S.snoc x4 (tl (Int.toNat x0 + al))))))
 else (none))
 else (none))
 else (none))
 else (none))
 else (none))
 else (bif (x2)
 then (bif (decide ((0 : Int) ≤ x0 ∧ x0 < (↑nl : Int)))
 then (bif (decide (Int.toNat x0 + al < ml))
 then (bif (decide (List.length x4 + 1 ≤ 1000000))
 then (bif (decide (List.length x4 ≤ List.length x4))
 then (bif (lim IntKind.i64 (x0 + (1 : Int)))
 then (some (.inl (.h0 (x0 + (1 : Int)) (S.snoc x4 (tl (Int.toNat x0 + al))))))
 else (none))
 else (none))
 else (none))
 else (none))
 else (none))
 else (bif (lim IntKind.i64 (x0 + (1 : Int)))
 then (some (.inl (.h0 (x0 + (1 : Int)) (x4))))
 else (none))))
noncomputable def p29 (al nl ml : Nat) (tl : Nat → Int) : Option (St29 ⊕ Rt29) := some (.inl (.h0 ((0 : Int)) ([])))
noncomputable def Te29 (test : Bool → Prop → Prop → Prop) (Kst : KS) (Kret : KR) (al nl ml : Nat) (tl : Nat → Int) : Prop :=
  Kst (hd Try.f29 0) ([PV.loose (PA.mk (0) (1) al (0)) nl, PV.nils,
 PV.int IntKind.i64 (0 : Int), PV.unk, PV.unk, PV.unk]) ([[(0, false, Blk.cols ml [Col.int IntKind.i64 tl])]]) (1)
set_option maxRecDepth 100000 in
theorem te29 (test : Bool → Prop → Prop → Prop) (Kst : KS) (Kret : KR) (al nl ml : Nat) (tl : Nat → Int) : run test Try.env true (yD3 test) true 400 ⟨29, [.cd (mkFn Try.f29).body], argT 0 [.loose ⟨0, 1, al, 0⟩ nl], [[], [(0, (false, .cols ml [.int .i64 tl]))]], 1⟩ (proj 1 [0, 3, 4, 5, 6, 7] Kst Kret) =
  Te29 test Kst Kret al nl ml tl := by kernel_rfl
noncomputable def T29_0 (test : Bool → Prop → Prop → Prop) (Kst : KS) (Kret : KR) (al nl ml : Nat) (tl : Nat → Int) (x0 : Int) (x1 : List Int) : Prop :=
  test (decide (x0 < (↑nl : Int)))
 (test (lim IntKind.i64 (x0 + (1 : Int)))
 (Kst (hd Try.f29 1) ([PV.loose (PA.mk (0) (1) al (0)) nl,
 PV.own (1) (1) (List.length x1), PV.int IntKind.i64 x0, PV.tf true,
 PV.tf true, PV.int IntKind.i64 (x0 + (1 : Int))]) ([[(0, false, Blk.cols ml [Col.int IntKind.i64 tl]),
 (1, true,
 Blk.cols (List.length x1) [Col.int IntKind.i64 fun (j : Nat) => S.at' x1 j])]]) (2))
 (False))
 (Kret (PV.own (1) (1) (List.length x1)) ([[(0, false, Blk.cols ml [Col.int IntKind.i64 tl]),
 (1, true,
 Blk.cols (List.length x1) [Col.int IntKind.i64 fun (j : Nat) => S.at' x1 j])]]) (2))
set_option maxRecDepth 100000 in
theorem t29_0 (test : Bool → Prop → Prop → Prop) (Kst : KS) (Kret : KR) (al nl ml : Nat) (tl : Nat → Int) (x0 : Int) (x1 : List Int) : run test Try.env true (yD3 test) true 400 ⟨29, hd Try.f29 0, zipT [0, 3, 4, 5, 6, 7] [PV.loose (PA.mk (0) (1) al (0)) nl,
 PV.own (1) (1) (List.length x1), PV.int IntKind.i64 x0, PV.unk, PV.unk,
 PV.unk], [[(1, (true, Blk.cols (List.length x1) [Col.int IntKind.i64 fun (j : Nat) => S.at' x1 j]))], [(0, (false, .cols ml [.int .i64 tl]))]], 2⟩ (proj 1 [0, 3, 4, 5, 6, 7] Kst Kret) =
  T29_0 test Kst Kret al nl ml tl x0 x1 := by kernel_rfl
noncomputable def T29_1 (test : Bool → Prop → Prop → Prop) (Kst : KS) (Kret : KR) (al nl ml : Nat) (tl : Nat → Int) (x0 : Int) (x1 : Bool) (x2 : Bool) (x3 : Int) (x4 : List Int) : Prop :=
  test (decide (x3 < (↑nl : Int)))
 (test (x1)
 (test (decide ((0 : Int) ≤ x0 ∧ x0 < (↑nl : Int)))
 (test (decide (Int.toNat x0 + al < ml))
 (test (decide ((0 : Int) ≤ x3 ∧ x3 < (↑nl : Int)))
 (test (decide (Int.toNat x3 + al < ml))
 (test (decide (tl (Int.toNat x0 + al) > tl (Int.toNat x3 + al)))
 (test (x2)
 (test (decide ((0 : Int) ≤ x0 ∧ x0 < (↑nl : Int)))
 (test (decide (Int.toNat x0 + al < ml))
 (test (decide ((0 : Int) ≤ x3 ∧ x3 < (↑nl : Int)))
 (test (decide (Int.toNat x3 + al < ml))
 (test (decide (tl (Int.toNat x0 + al) < tl (Int.toNat x3 + al)))
 (test (lim IntKind.i64 (x3 + (1 : Int)))
 (Kst (hd Try.f29 1) ([PV.loose (PA.mk (0) (1) al (0)) nl,
 PV.own (1) (1) (List.length x4), PV.int IntKind.i64 x0, PV.tf true,
 PV.tf true, PV.int IntKind.i64 (x3 + (1 : Int))]) ([[(0, false, Blk.cols ml [Col.int IntKind.i64 tl]),
 (1, true,
 Blk.cols (List.length x4) [Col.int IntKind.i64 fun (j : Nat) => S.at' x4 j])]]) (2))
 (False))
 (test (lim IntKind.i64 (x3 + (1 : Int)))
 (Kst (hd Try.f29 1) ([PV.loose (PA.mk (0) (1) al (0)) nl,
 PV.own (1) (1) (List.length x4), PV.int IntKind.i64 x0, PV.tf true,
 PV.tf false, PV.int IntKind.i64 (x3 + (1 : Int))]) ([[(0, false, Blk.cols ml [Col.int IntKind.i64 tl]),
 (1, true,
 Blk.cols (List.length x4) [Col.int IntKind.i64 fun (j : Nat) => S.at' x4 j])]]) (2))
 (False)))
 (False))
 (False))
 (False))
 (False))
 (test (lim IntKind.i64 (x3 + (1 : Int)))
 (Kst (hd Try.f29 1) ([PV.loose (PA.mk (0) (1) al (0)) nl,
 PV.own (1) (1) (List.length x4), PV.int IntKind.i64 x0, PV.tf true,
 PV.tf false, PV.int IntKind.i64 (x3 + (1 : Int))]) ([[(0, false, Blk.cols ml [Col.int IntKind.i64 tl]),
 (1, true,
 Blk.cols (List.length x4) [Col.int IntKind.i64 fun (j : Nat) => S.at' x4 j])]]) (2))
 (False)))
 (test (x2)
 (test (decide ((0 : Int) ≤ x0 ∧ x0 < (↑nl : Int)))
 (test (decide (Int.toNat x0 + al < ml))
 (test (decide ((0 : Int) ≤ x3 ∧ x3 < (↑nl : Int)))
 (test (decide (Int.toNat x3 + al < ml))
 (test (decide (tl (Int.toNat x0 + al) < tl (Int.toNat x3 + al)))
 (test (lim IntKind.i64 (x3 + (1 : Int)))
 (Kst (hd Try.f29 1) ([PV.loose (PA.mk (0) (1) al (0)) nl,
 PV.own (1) (1) (List.length x4), PV.int IntKind.i64 x0, PV.tf false,
 PV.tf true, PV.int IntKind.i64 (x3 + (1 : Int))]) ([[(0, false, Blk.cols ml [Col.int IntKind.i64 tl]),
 (1, true,
 Blk.cols (List.length x4) [Col.int IntKind.i64 fun (j : Nat) => S.at' x4 j])]]) (2))
 (False))
 (test (lim IntKind.i64 (x3 + (1 : Int)))
 (Kst (hd Try.f29 1) ([PV.loose (PA.mk (0) (1) al (0)) nl,
 PV.own (1) (1) (List.length x4), PV.int IntKind.i64 x0, PV.tf false,
 PV.tf false, PV.int IntKind.i64 (x3 + (1 : Int))]) ([[(0, false, Blk.cols ml [Col.int IntKind.i64 tl]),
 (1, true,
 Blk.cols (List.length x4) [Col.int IntKind.i64 fun (j : Nat) => S.at' x4 j])]]) (2))
 (False)))
 (False))
 (False))
 (False))
 (False))
 (test (lim IntKind.i64 (x3 + (1 : Int)))
 (Kst (hd Try.f29 1) ([PV.loose (PA.mk (0) (1) al (0)) nl,
 PV.own (1) (1) (List.length x4), PV.int IntKind.i64 x0, PV.tf false,
 PV.tf false, PV.int IntKind.i64 (x3 + (1 : Int))]) ([[(0, false, Blk.cols ml [Col.int IntKind.i64 tl]),
 (1, true,
 Blk.cols (List.length x4) [Col.int IntKind.i64 fun (j : Nat) => S.at' x4 j])]]) (2))
 (False))))
 (False))
 (False))
 (False))
 (False))
 (test (x2)
 (test (decide ((0 : Int) ≤ x0 ∧ x0 < (↑nl : Int)))
 (test (decide (Int.toNat x0 + al < ml))
 (test (decide ((0 : Int) ≤ x3 ∧ x3 < (↑nl : Int)))
 (test (decide (Int.toNat x3 + al < ml))
 (test (decide (tl (Int.toNat x0 + al) < tl (Int.toNat x3 + al)))
 (test (lim IntKind.i64 (x3 + (1 : Int)))
 (Kst (hd Try.f29 1) ([PV.loose (PA.mk (0) (1) al (0)) nl,
 PV.own (1) (1) (List.length x4), PV.int IntKind.i64 x0, PV.tf false,
 PV.tf true, PV.int IntKind.i64 (x3 + (1 : Int))]) ([[(0, false, Blk.cols ml [Col.int IntKind.i64 tl]),
 (1, true,
 Blk.cols (List.length x4) [Col.int IntKind.i64 fun (j : Nat) => S.at' x4 j])]]) (2))
 (False))
 (test (lim IntKind.i64 (x3 + (1 : Int)))
 (Kst (hd Try.f29 1) ([PV.loose (PA.mk (0) (1) al (0)) nl,
 PV.own (1) (1) (List.length x4), PV.int IntKind.i64 x0, PV.tf false,
 PV.tf false, PV.int IntKind.i64 (x3 + (1 : Int))]) ([[(0, false, Blk.cols ml [Col.int IntKind.i64 tl]),
 (1, true,
 Blk.cols (List.length x4) [Col.int IntKind.i64 fun (j : Nat) => S.at' x4 j])]]) (2))
 (False)))
 (False))
 (False))
 (False))
 (False))
 (test (lim IntKind.i64 (x3 + (1 : Int)))
 (Kst (hd Try.f29 1) ([PV.loose (PA.mk (0) (1) al (0)) nl,
 PV.own (1) (1) (List.length x4), PV.int IntKind.i64 x0, PV.tf false,
 PV.tf false, PV.int IntKind.i64 (x3 + (1 : Int))]) ([[(0, false, Blk.cols ml [Col.int IntKind.i64 tl]),
 (1, true,
 Blk.cols (List.length x4) [Col.int IntKind.i64 fun (j : Nat) => S.at' x4 j])]]) (2))
 (False))))
 (test (x1)
 (test (decide ((0 : Int) ≤ x0 ∧ x0 < (↑nl : Int)))
 (test (decide (Int.toNat x0 + al < ml))
 (test (decide (List.length x4 + 1 ≤ 1000000))
 (test (decide (List.length x4 ≤ List.length x4))
 (test (true)
 (test (lim IntKind.i64 (x0 + (1 : Int)))
 (Kst (hd Try.f29 0) ([PV.loose (PA.mk (0) (1) al (0)) nl,
 PV.own (3) (1) (List.length x4 + 1), PV.int IntKind.i64 (x0 + (1 : Int)),
 PV.bool x1, PV.bool x2, PV.int IntKind.i64 x3]) ([[(0, false, Blk.cols ml [Col.int IntKind.i64 tl]),
 (3, true,
 Blk.cols (List.length x4 + 1)
 [Col.int IntKind.i64 fun (j : Nat) =>
 bif Nat.blt j (List.length x4) then S.at' x4 j else tl (Int.toNat x0 + al)])]]) (4))
 (False))
 (False))
 (False))
 (False))
 (False))
 (False))
 (test (x2)
 (test (decide ((0 : Int) ≤ x0 ∧ x0 < (↑nl : Int)))
 (test (decide (Int.toNat x0 + al < ml))
 (test (decide (List.length x4 + 1 ≤ 1000000))
 (test (decide (List.length x4 ≤ List.length x4))
 (test (true)
 (test (lim IntKind.i64 (x0 + (1 : Int)))
 (Kst (hd Try.f29 0) ([PV.loose (PA.mk (0) (1) al (0)) nl,
 PV.own (3) (1) (List.length x4 + 1), PV.int IntKind.i64 (x0 + (1 : Int)),
 PV.bool x1, PV.bool x2, PV.int IntKind.i64 x3]) ([[(0, false, Blk.cols ml [Col.int IntKind.i64 tl]),
 (3, true,
 Blk.cols (List.length x4 + 1)
 [Col.int IntKind.i64 fun (j : Nat) =>
 bif Nat.blt j (List.length x4) then S.at' x4 j else tl (Int.toNat x0 + al)])]]) (4))
 (False))
 (False))
 (False))
 (False))
 (False))
 (False))
 (test (lim IntKind.i64 (x0 + (1 : Int)))
 (Kst (hd Try.f29 0) ([PV.loose (PA.mk (0) (1) al (0)) nl,
 PV.own (1) (1) (List.length x4), PV.int IntKind.i64 (x0 + (1 : Int)), PV.bool x1,
 PV.bool x2, PV.int IntKind.i64 x3]) ([[(0, false, Blk.cols ml [Col.int IntKind.i64 tl]),
 (1, true,
 Blk.cols (List.length x4) [Col.int IntKind.i64 fun (j : Nat) => S.at' x4 j])]]) (2))
 (False))))
set_option maxRecDepth 100000 in
theorem t29_1 (test : Bool → Prop → Prop → Prop) (Kst : KS) (Kret : KR) (al nl ml : Nat) (tl : Nat → Int) (x0 : Int) (x1 : Bool) (x2 : Bool) (x3 : Int) (x4 : List Int) : run test Try.env true (yD3 test) true 400 ⟨29, hd Try.f29 1, zipT [0, 3, 4, 5, 6, 7] [PV.loose (PA.mk (0) (1) al (0)) nl,
 PV.own (1) (1) (List.length x4), PV.int IntKind.i64 x0, PV.bool x1,
 PV.bool x2, PV.int IntKind.i64 x3], [[(1, (true, Blk.cols (List.length x4) [Col.int IntKind.i64 fun (j : Nat) => S.at' x4 j]))], [(0, (false, .cols ml [.int .i64 tl]))]], 2⟩ (proj 1 [0, 3, 4, 5, 6, 7] Kst Kret) =
  T29_1 test Kst Kret al nl ml tl x0 x1 x2 x3 x4 := by kernel_rfl
set_option maxRecDepth 100000 in
theorem be29 (al nl ml : Nat) (tl : Nat → Int) (Kst : KS) (Kret : KR) (x : St29 ⊕ Rt29) (hS : HS 1 400 ((I29 al nl ml tl)) Kst x) (hR : HR 1 400 ((V29 al nl ml tl)) (fun r => [newL (1 + 1) ((N29 al nl ml tl) r) ++ [(0, (false, .cols ml [.int .i64 tl]))]]) Kret x) (h : (some (.inl (.h0 ((0 : Int)) ([]))) : Option (St29 ⊕ Rt29)) = some x) : Te29 cond Kst Kret al nl ml tl := by
  unfold Te29
  exact stop_at hS _ h (fun n => bif Nat.beq n 1 then 399 else n) rfl rfl rfl ⟨(rn_loose (use_lo rfl) rfl rfl rfl), ⟨(rn_own_nils rfl), ⟨(rn_int rfl), ⟨(rn_unk _), ⟨(rn_unk _), ⟨(rn_unk _), trivial⟩⟩⟩⟩⟩⟩ rfl (entl_fresh (use_own rfl) (fresh_ok rfl) (entl_bor (use_lo rfl) rfl rfl entl_nil))
set_option maxRecDepth 100000 in
theorem b29_0 (al nl ml : Nat) (tl : Nat → Int) (Kst : KS) (Kret : KR) (x : St29 ⊕ Rt29) (hS : HS 1 400 ((I29 al nl ml tl)) Kst x) (hR : HR 1 400 ((V29 al nl ml tl)) (fun r => [newL (1 + 1) ((N29 al nl ml tl) r) ++ [(0, (false, .cols ml [.int .i64 tl]))]]) Kret x) (x0 : Int) (x1 : List Int) (h : (bif (decide (x0 < (↑nl : Int)))
 then (bif (lim IntKind.i64 (x0 + (1 : Int)))
 then (some (.inl (.h1 (x0) (true) (true) (x0 + (1 : Int)) (x1))))
 else (none))
 else (some (.inr (x1))) : Option (St29 ⊕ Rt29)) = some x) : T29_0 cond Kst Kret al nl ml tl x0 x1 := by
  unfold T29_0
  exact bif_split h
   (fun c0 h => bif_split h
   (fun c1 h => stop_at hS _ h (fun n => bif Nat.beq n 1 then 1 else n) rfl rfl rfl ⟨(rn_loose (use_lo rfl) rfl rfl rfl), ⟨(rn_own (use_own rfl) rfl rfl), ⟨(rn_int rfl), ⟨(rn_bool_tf rfl), ⟨(rn_bool_tf rfl), ⟨(rn_int rfl), trivial⟩⟩⟩⟩⟩⟩ rfl (entl_new (use_own rfl) rfl (Nat.le_of_eq rfl) (rcs_int (fun _ _ => rfl) rcs_nil) (entl_bor (use_lo rfl) rfl rfl entl_nil)))
   (fun c1 h => no_some h))
   (fun c0 h => ret_at hR _ h (fun n => bif Nat.beq n 2 then 1 else n) rfl rfl rfl (rn_own (use_own rfl) rfl rfl) rfl (entl_new (use_own rfl) rfl (Nat.le_of_eq rfl) (rcs_int (fun _ _ => rfl) rcs_nil) (entl_bor (use_lo rfl) rfl rfl entl_nil)))
set_option maxRecDepth 100000 in
theorem b29_1 (al nl ml : Nat) (tl : Nat → Int) (Kst : KS) (Kret : KR) (x : St29 ⊕ Rt29) (hS : HS 1 400 ((I29 al nl ml tl)) Kst x) (hR : HR 1 400 ((V29 al nl ml tl)) (fun r => [newL (1 + 1) ((N29 al nl ml tl) r) ++ [(0, (false, .cols ml [.int .i64 tl]))]]) Kret x) (x0 : Int) (x1 : Bool) (x2 : Bool) (x3 : Int) (x4 : List Int) (h : (bif (decide (x3 < (↑nl : Int)))
 then (bif (x1)
 then (bif (decide ((0 : Int) ≤ x0 ∧ x0 < (↑nl : Int)))
 then (bif (decide (Int.toNat x0 + al < ml))
 then (bif (decide ((0 : Int) ≤ x3 ∧ x3 < (↑nl : Int)))
 then (bif (decide (Int.toNat x3 + al < ml))
 then (bif (decide (tl (Int.toNat x0 + al) > tl (Int.toNat x3 + al)))
 then (bif (x2)
 then (bif (decide (tl (Int.toNat x0 + al) < tl (Int.toNat x3 + al)))
 then (bif (lim IntKind.i64 (x3 + (1 : Int)))
 then (some (.inl (.h1 (x0) (true) (true) (x3 + (1 : Int)) (x4))))
 else (none))
 else (bif (lim IntKind.i64 (x3 + (1 : Int)))
 then (some (.inl (.h1 (x0) (true) (false) (x3 + (1 : Int)) (x4))))
 else (none)))
 else (bif (lim IntKind.i64 (x3 + (1 : Int)))
 then (some (.inl (.h1 (x0) (true) (false) (x3 + (1 : Int)) (x4))))
 else (none)))
 else (bif (x2)
 then (bif (decide (tl (Int.toNat x0 + al) < tl (Int.toNat x3 + al)))
 then (bif (lim IntKind.i64 (x3 + (1 : Int)))
 then (some (.inl (.h1 (x0) (false) (true) (x3 + (1 : Int)) (x4))))
 else (none))
 else (bif (lim IntKind.i64 (x3 + (1 : Int)))
 then (some (.inl (.h1 (x0) (false) (false) (x3 + (1 : Int)) (x4))))
 else (none)))
 else (bif (lim IntKind.i64 (x3 + (1 : Int)))
 then (some (.inl (.h1 (x0) (false) (false) (x3 + (1 : Int)) (x4))))
 else (none))))
 else (none))
 else (none))
 else (none))
 else (none))
 else (bif (x2)
 then (bif (decide ((0 : Int) ≤ x0 ∧ x0 < (↑nl : Int)))
 then (bif (decide (Int.toNat x0 + al < ml))
 then (bif (decide ((0 : Int) ≤ x3 ∧ x3 < (↑nl : Int)))
 then (bif (decide (Int.toNat x3 + al < ml))
 then (bif (decide (tl (Int.toNat x0 + al) < tl (Int.toNat x3 + al)))
 then (bif (lim IntKind.i64 (x3 + (1 : Int)))
 then (some (.inl (.h1 (x0) (false) (true) (x3 + (1 : Int)) (x4))))
 else (none))
 else (bif (lim IntKind.i64 (x3 + (1 : Int)))
 then (some (.inl (.h1 (x0) (false) (false) (x3 + (1 : Int)) (x4))))
 else (none)))
 else (none))
 else (none))
 else (none))
 else (none))
 else (bif (lim IntKind.i64 (x3 + (1 : Int)))
 then (some (.inl (.h1 (x0) (false) (false) (x3 + (1 : Int)) (x4))))
 else (none))))
 else (bif (x1)
 then (bif (decide ((0 : Int) ≤ x0 ∧ x0 < (↑nl : Int)))
 then (bif (decide (Int.toNat x0 + al < ml))
 then (bif (decide (List.length x4 + 1 ≤ 1000000))
 then (bif (decide (List.length x4 ≤ List.length x4))
 then (bif (lim IntKind.i64 (x0 + (1 : Int)))
 then (some (.inl (.h0 (x0 + (1 : Int)) (S.snoc x4 (tl (Int.toNat x0 + al))))))
 else (none))
 else (none))
 else (none))
 else (none))
 else (none))
 else (bif (x2)
 then (bif (decide ((0 : Int) ≤ x0 ∧ x0 < (↑nl : Int)))
 then (bif (decide (Int.toNat x0 + al < ml))
 then (bif (decide (List.length x4 + 1 ≤ 1000000))
 then (bif (decide (List.length x4 ≤ List.length x4))
 then (bif (lim IntKind.i64 (x0 + (1 : Int)))
 then (some (.inl (.h0 (x0 + (1 : Int)) (S.snoc x4 (tl (Int.toNat x0 + al))))))
 else (none))
 else (none))
 else (none))
 else (none))
 else (none))
 else (bif (lim IntKind.i64 (x0 + (1 : Int)))
 then (some (.inl (.h0 (x0 + (1 : Int)) (x4))))
 else (none)))) : Option (St29 ⊕ Rt29)) = some x) : T29_1 cond Kst Kret al nl ml tl x0 x1 x2 x3 x4 := by
  unfold T29_1
  exact bif_split h
   (fun c0 h => bif_split h
   (fun c1 h => bif_split h
   (fun c2 h => bif_split h
   (fun c3 h => bif_split h
   (fun c4 h => bif_split h
   (fun c5 h => bif_split h
   (fun c6 h => bif_split h
   (fun c7 h => cond_yes c2 (cond_yes c3 (cond_yes c4 (cond_yes c5 (bif_split h
   (fun c8 h => bif_split h
   (fun c9 h => stop_at hS _ h (fun n => bif Nat.beq n 1 then 1 else n) rfl rfl rfl ⟨(rn_loose (use_lo rfl) rfl rfl rfl), ⟨(rn_own (use_own rfl) rfl rfl), ⟨(rn_int rfl), ⟨(rn_bool_tf rfl), ⟨(rn_bool_tf rfl), ⟨(rn_int rfl), trivial⟩⟩⟩⟩⟩⟩ rfl (entl_new (use_own rfl) rfl (Nat.le_of_eq rfl) (rcs_int (fun _ _ => rfl) rcs_nil) (entl_bor (use_lo rfl) rfl rfl entl_nil)))
   (fun c9 h => no_some h))
   (fun c8 h => bif_split h
   (fun c9 h => stop_at hS _ h (fun n => bif Nat.beq n 1 then 1 else n) rfl rfl rfl ⟨(rn_loose (use_lo rfl) rfl rfl rfl), ⟨(rn_own (use_own rfl) rfl rfl), ⟨(rn_int rfl), ⟨(rn_bool_tf rfl), ⟨(rn_bool_tf rfl), ⟨(rn_int rfl), trivial⟩⟩⟩⟩⟩⟩ rfl (entl_new (use_own rfl) rfl (Nat.le_of_eq rfl) (rcs_int (fun _ _ => rfl) rcs_nil) (entl_bor (use_lo rfl) rfl rfl entl_nil)))
   (fun c9 h => no_some h)))))))
   (fun c7 h => bif_split h
   (fun c8 h => stop_at hS _ h (fun n => bif Nat.beq n 1 then 1 else n) rfl rfl rfl ⟨(rn_loose (use_lo rfl) rfl rfl rfl), ⟨(rn_own (use_own rfl) rfl rfl), ⟨(rn_int rfl), ⟨(rn_bool_tf rfl), ⟨(rn_bool_tf rfl), ⟨(rn_int rfl), trivial⟩⟩⟩⟩⟩⟩ rfl (entl_new (use_own rfl) rfl (Nat.le_of_eq rfl) (rcs_int (fun _ _ => rfl) rcs_nil) (entl_bor (use_lo rfl) rfl rfl entl_nil)))
   (fun c8 h => no_some h)))
   (fun c6 h => bif_split h
   (fun c7 h => cond_yes c2 (cond_yes c3 (cond_yes c4 (cond_yes c5 (bif_split h
   (fun c8 h => bif_split h
   (fun c9 h => stop_at hS _ h (fun n => bif Nat.beq n 1 then 1 else n) rfl rfl rfl ⟨(rn_loose (use_lo rfl) rfl rfl rfl), ⟨(rn_own (use_own rfl) rfl rfl), ⟨(rn_int rfl), ⟨(rn_bool_tf rfl), ⟨(rn_bool_tf rfl), ⟨(rn_int rfl), trivial⟩⟩⟩⟩⟩⟩ rfl (entl_new (use_own rfl) rfl (Nat.le_of_eq rfl) (rcs_int (fun _ _ => rfl) rcs_nil) (entl_bor (use_lo rfl) rfl rfl entl_nil)))
   (fun c9 h => no_some h))
   (fun c8 h => bif_split h
   (fun c9 h => stop_at hS _ h (fun n => bif Nat.beq n 1 then 1 else n) rfl rfl rfl ⟨(rn_loose (use_lo rfl) rfl rfl rfl), ⟨(rn_own (use_own rfl) rfl rfl), ⟨(rn_int rfl), ⟨(rn_bool_tf rfl), ⟨(rn_bool_tf rfl), ⟨(rn_int rfl), trivial⟩⟩⟩⟩⟩⟩ rfl (entl_new (use_own rfl) rfl (Nat.le_of_eq rfl) (rcs_int (fun _ _ => rfl) rcs_nil) (entl_bor (use_lo rfl) rfl rfl entl_nil)))
   (fun c9 h => no_some h)))))))
   (fun c7 h => bif_split h
   (fun c8 h => stop_at hS _ h (fun n => bif Nat.beq n 1 then 1 else n) rfl rfl rfl ⟨(rn_loose (use_lo rfl) rfl rfl rfl), ⟨(rn_own (use_own rfl) rfl rfl), ⟨(rn_int rfl), ⟨(rn_bool_tf rfl), ⟨(rn_bool_tf rfl), ⟨(rn_int rfl), trivial⟩⟩⟩⟩⟩⟩ rfl (entl_new (use_own rfl) rfl (Nat.le_of_eq rfl) (rcs_int (fun _ _ => rfl) rcs_nil) (entl_bor (use_lo rfl) rfl rfl entl_nil)))
   (fun c8 h => no_some h))))
   (fun c5 h => no_some h))
   (fun c4 h => no_some h))
   (fun c3 h => no_some h))
   (fun c2 h => no_some h))
   (fun c1 h => bif_split h
   (fun c2 h => bif_split h
   (fun c3 h => bif_split h
   (fun c4 h => bif_split h
   (fun c5 h => bif_split h
   (fun c6 h => bif_split h
   (fun c7 h => bif_split h
   (fun c8 h => stop_at hS _ h (fun n => bif Nat.beq n 1 then 1 else n) rfl rfl rfl ⟨(rn_loose (use_lo rfl) rfl rfl rfl), ⟨(rn_own (use_own rfl) rfl rfl), ⟨(rn_int rfl), ⟨(rn_bool_tf rfl), ⟨(rn_bool_tf rfl), ⟨(rn_int rfl), trivial⟩⟩⟩⟩⟩⟩ rfl (entl_new (use_own rfl) rfl (Nat.le_of_eq rfl) (rcs_int (fun _ _ => rfl) rcs_nil) (entl_bor (use_lo rfl) rfl rfl entl_nil)))
   (fun c8 h => no_some h))
   (fun c7 h => bif_split h
   (fun c8 h => stop_at hS _ h (fun n => bif Nat.beq n 1 then 1 else n) rfl rfl rfl ⟨(rn_loose (use_lo rfl) rfl rfl rfl), ⟨(rn_own (use_own rfl) rfl rfl), ⟨(rn_int rfl), ⟨(rn_bool_tf rfl), ⟨(rn_bool_tf rfl), ⟨(rn_int rfl), trivial⟩⟩⟩⟩⟩⟩ rfl (entl_new (use_own rfl) rfl (Nat.le_of_eq rfl) (rcs_int (fun _ _ => rfl) rcs_nil) (entl_bor (use_lo rfl) rfl rfl entl_nil)))
   (fun c8 h => no_some h)))
   (fun c6 h => no_some h))
   (fun c5 h => no_some h))
   (fun c4 h => no_some h))
   (fun c3 h => no_some h))
   (fun c2 h => bif_split h
   (fun c3 h => stop_at hS _ h (fun n => bif Nat.beq n 1 then 1 else n) rfl rfl rfl ⟨(rn_loose (use_lo rfl) rfl rfl rfl), ⟨(rn_own (use_own rfl) rfl rfl), ⟨(rn_int rfl), ⟨(rn_bool_tf rfl), ⟨(rn_bool_tf rfl), ⟨(rn_int rfl), trivial⟩⟩⟩⟩⟩⟩ rfl (entl_new (use_own rfl) rfl (Nat.le_of_eq rfl) (rcs_int (fun _ _ => rfl) rcs_nil) (entl_bor (use_lo rfl) rfl rfl entl_nil)))
   (fun c3 h => no_some h))))
   (fun c0 h => bif_split h
   (fun c1 h => bif_split h
   (fun c2 h => bif_split h
   (fun c3 h => bif_split h
   (fun c4 h => bif_split h
   (fun c5 h => cond_yes rfl (bif_split h
   (fun c6 h => stop_at hS _ h (fun n => bif Nat.beq n 1 then 3 else n) rfl rfl rfl ⟨(rn_loose (use_lo rfl) rfl rfl rfl), ⟨(rn_own (use_own rfl) rfl (snoc_len' rfl)), ⟨(rn_int rfl), ⟨(rn_unk _), ⟨(rn_unk _), ⟨(rn_unk _), trivial⟩⟩⟩⟩⟩⟩ rfl (entl_new (use_own rfl) rfl (Nat.le_of_eq (snoc_len' rfl)) (rcs_int (col_snoc' (fun (t : Int) => t) rfl (fun _ _ => rfl)) rcs_nil) (entl_bor (use_lo rfl) rfl rfl entl_nil)))
   (fun c6 h => no_some h)))
   (fun c5 h => no_some h))
   (fun c4 h => no_some h))
   (fun c3 h => no_some h))
   (fun c2 h => no_some h))
   (fun c1 h => bif_split h
   (fun c2 h => bif_split h
   (fun c3 h => bif_split h
   (fun c4 h => bif_split h
   (fun c5 h => bif_split h
   (fun c6 h => cond_yes rfl (bif_split h
   (fun c7 h => stop_at hS _ h (fun n => bif Nat.beq n 1 then 3 else n) rfl rfl rfl ⟨(rn_loose (use_lo rfl) rfl rfl rfl), ⟨(rn_own (use_own rfl) rfl (snoc_len' rfl)), ⟨(rn_int rfl), ⟨(rn_unk _), ⟨(rn_unk _), ⟨(rn_unk _), trivial⟩⟩⟩⟩⟩⟩ rfl (entl_new (use_own rfl) rfl (Nat.le_of_eq (snoc_len' rfl)) (rcs_int (col_snoc' (fun (t : Int) => t) rfl (fun _ _ => rfl)) rcs_nil) (entl_bor (use_lo rfl) rfl rfl entl_nil)))
   (fun c7 h => no_some h)))
   (fun c6 h => no_some h))
   (fun c5 h => no_some h))
   (fun c4 h => no_some h))
   (fun c3 h => no_some h))
   (fun c2 h => bif_split h
   (fun c3 h => stop_at hS _ h (fun n => bif Nat.beq n 1 then 1 else n) rfl rfl rfl ⟨(rn_loose (use_lo rfl) rfl rfl rfl), ⟨(rn_own (use_own rfl) rfl rfl), ⟨(rn_int rfl), ⟨(rn_unk _), ⟨(rn_unk _), ⟨(rn_unk _), trivial⟩⟩⟩⟩⟩⟩ rfl (entl_new (use_own rfl) rfl (Nat.le_of_eq rfl) (rcs_int (fun _ _ => rfl) rcs_nil) (entl_bor (use_lo rfl) rfl rfl entl_nil)))
   (fun c3 h => no_some h))))
theorem a29 (al nl ml : Nat) (tl : Nat → Int) {r : Rt29} (h : Goes ((q29 al nl ml tl)) ((p29 al nl ml tl)) r) : CallR Try.prog 29 [.loose ⟨0, 1, al, 0⟩ nl] [[(0, (false, .cols ml [.int .i64 tl]))]] 1 ((V29 al nl ml tl) r) ((fun r => [newL (1 + 1) ((N29 al nl ml tl) r) ++ [(0, (false, .cols ml [.int .i64 tl]))]]) r) 400 ∧ ∃ F, Try.prog.funcs[29]? = some F ∧ F.body.isSome = true ∧ (F.name == "runtime.NumGoroutine") = false := by
  refine dec_calls (f := 29) (lo := 1) (hi := 400) (H := [[(0, (false, .cols ml [.int .i64 tl]))]]) (args := [.loose ⟨0, 1, al, 0⟩ nl]) Try.envOk Try.mixed yD3_ok ((I29 al nl ml tl)) ((V29 al nl ml tl)) (fun r => [newL (1 + 1) ((N29 al nl ml tl) r) ++ [(0, (false, .cols ml [.int .i64 tl]))]]) (fn := mkFn Try.f29) (ts := [0, 3, 4, 5, 6, 7]) (n := 400) rfl (by decide) (by simp) (names_of rfl) ?_ ?_ ?_ h
  · intro s; cases s <;> exact ⟨hd_ok _ _, by simp [I29], names_of rfl, Nat.le_of_ble_eq_true rfl⟩
  · intro Kst Kret x hS hR h
    exact Holds.eq (te29 cond Kst Kret al nl ml tl) (be29 al nl ml tl Kst Kret x hS hR h)
  · intro Kst Kret x hS hR s h
    cases s with
    | h0 x0 x1 => exact Holds.eq (t29_0 cond Kst Kret al nl ml tl x0 x1) (b29_0 al nl ml tl Kst Kret x hS hR x0 x1 h)
    | h1 x0 x1 x2 x3 x4 => exact Holds.eq (t29_1 cond Kst Kret al nl ml tl x0 x1 x2 x3 x4) (b29_1 al nl ml tl Kst Kret x hS hR x0 x1 x2 x3 x4 h)
noncomputable def k29 : Con := ⟨29, [.one (.list [.int .i64])], fun (x : (Nat × Nat × Nat × (Nat → Int) × Unit) × Unit) => (fun (al nl ml : Nat) (tl : Nat → Int) => decide (al + nl ≤ ml ∧ nl ≤ 999999)) x.1.1 x.1.2.1 x.1.2.2.1 x.1.2.2.2.1, fun (x : (Nat × Nat × Nat × (Nat → Int) × Unit) × Unit) => (fun (al nl ml : Nat) (tl : Nat → Int) => (V29 al nl ml tl) (S.redP (fun j => tl (j + al)) nl nl)) x.1.1 x.1.2.1 x.1.2.2.1 x.1.2.2.2.1, fun (x : (Nat × Nat × Nat × (Nat → Int) × Unit) × Unit) => (fun (al nl ml : Nat) (tl : Nat → Int) => (N29 al nl ml tl) (S.redP (fun j => tl (j + al)) nl nl)) x.1.1 x.1.2.1 x.1.2.2.1 x.1.2.2.2.1, fun _ _ => .dead⟩
theorem s29b (al nl ml : Nat) (tl : Nat → Int) (hp : al + nl ≤ ml ∧ nl ≤ 999999) (i : Nat) (hi : i < nl) (L : List Int) (hL : L.length ≤ i) {R : List Int} (h1 : S.keepB (fun j => tl (j + al)) nl i = true → Comes (q29 al nl ml tl) (.h0 ((i : Int) + 1) (S.snoc L (tl (i + al)))) R) (h2 : S.keepB (fun j => tl (j + al)) nl i = false → Comes (q29 al nl ml tl) (.h0 ((i : Int) + 1) L) R) : ∀ (r m : Nat) (g g' : Bool), m + r = nl - 1 - i → Holds (g = decide (∀ k, k < m → tl (i + 1 + k + al) < tl (i + al))) → Holds (g' = decide (∀ k, k < m → tl (i + al) < tl (i + 1 + k + al))) → Comes (q29 al nl ml tl) (.h1 (i : Int) g g' ((i : Int) + 1 + m) L) R := by
  obtain ⟨hp1, hp2⟩ := hp
  intro r
  induction r with
  | zero =>
    intro m g g' hm eg eg'
    have eg := eg.get
    have eg' := eg'.get
    have hk : S.keepB (fun j => tl (j + al)) nl i = (g || g') := by
      rw [eg, eg', show m = nl - 1 - i by omega]
      unfold S.keepB
      rw [Bool.eq_iff_iff, Bool.or_eq_true, decide_eq_true_eq, decide_eq_true_eq, decide_eq_true_eq]
    rw [hk] at h1 h2
    clear eg eg' hk
    cases g <;> cases g'
    all_goals (
      apply Comes.of
      show Goes _ _ _
      unfold q29
      repeat' first
        | with_reducible refine goes_if (fun h => ?_) (fun h => ?_) <;> (try simp only [lim64, decide_eq_true_eq, decide_eq_false_iff_not, Int.toNat_natCast, toNat_pred, toNat_succ, Option.getD_some, Option.getD_none, Bool.not_eq_true', Bool.not_eq_false', Bool.and_eq_true, Bool.or_eq_true, Bool.and_eq_false_iff, Bool.or_eq_false_iff, bne_iff_ne, beq_iff_eq, bne_eq_false_iff_eq, beq_eq_false_iff_ne, ne_eq, not_and, Int.not_le, Int.not_lt, ge_iff_le, gt_iff_lt, Nat.not_lt, Nat.not_le, Bool.not_eq_true, Bool.not_eq_false, Bool.true_eq_false, Bool.false_eq_true, not_false_eq_true, not_true_eq_false] at h)
        | exact goes_none.mpr (by omega)
      )
    all_goals first | (exfalso; omega) | (exfalso; simp_all; done) | exact h1 rfl | exact h2 rfl
  | succ r ih =>
    intro m g g' hm eg eg'
    have eg := eg.get
    have eg' := eg'.get
    have e2 : ((i : Int) + 1 + m).toNat = i + 1 + m := by omega
    have st : ∀ (a c : Bool), Holds (a = decide (∀ k, k < (m + 1) → tl (i + 1 + k + al) < tl (i + al))) → Holds (c = decide (∀ k, k < (m + 1) → tl (i + al) < tl (i + 1 + k + al))) → Comes (q29 al nl ml tl) (.h1 (i : Int) a c ((i : Int) + 1 + m + 1) L) R := fun a c ha hc => by
      have := ih (m + 1) a c (by omega) ha hc
      rwa [show (i : Int) + 1 + ((m + 1 : Nat) : Int) = (i : Int) + 1 + m + 1 by omega] at this
    have dA : ∀ a, a = (g && decide (tl (i + 1 + m + al) < tl (i + al))) → Holds (a = decide (∀ k, k < (m + 1) → tl (i + 1 + k + al) < tl (i + al))) := fun a h => ⟨by rw [dall_succ, ← eg]; exact h⟩
    have dB : ∀ a, a = (g' && decide (tl (i + al) < tl (i + 1 + m + al))) → Holds (a = decide (∀ k, k < (m + 1) → tl (i + al) < tl (i + 1 + k + al))) := fun a h => ⟨by rw [dall_succ, ← eg']; exact h⟩
    clear eg eg'
    cases g <;> cases g'
    all_goals (
      apply Comes.of
      show Goes _ _ _
      unfold q29
      simp only [e2, Int.toNat_natCast]
      repeat' first
        | with_reducible refine goes_if (fun h => ?_) (fun h => ?_) <;> (try simp only [lim64, decide_eq_true_eq, decide_eq_false_iff_not, Int.toNat_natCast, toNat_pred, toNat_succ, Option.getD_some, Option.getD_none, Bool.not_eq_true', Bool.not_eq_false', Bool.and_eq_true, Bool.or_eq_true, Bool.and_eq_false_iff, Bool.or_eq_false_iff, bne_iff_ne, beq_iff_eq, bne_eq_false_iff_eq, beq_eq_false_iff_ne, ne_eq, not_and, Int.not_le, Int.not_lt, ge_iff_le, gt_iff_lt, Nat.not_lt, Nat.not_le, Bool.not_eq_true, Bool.not_eq_false, Bool.true_eq_false, Bool.false_eq_true, not_false_eq_true, not_true_eq_false] at h)
        | exact goes_none.mpr (by omega)
      )
    all_goals first | (exfalso; omega) | (exfalso; simp_all; done) | (refine st _ _ (dA _ ?_) (dB _ ?_) <;> (symm; simp only [Bool.true_and, Bool.false_and, decide_eq_true_eq, decide_eq_false_iff_not]; done)) | (refine st _ _ (dA _ ?_) (dB _ ?_) <;> (symm; simp only [Bool.true_and, Bool.false_and, decide_eq_true_eq, decide_eq_false_iff_not]; try omega))
theorem s29' (al nl ml : Nat) (tl : Nat → Int) (hp : al + nl ≤ ml ∧ nl ≤ 999999) : ∀ (k i : Nat) (L : List Int), i + k = nl → Holds (L = S.redP (fun j => tl (j + al)) nl i) → Comes (q29 al nl ml tl) (.h0 (i : Int) L) (S.redP (fun j => tl (j + al)) nl nl) := by
  have hp' := hp
  obtain ⟨hp1, hp2⟩ := hp
  intro k
  induction k with
  | zero =>
    intro i L hi eL
    obtain rfl : nl = i := by omega
    apply Comes.of
    show Goes _ _ _
    unfold q29
    repeat' first
      | with_reducible refine goes_if (fun h => ?_) (fun h => ?_) <;> (try simp only [lim64, decide_eq_true_eq, decide_eq_false_iff_not, Int.toNat_natCast, toNat_pred, toNat_succ, Option.getD_some, Option.getD_none, Bool.not_eq_true', Bool.not_eq_false', Bool.and_eq_true, Bool.or_eq_true, Bool.and_eq_false_iff, Bool.or_eq_false_iff, bne_iff_ne, beq_iff_eq, bne_eq_false_iff_eq, beq_eq_false_iff_ne, ne_eq, not_and, Int.not_le, Int.not_lt, ge_iff_le, gt_iff_lt, Nat.not_lt, Nat.not_le, Bool.not_eq_true, Bool.not_eq_false, Bool.true_eq_false, Bool.false_eq_true, not_false_eq_true, not_true_eq_false] at h)
      | exact goes_none.mpr (by omega)
    all_goals first | (exfalso; omega) | exact goes_inr.mpr eL.get
  | succ k ih =>
    intro i L hi eL
    have hb := s29b al nl ml tl hp' i (by omega) L (by rw [eL.get]; exact redP_len) (R := S.redP (fun j => tl (j + al)) nl nl) (fun h => ih (i + 1) _ (by omega) ⟨by simp only [S.redP, h, if_true]; rw [eL.get]⟩) (fun h => ih (i + 1) _ (by omega) ⟨by simp only [S.redP, h, Bool.false_eq_true, if_false]; exact eL.get⟩) (nl - 1 - i) 0 true true (by omega) ⟨(decide_eq_true fun k hk => absurd hk (Nat.not_lt_zero k)).symm⟩ ⟨(decide_eq_true fun k hk => absurd hk (Nat.not_lt_zero k)).symm⟩
    rw [show (i : Int) + 1 + ((0 : Nat) : Int) = (i : Int) + 1 by omega] at hb
    apply Comes.of
    show Goes _ _ _
    unfold q29
    repeat' first
      | with_reducible refine goes_if (fun h => ?_) (fun h => ?_) <;> (try simp only [lim64, decide_eq_true_eq, decide_eq_false_iff_not, Int.toNat_natCast, toNat_pred, toNat_succ, Option.getD_some, Option.getD_none, Bool.not_eq_true', Bool.not_eq_false', Bool.and_eq_true, Bool.or_eq_true, Bool.and_eq_false_iff, Bool.or_eq_false_iff, bne_iff_ne, beq_iff_eq, bne_eq_false_iff_eq, beq_eq_false_iff_ne, ne_eq, not_and, Int.not_le, Int.not_lt, ge_iff_le, gt_iff_lt, Nat.not_lt, Nat.not_le, Bool.not_eq_true, Bool.not_eq_false, Bool.true_eq_false, Bool.false_eq_true, not_false_eq_true, not_true_eq_false] at h)
      | exact goes_none.mpr (by omega)
    all_goals first | (exfalso; omega) | exact hb
theorem s29 (al nl ml : Nat) (tl : Nat → Int) (hp : al + nl ≤ ml ∧ nl ≤ 999999) : Goes ((q29 al nl ml tl)) ((p29 al nl ml tl)) (S.redP (fun j => tl (j + al)) nl nl) := by
  have hm := s29' al nl ml tl hp nl 0 [] (by omega) ⟨rfl⟩
  obtain ⟨hp1, hp2⟩ := hp
  show Goes _ _ _
  unfold p29
  repeat' first
    | with_reducible refine goes_if (fun h => ?_) (fun h => ?_) <;> (try simp only [lim64, decide_eq_true_eq, decide_eq_false_iff_not, Int.toNat_natCast, toNat_pred, toNat_succ, Option.getD_some, Option.getD_none, Bool.not_eq_true', Bool.not_eq_false', Bool.and_eq_true, Bool.or_eq_true, Bool.and_eq_false_iff, Bool.or_eq_false_iff, bne_iff_ne, beq_iff_eq, bne_eq_false_iff_eq, beq_eq_false_iff_ne, ne_eq, not_and, Int.not_le, Int.not_lt, ge_iff_le, gt_iff_lt, Nat.not_lt, Nat.not_le, Bool.not_eq_true, Bool.not_eq_false, Bool.true_eq_false, Bool.false_eq_true, not_false_eq_true, not_true_eq_false] at h)
    | exact goes_none.mpr (by omega)
  all_goals first | (exfalso; omega) | exact hm

theorem k29_ok : k29.ok Try.prog := by
  intro x hx
  obtain ⟨⟨al, nl, ml, tl, _⟩, _⟩ := x
  obtain ⟨h1, h2⟩ := a29 al nl ml tl (s29 al nl ml tl (of_decide_eq_true hx))
  exact ⟨⟨400, (by decide : 1 + 1 + 1 ≤ 400), h1⟩, h2⟩

end Go.Ev
