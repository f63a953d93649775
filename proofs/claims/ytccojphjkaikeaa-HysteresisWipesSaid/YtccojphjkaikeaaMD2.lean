/-
  Reduce, in the program.
-/
import Derived.Test.YtccojphjkaikeaaMD1
import Derived.Test.YtccojphjkaikeaaML2
import Derived.Test.YtccojphjkaikeaaML3
namespace Go.Ev
open Go.Proofs
set_option linter.unusedVariables false
set_option linter.unusedSimpArgs false
set_option maxRecDepth 100000
noncomputable def yD2 (test : Bool → Prop → Prop → Prop) : Ext := consX test [k46, k47, k48]
theorem yD2_ok : ExtOk Try.prog (yD2 cond) := consX_ok (l := [k46, k47, k48]) ⟨k46_ok, k47_ok, k48_ok, trivial⟩
inductive St27 where
  | h0 (x0 : Int) (x1 : List Int)
abbrev Rt27 := List Int
noncomputable def V27 (al nl ml : Nat) (tl : Nat → Int) (r : Rt27) : PV := PV.own (2) (1) (List.length r)
noncomputable def N27 (al nl ml : Nat) (tl : Nat → Int) (r : Rt27) : List Blk := [Blk.cols (List.length r) [Col.int IntKind.i64 fun (j : Nat) => S.at' r j]]
noncomputable def I27 (al nl ml : Nat) (tl : Nat → Int) : St27 → Hd
  | .h0 x0 x1 => ⟨hd Try.f27 0, [PV.loose (PA.mk (0) (1) al (0)) nl,
 PV.own (1) (1) (List.length x1), PV.int IntKind.i64 x0], [[(1, (true, Blk.cols (List.length x1) [Col.int IntKind.i64 fun (j : Nat) => S.at' x1 j]))], [(0, (false, .cols ml [.int .i64 tl]))]], 2⟩
noncomputable def q27 (al nl ml : Nat) (tl : Nat → Int) : St27 → Option (St27 ⊕ Rt27)
  | .h0 x0 x1 => bif (decide (x0 ≥ (0 : Int)))
 then (bif (lim IntKind.i64 (x0 + (1 : Int)))
 then (bif (decide ((0 : Int) ≤ x0 + (1 : Int) ∧ x0 + (1 : Int) ≤ (↑nl : Int) ∧ (↑nl : Int) ≤ (↑nl : Int)))
 then (bif ((↑(nl - Int.toNat (x0 + (1 : Int))) : Int) == (0 : Int))
 then (bif (decide ((0 : Int) ≤ x0 ∧ x0 < (↑nl : Int)))
 then (bif (decide (Int.toNat x0 + al < ml))
 then (bif (decide (List.length x1 + 1 ≤ 1000000))
 then (bif (decide (List.length x1 ≤ List.length x1))
 then (bif (lim IntKind.i64 (x0 - (1 : Int)))
 then (some (.inl (.h0 (x0 - (1 : Int)) (S.snoc x1 (tl (Int.toNat x0 + al))))))
 else (none))
 else (none))
 else (none))
 else (none))
 else (none))
 else (bif (decide ((0 : Int) ≤ x0 ∧ x0 < (↑nl : Int)))
 then (bif (decide (Int.toNat x0 + al < ml))
 then (bif (decide
 (Int.toNat (x0 + (1 : Int)) + al + (nl - Int.toNat (x0 + (1 : Int))) ≤ ml ∧
 nl - Int.toNat (x0 + (1 : Int)) ≤ 1000000 ∧ 0 < nl - Int.toNat (x0 + (1 : Int))))
 then (bif (decide
 (tl (Int.toNat x0 + al) >
 S.maxN (fun (j : Nat) => tl (j + (Int.toNat (x0 + (1 : Int)) + al)))
 (nl - Int.toNat (x0 + (1 : Int)) - 1)))
 then (bif (decide (List.length x1 + 1 ≤ 1000000))
 then (bif (decide (List.length x1 ≤ List.length x1))
 then (bif (lim IntKind.i64 (x0 - (1 : Int)))
 then (some (.inl (.h0 (x0 - (1 : Int)) (S.snoc x1 (tl (Int.toNat x0 + al))))))
 else (none))
 else (none))
 else (none))
 else (bif (decide
 (tl (Int.toNat x0 + al) <
 S.minN (fun (j : Nat) => tl (j + (Int.toNat (x0 + (1 : Int)) + al)))
 (nl - Int.toNat (x0 + (1 : Int)) - 1)))
 then (bif (decide (List.length x1 + 1 ≤ 1000000))
 then (bif (decide (List.length x1 ≤ List.length x1))
 then (bif (lim IntKind.i64 (x0 - (1 : Int)))
 then (some (.inl (.h0 (x0 - (1 : Int)) (S.snoc x1 (tl (Int.toNat x0 + al))))))
 else (none))
 else (none))
 else (none))
 else (bif (lim IntKind.i64 (x0 - (1 : Int)))
 then (some (.inl (.h0 (x0 - (1 : Int)) (x1))))
 else (none))))
 else (none))
 else (none))
 else (none)))
 else (none))
 else (none))
 else (bif (decide (List.length x1 ≤ List.length x1))
 then (bif (decide (List.length x1 ≤ 1000000))
 then (some (.inr (S.mkl (List.length x1) fun (j : Nat) =>
 S.at' (S.mkl (List.length x1) fun (j : Nat) => S.at' x1 (List.length x1 - 1 - j)) j)))
 else (none))
 else (none))
noncomputable def p27 (al nl ml : Nat) (tl : Nat → Int) : Option (St27 ⊕ Rt27) := bif (lim IntKind.i64 ((↑nl : Int) - (1 : Int)))
 then (some (.inl (.h0 ((↑nl : Int) - (1 : Int)) ([]))))
 else (none)
noncomputable def Te27 (test : Bool → Prop → Prop → Prop) (Kst : KS) (Kret : KR) (al nl ml : Nat) (tl : Nat → Int) : Prop :=
  test (lim IntKind.i64 ((↑nl : Int) - (1 : Int)))
 (Kst (hd Try.f27 0) ([PV.loose (PA.mk (0) (1) al (0)) nl, PV.nils,
 PV.int IntKind.i64 ((↑nl : Int) - (1 : Int))]) ([[(0, false, Blk.cols ml [Col.int IntKind.i64 tl])]]) (1))
 (False)
set_option maxRecDepth 100000 in
theorem te27 (test : Bool → Prop → Prop → Prop) (Kst : KS) (Kret : KR) (al nl ml : Nat) (tl : Nat → Int) : run test Try.env true (yD2 test) true 400 ⟨27, [.cd (mkFn Try.f27).body], argT 0 [.loose ⟨0, 1, al, 0⟩ nl], [[], [(0, (false, .cols ml [.int .i64 tl]))]], 1⟩ (proj 1 [0, 3, 4] Kst Kret) =
  Te27 test Kst Kret al nl ml tl := by kernel_rfl
noncomputable def T27_0 (test : Bool → Prop → Prop → Prop) (Kst : KS) (Kret : KR) (al nl ml : Nat) (tl : Nat → Int) (x0 : Int) (x1 : List Int) : Prop :=
  test (decide (x0 ≥ (0 : Int)))
 (test (lim IntKind.i64 (x0 + (1 : Int)))
 (test (decide ((0 : Int) ≤ x0 + (1 : Int) ∧ x0 + (1 : Int) ≤ (↑nl : Int) ∧ (↑nl : Int) ≤ (↑nl : Int)))
 (test ((↑(nl - Int.toNat (x0 + (1 : Int))) : Int) == (0 : Int))
 (test (decide ((0 : Int) ≤ x0 ∧ x0 < (↑nl : Int)))
 (test (decide (Int.toNat x0 + al < ml))
 (test (decide (List.length x1 + 1 ≤ 1000000))
 (test (decide (List.length x1 ≤ List.length x1))
 (test (true)
 (test (lim IntKind.i64 (x0 - (1 : Int)))
 (Kst (hd Try.f27 0) ([PV.loose (PA.mk (0) (1) al (0)) nl,
 PV.own (3) (1) (List.length x1 + 1), PV.int IntKind.i64 (x0 - (1 : Int))]) ([[(0, false, Blk.cols ml [Col.int IntKind.i64 tl]),
 (3, true,
 Blk.cols (List.length x1 + 1)
 [Col.int IntKind.i64 fun (j : Nat) =>
 bif Nat.blt j (List.length x1) then S.at' x1 j else tl (Int.toNat x0 + al)])]]) (4))
 (False))
 (False))
 (False))
 (False))
 (False))
 (False))
 (test (decide ((0 : Int) ≤ x0 ∧ x0 < (↑nl : Int)))
 (test (decide (Int.toNat x0 + al < ml))
 (test (decide
 (Int.toNat (x0 + (1 : Int)) + al + (nl - Int.toNat (x0 + (1 : Int))) ≤ ml ∧
 nl - Int.toNat (x0 + (1 : Int)) ≤ 1000000 ∧ 0 < nl - Int.toNat (x0 + (1 : Int))))
 (test (decide
 (tl (Int.toNat x0 + al) >
 S.maxN (fun (j : Nat) => tl (j + (Int.toNat (x0 + (1 : Int)) + al)))
 (nl - Int.toNat (x0 + (1 : Int)) - 1)))
 (test (decide ((0 : Int) ≤ x0 ∧ x0 < (↑nl : Int)))
 (test (decide (Int.toNat x0 + al < ml))
 (test (decide (List.length x1 + 1 ≤ 1000000))
 (test (decide (List.length x1 ≤ List.length x1))
 (test (true)
 (test (lim IntKind.i64 (x0 - (1 : Int)))
 (Kst (hd Try.f27 0) ([PV.loose (PA.mk (0) (1) al (0)) nl,
 PV.own (4) (1) (List.length x1 + 1), PV.int IntKind.i64 (x0 - (1 : Int))]) ([[(0, false, Blk.cols ml [Col.int IntKind.i64 tl]),
 (4, true,
 Blk.cols (List.length x1 + 1)
 [Col.int IntKind.i64 fun (j : Nat) =>
 bif Nat.blt j (List.length x1) then S.at' x1 j else tl (Int.toNat x0 + al)])]]) (5))
 (False))
 (False))
 (False))
 (False))
 (False))
 (False))
 (test (decide ((0 : Int) ≤ x0 ∧ x0 < (↑nl : Int)))
 (test (decide (Int.toNat x0 + al < ml))
 (test (decide
 (Int.toNat (x0 + (1 : Int)) + al + (nl - Int.toNat (x0 + (1 : Int))) ≤ ml ∧
 nl - Int.toNat (x0 + (1 : Int)) ≤ 1000000 ∧ 0 < nl - Int.toNat (x0 + (1 : Int))))
 (test (decide
 (tl (Int.toNat x0 + al) <
 S.minN (fun (j : Nat) => tl (j + (Int.toNat (x0 + (1 : Int)) + al)))
 (nl - Int.toNat (x0 + (1 : Int)) - 1)))
 (test (decide ((0 : Int) ≤ x0 ∧ x0 < (↑nl : Int)))
 (test (decide (Int.toNat x0 + al < ml))
 (test (decide (List.length x1 + 1 ≤ 1000000))
 (test (decide (List.length x1 ≤ List.length x1))
 (test (true)
 (test (lim IntKind.i64 (x0 - (1 : Int)))
 (Kst (hd Try.f27 0) ([PV.loose (PA.mk (0) (1) al (0)) nl,
 PV.own (5) (1) (List.length x1 + 1), PV.int IntKind.i64 (x0 - (1 : Int))]) ([[(0, false, Blk.cols ml [Col.int IntKind.i64 tl]),
 (5, true,
 Blk.cols (List.length x1 + 1)
 [Col.int IntKind.i64 fun (j : Nat) =>
 bif Nat.blt j (List.length x1) then S.at' x1 j else tl (Int.toNat x0 + al)])]]) (6))
 (False))
 (False))
 (False))
 (False))
 (False))
 (False))
 (test (lim IntKind.i64 (x0 - (1 : Int)))
 (Kst (hd Try.f27 0) ([PV.loose (PA.mk (0) (1) al (0)) nl,
 PV.own (1) (1) (List.length x1), PV.int IntKind.i64 (x0 - (1 : Int))]) ([[(0, false, Blk.cols ml [Col.int IntKind.i64 tl]),
 (1, true,
 Blk.cols (List.length x1) [Col.int IntKind.i64 fun (j : Nat) => S.at' x1 j])]]) (4))
 (False)))
 (False))
 (False))
 (False)))
 (False))
 (False))
 (False)))
 (False))
 (False))
 (test (decide (List.length x1 ≤ List.length x1))
 (test (decide (List.length x1 ≤ 1000000))
 (Kret (PV.own (1) (1) (List.length x1)) ([[(0, false, Blk.cols ml [Col.int IntKind.i64 tl]),
 (1, true,
 Blk.cols
 (List.length (S.mkl (List.length x1) fun (j : Nat) => S.at' x1 (List.length x1 - 1 - j)))
 [Col.int IntKind.i64 fun (j : Nat) =>
 S.at' (S.mkl (List.length x1) fun (j : Nat) => S.at' x1 (List.length x1 - 1 - j))
 j])]]) (3))
 (False))
 (False))
set_option maxRecDepth 100000 in
theorem t27_0 (test : Bool → Prop → Prop → Prop) (Kst : KS) (Kret : KR) (al nl ml : Nat) (tl : Nat → Int) (x0 : Int) (x1 : List Int) : run test Try.env true (yD2 test) true 400 ⟨27, hd Try.f27 0, zipT [0, 3, 4] [PV.loose (PA.mk (0) (1) al (0)) nl,
 PV.own (1) (1) (List.length x1), PV.int IntKind.i64 x0], [[(1, (true, Blk.cols (List.length x1) [Col.int IntKind.i64 fun (j : Nat) => S.at' x1 j]))], [(0, (false, .cols ml [.int .i64 tl]))]], 2⟩ (proj 1 [0, 3, 4] Kst Kret) =
  T27_0 test Kst Kret al nl ml tl x0 x1 := by kernel_rfl
set_option maxRecDepth 100000 in
theorem be27 (al nl ml : Nat) (tl : Nat → Int) (Kst : KS) (Kret : KR) (x : St27 ⊕ Rt27) (hS : HS 1 400 ((I27 al nl ml tl)) Kst x) (hR : HR 1 400 ((V27 al nl ml tl)) (fun r => [newL (1 + 1) ((N27 al nl ml tl) r) ++ [(0, (false, .cols ml [.int .i64 tl]))]]) Kret x) (h : (bif (lim IntKind.i64 ((↑nl : Int) - (1 : Int)))
 then (some (.inl (.h0 ((↑nl : Int) - (1 : Int)) ([]))))
 else (none) : Option (St27 ⊕ Rt27)) = some x) : Te27 cond Kst Kret al nl ml tl := by
  unfold Te27
  exact bif_split h
   (fun c0 h => stop_at hS _ h (fun n => bif Nat.beq n 1 then 399 else n) rfl rfl rfl ⟨(rn_loose (use_lo rfl) rfl rfl rfl), ⟨(rn_own_nils rfl), ⟨(rn_int rfl), trivial⟩⟩⟩ rfl (entl_fresh (use_own rfl) (fresh_ok rfl) (entl_bor (use_lo rfl) rfl rfl entl_nil)))
   (fun c0 h => no_some h)
set_option maxRecDepth 100000 in
theorem b27_0 (al nl ml : Nat) (tl : Nat → Int) (Kst : KS) (Kret : KR) (x : St27 ⊕ Rt27) (hS : HS 1 400 ((I27 al nl ml tl)) Kst x) (hR : HR 1 400 ((V27 al nl ml tl)) (fun r => [newL (1 + 1) ((N27 al nl ml tl) r) ++ [(0, (false, .cols ml [.int .i64 tl]))]]) Kret x) (x0 : Int) (x1 : List Int) (h : (bif (decide (x0 ≥ (0 : Int)))
 then (bif (lim IntKind.i64 (x0 + (1 : Int)))
 then (bif (decide ((0 : Int) ≤ x0 + (1 : Int) ∧ x0 + (1 : Int) ≤ (↑nl : Int) ∧ (↑nl : Int) ≤ (↑nl : Int)))
 then (bif ((↑(nl - Int.toNat (x0 + (1 : Int))) : Int) == (0 : Int))
 then (bif (decide ((0 : Int) ≤ x0 ∧ x0 < (↑nl : Int)))
 then (bif (decide (Int.toNat x0 + al < ml))
 then (bif (decide (List.length x1 + 1 ≤ 1000000))
 then (bif (decide (List.length x1 ≤ List.length x1))
 then (bif (lim IntKind.i64 (x0 - (1 : Int)))
 then (some (.inl (.h0 (x0 - (1 : Int)) (S.snoc x1 (tl (Int.toNat x0 + al))))))
 else (none))
 else (none))
 else (none))
 else (none))
 else (none))
 else (bif (decide ((0 : Int) ≤ x0 ∧ x0 < (↑nl : Int)))
 then (bif (decide (Int.toNat x0 + al < ml))
 then (bif (decide
 (Int.toNat (x0 + (1 : Int)) + al + (nl - Int.toNat (x0 + (1 : Int))) ≤ ml ∧
 nl - Int.toNat (x0 + (1 : Int)) ≤ 1000000 ∧ 0 < nl - Int.toNat (x0 + (1 : Int))))
 then (bif (decide
 (tl (Int.toNat x0 + al) >
 S.maxN (fun (j : Nat) => tl (j + (Int.toNat (x0 + (1 : Int)) + al)))
 (nl - Int.toNat (x0 + (1 : Int)) - 1)))
 then (bif (decide (List.length x1 + 1 ≤ 1000000))
 then (bif (decide (List.length x1 ≤ List.length x1))
 then (bif (lim IntKind.i64 (x0 - (1 : Int)))
 then (some (.inl (.h0 (x0 - (1 : Int)) (S.snoc x1 (tl (Int.toNat x0 + al))))))
 else (none))
 else (none))
 else (none))
 else (bif (decide
 (tl (Int.toNat x0 + al) <
 S.minN (fun (j : Nat) => tl (j + (Int.toNat (x0 + (1 : Int)) + al)))
 (nl - Int.toNat (x0 + (1 : Int)) - 1)))
 then (bif (decide (List.length x1 + 1 ≤ 1000000))
 then (bif (decide (List.length x1 ≤ List.length x1))
 then (bif (lim IntKind.i64 (x0 - (1 : Int)))
 then (some (.inl (.h0 (x0 - (1 : Int)) (S.snoc x1 (tl (Int.toNat x0 + al))))))
 else (none))
 else (none))
 else (none))
 else (bif (lim IntKind.i64 (x0 - (1 : Int)))
 then (some (.inl (.h0 (x0 - (1 : Int)) (x1))))
 else (none))))
 else (none))
 else (none))
 else (none)))
 else (none))
 else (none))
 else (bif (decide (List.length x1 ≤ List.length x1))
 then (bif (decide (List.length x1 ≤ 1000000))
 then (some (.inr (S.mkl (List.length x1) fun (j : Nat) =>
 S.at' (S.mkl (List.length x1) fun (j : Nat) => S.at' x1 (List.length x1 - 1 - j)) j)))
 else (none))
 else (none)) : Option (St27 ⊕ Rt27)) = some x) : T27_0 cond Kst Kret al nl ml tl x0 x1 := by
  unfold T27_0
  exact bif_split h
   (fun c0 h => bif_split h
   (fun c1 h => bif_split h
   (fun c2 h => bif_split h
   (fun c3 h => bif_split h
   (fun c4 h => bif_split h
   (fun c5 h => bif_split h
   (fun c6 h => bif_split h
   (fun c7 h => cond_yes rfl (bif_split h
   (fun c8 h => stop_at hS _ h (fun n => bif Nat.beq n 1 then 3 else n) rfl rfl rfl ⟨(rn_loose (use_lo rfl) rfl rfl rfl), ⟨(rn_own (use_own rfl) rfl (snoc_len' rfl)), ⟨(rn_int rfl), trivial⟩⟩⟩ rfl (entl_new (use_own rfl) rfl (Nat.le_of_eq (snoc_len' rfl)) (rcs_int (col_snoc' (fun (t : Int) => t) rfl (fun _ _ => rfl)) rcs_nil) (entl_bor (use_lo rfl) rfl rfl entl_nil)))
   (fun c8 h => no_some h)))
   (fun c7 h => no_some h))
   (fun c6 h => no_some h))
   (fun c5 h => no_some h))
   (fun c4 h => no_some h))
   (fun c3 h => bif_split h
   (fun c4 h => bif_split h
   (fun c5 h => bif_split h
   (fun c6 h => bif_split h
   (fun c7 h => cond_yes c4 (cond_yes c5 (bif_split h
   (fun c8 h => bif_split h
   (fun c9 h => cond_yes rfl (bif_split h
   (fun c10 h => stop_at hS _ h (fun n => bif Nat.beq n 1 then 4 else n) rfl rfl rfl ⟨(rn_loose (use_lo rfl) rfl rfl rfl), ⟨(rn_own (use_own rfl) rfl (snoc_len' rfl)), ⟨(rn_int rfl), trivial⟩⟩⟩ rfl (entl_new (use_own rfl) rfl (Nat.le_of_eq (snoc_len' rfl)) (rcs_int (col_snoc' (fun (t : Int) => t) rfl (fun _ _ => rfl)) rcs_nil) (entl_bor (use_lo rfl) rfl rfl entl_nil)))
   (fun c10 h => no_some h)))
   (fun c9 h => no_some h))
   (fun c8 h => no_some h))))
   (fun c7 h => cond_yes c4 (cond_yes c5 (cond_yes c6 (bif_split h
   (fun c8 h => cond_yes c4 (cond_yes c5 (bif_split h
   (fun c9 h => bif_split h
   (fun c10 h => cond_yes rfl (bif_split h
   (fun c11 h => stop_at hS _ h (fun n => bif Nat.beq n 1 then 5 else n) rfl rfl rfl ⟨(rn_loose (use_lo rfl) rfl rfl rfl), ⟨(rn_own (use_own rfl) rfl (snoc_len' rfl)), ⟨(rn_int rfl), trivial⟩⟩⟩ rfl (entl_new (use_own rfl) rfl (Nat.le_of_eq (snoc_len' rfl)) (rcs_int (col_snoc' (fun (t : Int) => t) rfl (fun _ _ => rfl)) rcs_nil) (entl_bor (use_lo rfl) rfl rfl entl_nil)))
   (fun c11 h => no_some h)))
   (fun c10 h => no_some h))
   (fun c9 h => no_some h))))
   (fun c8 h => bif_split h
   (fun c9 h => stop_at hS _ h (fun n => bif Nat.beq n 1 then 1 else n) rfl rfl rfl ⟨(rn_loose (use_lo rfl) rfl rfl rfl), ⟨(rn_own (use_own rfl) rfl rfl), ⟨(rn_int rfl), trivial⟩⟩⟩ rfl (entl_new (use_own rfl) rfl (Nat.le_of_eq rfl) (rcs_int (fun _ _ => rfl) rcs_nil) (entl_bor (use_lo rfl) rfl rfl entl_nil)))
   (fun c9 h => no_some h)))))))
   (fun c6 h => no_some h))
   (fun c5 h => no_some h))
   (fun c4 h => no_some h)))
   (fun c2 h => no_some h))
   (fun c1 h => no_some h))
   (fun c0 h => bif_split h
   (fun c1 h => bif_split h
   (fun c2 h => ret_at hR _ h (fun n => bif Nat.beq n 2 then 1 else n) rfl rfl rfl (rn_own (use_own rfl) rfl mkl_len) rfl (entl_new (use_own rfl) rfl (by first | exact Nat.le_of_eq mkl_len | (simp only [mkl_len, snoc_len]; omega)) (rcs_int (fun _ hj => col_mkl (fun (t : Int) => t) hj) rcs_nil) (entl_bor (use_lo rfl) rfl rfl entl_nil)))
   (fun c2 h => no_some h))
   (fun c1 h => no_some h))
theorem a27 (al nl ml : Nat) (tl : Nat → Int) {r : Rt27} (h : Goes ((q27 al nl ml tl)) ((p27 al nl ml tl)) r) : CallR Try.prog 27 [.loose ⟨0, 1, al, 0⟩ nl] [[(0, (false, .cols ml [.int .i64 tl]))]] 1 ((V27 al nl ml tl) r) ((fun r => [newL (1 + 1) ((N27 al nl ml tl) r) ++ [(0, (false, .cols ml [.int .i64 tl]))]]) r) 400 ∧ ∃ F, Try.prog.funcs[27]? = some F ∧ F.body.isSome = true ∧ (F.name == "runtime.NumGoroutine") = false := by
  refine dec_calls (f := 27) (lo := 1) (hi := 400) (H := [[(0, (false, .cols ml [.int .i64 tl]))]]) (args := [.loose ⟨0, 1, al, 0⟩ nl]) Try.envOk Try.mixed yD2_ok ((I27 al nl ml tl)) ((V27 al nl ml tl)) (fun r => [newL (1 + 1) ((N27 al nl ml tl) r) ++ [(0, (false, .cols ml [.int .i64 tl]))]]) (fn := mkFn Try.f27) (ts := [0, 3, 4]) (n := 400) rfl (by decide) (by simp) (names_of rfl) ?_ ?_ ?_ h
  · intro s; cases s <;> exact ⟨hd_ok _ _, by simp [I27], names_of rfl, Nat.le_of_ble_eq_true rfl⟩
  · intro Kst Kret x hS hR h
    exact Holds.eq (te27 cond Kst Kret al nl ml tl) (be27 al nl ml tl Kst Kret x hS hR h)
  · intro Kst Kret x hS hR s h
    cases s with
    | h0 x0 x1 => exact Holds.eq (t27_0 cond Kst Kret al nl ml tl x0 x1) (b27_0 al nl ml tl Kst Kret x hS hR x0 x1 h)
noncomputable def k27 : Con := ⟨27, [.one (.list [.int .i64])], fun (x : (Nat × Nat × Nat × (Nat → Int) × Unit) × Unit) => (fun (al nl ml : Nat) (tl : Nat → Int) => decide (al + nl ≤ ml ∧ nl ≤ 999999)) x.1.1 x.1.2.1 x.1.2.2.1 x.1.2.2.2.1, fun (x : (Nat × Nat × Nat × (Nat → Int) × Unit) × Unit) => (fun (al nl ml : Nat) (tl : Nat → Int) => (V27 al nl ml tl) (S.redP (fun j => tl (j + al)) nl nl)) x.1.1 x.1.2.1 x.1.2.2.1 x.1.2.2.2.1, fun (x : (Nat × Nat × Nat × (Nat → Int) × Unit) × Unit) => (fun (al nl ml : Nat) (tl : Nat → Int) => (N27 al nl ml tl) (S.redP (fun j => tl (j + al)) nl nl)) x.1.1 x.1.2.1 x.1.2.2.1 x.1.2.2.2.1, fun _ _ => .dead⟩
theorem s27' (al nl ml : Nat) (tl : Nat → Int) (hp : al + nl ≤ ml ∧ nl ≤ 999999) : ∀ (m k : Nat) (L : List Int), k + m = nl → Holds (L = (S.redF (fun j => tl (j + al)) nl m k).reverse) → Comes (q27 al nl ml tl) (.h0 ((m : Int) - 1) L) (S.redP (fun j => tl (j + al)) nl nl) := by
  obtain ⟨hp1, hp2⟩ := hp
  intro m
  induction m with
  | zero =>
    intro k L hk eL
    have hl : L.length ≤ k := by rw [eL.get, List.length_reverse]; exact redF_len
    obtain rfl : nl = k := by omega
    apply Comes.of
    show Goes _ _ _
    unfold q27
    repeat' first
      | with_reducible refine goes_if (fun h => ?_) (fun h => ?_) <;> (try simp only [lim64, decide_eq_true_eq, decide_eq_false_iff_not, Int.toNat_natCast, toNat_pred, toNat_succ, Option.getD_some, Option.getD_none, Bool.not_eq_true', Bool.not_eq_false', Bool.and_eq_true, Bool.or_eq_true, Bool.and_eq_false_iff, Bool.or_eq_false_iff, bne_iff_ne, beq_iff_eq, bne_eq_false_iff_eq, beq_eq_false_iff_ne, ne_eq, not_and, Int.not_le, Int.not_lt, ge_iff_le, gt_iff_lt, Nat.not_lt, Nat.not_le, Bool.not_eq_true, Bool.not_eq_false, Bool.true_eq_false, Bool.false_eq_true, not_false_eq_true, not_true_eq_false] at h)
      | exact goes_none.mpr (by omega)
    all_goals first | (exfalso; omega) | (refine goes_inr.mpr ?_; rw [show (fun j => S.at' (S.mkl L.length fun j => S.at' L (L.length - 1 - j)) j) = S.at' (S.mkl L.length fun j => S.at' L (L.length - 1 - j)) from rfl]; rw [show S.mkl L.length (S.at' (S.mkl L.length fun j => S.at' L (L.length - 1 - j))) = S.mkl L.length fun j => S.at' L (L.length - 1 - j) from by have := mkl_at (S.mkl L.length fun j => S.at' L (L.length - 1 - j)); rwa [mkl_len] at this]; rw [rev_mkl, eL.get, List.reverse_reverse, red_all])
  | succ i ih =>
    intro k L hk eL
    have hl : L.length ≤ k := by rw [eL.get, List.length_reverse]; exact redF_len
    have e1 : ((i + 1 : Nat) : Int) - 1 = i := by omega
    have e2 : ((i : Int) + 1).toNat = i + 1 := by omega
    rw [e1]
    have hK : 0 < nl - 1 - i → (S.keepB (fun j => tl (j + al)) nl i = true ↔ (tl (i + al) > S.maxN (fun j => tl (j + (i + 1 + al))) (nl - (i + 1) - 1) ∨ tl (i + al) < S.minN (fun j => tl (j + (i + 1 + al))) (nl - (i + 1) - 1))) := fun h => by
      rw [keep_max h]
      rw [show nl - 1 - i - 1 = nl - (i + 1) - 1 by omega]
      rw [show (fun j => (fun j => tl (j + al)) (i + 1 + j)) = fun j => tl (j + (i + 1 + al)) from funext fun j => by rw [show j + (i + 1 + al) = i + 1 + j + al by omega]]
    have hK0 : nl - 1 - i = 0 → S.keepB (fun j => tl (j + al)) nl i = true := keep_last
    have yesk : S.keepB (fun j => tl (j + al)) nl i = true → Comes (q27 al nl ml tl) (.h0 ((i : Int) - 1) (S.snoc L (tl (i + al)))) (S.redP (fun j => tl (j + al)) nl nl) := fun h => ih (k + 1) _ (by omega) ⟨by simp only [S.redF, h, if_true]; rw [eL.get, List.reverse_cons]; rfl⟩
    have nok : ¬ S.keepB (fun j => tl (j + al)) nl i = true → Comes (q27 al nl ml tl) (.h0 ((i : Int) - 1) L) (S.redP (fun j => tl (j + al)) nl nl) := fun h => ih (k + 1) _ (by omega) ⟨by simp only [S.redF, if_neg h]; exact eL.get⟩
    generalize S.keepB (fun j => tl (j + al)) nl i = kp at *
    apply Comes.of
    show Goes _ _ _
    unfold q27
    simp only [e2, Int.toNat_natCast]
    generalize hM : S.maxN (fun j => tl (j + (i + 1 + al))) (nl - (i + 1) - 1) = M at *
    generalize hW : S.minN (fun j => tl (j + (i + 1 + al))) (nl - (i + 1) - 1) = W at *
    repeat' first
      | with_reducible refine goes_if (fun h => ?_) (fun h => ?_) <;> (try simp only [lim64, decide_eq_true_eq, decide_eq_false_iff_not, Int.toNat_natCast, toNat_pred, toNat_succ, Option.getD_some, Option.getD_none, Bool.not_eq_true', Bool.not_eq_false', Bool.and_eq_true, Bool.or_eq_true, Bool.and_eq_false_iff, Bool.or_eq_false_iff, bne_iff_ne, beq_iff_eq, bne_eq_false_iff_eq, beq_eq_false_iff_ne, ne_eq, not_and, Int.not_le, Int.not_lt, ge_iff_le, gt_iff_lt, Nat.not_lt, Nat.not_le, Bool.not_eq_true, Bool.not_eq_false, Bool.true_eq_false, Bool.false_eq_true, not_false_eq_true, not_true_eq_false] at h)
      | exact goes_none.mpr (by omega)
    all_goals first | (exfalso; omega) | (exact yesk (hK0 (by omega))) | (exact yesk ((hK (by omega)).mpr (by omega))) | (exact nok fun hk => by have := (hK (by omega)).mp hk; omega)
theorem s27 (al nl ml : Nat) (tl : Nat → Int) (hp : al + nl ≤ ml ∧ nl ≤ 999999) : Goes ((q27 al nl ml tl)) ((p27 al nl ml tl)) (S.redP (fun j => tl (j + al)) nl nl) := by
  have hm := s27' al nl ml tl hp nl 0 [] (by omega) ⟨rfl⟩
  obtain ⟨hp1, hp2⟩ := hp
  show Goes _ _ _
  unfold p27
  repeat' first
    | with_reducible refine goes_if (fun h => ?_) (fun h => ?_) <;> (try simp only [lim64, decide_eq_true_eq, decide_eq_false_iff_not, Int.toNat_natCast, toNat_pred, toNat_succ, Option.getD_some, Option.getD_none, Bool.not_eq_true', Bool.not_eq_false', Bool.and_eq_true, Bool.or_eq_true, Bool.and_eq_false_iff, Bool.or_eq_false_iff, bne_iff_ne, beq_iff_eq, bne_eq_false_iff_eq, beq_eq_false_iff_ne, ne_eq, not_and, Int.not_le, Int.not_lt, ge_iff_le, gt_iff_lt, Nat.not_lt, Nat.not_le, Bool.not_eq_true, Bool.not_eq_false, Bool.true_eq_false, Bool.false_eq_true, not_false_eq_true, not_true_eq_false] at h)
    | exact goes_none.mpr (by omega)
  all_goals first | (exfalso; omega) | exact hm

theorem k27_ok : k27.ok Try.prog := by
  intro x hx
  obtain ⟨⟨al, nl, ml, tl, _⟩, _⟩ := x
  obtain ⟨h1, h2⟩ := a27 al nl ml tl (s27 al nl ml tl (of_decide_eq_true hx))
  exact ⟨⟨400, (by decide : 1 + 1 + 1 ≤ 400), h1⟩, h2⟩


end Go.Ev
