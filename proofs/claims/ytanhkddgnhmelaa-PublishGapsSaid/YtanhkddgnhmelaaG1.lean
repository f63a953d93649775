/-
  Gaps.
-/
import Derived.Test.YtanhkddgnhmelaaAW
namespace Go.Ev
open Go.Proofs
set_option linter.unusedVariables false
set_option linter.unusedSimpArgs false
set_option maxRecDepth 100000

namespace S
def gapF (t : Nat → ByteArray) (g : Nat → Int) : Nat → Nat → List (Int × Int × Bool × Bool) → Int × List (Int × Int × Bool × Bool)
  | _, 0, L => (0, L)
  | i, k + 1, L => if 1 ≤ g i ∧ g i ≤ 1099511627776 then (if i = 0 then gapF t g (i + 1) k L else if eqS (t i) (t 0) = false then (1, []) else if g i ≤ g (i - 1) then (15, []) else if g i > g (i - 1) + 1 then gapF t g (i + 1) k (snoc L (g (i - 1) + 1, g i - 1, false, false)) else gapF t g (i + 1) k L) else (6, [])
def gapS (n : Nat) (t : Nat → ByteArray) (g : Nat → Int) : Int × List (Int × Int × Bool × Bool) := if n > 1000 then (3, []) else gapF t g 0 n []
end S
theorem eqS_self {s : ByteArray} : S.eqS s s = true := beq_self_eq_true _
theorem gapF_len {t : Nat → ByteArray} {g : Nat → Int} : ∀ {k i : Nat} {L : List (Int × Int × Bool × Bool)}, (S.gapF t g i k L).2.length ≤ L.length + k
  | 0, _, _ => Nat.le_refl _
  | k + 1, i, L => by
    simp only [S.gapF]
    split
    · split
      · have := gapF_len (t := t) (g := g) (k := k) (i := i + 1) (L := L); omega
      · split
        · exact Nat.zero_le _
        · split
          · exact Nat.zero_le _
          · split
            · have := gapF_len (t := t) (g := g) (k := k) (i := i + 1) (L := S.snoc L (g (i - 1) + 1, g i - 1, false, false)); rw [snoc_len] at this; omega
            · have := gapF_len (t := t) (g := g) (k := k) (i := i + 1) (L := L); omega
    · exact Nat.zero_le _
theorem gapS_len {n : Nat} {t : Nat → ByteArray} {g : Nat → Int} : (S.gapS n t g).2.length ≤ 1000 := by
  unfold S.gapS
  split
  · exact Nat.zero_le _
  · have := gapF_len (t := t) (g := g) (k := n) (i := 0) (L := []); simp only [List.length_nil] at this; omega
inductive St5 where
  | h0 (x0 : Int) (x1 : List (Int × Int × Bool × Bool))
abbrev Rt5 := Int × List (Int × Int × Bool × Bool)
noncomputable def V5 (al nl ml : Nat) (tl : Nat → ByteArray) (vl : Nat → Int) (gl : Nat → Int) (wl : Nat → ByteArray) (r : Rt5) : PV := PV.tup [PV.own (2) (4) (List.length r.2), PV.int IntKind.i64 r.1]
noncomputable def N5 (al nl ml : Nat) (tl : Nat → ByteArray) (vl : Nat → Int) (gl : Nat → Int) (wl : Nat → ByteArray) (r : Rt5) : List Blk := [Blk.cols (List.length r.2)
 [Col.int IntKind.i64 fun (j : Nat) => (S.at' r.2 j).1,
 Col.int IntKind.i64 fun (j : Nat) => (S.at' r.2 j).2.1,
 Col.bool fun (j : Nat) => (S.at' r.2 j).2.2.1,
 Col.bool fun (j : Nat) => (S.at' r.2 j).2.2.2]]
noncomputable def I5 (al nl ml : Nat) (tl : Nat → ByteArray) (vl : Nat → Int) (gl : Nat → Int) (wl : Nat → ByteArray) : St5 → Hd
  | .h0 x0 x1 => ⟨hd Try.f5 0, [PV.loose (PA.mk (0) (4) al (0)) nl,
 PV.own (1) (4) (List.length x1),
 PV.loose (PA.mk (0) (4) al (0)) nl, PV.int IntKind.i64 (↑nl : Int),
 PV.int IntKind.i64 x0], [[(1, (true, Blk.cols (List.length x1)
 [Col.int IntKind.i64 fun (j : Nat) => (S.at' x1 j).1,
 Col.int IntKind.i64 fun (j : Nat) => (S.at' x1 j).2.1,
 Col.bool fun (j : Nat) => (S.at' x1 j).2.2.1,
 Col.bool fun (j : Nat) => (S.at' x1 j).2.2.2]))], [(0, (false, .cols ml [.str tl, .int .i64 vl, .int .i64 gl, .str wl]))]], 2⟩
noncomputable def q5 (al nl ml : Nat) (tl : Nat → ByteArray) (vl : Nat → Int) (gl : Nat → Int) (wl : Nat → ByteArray) : St5 → Option (St5 ⊕ Rt5)
  | .h0 x0 x1 => bif (decide (x0 < (↑nl : Int)))
 then (bif (decide ((0 : Int) ≤ x0 ∧ x0 < (↑nl : Int)))
 then (bif (decide (Int.toNat x0 + al < ml))
 then (bif (decide (gl (Int.toNat x0 + al) ≥ (1 : Int)))
 then (bif (decide (gl (Int.toNat x0 + al) ≤ (1099511627776 : Int)))
 then (bif (x0 == (0 : Int))
 then (bif (lim IntKind.i64 (x0 + (1 : Int)))
 then (some (.inl (.h0 (x0 + (1 : Int)) (x1))))
 else (none))
 else (bif (lim IntKind.i64 (x0 - (1 : Int)))
 then (bif (decide ((0 : Int) ≤ x0 - (1 : Int) ∧ x0 - (1 : Int) < (↑nl : Int)))
 then (bif (decide (Int.toNat (x0 - (1 : Int)) + al < ml))
 then (bif (decide ((0 : Int) ≤ (0 : Int) ∧ (0 : Int) < (↑nl : Int)))
 then (bif (decide (0 + al < ml))
 then (bif (!S.eqS (tl (Int.toNat x0 + al)) (tl (0 + al)))
 then (some (.inr ((1 : Int), [])))
 else (bif (decide (gl (Int.toNat x0 + al) ≤ gl (Int.toNat (x0 - (1 : Int)) + al)))
 then (some (.inr ((15 : Int), [])))
 else (bif (lim IntKind.i64 (gl (Int.toNat (x0 - (1 : Int)) + al) + (1 : Int)))
 then (bif (decide (gl (Int.toNat x0 + al) > gl (Int.toNat (x0 - (1 : Int)) + al) + (1 : Int)))
 then (bif (lim IntKind.i64 (gl (Int.toNat x0 + al) - (1 : Int)))
 then (bif (decide (List.length x1 + 1 ≤ 1000000))
 then (bif (decide (List.length x1 ≤ List.length x1))
 then (bif (lim IntKind.i64 (x0 + (1 : Int)))
 then (some (.inl (.h0 (x0 + (1 : Int)) (S.snoc x1
 (gl (Int.toNat (x0 - (1 : Int)) + al) + (1 : Int), gl (Int.toNat x0 + al) - (1 : Int), false, false)))))
 else (none))
 else (none))
 else (none))
 else (none))
 else (bif (lim IntKind.i64 (x0 + (1 : Int)))
 then (some (.inl (.h0 (x0 + (1 : Int)) (x1))))
 else (none)))
 else (none))))
 else (none))
 else (none))
 else (none))
 else (none))
 else (none)))
 else (some (.inr ((6 : Int), []))))
 else (some (.inr ((6 : Int), []))))
 else (none))
 else (none))
 else (some (.inr ((0 : Int), x1)))
noncomputable def p5 (al nl ml : Nat) (tl : Nat → ByteArray) (vl : Nat → Int) (gl : Nat → Int) (wl : Nat → ByteArray) : Option (St5 ⊕ Rt5) := bif (decide ((↑nl : Int) > (1000 : Int)))
 then (some (.inr ((3 : Int), [])))
 else (some (.inl (.h0 ((0 : Int)) ([]))))
noncomputable def Te5 (test : Bool → Prop → Prop → Prop) (Kst : KS) (Kret : KR) (al nl ml : Nat) (tl : Nat → ByteArray) (vl : Nat → Int) (gl : Nat → Int) (wl : Nat → ByteArray) : Prop :=
  test (decide ((↑nl : Int) > (1000 : Int)))
 (Kret (PV.tup [PV.nils, PV.int IntKind.i64 (3 : Int)]) ([[(0, false,
 Blk.cols ml
 [Col.str tl, Col.int IntKind.i64 vl, Col.int IntKind.i64 gl, Col.str wl])]]) (1))
 (Kst (hd Try.f5 0) ([PV.loose (PA.mk (0) (4) al (0)) nl, PV.nils,
 PV.loose (PA.mk (0) (4) al (0)) nl, PV.int IntKind.i64 (↑nl : Int),
 PV.int IntKind.i64 (0 : Int)]) ([[(0, false,
 Blk.cols ml
 [Col.str tl, Col.int IntKind.i64 vl, Col.int IntKind.i64 gl, Col.str wl])]]) (1))
set_option maxRecDepth 100000 in
theorem te5 (test : Bool → Prop → Prop → Prop) (Kst : KS) (Kret : KR) (al nl ml : Nat) (tl : Nat → ByteArray) (vl : Nat → Int) (gl : Nat → Int) (wl : Nat → ByteArray) : run test Try.env true noX true 400 ⟨5, [.cd (mkFn Try.f5).body], argT 0 [.loose ⟨0, 4, al, 0⟩ nl], [[], [(0, (false, .cols ml [.str tl, .int .i64 vl, .int .i64 gl, .str wl]))]], 1⟩ (proj 1 [0, 4, 11, 12, 13] Kst Kret) =
  Te5 test Kst Kret al nl ml tl vl gl wl := by kernel_rfl
noncomputable def T5_0 (test : Bool → Prop → Prop → Prop) (Kst : KS) (Kret : KR) (al nl ml : Nat) (tl : Nat → ByteArray) (vl : Nat → Int) (gl : Nat → Int) (wl : Nat → ByteArray) (x0 : Int) (x1 : List (Int × Int × Bool × Bool)) : Prop :=
  test (decide (x0 < (↑nl : Int)))
 (test (decide ((0 : Int) ≤ x0 ∧ x0 < (↑nl : Int)))
 (test (decide (Int.toNat x0 + al < ml))
 (test (decide (Int.toNat x0 + al < ml))
 (test (decide (Int.toNat x0 + al < ml))
 (test (decide (Int.toNat x0 + al < ml))
 (test (decide (gl (Int.toNat x0 + al) ≥ (1 : Int)))
 (test (decide (gl (Int.toNat x0 + al) ≤ (1099511627776 : Int)))
 (test (x0 == (0 : Int))
 (test (lim IntKind.i64 (x0 + (1 : Int)))
 (Kst (hd Try.f5 0) ([PV.loose (PA.mk (0) (4) al (0)) nl,
 PV.own (1) (4) (List.length x1),
 PV.loose (PA.mk (0) (4) al (0)) nl, PV.int IntKind.i64 (↑nl : Int),
 PV.int IntKind.i64 (x0 + (1 : Int))]) ([[(0, false,
 Blk.cols ml
 [Col.str tl, Col.int IntKind.i64 vl, Col.int IntKind.i64 gl, Col.str wl]),
 (1, true,
 Blk.cols (List.length x1)
 [Col.int IntKind.i64 fun (j : Nat) => (S.at' x1 j).1,
 Col.int IntKind.i64 fun (j : Nat) => (S.at' x1 j).2.1,
 Col.bool fun (j : Nat) => (S.at' x1 j).2.2.1,
 Col.bool fun (j : Nat) => (S.at' x1 j).2.2.2])]]) (3))
 (False))
 (test (lim IntKind.i64 (x0 - (1 : Int)))
 (test (decide ((0 : Int) ≤ x0 - (1 : Int) ∧ x0 - (1 : Int) < (↑nl : Int)))
 (test (decide (Int.toNat (x0 - (1 : Int)) + al < ml))
 (test (decide (Int.toNat (x0 - (1 : Int)) + al < ml))
 (test (decide (Int.toNat (x0 - (1 : Int)) + al < ml))
 (test (decide (Int.toNat (x0 - (1 : Int)) + al < ml))
 (test (decide ((0 : Int) ≤ (0 : Int) ∧ (0 : Int) < (↑nl : Int)))
 (test (decide (0 + al < ml))
 (test (!S.eqS (tl (Int.toNat x0 + al)) (tl (0 + al)))
 (Kret (PV.tup [PV.nils, PV.int IntKind.i64 (1 : Int)]) ([[(0, false,
 Blk.cols ml
 [Col.str tl, Col.int IntKind.i64 vl, Col.int IntKind.i64 gl, Col.str wl])]]) (4))
 (test (decide (gl (Int.toNat x0 + al) ≤ gl (Int.toNat (x0 - (1 : Int)) + al)))
 (Kret (PV.tup [PV.nils, PV.int IntKind.i64 (15 : Int)]) ([[(0, false,
 Blk.cols ml
 [Col.str tl, Col.int IntKind.i64 vl, Col.int IntKind.i64 gl, Col.str wl])]]) (4))
 (test (lim IntKind.i64 (gl (Int.toNat (x0 - (1 : Int)) + al) + (1 : Int)))
 (test (decide (gl (Int.toNat x0 + al) > gl (Int.toNat (x0 - (1 : Int)) + al) + (1 : Int)))
 (test (lim IntKind.i64 (gl (Int.toNat (x0 - (1 : Int)) + al) + (1 : Int)))
 (test (lim IntKind.i64 (gl (Int.toNat x0 + al) - (1 : Int)))
 (test (decide (List.length x1 + 1 ≤ 1000000))
 (test (decide (List.length x1 ≤ List.length x1))
 (test (true)
 (test (lim IntKind.i64 (x0 + (1 : Int)))
 (Kst (hd Try.f5 0) ([PV.loose (PA.mk (0) (4) al (0)) nl,
 PV.own (5) (4) (List.length x1 + 1),
 PV.loose (PA.mk (0) (4) al (0)) nl, PV.int IntKind.i64 (↑nl : Int),
 PV.int IntKind.i64 (x0 + (1 : Int))]) ([[(0, false,
 Blk.cols ml
 [Col.str tl, Col.int IntKind.i64 vl, Col.int IntKind.i64 gl, Col.str wl]),
 (5, true,
 Blk.cols (List.length x1 + 1)
 [Col.int IntKind.i64 fun (j : Nat) =>
 bif Nat.blt j (List.length x1) then (S.at' x1 j).1
 else gl (Int.toNat (x0 - (1 : Int)) + al) + (1 : Int),
 Col.int IntKind.i64 fun (j : Nat) =>
 bif Nat.blt j (List.length x1) then (S.at' x1 j).2.1
 else gl (Int.toNat x0 + al) - (1 : Int),
 Col.bool fun (j : Nat) =>
 bif Nat.blt j (List.length x1) then (S.at' x1 j).2.2.1 else false,
 Col.bool fun (j : Nat) =>
 bif Nat.blt j (List.length x1) then (S.at' x1 j).2.2.2 else false])]]) (6))
 (False))
 (False))
 (False))
 (False))
 (False))
 (False))
 (test (lim IntKind.i64 (x0 + (1 : Int)))
 (Kst (hd Try.f5 0) ([PV.loose (PA.mk (0) (4) al (0)) nl,
 PV.own (1) (4) (List.length x1),
 PV.loose (PA.mk (0) (4) al (0)) nl, PV.int IntKind.i64 (↑nl : Int),
 PV.int IntKind.i64 (x0 + (1 : Int))]) ([[(0, false,
 Blk.cols ml
 [Col.str tl, Col.int IntKind.i64 vl, Col.int IntKind.i64 gl, Col.str wl]),
 (1, true,
 Blk.cols (List.length x1)
 [Col.int IntKind.i64 fun (j : Nat) => (S.at' x1 j).1,
 Col.int IntKind.i64 fun (j : Nat) => (S.at' x1 j).2.1,
 Col.bool fun (j : Nat) => (S.at' x1 j).2.2.1,
 Col.bool fun (j : Nat) => (S.at' x1 j).2.2.2])]]) (4))
 (False)))
 (False))))
 (False))
 (False))
 (False))
 (False))
 (False))
 (False))
 (False))
 (False)))
 (Kret (PV.tup [PV.nils, PV.int IntKind.i64 (6 : Int)]) ([[(0, false,
 Blk.cols ml
 [Col.str tl, Col.int IntKind.i64 vl, Col.int IntKind.i64 gl, Col.str wl])]]) (3)))
 (Kret (PV.tup [PV.nils, PV.int IntKind.i64 (6 : Int)]) ([[(0, false,
 Blk.cols ml
 [Col.str tl, Col.int IntKind.i64 vl, Col.int IntKind.i64 gl, Col.str wl])]]) (3)))
 (False))
 (False))
 (False))
 (False))
 (False))
 (Kret (PV.tup [PV.own (1) (4) (List.length x1), PV.int IntKind.i64 (0 : Int)]) ([[(0, false,
 Blk.cols ml
 [Col.str tl, Col.int IntKind.i64 vl, Col.int IntKind.i64 gl, Col.str wl]),
 (1, true,
 Blk.cols (List.length x1)
 [Col.int IntKind.i64 fun (j : Nat) => (S.at' x1 j).1,
 Col.int IntKind.i64 fun (j : Nat) => (S.at' x1 j).2.1,
 Col.bool fun (j : Nat) => (S.at' x1 j).2.2.1,
 Col.bool fun (j : Nat) => (S.at' x1 j).2.2.2])]]) (2))
set_option maxRecDepth 100000 in
theorem t5_0 (test : Bool → Prop → Prop → Prop) (Kst : KS) (Kret : KR) (al nl ml : Nat) (tl : Nat → ByteArray) (vl : Nat → Int) (gl : Nat → Int) (wl : Nat → ByteArray) (x0 : Int) (x1 : List (Int × Int × Bool × Bool)) : run test Try.env true noX true 400 ⟨5, hd Try.f5 0, zipT [0, 4, 11, 12, 13] [PV.loose (PA.mk (0) (4) al (0)) nl,
 PV.own (1) (4) (List.length x1),
 PV.loose (PA.mk (0) (4) al (0)) nl, PV.int IntKind.i64 (↑nl : Int),
 PV.int IntKind.i64 x0], [[(1, (true, Blk.cols (List.length x1)
 [Col.int IntKind.i64 fun (j : Nat) => (S.at' x1 j).1,
 Col.int IntKind.i64 fun (j : Nat) => (S.at' x1 j).2.1,
 Col.bool fun (j : Nat) => (S.at' x1 j).2.2.1,
 Col.bool fun (j : Nat) => (S.at' x1 j).2.2.2]))], [(0, (false, .cols ml [.str tl, .int .i64 vl, .int .i64 gl, .str wl]))]], 2⟩ (proj 1 [0, 4, 11, 12, 13] Kst Kret) =
  T5_0 test Kst Kret al nl ml tl vl gl wl x0 x1 := by kernel_rfl
attribute [local irreducible] Int.subNatNat in
set_option maxRecDepth 100000 in
theorem be5 (al nl ml : Nat) (tl : Nat → ByteArray) (vl : Nat → Int) (gl : Nat → Int) (wl : Nat → ByteArray) (Kst : KS) (Kret : KR) (x : St5 ⊕ Rt5) (hS : HS 1 400 ((I5 al nl ml tl vl gl wl)) Kst x) (hR : HR 1 400 ((V5 al nl ml tl vl gl wl)) (fun r => [newL (1 + 1) ((N5 al nl ml tl vl gl wl) r) ++ [(0, (false, .cols ml [.str tl, .int .i64 vl, .int .i64 gl, .str wl]))]]) Kret x) (h : (bif (decide ((↑nl : Int) > (1000 : Int)))
 then (some (.inr ((3 : Int), [])))
 else (some (.inl (.h0 ((0 : Int)) ([])))) : Option (St5 ⊕ Rt5)) = some x) : Te5 cond Kst Kret al nl ml tl vl gl wl := by
  unfold Te5
  exact bif_split h
   (fun c0 h => ret_at hR _ h (fun n => bif Nat.beq n 2 then 399 else n) rfl rfl rfl (rn_tup ⟨(rn_own_nils rfl), (rn_int rfl), trivial⟩) rfl (entl_fresh (use_own rfl) (fresh_ok rfl) (entl_bor (use_lo rfl) rfl rfl entl_nil)))
   (fun c0 h => stop_at hS _ h (fun n => bif Nat.beq n 1 then 399 else n) rfl rfl rfl ⟨(rn_loose (use_lo rfl) rfl rfl rfl), ⟨(rn_own_nils rfl), ⟨(rn_loose (use_lo rfl) rfl rfl rfl), ⟨(rn_int rfl), ⟨(rn_int rfl), trivial⟩⟩⟩⟩⟩ rfl (entl_fresh (use_own rfl) (fresh_ok rfl) (entl_bor (use_lo rfl) rfl rfl entl_nil)))
attribute [local irreducible] Int.subNatNat in
set_option maxRecDepth 100000 in
theorem b5_0 (al nl ml : Nat) (tl : Nat → ByteArray) (vl : Nat → Int) (gl : Nat → Int) (wl : Nat → ByteArray) (Kst : KS) (Kret : KR) (x : St5 ⊕ Rt5) (hS : HS 1 400 ((I5 al nl ml tl vl gl wl)) Kst x) (hR : HR 1 400 ((V5 al nl ml tl vl gl wl)) (fun r => [newL (1 + 1) ((N5 al nl ml tl vl gl wl) r) ++ [(0, (false, .cols ml [.str tl, .int .i64 vl, .int .i64 gl, .str wl]))]]) Kret x) (x0 : Int) (x1 : List (Int × Int × Bool × Bool)) (h : (bif (decide (x0 < (↑nl : Int)))
 then (bif (decide ((0 : Int) ≤ x0 ∧ x0 < (↑nl : Int)))
 then (bif (decide (Int.toNat x0 + al < ml))
 then (bif (decide (gl (Int.toNat x0 + al) ≥ (1 : Int)))
 then (bif (decide (gl (Int.toNat x0 + al) ≤ (1099511627776 : Int)))
 then (bif (x0 == (0 : Int))
 then (bif (lim IntKind.i64 (x0 + (1 : Int)))
 then (some (.inl (.h0 (x0 + (1 : Int)) (x1))))
 else (none))
 else (bif (lim IntKind.i64 (x0 - (1 : Int)))
 then (bif (decide ((0 : Int) ≤ x0 - (1 : Int) ∧ x0 - (1 : Int) < (↑nl : Int)))
 then (bif (decide (Int.toNat (x0 - (1 : Int)) + al < ml))
 then (bif (decide ((0 : Int) ≤ (0 : Int) ∧ (0 : Int) < (↑nl : Int)))
 then (bif (decide (0 + al < ml))
 then (bif (!S.eqS (tl (Int.toNat x0 + al)) (tl (0 + al)))
 then (some (.inr ((1 : Int), [])))
 else (bif (decide (gl (Int.toNat x0 + al) ≤ gl (Int.toNat (x0 - (1 : Int)) + al)))
 then (some (.inr ((15 : Int), [])))
 else (bif (lim IntKind.i64 (gl (Int.toNat (x0 - (1 : Int)) + al) + (1 : Int)))
 then (bif (decide (gl (Int.toNat x0 + al) > gl (Int.toNat (x0 - (1 : Int)) + al) + (1 : Int)))
 then (bif (lim IntKind.i64 (gl (Int.toNat x0 + al) - (1 : Int)))
 then (bif (decide (List.length x1 + 1 ≤ 1000000))
 then (bif (decide (List.length x1 ≤ List.length x1))
 then (bif (lim IntKind.i64 (x0 + (1 : Int)))
 then (some (.inl (.h0 (x0 + (1 : Int)) (S.snoc x1
 (gl (Int.toNat (x0 - (1 : Int)) + al) + (1 : Int), gl (Int.toNat x0 + al) - (1 : Int), false, false)))))
 else (none))
 else (none))
 else (none))
 else (none))
 else (bif (lim IntKind.i64 (x0 + (1 : Int)))
 then (some (.inl (.h0 (x0 + (1 : Int)) (x1))))
 else (none)))
 else (none))))
 else (none))
 else (none))
 else (none))
 else (none))
 else (none)))
 else (some (.inr ((6 : Int), []))))
 else (some (.inr ((6 : Int), []))))
 else (none))
 else (none))
 else (some (.inr ((0 : Int), x1))) : Option (St5 ⊕ Rt5)) = some x) : T5_0 cond Kst Kret al nl ml tl vl gl wl x0 x1 := by
  unfold T5_0
  exact bif_split h
   (fun c0 h => bif_split h
   (fun c1 h => bif_split h
   (fun c2 h => cond_yes c2 (cond_yes c2 (cond_yes c2 (bif_split h
   (fun c3 h => bif_split h
   (fun c4 h => bif_split h
   (fun c5 h => bif_split h
   (fun c6 h => stop_at hS _ h (fun n => bif Nat.beq n 1 then 1 else n) rfl rfl rfl ⟨(rn_loose (use_lo rfl) rfl rfl rfl), ⟨(rn_own (use_own rfl) rfl rfl), ⟨(rn_loose (use_lo rfl) rfl rfl rfl), ⟨(rn_int rfl), ⟨(rn_int rfl), trivial⟩⟩⟩⟩⟩ rfl (entl_new (use_own rfl) rfl (Nat.le_of_eq rfl) (rcs_int (fun _ _ => rfl) (rcs_int (fun _ _ => rfl) (rcs_bool (fun _ _ => rfl) (rcs_bool (fun _ _ => rfl) rcs_nil)))) (entl_bor (use_lo rfl) rfl rfl entl_nil)))
   (fun c6 h => no_some h))
   (fun c5 h => bif_split h
   (fun c6 h => bif_split h
   (fun c7 h => bif_split h
   (fun c8 h => cond_yes c8 (cond_yes c8 (cond_yes c8 (bif_split h
   (fun c9 h => bif_split h
   (fun c10 h => bif_split h
   (fun c11 h => ret_at hR _ h (fun n => bif Nat.beq n 2 then 399 else n) rfl rfl rfl (rn_tup ⟨(rn_own_nils rfl), (rn_int rfl), trivial⟩) rfl (entl_fresh (use_own rfl) (fresh_ok rfl) (entl_bor (use_lo rfl) rfl rfl entl_nil)))
   (fun c11 h => bif_split h
   (fun c12 h => ret_at hR _ h (fun n => bif Nat.beq n 2 then 399 else n) rfl rfl rfl (rn_tup ⟨(rn_own_nils rfl), (rn_int rfl), trivial⟩) rfl (entl_fresh (use_own rfl) (fresh_ok rfl) (entl_bor (use_lo rfl) rfl rfl entl_nil)))
   (fun c12 h => bif_split h
   (fun c13 h => bif_split h
   (fun c14 h => cond_yes c13 (bif_split h
   (fun c15 h => bif_split h
   (fun c16 h => bif_split h
   (fun c17 h => cond_yes rfl (bif_split h
   (fun c18 h => stop_at hS _ h (fun n => bif Nat.beq n 1 then 5 else n) rfl rfl rfl ⟨(rn_loose (use_lo rfl) rfl rfl rfl), ⟨(rn_own (use_own rfl) rfl (snoc_len' rfl)), ⟨(rn_loose (use_lo rfl) rfl rfl rfl), ⟨(rn_int rfl), ⟨(rn_int rfl), trivial⟩⟩⟩⟩⟩ rfl (entl_new (use_own rfl) rfl (Nat.le_of_eq (snoc_len' rfl)) (rcs_int (col_snoc' (fun (t : Int × Int × Bool × Bool) => t.1) rfl (fun _ _ => rfl)) (rcs_int (col_snoc' (fun (t : Int × Int × Bool × Bool) => t.2.1) rfl (fun _ _ => rfl)) (rcs_bool (col_snoc' (fun (t : Int × Int × Bool × Bool) => t.2.2.1) rfl (fun _ _ => rfl)) (rcs_bool (col_snoc' (fun (t : Int × Int × Bool × Bool) => t.2.2.2) rfl (fun _ _ => rfl)) rcs_nil)))) (entl_bor (use_lo rfl) rfl rfl entl_nil)))
   (fun c18 h => no_some h)))
   (fun c17 h => no_some h))
   (fun c16 h => no_some h))
   (fun c15 h => no_some h)))
   (fun c14 h => bif_split h
   (fun c15 h => stop_at hS _ h (fun n => bif Nat.beq n 1 then 1 else n) rfl rfl rfl ⟨(rn_loose (use_lo rfl) rfl rfl rfl), ⟨(rn_own (use_own rfl) rfl rfl), ⟨(rn_loose (use_lo rfl) rfl rfl rfl), ⟨(rn_int rfl), ⟨(rn_int rfl), trivial⟩⟩⟩⟩⟩ rfl (entl_new (use_own rfl) rfl (Nat.le_of_eq rfl) (rcs_int (fun _ _ => rfl) (rcs_int (fun _ _ => rfl) (rcs_bool (fun _ _ => rfl) (rcs_bool (fun _ _ => rfl) rcs_nil)))) (entl_bor (use_lo rfl) rfl rfl entl_nil)))
   (fun c15 h => no_some h)))
   (fun c13 h => no_some h))))
   (fun c10 h => no_some h))
   (fun c9 h => no_some h)))))
   (fun c8 h => no_some h))
   (fun c7 h => no_some h))
   (fun c6 h => no_some h)))
   (fun c4 h => ret_at hR _ h (fun n => bif Nat.beq n 2 then 399 else n) rfl rfl rfl (rn_tup ⟨(rn_own_nils rfl), (rn_int rfl), trivial⟩) rfl (entl_fresh (use_own rfl) (fresh_ok rfl) (entl_bor (use_lo rfl) rfl rfl entl_nil))))
   (fun c3 h => ret_at hR _ h (fun n => bif Nat.beq n 2 then 399 else n) rfl rfl rfl (rn_tup ⟨(rn_own_nils rfl), (rn_int rfl), trivial⟩) rfl (entl_fresh (use_own rfl) (fresh_ok rfl) (entl_bor (use_lo rfl) rfl rfl entl_nil)))))))
   (fun c2 h => no_some h))
   (fun c1 h => no_some h))
   (fun c0 h => ret_at hR _ h (fun n => bif Nat.beq n 2 then 1 else n) rfl rfl rfl (rn_tup ⟨(rn_own (use_own rfl) rfl rfl), (rn_int rfl), trivial⟩) rfl (entl_new (use_own rfl) rfl (Nat.le_of_eq rfl) (rcs_int (fun _ _ => rfl) (rcs_int (fun _ _ => rfl) (rcs_bool (fun _ _ => rfl) (rcs_bool (fun _ _ => rfl) rcs_nil)))) (entl_bor (use_lo rfl) rfl rfl entl_nil)))
theorem a5 (al nl ml : Nat) (tl : Nat → ByteArray) (vl : Nat → Int) (gl : Nat → Int) (wl : Nat → ByteArray) {r : Rt5} (h : Goes ((q5 al nl ml tl vl gl wl)) ((p5 al nl ml tl vl gl wl)) r) : CallR Try.prog 5 [.loose ⟨0, 4, al, 0⟩ nl] [[(0, (false, .cols ml [.str tl, .int .i64 vl, .int .i64 gl, .str wl]))]] 1 ((V5 al nl ml tl vl gl wl) r) ((fun r => [newL (1 + 1) ((N5 al nl ml tl vl gl wl) r) ++ [(0, (false, .cols ml [.str tl, .int .i64 vl, .int .i64 gl, .str wl]))]]) r) 400 ∧ ∃ F, Try.prog.funcs[5]? = some F ∧ F.body.isSome = true ∧ (F.name == "runtime.NumGoroutine") = false := by
  refine dec_calls (sy := true) (f := 5) (lo := 1) (hi := 400) (H := [[(0, (false, .cols ml [.str tl, .int .i64 vl, .int .i64 gl, .str wl]))]]) (args := [.loose ⟨0, 4, al, 0⟩ nl]) Try.envOk Try.mixed noX_ok ((I5 al nl ml tl vl gl wl)) ((V5 al nl ml tl vl gl wl)) (fun r => [newL (1 + 1) ((N5 al nl ml tl vl gl wl) r) ++ [(0, (false, .cols ml [.str tl, .int .i64 vl, .int .i64 gl, .str wl]))]]) (fn := mkFn Try.f5) (ts := [0, 4, 11, 12, 13]) (n := 400) rfl (by decide) (by simp) (names_of rfl) ?_ ?_ ?_ h
  · intro s; cases s <;> exact ⟨hd_ok _ _, by simp [I5], names_of rfl, Nat.le_of_ble_eq_true rfl⟩
  · intro Kst Kret x hS hR h
    exact Holds.eq (te5 cond Kst Kret al nl ml tl vl gl wl) (be5 al nl ml tl vl gl wl Kst Kret x hS hR h)
  · intro Kst Kret x hS hR s h
    cases s with
    | h0 x0 x1 => exact Holds.eq (t5_0 cond Kst Kret al nl ml tl vl gl wl x0 x1) (b5_0 al nl ml tl vl gl wl Kst Kret x hS hR x0 x1 h)
noncomputable def k5 : Con := ⟨5, [.one (.list [.str, .int .i64, .int .i64, .str])], fun (x : (Nat × Nat × Nat × (Nat → ByteArray) × (Nat → Int) × (Nat → Int) × (Nat → ByteArray) × Unit) × Unit) => (fun (al nl ml : Nat) (tl : Nat → ByteArray) (vl : Nat → Int) (gl : Nat → Int) (wl : Nat → ByteArray) => decide (al + nl ≤ ml)) x.1.1 x.1.2.1 x.1.2.2.1 x.1.2.2.2.1 x.1.2.2.2.2.1 x.1.2.2.2.2.2.1 x.1.2.2.2.2.2.2.1, fun (x : (Nat × Nat × Nat × (Nat → ByteArray) × (Nat → Int) × (Nat → Int) × (Nat → ByteArray) × Unit) × Unit) => (fun (al nl ml : Nat) (tl : Nat → ByteArray) (vl : Nat → Int) (gl : Nat → Int) (wl : Nat → ByteArray) => (V5 al nl ml tl vl gl wl) (S.gapS nl (fun j => tl (j + al)) (fun j => gl (j + al)))) x.1.1 x.1.2.1 x.1.2.2.1 x.1.2.2.2.1 x.1.2.2.2.2.1 x.1.2.2.2.2.2.1 x.1.2.2.2.2.2.2.1, fun (x : (Nat × Nat × Nat × (Nat → ByteArray) × (Nat → Int) × (Nat → Int) × (Nat → ByteArray) × Unit) × Unit) => (fun (al nl ml : Nat) (tl : Nat → ByteArray) (vl : Nat → Int) (gl : Nat → Int) (wl : Nat → ByteArray) => (N5 al nl ml tl vl gl wl) (S.gapS nl (fun j => tl (j + al)) (fun j => gl (j + al)))) x.1.1 x.1.2.1 x.1.2.2.1 x.1.2.2.2.1 x.1.2.2.2.2.1 x.1.2.2.2.2.2.1 x.1.2.2.2.2.2.2.1, fun _ _ => .dead⟩
theorem s5' (al nl ml : Nat) (tl : Nat → ByteArray) (vl : Nat → Int) (gl : Nat → Int) (wl : Nat → ByteArray) (hp : al + nl ≤ ml) (hn : nl ≤ 1000) : ∀ (k i : Nat) (L : List (Int × Int × Bool × Bool)), i + k = nl → L.length ≤ i → (0 < i → 1 ≤ gl (i - 1 + al) ∧ gl (i - 1 + al) ≤ 1099511627776) → Comes (q5 al nl ml tl vl gl wl) (.h0 (i : Int) L) (S.gapF (fun j => tl (j + al)) (fun j => gl (j + al)) i k L) := by
  intro k
  induction k with
  | zero =>
    intro i L hi hL hv
    apply Comes.of
    show Goes _ _ _
    (first | rw [q5] | unfold q5)
    repeat' first
      | with_reducible refine goes_if (fun h => ?_) (fun h => ?_) <;> (try simp only [lim64, imp_false, decide_eq_true_eq, decide_eq_false_iff_not, Int.toNat_natCast, toNat_pred, toNat_succ, Option.getD_some, Option.getD_none, Bool.not_eq_true', Bool.not_eq_false', Bool.and_eq_true, Bool.or_eq_true, Bool.and_eq_false_iff, Bool.or_eq_false_iff, bne_iff_ne, beq_iff_eq, bne_eq_false_iff_eq, beq_eq_false_iff_ne, ne_eq, not_and, Int.not_le, Int.not_lt, ge_iff_le, gt_iff_lt, Nat.not_lt, Nat.not_le, Bool.not_eq_true, Bool.not_eq_false, Bool.true_eq_false, Bool.false_eq_true, not_false_eq_true, not_true_eq_false] at h)
      | exact goes_none.mpr (by omega)
    all_goals first | (exfalso; omega) | rfl
  | succ k ih =>
    intro i L hi hL hv
    simp only [S.gapF]
    by_cases hr : 1 ≤ gl (i + al) ∧ gl (i + al) ≤ 1099511627776
    · rw [if_pos hr]
      have ih1 := ih (i + 1) L (by omega) (by omega) (fun _ => by rw [show i + 1 - 1 = i by omega]; exact hr)
      have ih2 := fun x => ih (i + 1) (S.snoc L x) (by omega) (by rw [snoc_len]; omega) (fun _ => by rw [show i + 1 - 1 = i by omega]; exact hr)
      clear ih
      by_cases h0 : i = 0
      · subst h0
        rw [if_pos rfl]
        have he := eqS_self (s := tl (0 + al))
        clear ih2
        apply Comes.of
        rw [q5]
        simp only [Int.toNat_natCast, Int.toNat_zero, Int.natCast_zero, he, Bool.not_true]
        repeat' first
          | with_reducible refine goes_if (fun h => ?_) (fun h => ?_) <;> (try simp only [lim64, imp_false, decide_eq_true_eq, decide_eq_false_iff_not, Int.toNat_natCast, toNat_pred, toNat_succ, Option.getD_some, Option.getD_none, Bool.not_eq_true', Bool.not_eq_false', Bool.and_eq_true, Bool.or_eq_true, Bool.and_eq_false_iff, Bool.or_eq_false_iff, bne_iff_ne, beq_iff_eq, bne_eq_false_iff_eq, beq_eq_false_iff_ne, ne_eq, not_and, Int.not_le, Int.not_lt, ge_iff_le, gt_iff_lt, Nat.not_lt, Nat.not_le, Bool.not_eq_true, Bool.not_eq_false, Bool.true_eq_false, Bool.false_eq_true, not_false_eq_true, not_true_eq_false] at h)
          | exact goes_none.mpr (by omega)
        all_goals first | (exfalso; omega) | exact ih1
      · rw [if_neg h0]
        have hv := hv (by omega)
        have e1 : ((i : Int) - 1).toNat = i - 1 := by omega
        cases he : S.eqS (tl (i + al)) (tl (0 + al))
        · rw [if_pos rfl]
          clear ih1 ih2
          apply Comes.of
          rw [q5]
          simp only [Int.toNat_natCast, e1, he, Bool.not_false]
          repeat' first
            | with_reducible refine goes_if (fun h => ?_) (fun h => ?_) <;> (try simp only [lim64, imp_false, decide_eq_true_eq, decide_eq_false_iff_not, Int.toNat_natCast, toNat_pred, toNat_succ, Option.getD_some, Option.getD_none, Bool.not_eq_true', Bool.not_eq_false', Bool.and_eq_true, Bool.or_eq_true, Bool.and_eq_false_iff, Bool.or_eq_false_iff, bne_iff_ne, beq_iff_eq, bne_eq_false_iff_eq, beq_eq_false_iff_ne, ne_eq, not_and, Int.not_le, Int.not_lt, ge_iff_le, gt_iff_lt, Nat.not_lt, Nat.not_le, Bool.not_eq_true, Bool.not_eq_false, Bool.true_eq_false, Bool.false_eq_true, not_false_eq_true, not_true_eq_false] at h)
            | exact goes_none.mpr (by omega)
          all_goals first | (exfalso; omega) | rfl
        · rw [if_neg (by simp)]
          by_cases h1 : gl (i + al) ≤ gl (i - 1 + al)
          · rw [if_pos h1]
            clear ih1 ih2
            apply Comes.of
            rw [q5]
            simp only [Int.toNat_natCast, e1, he, Bool.not_true]
            repeat' first
              | with_reducible refine goes_if (fun h => ?_) (fun h => ?_) <;> (try simp only [lim64, imp_false, decide_eq_true_eq, decide_eq_false_iff_not, Int.toNat_natCast, toNat_pred, toNat_succ, Option.getD_some, Option.getD_none, Bool.not_eq_true', Bool.not_eq_false', Bool.and_eq_true, Bool.or_eq_true, Bool.and_eq_false_iff, Bool.or_eq_false_iff, bne_iff_ne, beq_iff_eq, bne_eq_false_iff_eq, beq_eq_false_iff_ne, ne_eq, not_and, Int.not_le, Int.not_lt, ge_iff_le, gt_iff_lt, Nat.not_lt, Nat.not_le, Bool.not_eq_true, Bool.not_eq_false, Bool.true_eq_false, Bool.false_eq_true, not_false_eq_true, not_true_eq_false] at h)
              | exact goes_none.mpr (by omega)
            all_goals first | (exfalso; omega) | rfl
          · rw [if_neg h1]
            by_cases h2 : gl (i + al) > gl (i - 1 + al) + 1
            · rw [if_pos h2]
              have ih3 := ih2 (gl (i - 1 + al) + 1, gl (i + al) - 1, false, false)
              clear ih1 ih2
              apply Comes.of
              rw [q5]
              simp only [Int.toNat_natCast, e1, he, Bool.not_true]
              repeat' first
                | with_reducible refine goes_if (fun h => ?_) (fun h => ?_) <;> (try simp only [lim64, imp_false, decide_eq_true_eq, decide_eq_false_iff_not, Int.toNat_natCast, toNat_pred, toNat_succ, Option.getD_some, Option.getD_none, Bool.not_eq_true', Bool.not_eq_false', Bool.and_eq_true, Bool.or_eq_true, Bool.and_eq_false_iff, Bool.or_eq_false_iff, bne_iff_ne, beq_iff_eq, bne_eq_false_iff_eq, beq_eq_false_iff_ne, ne_eq, not_and, Int.not_le, Int.not_lt, ge_iff_le, gt_iff_lt, Nat.not_lt, Nat.not_le, Bool.not_eq_true, Bool.not_eq_false, Bool.true_eq_false, Bool.false_eq_true, not_false_eq_true, not_true_eq_false] at h)
                | exact goes_none.mpr (by omega)
              all_goals first | (exfalso; omega) | exact ih3
            · rw [if_neg h2]
              clear ih2
              apply Comes.of
              rw [q5]
              simp only [Int.toNat_natCast, e1, he, Bool.not_true]
              repeat' first
                | with_reducible refine goes_if (fun h => ?_) (fun h => ?_) <;> (try simp only [lim64, imp_false, decide_eq_true_eq, decide_eq_false_iff_not, Int.toNat_natCast, toNat_pred, toNat_succ, Option.getD_some, Option.getD_none, Bool.not_eq_true', Bool.not_eq_false', Bool.and_eq_true, Bool.or_eq_true, Bool.and_eq_false_iff, Bool.or_eq_false_iff, bne_iff_ne, beq_iff_eq, bne_eq_false_iff_eq, beq_eq_false_iff_ne, ne_eq, not_and, Int.not_le, Int.not_lt, ge_iff_le, gt_iff_lt, Nat.not_lt, Nat.not_le, Bool.not_eq_true, Bool.not_eq_false, Bool.true_eq_false, Bool.false_eq_true, not_false_eq_true, not_true_eq_false] at h)
                | exact goes_none.mpr (by omega)
              all_goals first | (exfalso; omega) | exact ih1
    · rw [if_neg hr]
      clear ih hv
      apply Comes.of
      show Goes _ _ _
      (first | rw [q5] | unfold q5)
      repeat' first
        | with_reducible refine goes_if (fun h => ?_) (fun h => ?_) <;> (try simp only [lim64, imp_false, decide_eq_true_eq, decide_eq_false_iff_not, Int.toNat_natCast, toNat_pred, toNat_succ, Option.getD_some, Option.getD_none, Bool.not_eq_true', Bool.not_eq_false', Bool.and_eq_true, Bool.or_eq_true, Bool.and_eq_false_iff, Bool.or_eq_false_iff, bne_iff_ne, beq_iff_eq, bne_eq_false_iff_eq, beq_eq_false_iff_ne, ne_eq, not_and, Int.not_le, Int.not_lt, ge_iff_le, gt_iff_lt, Nat.not_lt, Nat.not_le, Bool.not_eq_true, Bool.not_eq_false, Bool.true_eq_false, Bool.false_eq_true, not_false_eq_true, not_true_eq_false] at h)
        | exact goes_none.mpr (by omega)
      all_goals first | (exfalso; omega) | rfl
theorem s5 (al nl ml : Nat) (tl : Nat → ByteArray) (vl : Nat → Int) (gl : Nat → Int) (wl : Nat → ByteArray) (hp : al + nl ≤ ml) : Goes ((q5 al nl ml tl vl gl wl)) ((p5 al nl ml tl vl gl wl)) (S.gapS nl (fun j => tl (j + al)) (fun j => gl (j + al))) := by
  unfold S.gapS
  unfold p5
  by_cases h : nl > 1000
  · rw [if_pos h]
    exact goes_ok (decide_eq_true (by omega)) rfl
  · rw [if_neg h]
    exact goes_no (decide_eq_false (by omega)) (s5' al nl ml tl vl gl wl hp (by omega) nl 0 [] (Nat.zero_add _) (Nat.zero_le _) (fun h => absurd h (Nat.lt_irrefl 0)))

theorem k5_ok : k5.ok Try.prog := by
  intro x hx
  obtain ⟨⟨al, nl, ml, tl, vl, gl, wl, _⟩, _⟩ := x
  obtain ⟨h1, h2⟩ := a5 al nl ml tl vl gl wl (s5 al nl ml tl vl gl wl (of_dec hx rfl))
  exact ⟨⟨400, (by decide : 1 + 1 + 1 ≤ 400), h1⟩, h2⟩
inductive St7 where
  | h0 (x0 : Int) (x1 : List (Int × Int × Bool × Bool))
abbrev Rt7 := Int × List (Int × Int × Bool × Bool)
noncomputable def V7 (al nl ml : Nat) (tl : Nat → ByteArray) (vl : Nat → Int) (gl : Nat → Int) (wl : Nat → ByteArray) (r : Rt7) : PV := PV.tup [PV.own (2) (4) (List.length r.2), PV.int IntKind.i64 r.1]
noncomputable def N7 (al nl ml : Nat) (tl : Nat → ByteArray) (vl : Nat → Int) (gl : Nat → Int) (wl : Nat → ByteArray) (r : Rt7) : List Blk := [Blk.cols (List.length r.2)
 [Col.int IntKind.i64 fun (j : Nat) => (S.at' r.2 j).1,
 Col.int IntKind.i64 fun (j : Nat) => (S.at' r.2 j).2.1,
 Col.bool fun (j : Nat) => (S.at' r.2 j).2.2.1,
 Col.bool fun (j : Nat) => (S.at' r.2 j).2.2.2]]
noncomputable def I7 (al nl ml : Nat) (tl : Nat → ByteArray) (vl : Nat → Int) (gl : Nat → Int) (wl : Nat → ByteArray) : St7 → Hd
  | .h0 x0 x1 => ⟨hd Try.f7 0, [PV.loose (PA.mk (0) (4) al (0)) nl,
 PV.own (1) (4) (List.length x1), PV.int IntKind.i64 x0], [[(1, (true, Blk.cols (List.length x1)
 [Col.int IntKind.i64 fun (j : Nat) => (S.at' x1 j).1,
 Col.int IntKind.i64 fun (j : Nat) => (S.at' x1 j).2.1,
 Col.bool fun (j : Nat) => (S.at' x1 j).2.2.1,
 Col.bool fun (j : Nat) => (S.at' x1 j).2.2.2]))], [(0, (false, .cols ml [.str tl, .int .i64 vl, .int .i64 gl, .str wl]))]], 2⟩
noncomputable def q7 (al nl ml : Nat) (tl : Nat → ByteArray) (vl : Nat → Int) (gl : Nat → Int) (wl : Nat → ByteArray) : St7 → Option (St7 ⊕ Rt7)
  | .h0 x0 x1 => bif (decide (x0 < (↑nl : Int)))
 then (bif (decide ((0 : Int) ≤ x0 ∧ x0 < (↑nl : Int)))
 then (bif (decide (Int.toNat x0 + al < ml))
 then (bif (decide (gl (Int.toNat x0 + al) < (1 : Int)))
 then (some (.inr ((6 : Int), [])))
 else (bif (decide (gl (Int.toNat x0 + al) > (1099511627776 : Int)))
 then (some (.inr ((6 : Int), [])))
 else (bif (decide ((0 : Int) ≤ (0 : Int) ∧ (0 : Int) < (↑nl : Int)))
 then (bif (decide (0 + al < ml))
 then (bif (!S.eqS (tl (Int.toNat x0 + al)) (tl (0 + al)))
 then (some (.inr ((1 : Int), [])))
 else (bif (x0 == (0 : Int))
 then (bif (lim IntKind.i64 (x0 + (1 : Int)))
 then (some (.inl (.h0 (x0 + (1 : Int)) (x1))))
 else (none))
 else (bif (lim IntKind.i64 (x0 - (1 : Int)))
 then (bif (decide ((0 : Int) ≤ x0 - (1 : Int) ∧ x0 - (1 : Int) < (↑nl : Int)))
 then (bif (decide (Int.toNat (x0 - (1 : Int)) + al < ml))
 then (bif (decide (gl (Int.toNat x0 + al) ≤ gl (Int.toNat (x0 - (1 : Int)) + al)))
 then (some (.inr ((15 : Int), [])))
 else (bif (lim IntKind.i64 (gl (Int.toNat (x0 - (1 : Int)) + al) + (1 : Int)))
 then (bif (decide (gl (Int.toNat x0 + al) > gl (Int.toNat (x0 - (1 : Int)) + al) + (1 : Int)))
 then (bif (lim IntKind.i64 (gl (Int.toNat x0 + al) - (1 : Int)))
 then (bif (decide (List.length x1 + 1 ≤ 1000000))
 then (bif (decide (List.length x1 ≤ List.length x1))
 then (bif (lim IntKind.i64 (x0 + (1 : Int)))
 then (some (.inl (.h0 (x0 + (1 : Int)) (S.snoc x1
 (gl (Int.toNat (x0 - (1 : Int)) + al) + (1 : Int), gl (Int.toNat x0 + al) - (1 : Int), false, false)))))
 else (none))
 else (none))
 else (none))
 else (none))
 else (bif (lim IntKind.i64 (x0 + (1 : Int)))
 then (some (.inl (.h0 (x0 + (1 : Int)) (x1))))
 else (none)))
 else (none)))
 else (none))
 else (none))
 else (none))))
 else (none))
 else (none))))
 else (none))
 else (none))
 else (some (.inr ((0 : Int), x1)))
noncomputable def p7 (al nl ml : Nat) (tl : Nat → ByteArray) (vl : Nat → Int) (gl : Nat → Int) (wl : Nat → ByteArray) : Option (St7 ⊕ Rt7) := bif (decide ((↑nl : Int) > (1000 : Int)))
 then (some (.inr ((3 : Int), [])))
 else (some (.inl (.h0 ((0 : Int)) ([]))))
noncomputable def Te7 (test : Bool → Prop → Prop → Prop) (Kst : KS) (Kret : KR) (al nl ml : Nat) (tl : Nat → ByteArray) (vl : Nat → Int) (gl : Nat → Int) (wl : Nat → ByteArray) : Prop :=
  test (decide ((↑nl : Int) > (1000 : Int)))
 (Kret (PV.tup [PV.nils, PV.int IntKind.i64 (3 : Int)]) ([[(0, false,
 Blk.cols ml
 [Col.str tl, Col.int IntKind.i64 vl, Col.int IntKind.i64 gl, Col.str wl])]]) (1))
 (Kst (hd Try.f7 0) ([PV.loose (PA.mk (0) (4) al (0)) nl, PV.nils,
 PV.int IntKind.i64 (0 : Int)]) ([[(0, false,
 Blk.cols ml
 [Col.str tl, Col.int IntKind.i64 vl, Col.int IntKind.i64 gl, Col.str wl])]]) (1))
set_option maxRecDepth 100000 in
theorem te7 (test : Bool → Prop → Prop → Prop) (Kst : KS) (Kret : KR) (al nl ml : Nat) (tl : Nat → ByteArray) (vl : Nat → Int) (gl : Nat → Int) (wl : Nat → ByteArray) : run test Try.env true noX true 400 ⟨7, [.cd (mkFn Try.f7).body], argT 0 [.loose ⟨0, 4, al, 0⟩ nl], [[], [(0, (false, .cols ml [.str tl, .int .i64 vl, .int .i64 gl, .str wl]))]], 1⟩ (proj 1 [0, 4, 5] Kst Kret) =
  Te7 test Kst Kret al nl ml tl vl gl wl := by kernel_rfl
noncomputable def T7_0 (test : Bool → Prop → Prop → Prop) (Kst : KS) (Kret : KR) (al nl ml : Nat) (tl : Nat → ByteArray) (vl : Nat → Int) (gl : Nat → Int) (wl : Nat → ByteArray) (x0 : Int) (x1 : List (Int × Int × Bool × Bool)) : Prop :=
  test (decide (x0 < (↑nl : Int)))
 (test (decide ((0 : Int) ≤ x0 ∧ x0 < (↑nl : Int)))
 (test (decide (Int.toNat x0 + al < ml))
 (test (decide (gl (Int.toNat x0 + al) < (1 : Int)))
 (Kret (PV.tup [PV.nils, PV.int IntKind.i64 (6 : Int)]) ([[(0, false,
 Blk.cols ml
 [Col.str tl, Col.int IntKind.i64 vl, Col.int IntKind.i64 gl, Col.str wl])]]) (2))
 (test (decide ((0 : Int) ≤ x0 ∧ x0 < (↑nl : Int)))
 (test (decide (Int.toNat x0 + al < ml))
 (test (decide (gl (Int.toNat x0 + al) > (1099511627776 : Int)))
 (Kret (PV.tup [PV.nils, PV.int IntKind.i64 (6 : Int)]) ([[(0, false,
 Blk.cols ml
 [Col.str tl, Col.int IntKind.i64 vl, Col.int IntKind.i64 gl, Col.str wl])]]) (2))
 (test (decide ((0 : Int) ≤ x0 ∧ x0 < (↑nl : Int)))
 (test (decide (Int.toNat x0 + al < ml))
 (test (decide ((0 : Int) ≤ (0 : Int) ∧ (0 : Int) < (↑nl : Int)))
 (test (decide (0 + al < ml))
 (test (!S.eqS (tl (Int.toNat x0 + al)) (tl (0 + al)))
 (Kret (PV.tup [PV.nils, PV.int IntKind.i64 (1 : Int)]) ([[(0, false,
 Blk.cols ml
 [Col.str tl, Col.int IntKind.i64 vl, Col.int IntKind.i64 gl, Col.str wl])]]) (2))
 (test (x0 == (0 : Int))
 (test (lim IntKind.i64 (x0 + (1 : Int)))
 (Kst (hd Try.f7 0) ([PV.loose (PA.mk (0) (4) al (0)) nl,
 PV.own (1) (4) (List.length x1), PV.int IntKind.i64 (x0 + (1 : Int))]) ([[(0, false,
 Blk.cols ml
 [Col.str tl, Col.int IntKind.i64 vl, Col.int IntKind.i64 gl, Col.str wl]),
 (1, true,
 Blk.cols (List.length x1)
 [Col.int IntKind.i64 fun (j : Nat) => (S.at' x1 j).1,
 Col.int IntKind.i64 fun (j : Nat) => (S.at' x1 j).2.1,
 Col.bool fun (j : Nat) => (S.at' x1 j).2.2.1,
 Col.bool fun (j : Nat) => (S.at' x1 j).2.2.2])]]) (2))
 (False))
 (test (lim IntKind.i64 (x0 - (1 : Int)))
 (test (decide ((0 : Int) ≤ x0 - (1 : Int) ∧ x0 - (1 : Int) < (↑nl : Int)))
 (test (decide (Int.toNat (x0 - (1 : Int)) + al < ml))
 (test (decide ((0 : Int) ≤ x0 ∧ x0 < (↑nl : Int)))
 (test (decide (Int.toNat x0 + al < ml))
 (test (decide (gl (Int.toNat x0 + al) ≤ gl (Int.toNat (x0 - (1 : Int)) + al)))
 (Kret (PV.tup [PV.nils, PV.int IntKind.i64 (15 : Int)]) ([[(0, false,
 Blk.cols ml
 [Col.str tl, Col.int IntKind.i64 vl, Col.int IntKind.i64 gl, Col.str wl])]]) (2))
 (test (decide ((0 : Int) ≤ x0 ∧ x0 < (↑nl : Int)))
 (test (decide (Int.toNat x0 + al < ml))
 (test (lim IntKind.i64 (gl (Int.toNat (x0 - (1 : Int)) + al) + (1 : Int)))
 (test (decide (gl (Int.toNat x0 + al) > gl (Int.toNat (x0 - (1 : Int)) + al) + (1 : Int)))
 (test (lim IntKind.i64 (gl (Int.toNat (x0 - (1 : Int)) + al) + (1 : Int)))
 (test (decide ((0 : Int) ≤ x0 ∧ x0 < (↑nl : Int)))
 (test (decide (Int.toNat x0 + al < ml))
 (test (lim IntKind.i64 (gl (Int.toNat x0 + al) - (1 : Int)))
 (test (decide (List.length x1 + 1 ≤ 1000000))
 (test (decide (List.length x1 ≤ List.length x1))
 (test (true)
 (test (lim IntKind.i64 (x0 + (1 : Int)))
 (Kst (hd Try.f7 0) ([PV.loose (PA.mk (0) (4) al (0)) nl,
 PV.own (3) (4) (List.length x1 + 1), PV.int IntKind.i64 (x0 + (1 : Int))]) ([[(0, false,
 Blk.cols ml
 [Col.str tl, Col.int IntKind.i64 vl, Col.int IntKind.i64 gl, Col.str wl]),
 (3, true,
 Blk.cols (List.length x1 + 1)
 [Col.int IntKind.i64 fun (j : Nat) =>
 bif Nat.blt j (List.length x1) then (S.at' x1 j).1
 else gl (Int.toNat (x0 - (1 : Int)) + al) + (1 : Int),
 Col.int IntKind.i64 fun (j : Nat) =>
 bif Nat.blt j (List.length x1) then (S.at' x1 j).2.1
 else gl (Int.toNat x0 + al) - (1 : Int),
 Col.bool fun (j : Nat) =>
 bif Nat.blt j (List.length x1) then (S.at' x1 j).2.2.1 else false,
 Col.bool fun (j : Nat) =>
 bif Nat.blt j (List.length x1) then (S.at' x1 j).2.2.2 else false])]]) (4))
 (False))
 (False))
 (False))
 (False))
 (False))
 (False))
 (False))
 (False))
 (test (lim IntKind.i64 (x0 + (1 : Int)))
 (Kst (hd Try.f7 0) ([PV.loose (PA.mk (0) (4) al (0)) nl,
 PV.own (1) (4) (List.length x1), PV.int IntKind.i64 (x0 + (1 : Int))]) ([[(0, false,
 Blk.cols ml
 [Col.str tl, Col.int IntKind.i64 vl, Col.int IntKind.i64 gl, Col.str wl]),
 (1, true,
 Blk.cols (List.length x1)
 [Col.int IntKind.i64 fun (j : Nat) => (S.at' x1 j).1,
 Col.int IntKind.i64 fun (j : Nat) => (S.at' x1 j).2.1,
 Col.bool fun (j : Nat) => (S.at' x1 j).2.2.1,
 Col.bool fun (j : Nat) => (S.at' x1 j).2.2.2])]]) (2))
 (False)))
 (False))
 (False))
 (False)))
 (False))
 (False))
 (False))
 (False))
 (False))))
 (False))
 (False))
 (False))
 (False)))
 (False))
 (False)))
 (False))
 (False))
 (Kret (PV.tup [PV.own (1) (4) (List.length x1), PV.int IntKind.i64 (0 : Int)]) ([[(0, false,
 Blk.cols ml
 [Col.str tl, Col.int IntKind.i64 vl, Col.int IntKind.i64 gl, Col.str wl]),
 (1, true,
 Blk.cols (List.length x1)
 [Col.int IntKind.i64 fun (j : Nat) => (S.at' x1 j).1,
 Col.int IntKind.i64 fun (j : Nat) => (S.at' x1 j).2.1,
 Col.bool fun (j : Nat) => (S.at' x1 j).2.2.1,
 Col.bool fun (j : Nat) => (S.at' x1 j).2.2.2])]]) (2))
set_option maxRecDepth 100000 in
theorem t7_0 (test : Bool → Prop → Prop → Prop) (Kst : KS) (Kret : KR) (al nl ml : Nat) (tl : Nat → ByteArray) (vl : Nat → Int) (gl : Nat → Int) (wl : Nat → ByteArray) (x0 : Int) (x1 : List (Int × Int × Bool × Bool)) : run test Try.env true noX true 400 ⟨7, hd Try.f7 0, zipT [0, 4, 5] [PV.loose (PA.mk (0) (4) al (0)) nl,
 PV.own (1) (4) (List.length x1), PV.int IntKind.i64 x0], [[(1, (true, Blk.cols (List.length x1)
 [Col.int IntKind.i64 fun (j : Nat) => (S.at' x1 j).1,
 Col.int IntKind.i64 fun (j : Nat) => (S.at' x1 j).2.1,
 Col.bool fun (j : Nat) => (S.at' x1 j).2.2.1,
 Col.bool fun (j : Nat) => (S.at' x1 j).2.2.2]))], [(0, (false, .cols ml [.str tl, .int .i64 vl, .int .i64 gl, .str wl]))]], 2⟩ (proj 1 [0, 4, 5] Kst Kret) =
  T7_0 test Kst Kret al nl ml tl vl gl wl x0 x1 := by kernel_rfl
attribute [local irreducible] Int.subNatNat in
set_option maxRecDepth 100000 in
theorem be7 (al nl ml : Nat) (tl : Nat → ByteArray) (vl : Nat → Int) (gl : Nat → Int) (wl : Nat → ByteArray) (Kst : KS) (Kret : KR) (x : St7 ⊕ Rt7) (hS : HS 1 400 ((I7 al nl ml tl vl gl wl)) Kst x) (hR : HR 1 400 ((V7 al nl ml tl vl gl wl)) (fun r => [newL (1 + 1) ((N7 al nl ml tl vl gl wl) r) ++ [(0, (false, .cols ml [.str tl, .int .i64 vl, .int .i64 gl, .str wl]))]]) Kret x) (h : (bif (decide ((↑nl : Int) > (1000 : Int)))
 then (some (.inr ((3 : Int), [])))
 else (some (.inl (.h0 ((0 : Int)) ([])))) : Option (St7 ⊕ Rt7)) = some x) : Te7 cond Kst Kret al nl ml tl vl gl wl := by
  unfold Te7
  exact bif_split h
   (fun c0 h => ret_at hR _ h (fun n => bif Nat.beq n 2 then 399 else n) rfl rfl rfl (rn_tup ⟨(rn_own_nils rfl), (rn_int rfl), trivial⟩) rfl (entl_fresh (use_own rfl) (fresh_ok rfl) (entl_bor (use_lo rfl) rfl rfl entl_nil)))
   (fun c0 h => stop_at hS _ h (fun n => bif Nat.beq n 1 then 399 else n) rfl rfl rfl ⟨(rn_loose (use_lo rfl) rfl rfl rfl), ⟨(rn_own_nils rfl), ⟨(rn_int rfl), trivial⟩⟩⟩ rfl (entl_fresh (use_own rfl) (fresh_ok rfl) (entl_bor (use_lo rfl) rfl rfl entl_nil)))
attribute [local irreducible] Int.subNatNat in
set_option maxRecDepth 100000 in
theorem b7_0 (al nl ml : Nat) (tl : Nat → ByteArray) (vl : Nat → Int) (gl : Nat → Int) (wl : Nat → ByteArray) (Kst : KS) (Kret : KR) (x : St7 ⊕ Rt7) (hS : HS 1 400 ((I7 al nl ml tl vl gl wl)) Kst x) (hR : HR 1 400 ((V7 al nl ml tl vl gl wl)) (fun r => [newL (1 + 1) ((N7 al nl ml tl vl gl wl) r) ++ [(0, (false, .cols ml [.str tl, .int .i64 vl, .int .i64 gl, .str wl]))]]) Kret x) (x0 : Int) (x1 : List (Int × Int × Bool × Bool)) (h : (bif (decide (x0 < (↑nl : Int)))
 then (bif (decide ((0 : Int) ≤ x0 ∧ x0 < (↑nl : Int)))
 then (bif (decide (Int.toNat x0 + al < ml))
 then (bif (decide (gl (Int.toNat x0 + al) < (1 : Int)))
 then (some (.inr ((6 : Int), [])))
 else (bif (decide (gl (Int.toNat x0 + al) > (1099511627776 : Int)))
 then (some (.inr ((6 : Int), [])))
 else (bif (decide ((0 : Int) ≤ (0 : Int) ∧ (0 : Int) < (↑nl : Int)))
 then (bif (decide (0 + al < ml))
 then (bif (!S.eqS (tl (Int.toNat x0 + al)) (tl (0 + al)))
 then (some (.inr ((1 : Int), [])))
 else (bif (x0 == (0 : Int))
 then (bif (lim IntKind.i64 (x0 + (1 : Int)))
 then (some (.inl (.h0 (x0 + (1 : Int)) (x1))))
 else (none))
 else (bif (lim IntKind.i64 (x0 - (1 : Int)))
 then (bif (decide ((0 : Int) ≤ x0 - (1 : Int) ∧ x0 - (1 : Int) < (↑nl : Int)))
 then (bif (decide (Int.toNat (x0 - (1 : Int)) + al < ml))
 then (bif (decide (gl (Int.toNat x0 + al) ≤ gl (Int.toNat (x0 - (1 : Int)) + al)))
 then (some (.inr ((15 : Int), [])))
 else (bif (lim IntKind.i64 (gl (Int.toNat (x0 - (1 : Int)) + al) + (1 : Int)))
 then (bif (decide (gl (Int.toNat x0 + al) > gl (Int.toNat (x0 - (1 : Int)) + al) + (1 : Int)))
 then (bif (lim IntKind.i64 (gl (Int.toNat x0 + al) - (1 : Int)))
 then (bif (decide (List.length x1 + 1 ≤ 1000000))
 then (bif (decide (List.length x1 ≤ List.length x1))
 then (bif (lim IntKind.i64 (x0 + (1 : Int)))
 then (some (.inl (.h0 (x0 + (1 : Int)) (S.snoc x1
 (gl (Int.toNat (x0 - (1 : Int)) + al) + (1 : Int), gl (Int.toNat x0 + al) - (1 : Int), false, false)))))
 else (none))
 else (none))
 else (none))
 else (none))
 else (bif (lim IntKind.i64 (x0 + (1 : Int)))
 then (some (.inl (.h0 (x0 + (1 : Int)) (x1))))
 else (none)))
 else (none)))
 else (none))
 else (none))
 else (none))))
 else (none))
 else (none))))
 else (none))
 else (none))
 else (some (.inr ((0 : Int), x1))) : Option (St7 ⊕ Rt7)) = some x) : T7_0 cond Kst Kret al nl ml tl vl gl wl x0 x1 := by
  unfold T7_0
  exact bif_split h
   (fun c0 h => bif_split h
   (fun c1 h => bif_split h
   (fun c2 h => bif_split h
   (fun c3 h => ret_at hR _ h (fun n => bif Nat.beq n 2 then 399 else n) rfl rfl rfl (rn_tup ⟨(rn_own_nils rfl), (rn_int rfl), trivial⟩) rfl (entl_fresh (use_own rfl) (fresh_ok rfl) (entl_bor (use_lo rfl) rfl rfl entl_nil)))
   (fun c3 h => cond_yes c1 (cond_yes c2 (bif_split h
   (fun c4 h => ret_at hR _ h (fun n => bif Nat.beq n 2 then 399 else n) rfl rfl rfl (rn_tup ⟨(rn_own_nils rfl), (rn_int rfl), trivial⟩) rfl (entl_fresh (use_own rfl) (fresh_ok rfl) (entl_bor (use_lo rfl) rfl rfl entl_nil)))
   (fun c4 h => cond_yes c1 (cond_yes c2 (bif_split h
   (fun c5 h => bif_split h
   (fun c6 h => bif_split h
   (fun c7 h => ret_at hR _ h (fun n => bif Nat.beq n 2 then 399 else n) rfl rfl rfl (rn_tup ⟨(rn_own_nils rfl), (rn_int rfl), trivial⟩) rfl (entl_fresh (use_own rfl) (fresh_ok rfl) (entl_bor (use_lo rfl) rfl rfl entl_nil)))
   (fun c7 h => bif_split h
   (fun c8 h => bif_split h
   (fun c9 h => stop_at hS _ h (fun n => bif Nat.beq n 1 then 1 else n) rfl rfl rfl ⟨(rn_loose (use_lo rfl) rfl rfl rfl), ⟨(rn_own (use_own rfl) rfl rfl), ⟨(rn_int rfl), trivial⟩⟩⟩ rfl (entl_new (use_own rfl) rfl (Nat.le_of_eq rfl) (rcs_int (fun _ _ => rfl) (rcs_int (fun _ _ => rfl) (rcs_bool (fun _ _ => rfl) (rcs_bool (fun _ _ => rfl) rcs_nil)))) (entl_bor (use_lo rfl) rfl rfl entl_nil)))
   (fun c9 h => no_some h))
   (fun c8 h => bif_split h
   (fun c9 h => bif_split h
   (fun c10 h => bif_split h
   (fun c11 h => cond_yes c1 (cond_yes c2 (bif_split h
   (fun c12 h => ret_at hR _ h (fun n => bif Nat.beq n 2 then 399 else n) rfl rfl rfl (rn_tup ⟨(rn_own_nils rfl), (rn_int rfl), trivial⟩) rfl (entl_fresh (use_own rfl) (fresh_ok rfl) (entl_bor (use_lo rfl) rfl rfl entl_nil)))
   (fun c12 h => cond_yes c1 (cond_yes c2 (bif_split h
   (fun c13 h => bif_split h
   (fun c14 h => cond_yes c13 (cond_yes c1 (cond_yes c2 (bif_split h
   (fun c15 h => bif_split h
   (fun c16 h => bif_split h
   (fun c17 h => cond_yes rfl (bif_split h
   (fun c18 h => stop_at hS _ h (fun n => bif Nat.beq n 1 then 3 else n) rfl rfl rfl ⟨(rn_loose (use_lo rfl) rfl rfl rfl), ⟨(rn_own (use_own rfl) rfl (snoc_len' rfl)), ⟨(rn_int rfl), trivial⟩⟩⟩ rfl (entl_new (use_own rfl) rfl (Nat.le_of_eq (snoc_len' rfl)) (rcs_int (col_snoc' (fun (t : Int × Int × Bool × Bool) => t.1) rfl (fun _ _ => rfl)) (rcs_int (col_snoc' (fun (t : Int × Int × Bool × Bool) => t.2.1) rfl (fun _ _ => rfl)) (rcs_bool (col_snoc' (fun (t : Int × Int × Bool × Bool) => t.2.2.1) rfl (fun _ _ => rfl)) (rcs_bool (col_snoc' (fun (t : Int × Int × Bool × Bool) => t.2.2.2) rfl (fun _ _ => rfl)) rcs_nil)))) (entl_bor (use_lo rfl) rfl rfl entl_nil)))
   (fun c18 h => no_some h)))
   (fun c17 h => no_some h))
   (fun c16 h => no_some h))
   (fun c15 h => no_some h)))))
   (fun c14 h => bif_split h
   (fun c15 h => stop_at hS _ h (fun n => bif Nat.beq n 1 then 1 else n) rfl rfl rfl ⟨(rn_loose (use_lo rfl) rfl rfl rfl), ⟨(rn_own (use_own rfl) rfl rfl), ⟨(rn_int rfl), trivial⟩⟩⟩ rfl (entl_new (use_own rfl) rfl (Nat.le_of_eq rfl) (rcs_int (fun _ _ => rfl) (rcs_int (fun _ _ => rfl) (rcs_bool (fun _ _ => rfl) (rcs_bool (fun _ _ => rfl) rcs_nil)))) (entl_bor (use_lo rfl) rfl rfl entl_nil)))
   (fun c15 h => no_some h)))
   (fun c13 h => no_some h)))))))
   (fun c11 h => no_some h))
   (fun c10 h => no_some h))
   (fun c9 h => no_some h))))
   (fun c6 h => no_some h))
   (fun c5 h => no_some h))))))))
   (fun c2 h => no_some h))
   (fun c1 h => no_some h))
   (fun c0 h => ret_at hR _ h (fun n => bif Nat.beq n 2 then 1 else n) rfl rfl rfl (rn_tup ⟨(rn_own (use_own rfl) rfl rfl), (rn_int rfl), trivial⟩) rfl (entl_new (use_own rfl) rfl (Nat.le_of_eq rfl) (rcs_int (fun _ _ => rfl) (rcs_int (fun _ _ => rfl) (rcs_bool (fun _ _ => rfl) (rcs_bool (fun _ _ => rfl) rcs_nil)))) (entl_bor (use_lo rfl) rfl rfl entl_nil)))
theorem a7 (al nl ml : Nat) (tl : Nat → ByteArray) (vl : Nat → Int) (gl : Nat → Int) (wl : Nat → ByteArray) {r : Rt7} (h : Goes ((q7 al nl ml tl vl gl wl)) ((p7 al nl ml tl vl gl wl)) r) : CallR Try.prog 7 [.loose ⟨0, 4, al, 0⟩ nl] [[(0, (false, .cols ml [.str tl, .int .i64 vl, .int .i64 gl, .str wl]))]] 1 ((V7 al nl ml tl vl gl wl) r) ((fun r => [newL (1 + 1) ((N7 al nl ml tl vl gl wl) r) ++ [(0, (false, .cols ml [.str tl, .int .i64 vl, .int .i64 gl, .str wl]))]]) r) 400 ∧ ∃ F, Try.prog.funcs[7]? = some F ∧ F.body.isSome = true ∧ (F.name == "runtime.NumGoroutine") = false := by
  refine dec_calls (sy := true) (f := 7) (lo := 1) (hi := 400) (H := [[(0, (false, .cols ml [.str tl, .int .i64 vl, .int .i64 gl, .str wl]))]]) (args := [.loose ⟨0, 4, al, 0⟩ nl]) Try.envOk Try.mixed noX_ok ((I7 al nl ml tl vl gl wl)) ((V7 al nl ml tl vl gl wl)) (fun r => [newL (1 + 1) ((N7 al nl ml tl vl gl wl) r) ++ [(0, (false, .cols ml [.str tl, .int .i64 vl, .int .i64 gl, .str wl]))]]) (fn := mkFn Try.f7) (ts := [0, 4, 5]) (n := 400) rfl (by decide) (by simp) (names_of rfl) ?_ ?_ ?_ h
  · intro s; cases s <;> exact ⟨hd_ok _ _, by simp [I7], names_of rfl, Nat.le_of_ble_eq_true rfl⟩
  · intro Kst Kret x hS hR h
    exact Holds.eq (te7 cond Kst Kret al nl ml tl vl gl wl) (be7 al nl ml tl vl gl wl Kst Kret x hS hR h)
  · intro Kst Kret x hS hR s h
    cases s with
    | h0 x0 x1 => exact Holds.eq (t7_0 cond Kst Kret al nl ml tl vl gl wl x0 x1) (b7_0 al nl ml tl vl gl wl Kst Kret x hS hR x0 x1 h)
noncomputable def k7 : Con := ⟨7, [.one (.list [.str, .int .i64, .int .i64, .str])], fun (x : (Nat × Nat × Nat × (Nat → ByteArray) × (Nat → Int) × (Nat → Int) × (Nat → ByteArray) × Unit) × Unit) => (fun (al nl ml : Nat) (tl : Nat → ByteArray) (vl : Nat → Int) (gl : Nat → Int) (wl : Nat → ByteArray) => decide (al + nl ≤ ml)) x.1.1 x.1.2.1 x.1.2.2.1 x.1.2.2.2.1 x.1.2.2.2.2.1 x.1.2.2.2.2.2.1 x.1.2.2.2.2.2.2.1, fun (x : (Nat × Nat × Nat × (Nat → ByteArray) × (Nat → Int) × (Nat → Int) × (Nat → ByteArray) × Unit) × Unit) => (fun (al nl ml : Nat) (tl : Nat → ByteArray) (vl : Nat → Int) (gl : Nat → Int) (wl : Nat → ByteArray) => (V7 al nl ml tl vl gl wl) (S.gapS nl (fun j => tl (j + al)) (fun j => gl (j + al)))) x.1.1 x.1.2.1 x.1.2.2.1 x.1.2.2.2.1 x.1.2.2.2.2.1 x.1.2.2.2.2.2.1 x.1.2.2.2.2.2.2.1, fun (x : (Nat × Nat × Nat × (Nat → ByteArray) × (Nat → Int) × (Nat → Int) × (Nat → ByteArray) × Unit) × Unit) => (fun (al nl ml : Nat) (tl : Nat → ByteArray) (vl : Nat → Int) (gl : Nat → Int) (wl : Nat → ByteArray) => (N7 al nl ml tl vl gl wl) (S.gapS nl (fun j => tl (j + al)) (fun j => gl (j + al)))) x.1.1 x.1.2.1 x.1.2.2.1 x.1.2.2.2.1 x.1.2.2.2.2.1 x.1.2.2.2.2.2.1 x.1.2.2.2.2.2.2.1, fun _ _ => .dead⟩
theorem s7' (al nl ml : Nat) (tl : Nat → ByteArray) (vl : Nat → Int) (gl : Nat → Int) (wl : Nat → ByteArray) (hp : al + nl ≤ ml) (hn : nl ≤ 1000) : ∀ (k i : Nat) (L : List (Int × Int × Bool × Bool)), i + k = nl → L.length ≤ i → (0 < i → 1 ≤ gl (i - 1 + al) ∧ gl (i - 1 + al) ≤ 1099511627776) → Comes (q7 al nl ml tl vl gl wl) (.h0 (i : Int) L) (S.gapF (fun j => tl (j + al)) (fun j => gl (j + al)) i k L) := by
  intro k
  induction k with
  | zero =>
    intro i L hi hL hv
    apply Comes.of
    show Goes _ _ _
    (first | rw [q7] | unfold q7)
    repeat' first
      | with_reducible refine goes_if (fun h => ?_) (fun h => ?_) <;> (try simp only [lim64, imp_false, decide_eq_true_eq, decide_eq_false_iff_not, Int.toNat_natCast, toNat_pred, toNat_succ, Option.getD_some, Option.getD_none, Bool.not_eq_true', Bool.not_eq_false', Bool.and_eq_true, Bool.or_eq_true, Bool.and_eq_false_iff, Bool.or_eq_false_iff, bne_iff_ne, beq_iff_eq, bne_eq_false_iff_eq, beq_eq_false_iff_ne, ne_eq, not_and, Int.not_le, Int.not_lt, ge_iff_le, gt_iff_lt, Nat.not_lt, Nat.not_le, Bool.not_eq_true, Bool.not_eq_false, Bool.true_eq_false, Bool.false_eq_true, not_false_eq_true, not_true_eq_false] at h)
      | exact goes_none.mpr (by omega)
    all_goals first | (exfalso; omega) | rfl
  | succ k ih =>
    intro i L hi hL hv
    simp only [S.gapF]
    by_cases hr : 1 ≤ gl (i + al) ∧ gl (i + al) ≤ 1099511627776
    · rw [if_pos hr]
      have ih1 := ih (i + 1) L (by omega) (by omega) (fun _ => by rw [show i + 1 - 1 = i by omega]; exact hr)
      have ih2 := fun x => ih (i + 1) (S.snoc L x) (by omega) (by rw [snoc_len]; omega) (fun _ => by rw [show i + 1 - 1 = i by omega]; exact hr)
      clear ih
      by_cases h0 : i = 0
      · subst h0
        rw [if_pos rfl]
        have he := eqS_self (s := tl (0 + al))
        clear ih2
        apply Comes.of
        rw [q7]
        simp only [Int.toNat_natCast, Int.toNat_zero, Int.natCast_zero, he, Bool.not_true]
        repeat' first
          | with_reducible refine goes_if (fun h => ?_) (fun h => ?_) <;> (try simp only [lim64, imp_false, decide_eq_true_eq, decide_eq_false_iff_not, Int.toNat_natCast, toNat_pred, toNat_succ, Option.getD_some, Option.getD_none, Bool.not_eq_true', Bool.not_eq_false', Bool.and_eq_true, Bool.or_eq_true, Bool.and_eq_false_iff, Bool.or_eq_false_iff, bne_iff_ne, beq_iff_eq, bne_eq_false_iff_eq, beq_eq_false_iff_ne, ne_eq, not_and, Int.not_le, Int.not_lt, ge_iff_le, gt_iff_lt, Nat.not_lt, Nat.not_le, Bool.not_eq_true, Bool.not_eq_false, Bool.true_eq_false, Bool.false_eq_true, not_false_eq_true, not_true_eq_false] at h)
          | exact goes_none.mpr (by omega)
        all_goals first | (exfalso; omega) | exact ih1
      · rw [if_neg h0]
        have hv := hv (by omega)
        have e1 : ((i : Int) - 1).toNat = i - 1 := by omega
        cases he : S.eqS (tl (i + al)) (tl (0 + al))
        · rw [if_pos rfl]
          clear ih1 ih2
          apply Comes.of
          rw [q7]
          simp only [Int.toNat_natCast, e1, he, Bool.not_false]
          repeat' first
            | with_reducible refine goes_if (fun h => ?_) (fun h => ?_) <;> (try simp only [lim64, imp_false, decide_eq_true_eq, decide_eq_false_iff_not, Int.toNat_natCast, toNat_pred, toNat_succ, Option.getD_some, Option.getD_none, Bool.not_eq_true', Bool.not_eq_false', Bool.and_eq_true, Bool.or_eq_true, Bool.and_eq_false_iff, Bool.or_eq_false_iff, bne_iff_ne, beq_iff_eq, bne_eq_false_iff_eq, beq_eq_false_iff_ne, ne_eq, not_and, Int.not_le, Int.not_lt, ge_iff_le, gt_iff_lt, Nat.not_lt, Nat.not_le, Bool.not_eq_true, Bool.not_eq_false, Bool.true_eq_false, Bool.false_eq_true, not_false_eq_true, not_true_eq_false] at h)
            | exact goes_none.mpr (by omega)
          all_goals first | (exfalso; omega) | rfl
        · rw [if_neg (by simp)]
          by_cases h1 : gl (i + al) ≤ gl (i - 1 + al)
          · rw [if_pos h1]
            clear ih1 ih2
            apply Comes.of
            rw [q7]
            simp only [Int.toNat_natCast, e1, he, Bool.not_true]
            repeat' first
              | with_reducible refine goes_if (fun h => ?_) (fun h => ?_) <;> (try simp only [lim64, imp_false, decide_eq_true_eq, decide_eq_false_iff_not, Int.toNat_natCast, toNat_pred, toNat_succ, Option.getD_some, Option.getD_none, Bool.not_eq_true', Bool.not_eq_false', Bool.and_eq_true, Bool.or_eq_true, Bool.and_eq_false_iff, Bool.or_eq_false_iff, bne_iff_ne, beq_iff_eq, bne_eq_false_iff_eq, beq_eq_false_iff_ne, ne_eq, not_and, Int.not_le, Int.not_lt, ge_iff_le, gt_iff_lt, Nat.not_lt, Nat.not_le, Bool.not_eq_true, Bool.not_eq_false, Bool.true_eq_false, Bool.false_eq_true, not_false_eq_true, not_true_eq_false] at h)
              | exact goes_none.mpr (by omega)
            all_goals first | (exfalso; omega) | rfl
          · rw [if_neg h1]
            by_cases h2 : gl (i + al) > gl (i - 1 + al) + 1
            · rw [if_pos h2]
              have ih3 := ih2 (gl (i - 1 + al) + 1, gl (i + al) - 1, false, false)
              clear ih1 ih2
              apply Comes.of
              rw [q7]
              simp only [Int.toNat_natCast, e1, he, Bool.not_true]
              repeat' first
                | with_reducible refine goes_if (fun h => ?_) (fun h => ?_) <;> (try simp only [lim64, imp_false, decide_eq_true_eq, decide_eq_false_iff_not, Int.toNat_natCast, toNat_pred, toNat_succ, Option.getD_some, Option.getD_none, Bool.not_eq_true', Bool.not_eq_false', Bool.and_eq_true, Bool.or_eq_true, Bool.and_eq_false_iff, Bool.or_eq_false_iff, bne_iff_ne, beq_iff_eq, bne_eq_false_iff_eq, beq_eq_false_iff_ne, ne_eq, not_and, Int.not_le, Int.not_lt, ge_iff_le, gt_iff_lt, Nat.not_lt, Nat.not_le, Bool.not_eq_true, Bool.not_eq_false, Bool.true_eq_false, Bool.false_eq_true, not_false_eq_true, not_true_eq_false] at h)
                | exact goes_none.mpr (by omega)
              all_goals first | (exfalso; omega) | exact ih3
            · rw [if_neg h2]
              clear ih2
              apply Comes.of
              rw [q7]
              simp only [Int.toNat_natCast, e1, he, Bool.not_true]
              repeat' first
                | with_reducible refine goes_if (fun h => ?_) (fun h => ?_) <;> (try simp only [lim64, imp_false, decide_eq_true_eq, decide_eq_false_iff_not, Int.toNat_natCast, toNat_pred, toNat_succ, Option.getD_some, Option.getD_none, Bool.not_eq_true', Bool.not_eq_false', Bool.and_eq_true, Bool.or_eq_true, Bool.and_eq_false_iff, Bool.or_eq_false_iff, bne_iff_ne, beq_iff_eq, bne_eq_false_iff_eq, beq_eq_false_iff_ne, ne_eq, not_and, Int.not_le, Int.not_lt, ge_iff_le, gt_iff_lt, Nat.not_lt, Nat.not_le, Bool.not_eq_true, Bool.not_eq_false, Bool.true_eq_false, Bool.false_eq_true, not_false_eq_true, not_true_eq_false] at h)
                | exact goes_none.mpr (by omega)
              all_goals first | (exfalso; omega) | exact ih1
    · rw [if_neg hr]
      clear ih hv
      apply Comes.of
      show Goes _ _ _
      (first | rw [q7] | unfold q7)
      repeat' first
        | with_reducible refine goes_if (fun h => ?_) (fun h => ?_) <;> (try simp only [lim64, imp_false, decide_eq_true_eq, decide_eq_false_iff_not, Int.toNat_natCast, toNat_pred, toNat_succ, Option.getD_some, Option.getD_none, Bool.not_eq_true', Bool.not_eq_false', Bool.and_eq_true, Bool.or_eq_true, Bool.and_eq_false_iff, Bool.or_eq_false_iff, bne_iff_ne, beq_iff_eq, bne_eq_false_iff_eq, beq_eq_false_iff_ne, ne_eq, not_and, Int.not_le, Int.not_lt, ge_iff_le, gt_iff_lt, Nat.not_lt, Nat.not_le, Bool.not_eq_true, Bool.not_eq_false, Bool.true_eq_false, Bool.false_eq_true, not_false_eq_true, not_true_eq_false] at h)
        | exact goes_none.mpr (by omega)
      all_goals first | (exfalso; omega) | rfl
theorem s7 (al nl ml : Nat) (tl : Nat → ByteArray) (vl : Nat → Int) (gl : Nat → Int) (wl : Nat → ByteArray) (hp : al + nl ≤ ml) : Goes ((q7 al nl ml tl vl gl wl)) ((p7 al nl ml tl vl gl wl)) (S.gapS nl (fun j => tl (j + al)) (fun j => gl (j + al))) := by
  unfold S.gapS
  unfold p7
  by_cases h : nl > 1000
  · rw [if_pos h]
    exact goes_ok (decide_eq_true (by omega)) rfl
  · rw [if_neg h]
    exact goes_no (decide_eq_false (by omega)) (s7' al nl ml tl vl gl wl hp (by omega) nl 0 [] (Nat.zero_add _) (Nat.zero_le _) (fun h => absurd h (Nat.lt_irrefl 0)))

theorem k7_ok : k7.ok Try.prog := by
  intro x hx
  obtain ⟨⟨al, nl, ml, tl, vl, gl, wl, _⟩, _⟩ := x
  obtain ⟨h1, h2⟩ := a7 al nl ml tl vl gl wl (s7 al nl ml tl vl gl wl (of_dec hx rfl))
  exact ⟨⟨400, (by decide : 1 + 1 + 1 ≤ 400), h1⟩, h2⟩
inductive St8 where
  | h0 (x0 : Int)
abbrev Rt8 := Bool
noncomputable def V8 (aa na ma : Nat) (ta : Nat → Int) (va : Nat → Int) (ga : Nat → Bool) (wa : Nat → Bool) (ab nb mb : Nat) (tb : Nat → Int) (vb : Nat → Int) (gb : Nat → Bool) (wb : Nat → Bool) (r : Rt8) : PV := PV.bool r
noncomputable def N8 (aa na ma : Nat) (ta : Nat → Int) (va : Nat → Int) (ga : Nat → Bool) (wa : Nat → Bool) (ab nb mb : Nat) (tb : Nat → Int) (vb : Nat → Int) (gb : Nat → Bool) (wb : Nat → Bool) (r : Rt8) : List Blk := []
noncomputable def I8 (aa na ma : Nat) (ta : Nat → Int) (va : Nat → Int) (ga : Nat → Bool) (wa : Nat → Bool) (ab nb mb : Nat) (tb : Nat → Int) (vb : Nat → Int) (gb : Nat → Bool) (wb : Nat → Bool) : St8 → Hd
  | .h0 x0 => ⟨hd Try.f8 0, [PV.loose (PA.mk (0) (4) aa (0)) na,
 PV.loose (PA.mk (1) (4) ab (0)) nb, PV.int IntKind.i64 (↑na : Int),
 PV.int IntKind.i64 x0], [[], [(0, (false, .cols ma [.int .i64 ta, .int .i64 va, .bool ga, .bool wa])), (1, (false, .cols mb [.int .i64 tb, .int .i64 vb, .bool gb, .bool wb]))]], 2⟩
noncomputable def q8 (aa na ma : Nat) (ta : Nat → Int) (va : Nat → Int) (ga : Nat → Bool) (wa : Nat → Bool) (ab nb mb : Nat) (tb : Nat → Int) (vb : Nat → Int) (gb : Nat → Bool) (wb : Nat → Bool) : St8 → Option (St8 ⊕ Rt8)
  | .h0 x0 => bif (decide (x0 < (↑na : Int)))
 then (bif (decide ((0 : Int) ≤ x0 ∧ x0 < (↑na : Int)))
 then (bif (decide (Int.toNat x0 + aa < ma))
 then (bif (decide ((0 : Int) ≤ x0 ∧ x0 < (↑nb : Int)))
 then (bif (decide (Int.toNat x0 + ab < mb))
 then (bif (!(ta (Int.toNat x0 + aa) == tb (Int.toNat x0 + ab) &&
 (va (Int.toNat x0 + aa) == vb (Int.toNat x0 + ab) &&
 (ga (Int.toNat x0 + aa) == gb (Int.toNat x0 + ab) &&
 (wa (Int.toNat x0 + aa) == wb (Int.toNat x0 + ab) && true)))))
 then (some (.inr (false)))
 else (bif (lim IntKind.i64 (x0 + (1 : Int)))
 then (some (.inl (.h0 (x0 + (1 : Int)))))
 else (none)))
 else (none))
 else (none))
 else (none))
 else (none))
 else (some (.inr (true)))
noncomputable def p8 (aa na ma : Nat) (ta : Nat → Int) (va : Nat → Int) (ga : Nat → Bool) (wa : Nat → Bool) (ab nb mb : Nat) (tb : Nat → Int) (vb : Nat → Int) (gb : Nat → Bool) (wb : Nat → Bool) : Option (St8 ⊕ Rt8) := bif ((↑na : Int) != (↑nb : Int))
 then (some (.inr (false)))
 else (some (.inl (.h0 ((0 : Int)))))
noncomputable def Te8 (test : Bool → Prop → Prop → Prop) (Kst : KS) (Kret : KR) (aa na ma : Nat) (ta : Nat → Int) (va : Nat → Int) (ga : Nat → Bool) (wa : Nat → Bool) (ab nb mb : Nat) (tb : Nat → Int) (vb : Nat → Int) (gb : Nat → Bool) (wb : Nat → Bool) : Prop :=
  test ((↑na : Int) != (↑nb : Int))
 (Kret (PV.tf false) ([[(1, false,
 Blk.cols mb
 [Col.int IntKind.i64 tb, Col.int IntKind.i64 vb, Col.bool gb, Col.bool wb]),
 (0, false,
 Blk.cols ma
 [Col.int IntKind.i64 ta, Col.int IntKind.i64 va, Col.bool ga, Col.bool wa])]]) (2))
 (Kst (hd Try.f8 0) ([PV.loose (PA.mk (0) (4) aa (0)) na,
 PV.loose (PA.mk (1) (4) ab (0)) nb, PV.int IntKind.i64 (↑na : Int),
 PV.int IntKind.i64 (0 : Int)]) ([[(1, false,
 Blk.cols mb
 [Col.int IntKind.i64 tb, Col.int IntKind.i64 vb, Col.bool gb, Col.bool wb]),
 (0, false,
 Blk.cols ma
 [Col.int IntKind.i64 ta, Col.int IntKind.i64 va, Col.bool ga, Col.bool wa])]]) (2))
set_option maxRecDepth 100000 in
theorem te8 (test : Bool → Prop → Prop → Prop) (Kst : KS) (Kret : KR) (aa na ma : Nat) (ta : Nat → Int) (va : Nat → Int) (ga : Nat → Bool) (wa : Nat → Bool) (ab nb mb : Nat) (tb : Nat → Int) (vb : Nat → Int) (gb : Nat → Bool) (wb : Nat → Bool) : run test Try.env true noX true 400 ⟨8, [.cd (mkFn Try.f8).body], argT 0 [.loose ⟨0, 4, aa, 0⟩ na, .loose ⟨1, 4, ab, 0⟩ nb], [[], [(0, (false, .cols ma [.int .i64 ta, .int .i64 va, .bool ga, .bool wa])), (1, (false, .cols mb [.int .i64 tb, .int .i64 vb, .bool gb, .bool wb]))]], 2⟩ (proj 2 [0, 1, 12, 13] Kst Kret) =
  Te8 test Kst Kret aa na ma ta va ga wa ab nb mb tb vb gb wb := by kernel_rfl
noncomputable def T8_0 (test : Bool → Prop → Prop → Prop) (Kst : KS) (Kret : KR) (aa na ma : Nat) (ta : Nat → Int) (va : Nat → Int) (ga : Nat → Bool) (wa : Nat → Bool) (ab nb mb : Nat) (tb : Nat → Int) (vb : Nat → Int) (gb : Nat → Bool) (wb : Nat → Bool) (x0 : Int) : Prop :=
  test (decide (x0 < (↑na : Int)))
 (test (decide ((0 : Int) ≤ x0 ∧ x0 < (↑na : Int)))
 (test (decide (Int.toNat x0 + aa < ma))
 (test (decide (Int.toNat x0 + aa < ma))
 (test (decide (Int.toNat x0 + aa < ma))
 (test (decide (Int.toNat x0 + aa < ma))
 (test (decide ((0 : Int) ≤ x0 ∧ x0 < (↑nb : Int)))
 (test (decide (Int.toNat x0 + ab < mb))
 (test (decide (Int.toNat x0 + ab < mb))
 (test (decide (Int.toNat x0 + ab < mb))
 (test (decide (Int.toNat x0 + ab < mb))
 (test (!(ta (Int.toNat x0 + aa) == tb (Int.toNat x0 + ab) &&
 (va (Int.toNat x0 + aa) == vb (Int.toNat x0 + ab) &&
 (ga (Int.toNat x0 + aa) == gb (Int.toNat x0 + ab) &&
 (wa (Int.toNat x0 + aa) == wb (Int.toNat x0 + ab) && true)))))
 (Kret (PV.tf false) ([[(1, false,
 Blk.cols mb
 [Col.int IntKind.i64 tb, Col.int IntKind.i64 vb, Col.bool gb, Col.bool wb]),
 (0, false,
 Blk.cols ma
 [Col.int IntKind.i64 ta, Col.int IntKind.i64 va, Col.bool ga, Col.bool wa])]]) (2))
 (test (lim IntKind.i64 (x0 + (1 : Int)))
 (Kst (hd Try.f8 0) ([PV.loose (PA.mk (0) (4) aa (0)) na,
 PV.loose (PA.mk (1) (4) ab (0)) nb, PV.int IntKind.i64 (↑na : Int),
 PV.int IntKind.i64 (x0 + (1 : Int))]) ([[(1, false,
 Blk.cols mb
 [Col.int IntKind.i64 tb, Col.int IntKind.i64 vb, Col.bool gb, Col.bool wb]),
 (0, false,
 Blk.cols ma
 [Col.int IntKind.i64 ta, Col.int IntKind.i64 va, Col.bool ga, Col.bool wa])]]) (2))
 (False)))
 (False))
 (False))
 (False))
 (False))
 (False))
 (False))
 (False))
 (False))
 (False))
 (False))
 (Kret (PV.tf true) ([[(1, false,
 Blk.cols mb
 [Col.int IntKind.i64 tb, Col.int IntKind.i64 vb, Col.bool gb, Col.bool wb]),
 (0, false,
 Blk.cols ma
 [Col.int IntKind.i64 ta, Col.int IntKind.i64 va, Col.bool ga, Col.bool wa])]]) (2))
set_option maxRecDepth 100000 in
theorem t8_0 (test : Bool → Prop → Prop → Prop) (Kst : KS) (Kret : KR) (aa na ma : Nat) (ta : Nat → Int) (va : Nat → Int) (ga : Nat → Bool) (wa : Nat → Bool) (ab nb mb : Nat) (tb : Nat → Int) (vb : Nat → Int) (gb : Nat → Bool) (wb : Nat → Bool) (x0 : Int) : run test Try.env true noX true 400 ⟨8, hd Try.f8 0, zipT [0, 1, 12, 13] [PV.loose (PA.mk (0) (4) aa (0)) na,
 PV.loose (PA.mk (1) (4) ab (0)) nb, PV.int IntKind.i64 (↑na : Int),
 PV.int IntKind.i64 x0], [[], [(0, (false, .cols ma [.int .i64 ta, .int .i64 va, .bool ga, .bool wa])), (1, (false, .cols mb [.int .i64 tb, .int .i64 vb, .bool gb, .bool wb]))]], 2⟩ (proj 2 [0, 1, 12, 13] Kst Kret) =
  T8_0 test Kst Kret aa na ma ta va ga wa ab nb mb tb vb gb wb x0 := by kernel_rfl
attribute [local irreducible] Int.subNatNat in
set_option maxRecDepth 100000 in
theorem be8 (aa na ma : Nat) (ta : Nat → Int) (va : Nat → Int) (ga : Nat → Bool) (wa : Nat → Bool) (ab nb mb : Nat) (tb : Nat → Int) (vb : Nat → Int) (gb : Nat → Bool) (wb : Nat → Bool) (Kst : KS) (Kret : KR) (x : St8 ⊕ Rt8) (hS : HS 2 400 ((I8 aa na ma ta va ga wa ab nb mb tb vb gb wb)) Kst x) (hR : HR 2 400 ((V8 aa na ma ta va ga wa ab nb mb tb vb gb wb)) (fun r => [newL (2 + 1) ((N8 aa na ma ta va ga wa ab nb mb tb vb gb wb) r) ++ [(0, (false, .cols ma [.int .i64 ta, .int .i64 va, .bool ga, .bool wa])), (1, (false, .cols mb [.int .i64 tb, .int .i64 vb, .bool gb, .bool wb]))]]) Kret x) (h : (bif ((↑na : Int) != (↑nb : Int))
 then (some (.inr (false)))
 else (some (.inl (.h0 ((0 : Int))))) : Option (St8 ⊕ Rt8)) = some x) : Te8 cond Kst Kret aa na ma ta va ga wa ab nb mb tb vb gb wb := by
  unfold Te8
  exact bif_split h
   (fun c0 h => ret_at hR _ h (fun n => n) rfl rfl rfl (rn_bool_tf rfl) rfl (entl_bor (use_lo rfl) rfl rfl (entl_bor (use_lo rfl) rfl rfl entl_nil)))
   (fun c0 h => stop_at hS _ h (fun n => n) rfl rfl rfl ⟨(rn_loose (use_lo rfl) rfl rfl rfl), ⟨(rn_loose (use_lo rfl) rfl rfl rfl), ⟨(rn_int rfl), ⟨(rn_int rfl), trivial⟩⟩⟩⟩ rfl (entl_bor (use_lo rfl) rfl rfl (entl_bor (use_lo rfl) rfl rfl entl_nil)))
attribute [local irreducible] Int.subNatNat in
set_option maxRecDepth 100000 in
theorem b8_0 (aa na ma : Nat) (ta : Nat → Int) (va : Nat → Int) (ga : Nat → Bool) (wa : Nat → Bool) (ab nb mb : Nat) (tb : Nat → Int) (vb : Nat → Int) (gb : Nat → Bool) (wb : Nat → Bool) (Kst : KS) (Kret : KR) (x : St8 ⊕ Rt8) (hS : HS 2 400 ((I8 aa na ma ta va ga wa ab nb mb tb vb gb wb)) Kst x) (hR : HR 2 400 ((V8 aa na ma ta va ga wa ab nb mb tb vb gb wb)) (fun r => [newL (2 + 1) ((N8 aa na ma ta va ga wa ab nb mb tb vb gb wb) r) ++ [(0, (false, .cols ma [.int .i64 ta, .int .i64 va, .bool ga, .bool wa])), (1, (false, .cols mb [.int .i64 tb, .int .i64 vb, .bool gb, .bool wb]))]]) Kret x) (x0 : Int) (h : (bif (decide (x0 < (↑na : Int)))
 then (bif (decide ((0 : Int) ≤ x0 ∧ x0 < (↑na : Int)))
 then (bif (decide (Int.toNat x0 + aa < ma))
 then (bif (decide ((0 : Int) ≤ x0 ∧ x0 < (↑nb : Int)))
 then (bif (decide (Int.toNat x0 + ab < mb))
 then (bif (!(ta (Int.toNat x0 + aa) == tb (Int.toNat x0 + ab) &&
 (va (Int.toNat x0 + aa) == vb (Int.toNat x0 + ab) &&
 (ga (Int.toNat x0 + aa) == gb (Int.toNat x0 + ab) &&
 (wa (Int.toNat x0 + aa) == wb (Int.toNat x0 + ab) && true)))))
 then (some (.inr (false)))
 else (bif (lim IntKind.i64 (x0 + (1 : Int)))
 then (some (.inl (.h0 (x0 + (1 : Int)))))
 else (none)))
 else (none))
 else (none))
 else (none))
 else (none))
 else (some (.inr (true))) : Option (St8 ⊕ Rt8)) = some x) : T8_0 cond Kst Kret aa na ma ta va ga wa ab nb mb tb vb gb wb x0 := by
  unfold T8_0
  exact bif_split h
   (fun c0 h => bif_split h
   (fun c1 h => bif_split h
   (fun c2 h => cond_yes c2 (cond_yes c2 (cond_yes c2 (bif_split h
   (fun c3 h => bif_split h
   (fun c4 h => cond_yes c4 (cond_yes c4 (cond_yes c4 (bif_split h
   (fun c5 h => ret_at hR _ h (fun n => n) rfl rfl rfl (rn_bool_tf rfl) rfl (entl_bor (use_lo rfl) rfl rfl (entl_bor (use_lo rfl) rfl rfl entl_nil)))
   (fun c5 h => bif_split h
   (fun c6 h => stop_at hS _ h (fun n => n) rfl rfl rfl ⟨(rn_loose (use_lo rfl) rfl rfl rfl), ⟨(rn_loose (use_lo rfl) rfl rfl rfl), ⟨(rn_int rfl), ⟨(rn_int rfl), trivial⟩⟩⟩⟩ rfl (entl_bor (use_lo rfl) rfl rfl (entl_bor (use_lo rfl) rfl rfl entl_nil)))
   (fun c6 h => no_some h))))))
   (fun c4 h => no_some h))
   (fun c3 h => no_some h)))))
   (fun c2 h => no_some h))
   (fun c1 h => no_some h))
   (fun c0 h => ret_at hR _ h (fun n => n) rfl rfl rfl (rn_bool_tf rfl) rfl (entl_bor (use_lo rfl) rfl rfl (entl_bor (use_lo rfl) rfl rfl entl_nil)))
theorem a8 (aa na ma : Nat) (ta : Nat → Int) (va : Nat → Int) (ga : Nat → Bool) (wa : Nat → Bool) (ab nb mb : Nat) (tb : Nat → Int) (vb : Nat → Int) (gb : Nat → Bool) (wb : Nat → Bool) {r : Rt8} (h : Goes ((q8 aa na ma ta va ga wa ab nb mb tb vb gb wb)) ((p8 aa na ma ta va ga wa ab nb mb tb vb gb wb)) r) : CallR Try.prog 8 [.loose ⟨0, 4, aa, 0⟩ na, .loose ⟨1, 4, ab, 0⟩ nb] [[(0, (false, .cols ma [.int .i64 ta, .int .i64 va, .bool ga, .bool wa])), (1, (false, .cols mb [.int .i64 tb, .int .i64 vb, .bool gb, .bool wb]))]] 2 ((V8 aa na ma ta va ga wa ab nb mb tb vb gb wb) r) ((fun r => [newL (2 + 1) ((N8 aa na ma ta va ga wa ab nb mb tb vb gb wb) r) ++ [(0, (false, .cols ma [.int .i64 ta, .int .i64 va, .bool ga, .bool wa])), (1, (false, .cols mb [.int .i64 tb, .int .i64 vb, .bool gb, .bool wb]))]]) r) 400 ∧ ∃ F, Try.prog.funcs[8]? = some F ∧ F.body.isSome = true ∧ (F.name == "runtime.NumGoroutine") = false := by
  refine dec_calls (sy := true) (f := 8) (lo := 2) (hi := 400) (H := [[(0, (false, .cols ma [.int .i64 ta, .int .i64 va, .bool ga, .bool wa])), (1, (false, .cols mb [.int .i64 tb, .int .i64 vb, .bool gb, .bool wb]))]]) (args := [.loose ⟨0, 4, aa, 0⟩ na, .loose ⟨1, 4, ab, 0⟩ nb]) Try.envOk Try.mixed noX_ok ((I8 aa na ma ta va ga wa ab nb mb tb vb gb wb)) ((V8 aa na ma ta va ga wa ab nb mb tb vb gb wb)) (fun r => [newL (2 + 1) ((N8 aa na ma ta va ga wa ab nb mb tb vb gb wb) r) ++ [(0, (false, .cols ma [.int .i64 ta, .int .i64 va, .bool ga, .bool wa])), (1, (false, .cols mb [.int .i64 tb, .int .i64 vb, .bool gb, .bool wb]))]]) (fn := mkFn Try.f8) (ts := [0, 1, 12, 13]) (n := 400) rfl (by decide) (by simp) (names_of rfl) ?_ ?_ ?_ h
  · intro s; cases s <;> exact ⟨hd_ok _ _, by simp [I8], names_of rfl, Nat.le_of_ble_eq_true rfl⟩
  · intro Kst Kret x hS hR h
    exact Holds.eq (te8 cond Kst Kret aa na ma ta va ga wa ab nb mb tb vb gb wb) (be8 aa na ma ta va ga wa ab nb mb tb vb gb wb Kst Kret x hS hR h)
  · intro Kst Kret x hS hR s h
    cases s with
    | h0 x0 => exact Holds.eq (t8_0 cond Kst Kret aa na ma ta va ga wa ab nb mb tb vb gb wb x0) (b8_0 aa na ma ta va ga wa ab nb mb tb vb gb wb Kst Kret x hS hR x0 h)
noncomputable def k8 : Con := ⟨8, [.one (.list [.int .i64, .int .i64, .bool, .bool]), .one (.list [.int .i64, .int .i64, .bool, .bool])], fun (x : (Nat × Nat × Nat × (Nat → Int) × (Nat → Int) × (Nat → Bool) × (Nat → Bool) × Unit) × (Nat × Nat × Nat × (Nat → Int) × (Nat → Int) × (Nat → Bool) × (Nat → Bool) × Unit) × Unit) => (fun (aa na ma : Nat) (ta : Nat → Int) (va : Nat → Int) (ga : Nat → Bool) (wa : Nat → Bool) (ab nb mb : Nat) (tb : Nat → Int) (vb : Nat → Int) (gb : Nat → Bool) (wb : Nat → Bool) => decide (aa + na ≤ ma ∧ na ≤ 1000000 ∧ ab + nb ≤ mb ∧ nb ≤ 1000000)) x.1.1 x.1.2.1 x.1.2.2.1 x.1.2.2.2.1 x.1.2.2.2.2.1 x.1.2.2.2.2.2.1 x.1.2.2.2.2.2.2.1 x.2.1.1 x.2.1.2.1 x.2.1.2.2.1 x.2.1.2.2.2.1 x.2.1.2.2.2.2.1 x.2.1.2.2.2.2.2.1 x.2.1.2.2.2.2.2.2.1, fun (x : (Nat × Nat × Nat × (Nat → Int) × (Nat → Int) × (Nat → Bool) × (Nat → Bool) × Unit) × (Nat × Nat × Nat × (Nat → Int) × (Nat → Int) × (Nat → Bool) × (Nat → Bool) × Unit) × Unit) => (fun (aa na ma : Nat) (ta : Nat → Int) (va : Nat → Int) (ga : Nat → Bool) (wa : Nat → Bool) (ab nb mb : Nat) (tb : Nat → Int) (vb : Nat → Int) (gb : Nat → Bool) (wb : Nat → Bool) => (V8 aa na ma ta va ga wa ab nb mb tb vb gb wb) (decide ((S.mkl na fun j => (ta (j + aa), va (j + aa), ga (j + aa), wa (j + aa))) = (S.mkl nb fun j => (tb (j + ab), vb (j + ab), gb (j + ab), wb (j + ab)))))) x.1.1 x.1.2.1 x.1.2.2.1 x.1.2.2.2.1 x.1.2.2.2.2.1 x.1.2.2.2.2.2.1 x.1.2.2.2.2.2.2.1 x.2.1.1 x.2.1.2.1 x.2.1.2.2.1 x.2.1.2.2.2.1 x.2.1.2.2.2.2.1 x.2.1.2.2.2.2.2.1 x.2.1.2.2.2.2.2.2.1, fun (x : (Nat × Nat × Nat × (Nat → Int) × (Nat → Int) × (Nat → Bool) × (Nat → Bool) × Unit) × (Nat × Nat × Nat × (Nat → Int) × (Nat → Int) × (Nat → Bool) × (Nat → Bool) × Unit) × Unit) => (fun (aa na ma : Nat) (ta : Nat → Int) (va : Nat → Int) (ga : Nat → Bool) (wa : Nat → Bool) (ab nb mb : Nat) (tb : Nat → Int) (vb : Nat → Int) (gb : Nat → Bool) (wb : Nat → Bool) => (N8 aa na ma ta va ga wa ab nb mb tb vb gb wb) (decide ((S.mkl na fun j => (ta (j + aa), va (j + aa), ga (j + aa), wa (j + aa))) = (S.mkl nb fun j => (tb (j + ab), vb (j + ab), gb (j + ab), wb (j + ab)))))) x.1.1 x.1.2.1 x.1.2.2.1 x.1.2.2.2.1 x.1.2.2.2.2.1 x.1.2.2.2.2.2.1 x.1.2.2.2.2.2.2.1 x.2.1.1 x.2.1.2.1 x.2.1.2.2.1 x.2.1.2.2.2.1 x.2.1.2.2.2.2.1 x.2.1.2.2.2.2.2.1 x.2.1.2.2.2.2.2.2.1, fun _ _ => .dead⟩
theorem e8 (aa na ma : Nat) (ta : Nat → Int) (va : Nat → Int) (ga : Nat → Bool) (wa : Nat → Bool) (ab nb mb : Nat) (tb : Nat → Int) (vb : Nat → Int) (gb : Nat → Bool) (wb : Nat → Bool) (h : na = nb) : decide ((S.mkl na fun j => (ta (j + aa), va (j + aa), ga (j + aa), wa (j + aa))) = (S.mkl nb fun j => (tb (j + ab), vb (j + ab), gb (j + ab), wb (j + ab)))) = true ↔ ∀ j, j < na → ta (j + aa) = tb (j + ab) ∧ va (j + aa) = vb (j + ab) ∧ ga (j + aa) = gb (j + ab) ∧ wa (j + aa) = wb (j + ab) := by
  rw [decide_eq_true_eq, mkl_inj]
  simp only [h, true_and, Prod.mk.injEq]
theorem s8' (aa na ma : Nat) (ta : Nat → Int) (va : Nat → Int) (ga : Nat → Bool) (wa : Nat → Bool) (ab nb mb : Nat) (tb : Nat → Int) (vb : Nat → Int) (gb : Nat → Bool) (wb : Nat → Bool) (hp : aa + na ≤ ma ∧ na ≤ 1000000 ∧ ab + nb ≤ mb ∧ nb ≤ 1000000) (he : na = nb) : ∀ k i : Nat, i + k = na → (∀ j, j < i → ta (j + aa) = tb (j + ab) ∧ va (j + aa) = vb (j + ab) ∧ ga (j + aa) = gb (j + ab) ∧ wa (j + aa) = wb (j + ab)) → Comes (q8 aa na ma ta va ga wa ab nb mb tb vb gb wb) (.h0 (i : Int)) (decide ((S.mkl na fun j => (ta (j + aa), va (j + aa), ga (j + aa), wa (j + aa))) = (S.mkl nb fun j => (tb (j + ab), vb (j + ab), gb (j + ab), wb (j + ab))))) := by
  obtain ⟨hp1, hp2, hp3, hp4⟩ := hp
  have hq := e8 aa na ma ta va ga wa ab nb mb tb vb gb wb he
  generalize decide ((S.mkl na fun j => (ta (j + aa), va (j + aa), ga (j + aa), wa (j + aa))) = (S.mkl nb fun j => (tb (j + ab), vb (j + ab), gb (j + ab), wb (j + ab)))) = R at hq ⊢
  intro k
  induction k with
  | zero =>
    intro i hi hj
    obtain rfl : na = i := by omega
    apply Comes.of
    show Goes _ _ _
    (first | rw [q8] | unfold q8)
    repeat' first
      | with_reducible refine goes_if (fun h => ?_) (fun h => ?_) <;> (try simp only [lim64, imp_false, decide_eq_true_eq, decide_eq_false_iff_not, Int.toNat_natCast, toNat_pred, toNat_succ, Option.getD_some, Option.getD_none, Bool.not_eq_true', Bool.not_eq_false', Bool.and_eq_true, Bool.or_eq_true, Bool.and_eq_false_iff, Bool.or_eq_false_iff, bne_iff_ne, beq_iff_eq, bne_eq_false_iff_eq, beq_eq_false_iff_ne, ne_eq, not_and, Int.not_le, Int.not_lt, ge_iff_le, gt_iff_lt, Nat.not_lt, Nat.not_le, Bool.not_eq_true, Bool.not_eq_false, Bool.true_eq_false, Bool.false_eq_true, not_false_eq_true, not_true_eq_false] at h)
      | exact goes_none.mpr (by omega)
    all_goals first | (exfalso; omega) | (exact goes_inr.mpr (hq.mpr hj).symm)
  | succ k ih =>
    intro i hi hj
    have hw : ∀ {P : Prop}, (R = true → P) → ¬ P → false = R := fun h1 h2 => by cases R; rfl; exact absurd (h1 rfl) h2
    apply Comes.of
    show Goes _ _ _
    (first | rw [q8] | unfold q8)
    repeat' first
      | with_reducible refine goes_if (fun h => ?_) (fun h => ?_) <;> (try simp only [lim64, imp_false, decide_eq_true_eq, decide_eq_false_iff_not, Int.toNat_natCast, toNat_pred, toNat_succ, Option.getD_some, Option.getD_none, Bool.not_eq_true', Bool.not_eq_false', Bool.and_eq_true, Bool.or_eq_true, Bool.and_eq_false_iff, Bool.or_eq_false_iff, bne_iff_ne, beq_iff_eq, bne_eq_false_iff_eq, beq_eq_false_iff_ne, ne_eq, not_and, Int.not_le, Int.not_lt, ge_iff_le, gt_iff_lt, Nat.not_lt, Nat.not_le, Bool.not_eq_true, Bool.not_eq_false, Bool.true_eq_false, Bool.false_eq_true, not_false_eq_true, not_true_eq_false] at h)
      | exact goes_none.mpr (by omega)
    all_goals first
      | (exfalso; omega)
      | (refine ih (i + 1) (by omega) fun j hlt => ?_
         rcases Nat.lt_or_eq_of_le (Nat.le_of_lt_succ hlt) with h1 | h1
         · exact hj j h1
         · subst h1; simp_all)
      | (refine goes_inr.mpr (hw (fun e => hq.mp e i (by omega)) fun e => ?_); simp_all)
theorem s8 (aa na ma : Nat) (ta : Nat → Int) (va : Nat → Int) (ga : Nat → Bool) (wa : Nat → Bool) (ab nb mb : Nat) (tb : Nat → Int) (vb : Nat → Int) (gb : Nat → Bool) (wb : Nat → Bool) (hp : aa + na ≤ ma ∧ na ≤ 1000000 ∧ ab + nb ≤ mb ∧ nb ≤ 1000000) : Goes ((q8 aa na ma ta va ga wa ab nb mb tb vb gb wb)) ((p8 aa na ma ta va ga wa ab nb mb tb vb gb wb)) (decide ((S.mkl na fun j => (ta (j + aa), va (j + aa), ga (j + aa), wa (j + aa))) = (S.mkl nb fun j => (tb (j + ab), vb (j + ab), gb (j + ab), wb (j + ab))))) := by
  by_cases he : na = nb
  · have hm := s8' aa na ma ta va ga wa ab nb mb tb vb gb wb hp he na 0 (by omega) (fun j hj => absurd hj (Nat.not_lt_zero j))
    show Goes _ _ _
    unfold p8
    repeat' first
      | with_reducible refine goes_if (fun h => ?_) (fun h => ?_) <;> (try simp only [lim64, imp_false, decide_eq_true_eq, decide_eq_false_iff_not, Int.toNat_natCast, toNat_pred, toNat_succ, Option.getD_some, Option.getD_none, Bool.not_eq_true', Bool.not_eq_false', Bool.and_eq_true, Bool.or_eq_true, Bool.and_eq_false_iff, Bool.or_eq_false_iff, bne_iff_ne, beq_iff_eq, bne_eq_false_iff_eq, beq_eq_false_iff_ne, ne_eq, not_and, Int.not_le, Int.not_lt, ge_iff_le, gt_iff_lt, Nat.not_lt, Nat.not_le, Bool.not_eq_true, Bool.not_eq_false, Bool.true_eq_false, Bool.false_eq_true, not_false_eq_true, not_true_eq_false] at h)
      | exact goes_none.mpr (by omega)
    all_goals first | (exfalso; omega) | exact hm
  · have hd : decide ((S.mkl na fun j => (ta (j + aa), va (j + aa), ga (j + aa), wa (j + aa))) = (S.mkl nb fun j => (tb (j + ab), vb (j + ab), gb (j + ab), wb (j + ab)))) = false := decide_eq_false (fun e => he (mkl_inj.mp e).1)
    rw [hd]
    show Goes _ _ _
    unfold p8
    repeat' first
      | with_reducible refine goes_if (fun h => ?_) (fun h => ?_) <;> (try simp only [lim64, imp_false, decide_eq_true_eq, decide_eq_false_iff_not, Int.toNat_natCast, toNat_pred, toNat_succ, Option.getD_some, Option.getD_none, Bool.not_eq_true', Bool.not_eq_false', Bool.and_eq_true, Bool.or_eq_true, Bool.and_eq_false_iff, Bool.or_eq_false_iff, bne_iff_ne, beq_iff_eq, bne_eq_false_iff_eq, beq_eq_false_iff_ne, ne_eq, not_and, Int.not_le, Int.not_lt, ge_iff_le, gt_iff_lt, Nat.not_lt, Nat.not_le, Bool.not_eq_true, Bool.not_eq_false, Bool.true_eq_false, Bool.false_eq_true, not_false_eq_true, not_true_eq_false] at h)
      | exact goes_none.mpr (by omega)
    all_goals first | (exfalso; omega) | rfl

theorem k8_ok : k8.ok Try.prog := by
  intro x hx
  obtain ⟨⟨aa, na, ma, ta, va, ga, wa, _⟩, ⟨ab, nb, mb, tb, vb, gb, wb, _⟩, _⟩ := x
  obtain ⟨h1, h2⟩ := a8 aa na ma ta va ga wa ab nb mb tb vb gb wb (s8 aa na ma ta va ga wa ab nb mb tb vb gb wb (of_dec hx rfl))
  exact ⟨⟨400, (by decide : 2 + 1 + 0 ≤ 400), h1⟩, h2⟩
noncomputable def k6 : Con := ⟨6, [.one (.list [.str, .int .i64, .int .i64, .str])], fun (x : (Nat × Nat × Nat × (Nat → ByteArray) × (Nat → Int) × (Nat → Int) × (Nat → ByteArray) × Unit) × Unit) => (fun (aa na ma : Nat) (ta : Nat → ByteArray) (va : Nat → Int) (ga : Nat → Int) (wa : Nat → ByteArray) => decide (aa + na ≤ ma ∧ na ≤ 1000000)) x.1.1 x.1.2.1 x.1.2.2.1 x.1.2.2.2.1 x.1.2.2.2.2.1 x.1.2.2.2.2.2.1 x.1.2.2.2.2.2.2.1, fun (x : (Nat × Nat × Nat × (Nat → ByteArray) × (Nat → Int) × (Nat → Int) × (Nat → ByteArray) × Unit) × Unit) => (fun (aa na ma : Nat) (ta : Nat → ByteArray) (va : Nat → Int) (ga : Nat → Int) (wa : Nat → ByteArray) => .own 2 4 na) x.1.1 x.1.2.1 x.1.2.2.1 x.1.2.2.2.1 x.1.2.2.2.2.1 x.1.2.2.2.2.2.1 x.1.2.2.2.2.2.2.1, fun (x : (Nat × Nat × Nat × (Nat → ByteArray) × (Nat → Int) × (Nat → Int) × (Nat → ByteArray) × Unit) × Unit) => (fun (aa na ma : Nat) (ta : Nat → ByteArray) (va : Nat → Int) (ga : Nat → Int) (wa : Nat → ByteArray) => [.cols na [.str (fun j => ta (j + aa)), .int .i64 (fun j => va (j + aa)), .int .i64 (fun j => ga (j + aa)), .str (fun j => wa (j + aa))]]) x.1.1 x.1.2.1 x.1.2.2.1 x.1.2.2.2.1 x.1.2.2.2.2.1 x.1.2.2.2.2.2.1 x.1.2.2.2.2.2.2.1, fun _ _ => .dead⟩
set_option maxRecDepth 100000 in
theorem e6s (test : Bool → Prop → Prop → Prop) (Kst : List It → List PV → Heap → Nat → Prop) (Kret : PV → Heap → Nat → Prop) (aa na ma : Nat) (ta : Nat → ByteArray) (va : Nat → Int) (ga : Nat → Int) (wa : Nat → ByteArray) :
  (run test Try.env true noX true 300 ⟨6, [.cd (mkFn Try.f6).body], argT 0 [.sl ⟨0, 4, aa, 0⟩ na], [[], [(0, (false, .cols ma [.str ta, .int .i64 va, .int .i64 ga, .str wa]))]], 1⟩ (proj 1 [] Kst Kret)) =
  (test (decide (0 + na ≤ 1000000))
  (test true
    (test (decide (aa + na ≤ ma))
      (Kret (PV.own (2) (4) (0 + na))
        [[(0, false, Blk.cols ma [Col.str ta, Col.int IntKind.i64 va, Col.int IntKind.i64 ga, Col.str wa]),
            (2, true,
              Blk.cols (0 + na)
                [Col.str fun (j : Nat) => ta (j + aa), Col.int IntKind.i64 fun (j : Nat) => va (j + aa),
                  Col.int IntKind.i64 fun (j : Nat) => ga (j + aa), Col.str fun (j : Nat) => wa (j + aa)])]]
        (3))
      False)
    False)
  False) := by kernel_rfl
theorem c6s (aa na ma : Nat) (ta : Nat → ByteArray) (va : Nat → Int) (ga : Nat → Int) (wa : Nat → ByteArray) (hp : aa + na ≤ ma ∧ na ≤ 1000000) (h0 : 0 < na) : CallR Try.prog 6 [.sl ⟨0, 4, aa, 0⟩ na] [[(0, (false, .cols ma [.str ta, .int .i64 va, .int .i64 ga, .str wa]))]] 1 (.own 2 4 na) [(2, (true, .cols na [.str (fun j => ta (j + aa)), .int .i64 (fun j => va (j + aa)), .int .i64 (fun j => ga (j + aa)), .str (fun j => wa (j + aa))])) :: [(0, (false, .cols ma [.str ta, .int .i64 va, .int .i64 ga, .str wa]))]] 40 ∧ ∃ F, Try.prog.funcs[6]? = some F ∧ F.body.isSome = true ∧ (F.name == "runtime.NumGoroutine") = false := by
  refine @ret_eq _ _ Try.envOk Try.mixed _ noX_ok 6 (mkFn Try.f6) [.sl ⟨0, 4, aa, 0⟩ na] [[(0, (false, .cols ma [.str ta, .int .i64 va, .int .i64 ga, .str wa]))]] [(2, (true, .cols na [.str (fun j => ta (j + aa)), .int .i64 (fun j => va (j + aa)), .int .i64 (fun j => ga (j + aa)), .str (fun j => wa (j + aa))])) :: [(0, (false, .cols ma [.str ta, .int .i64 va, .int .i64 ga, .str wa]))]] 1 40 (.own 2 4 na) true 300 rfl (by decide) (by simp) (names_of rfl) _ (e6s cond _ _ aa na ma ta va ga wa) ?_
  repeat' first
    | with_reducible refine cond_yes rfl ?_
    | with_reducible refine cond_no rfl ?_
    | (with_reducible refine cond_intro (fun h => ?_) (fun h => ?_)) <;> (try simp only [lim64, decide_eq_true_eq, decide_eq_false_iff_not, reduceCtorEq, Int.toNat_natCast, Bool.not_eq_true', Bool.not_eq_false', Bool.and_eq_true, Bool.or_eq_true, Bool.and_eq_false_iff, Bool.or_eq_false_iff, bne_iff_ne, beq_iff_eq, bne_eq_false_iff_eq, beq_eq_false_iff_ne, ne_eq] at h)
  all_goals first
    | with_reducible apply ret_k
    | omega
  repeat' first
    | with_reducible exact rns_nil
    | with_reducible refine rns_cons ?_ ?_
    | with_reducible refine rn_tup ?_
    | with_reducible refine rn_agg ?_
    | with_reducible refine rn_int ?_
    | with_reducible refine rn_tf ?_
    | with_reducible refine rn_bool_tf ?_
    | with_reducible refine rn_bool ?_
    | with_reducible refine rn_str ?_
    | with_reducible exact rn_nils
    | with_reducible refine rn_own_nils ?_
    | with_reducible refine rn_own ?_ ?_ ?_
    | with_reducible refine rn_own_sl ?_ ?_ ?_ ?_ ?_
    | with_reducible refine rn_own_loose ?_ ?_ ?_ ?_
    | with_reducible refine rn_loose ?_ ?_ ?_ ?_
    | with_reducible refine rn_loose_sl ?_ ?_ ?_ ?_
    | exact use_lo rfl
    | exact use_own rfl
    | exact nm_k rfl
    | exact nm_lo rfl
    | ((with_reducible refine (id : pos _ = pos _ → _) ?_); exact rfl)
    | ((with_reducible refine (id : pos _ = 0 → _) ?_); exact rfl)
    | ((with_reducible refine (id : Nat.ble _ _ = true → _) ?_); exact rfl)
    | ((with_reducible refine (id : injL _ _ = true → _) ?_); exact rfl)
    | ((with_reducible refine (id : plainC _ = true → _) ?_); exact rfl)
    | ((with_reducible refine (id : hget _ _ = some _ → _) ?_); exact rfl)
    | with_reducible exact (id : (_ : Bool) = true → _ = true)
    | with_reducible exact entl_nil
    | with_reducible refine entl_bor ?_ ?_ ?_ ?_
    | refine entl_new (use_own rfl) (by rfl) ?_ ?_ ?_
    | refine entl_rows (use_own rfl) (by rfl) rfl ?_ (nthc_all ?_) ?_
    | refine entl_zero (use_own rfl) (by rfl) (by simp) (by omega) ?_
    | with_reducible exact rcs_nil
    | with_reducible refine rcs_int (fun j hj => ?_) ?_
    | with_reducible refine rcs_bool (fun j hj => ?_) ?_
    | with_reducible refine rcs_str (fun j hj => ?_) ?_
    | refine entl_fresh (k := 2) (use_own rfl) (fresh_ok (n := 39) rfl) ?_
    | with_reducible rfl
  all_goals try exact (0 : Nat)
  all_goals try ((with_reducible refine (id : injL _ _ = true → _) ?_); exact rfl)
  all_goals first
    | omega
    | skip
set_option maxRecDepth 100000 in
theorem e6z (test : Bool → Prop → Prop → Prop) (Kst : List It → List PV → Heap → Nat → Prop) (Kret : PV → Heap → Nat → Prop) (aa na ma : Nat) (ta : Nat → ByteArray) (va : Nat → Int) (ga : Nat → Int) (wa : Nat → ByteArray) :
  (run test Try.env true noX true 300 ⟨6, [.cd (mkFn Try.f6).body], argT 0 [.zer true], [[], [(0, (false, .cols ma [.str ta, .int .i64 va, .int .i64 ga, .str wa]))]], 1⟩ (proj 1 [] Kst Kret)) =
  (Kret (PV.own (1) (4) (0))
  [[(0, false, Blk.cols ma [Col.str ta, Col.int IntKind.i64 va, Col.int IntKind.i64 ga, Col.str wa]),
      (1, true, Blk.cells [])]]
  (2)) := by kernel_rfl
theorem c6z (aa na ma : Nat) (ta : Nat → ByteArray) (va : Nat → Int) (ga : Nat → Int) (wa : Nat → ByteArray) (hp : aa + na ≤ ma ∧ na ≤ 1000000) (h0 : na = 0) : CallR Try.prog 6 [.zer true] [[(0, (false, .cols ma [.str ta, .int .i64 va, .int .i64 ga, .str wa]))]] 1 (.own 2 4 na) [(2, (true, .cols na [.str (fun j => ta (j + aa)), .int .i64 (fun j => va (j + aa)), .int .i64 (fun j => ga (j + aa)), .str (fun j => wa (j + aa))])) :: [(0, (false, .cols ma [.str ta, .int .i64 va, .int .i64 ga, .str wa]))]] 40 ∧ ∃ F, Try.prog.funcs[6]? = some F ∧ F.body.isSome = true ∧ (F.name == "runtime.NumGoroutine") = false := by
  refine @ret_eq _ _ Try.envOk Try.mixed _ noX_ok 6 (mkFn Try.f6) [.zer true] [[(0, (false, .cols ma [.str ta, .int .i64 va, .int .i64 ga, .str wa]))]] [(2, (true, .cols na [.str (fun j => ta (j + aa)), .int .i64 (fun j => va (j + aa)), .int .i64 (fun j => ga (j + aa)), .str (fun j => wa (j + aa))])) :: [(0, (false, .cols ma [.str ta, .int .i64 va, .int .i64 ga, .str wa]))]] 1 40 (.own 2 4 na) true 300 rfl (by decide) (by simp) (names_of rfl) _ (e6z cond _ _ aa na ma ta va ga wa) ?_
  repeat' first
    | with_reducible refine cond_yes rfl ?_
    | with_reducible refine cond_no rfl ?_
    | (with_reducible refine cond_intro (fun h => ?_) (fun h => ?_)) <;> (try simp only [lim64, decide_eq_true_eq, decide_eq_false_iff_not, reduceCtorEq, Int.toNat_natCast, Bool.not_eq_true', Bool.not_eq_false', Bool.and_eq_true, Bool.or_eq_true, Bool.and_eq_false_iff, Bool.or_eq_false_iff, bne_iff_ne, beq_iff_eq, bne_eq_false_iff_eq, beq_eq_false_iff_ne, ne_eq] at h)
  all_goals first
    | with_reducible apply ret_k
    | omega
  repeat' first
    | with_reducible exact rns_nil
    | with_reducible refine rns_cons ?_ ?_
    | with_reducible refine rn_tup ?_
    | with_reducible refine rn_agg ?_
    | with_reducible refine rn_int ?_
    | with_reducible refine rn_tf ?_
    | with_reducible refine rn_bool_tf ?_
    | with_reducible refine rn_bool ?_
    | with_reducible refine rn_str ?_
    | with_reducible exact rn_nils
    | with_reducible refine rn_own_nils ?_
    | with_reducible refine rn_own ?_ ?_ ?_
    | with_reducible refine rn_own_sl ?_ ?_ ?_ ?_ ?_
    | with_reducible refine rn_own_loose ?_ ?_ ?_ ?_
    | with_reducible refine rn_loose ?_ ?_ ?_ ?_
    | with_reducible refine rn_loose_sl ?_ ?_ ?_ ?_
    | exact use_lo rfl
    | exact use_own rfl
    | exact nm_k rfl
    | exact nm_lo rfl
    | ((with_reducible refine (id : pos _ = pos _ → _) ?_); exact rfl)
    | ((with_reducible refine (id : pos _ = 0 → _) ?_); exact rfl)
    | ((with_reducible refine (id : Nat.ble _ _ = true → _) ?_); exact rfl)
    | ((with_reducible refine (id : injL _ _ = true → _) ?_); exact rfl)
    | ((with_reducible refine (id : plainC _ = true → _) ?_); exact rfl)
    | ((with_reducible refine (id : hget _ _ = some _ → _) ?_); exact rfl)
    | with_reducible exact (id : (_ : Bool) = true → _ = true)
    | with_reducible exact entl_nil
    | with_reducible refine entl_bor ?_ ?_ ?_ ?_
    | refine entl_new (use_own rfl) (by rfl) ?_ ?_ ?_
    | refine entl_rows (use_own rfl) (by rfl) rfl ?_ (nthc_all ?_) ?_
    | refine entl_zero (use_own rfl) (by rfl) (by simp) (by omega) ?_
    | with_reducible exact rcs_nil
    | with_reducible refine rcs_int (fun j hj => ?_) ?_
    | with_reducible refine rcs_bool (fun j hj => ?_) ?_
    | with_reducible refine rcs_str (fun j hj => ?_) ?_
    | refine entl_fresh (k := 2) (use_own rfl) (fresh_ok (n := 39) rfl) ?_
    | with_reducible rfl
  all_goals try exact (0 : Nat)
  all_goals try ((with_reducible refine (id : injL _ _ = true → _) ?_); exact rfl)
  all_goals first
    | omega
    | skip
set_option maxRecDepth 100000 in
theorem e6y (test : Bool → Prop → Prop → Prop) (Kst : List It → List PV → Heap → Nat → Prop) (Kret : PV → Heap → Nat → Prop) (aa na ma : Nat) (ta : Nat → ByteArray) (va : Nat → Int) (ga : Nat → Int) (wa : Nat → ByteArray) :
  (run test Try.env true noX true 300 ⟨6, [.cd (mkFn Try.f6).body], argT 0 [.zer false], [[], [(0, (false, .cols ma [.str ta, .int .i64 va, .int .i64 ga, .str wa]))]], 1⟩ (proj 1 [] Kst Kret)) =
  (Kret PV.nils
  [[(0, false, Blk.cols ma [Col.str ta, Col.int IntKind.i64 va, Col.int IntKind.i64 ga, Col.str wa])]]
  (1)) := by kernel_rfl
theorem c6y (aa na ma : Nat) (ta : Nat → ByteArray) (va : Nat → Int) (ga : Nat → Int) (wa : Nat → ByteArray) (hp : aa + na ≤ ma ∧ na ≤ 1000000) (h0 : na = 0) : CallR Try.prog 6 [.zer false] [[(0, (false, .cols ma [.str ta, .int .i64 va, .int .i64 ga, .str wa]))]] 1 (.own 2 4 na) [(2, (true, .cols na [.str (fun j => ta (j + aa)), .int .i64 (fun j => va (j + aa)), .int .i64 (fun j => ga (j + aa)), .str (fun j => wa (j + aa))])) :: [(0, (false, .cols ma [.str ta, .int .i64 va, .int .i64 ga, .str wa]))]] 40 ∧ ∃ F, Try.prog.funcs[6]? = some F ∧ F.body.isSome = true ∧ (F.name == "runtime.NumGoroutine") = false := by
  refine @ret_eq _ _ Try.envOk Try.mixed _ noX_ok 6 (mkFn Try.f6) [.zer false] [[(0, (false, .cols ma [.str ta, .int .i64 va, .int .i64 ga, .str wa]))]] [(2, (true, .cols na [.str (fun j => ta (j + aa)), .int .i64 (fun j => va (j + aa)), .int .i64 (fun j => ga (j + aa)), .str (fun j => wa (j + aa))])) :: [(0, (false, .cols ma [.str ta, .int .i64 va, .int .i64 ga, .str wa]))]] 1 40 (.own 2 4 na) true 300 rfl (by decide) (by simp) (names_of rfl) _ (e6y cond _ _ aa na ma ta va ga wa) ?_
  repeat' first
    | with_reducible refine cond_yes rfl ?_
    | with_reducible refine cond_no rfl ?_
    | (with_reducible refine cond_intro (fun h => ?_) (fun h => ?_)) <;> (try simp only [lim64, decide_eq_true_eq, decide_eq_false_iff_not, reduceCtorEq, Int.toNat_natCast, Bool.not_eq_true', Bool.not_eq_false', Bool.and_eq_true, Bool.or_eq_true, Bool.and_eq_false_iff, Bool.or_eq_false_iff, bne_iff_ne, beq_iff_eq, bne_eq_false_iff_eq, beq_eq_false_iff_ne, ne_eq] at h)
  all_goals first
    | with_reducible apply ret_k
    | omega
  repeat' first
    | with_reducible exact rns_nil
    | with_reducible refine rns_cons ?_ ?_
    | with_reducible refine rn_tup ?_
    | with_reducible refine rn_agg ?_
    | with_reducible refine rn_int ?_
    | with_reducible refine rn_tf ?_
    | with_reducible refine rn_bool_tf ?_
    | with_reducible refine rn_bool ?_
    | with_reducible refine rn_str ?_
    | with_reducible exact rn_nils
    | with_reducible refine rn_own_nils ?_
    | with_reducible refine rn_own ?_ ?_ ?_
    | with_reducible refine rn_own_sl ?_ ?_ ?_ ?_ ?_
    | with_reducible refine rn_own_loose ?_ ?_ ?_ ?_
    | with_reducible refine rn_loose ?_ ?_ ?_ ?_
    | with_reducible refine rn_loose_sl ?_ ?_ ?_ ?_
    | exact use_lo rfl
    | exact use_own rfl
    | exact nm_k rfl
    | exact nm_lo rfl
    | ((with_reducible refine (id : pos _ = pos _ → _) ?_); exact rfl)
    | ((with_reducible refine (id : pos _ = 0 → _) ?_); exact rfl)
    | ((with_reducible refine (id : Nat.ble _ _ = true → _) ?_); exact rfl)
    | ((with_reducible refine (id : injL _ _ = true → _) ?_); exact rfl)
    | ((with_reducible refine (id : plainC _ = true → _) ?_); exact rfl)
    | ((with_reducible refine (id : hget _ _ = some _ → _) ?_); exact rfl)
    | with_reducible exact (id : (_ : Bool) = true → _ = true)
    | with_reducible exact entl_nil
    | with_reducible refine entl_bor ?_ ?_ ?_ ?_
    | refine entl_new (use_own rfl) (by rfl) ?_ ?_ ?_
    | refine entl_rows (use_own rfl) (by rfl) rfl ?_ (nthc_all ?_) ?_
    | refine entl_zero (use_own rfl) (by rfl) (by simp) (by omega) ?_
    | with_reducible exact rcs_nil
    | with_reducible refine rcs_int (fun j hj => ?_) ?_
    | with_reducible refine rcs_bool (fun j hj => ?_) ?_
    | with_reducible refine rcs_str (fun j hj => ?_) ?_
    | refine entl_fresh (k := 2) (use_own rfl) (fresh_ok (n := 39) rfl) ?_
    | with_reducible rfl
  all_goals try exact (0 : Nat)
  all_goals try ((with_reducible refine (id : injL _ _ = true → _) ?_); exact rfl)
  all_goals first
    | omega
    | skip
theorem c6 (aa na ma : Nat) (ta : Nat → ByteArray) (va : Nat → Int) (ga : Nat → Int) (wa : Nat → ByteArray) (hp : aa + na ≤ ma ∧ na ≤ 1000000) : CallR Try.prog 6 [.loose ⟨0, 4, aa, 0⟩ na] [[(0, (false, .cols ma [.str ta, .int .i64 va, .int .i64 ga, .str wa]))]] 1 (.own 2 4 na) [(2, (true, .cols na [.str (fun j => ta (j + aa)), .int .i64 (fun j => va (j + aa)), .int .i64 (fun j => ga (j + aa)), .str (fun j => wa (j + aa))])) :: [(0, (false, .cols ma [.str ta, .int .i64 va, .int .i64 ga, .str wa]))]] 40 ∧ ∃ F, Try.prog.funcs[6]? = some F ∧ F.body.isSome = true ∧ (F.name == "runtime.NumGoroutine") = false :=
  ⟨loose_cases (fun h => (c6s aa na ma ta va ga wa hp h).1) (fun h b => by cases b; exact (c6y aa na ma ta va ga wa hp h).1; exact (c6z aa na ma ta va ga wa hp h).1), by
    rcases Nat.eq_zero_or_pos na with h | h
    · exact (c6y aa na ma ta va ga wa hp h).2
    · exact (c6s aa na ma ta va ga wa hp h).2⟩
theorem k6_ok : k6.ok Try.prog := by
  intro x hx
  obtain ⟨⟨aa, na, ma, ta, va, ga, wa, _⟩, _⟩ := x
  have hp : aa + na ≤ ma ∧ na ≤ 1000000 := of_decide_eq_true hx
  obtain ⟨h1, h2⟩ := c6 aa na ma ta va ga wa hp
  exact ⟨⟨40, (by decide : 1 + 1 + 1 ≤ 40), h1⟩, h2⟩
noncomputable def xL3 (test : Bool → Prop → Prop → Prop) : Ext := consX test [k4, k5, k6, k7, k8]
theorem xL3_ok : ExtOk Try.prog (xL3 cond) := consX_ok ⟨k4_ok, k5_ok, k6_ok, k7_ok, k8_ok, trivial⟩

end Go.Ev
