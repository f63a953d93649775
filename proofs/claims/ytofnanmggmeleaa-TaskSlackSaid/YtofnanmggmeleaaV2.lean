/-
  The reference's Valid.
-/
import Derived.Test.YtofnanmggmeleaaT0
namespace Go.Ev
open Go.Proofs
set_option linter.unusedVariables false
set_option linter.unusedSimpArgs false
set_option maxRecDepth 100000
inductive St18 where
  | h0 (x0 : Int)
  | h1 (x0 : Int) (x1 : Int) (x2 : ByteArray) (x3 : Int) (x4 : Int) (x5 : Int)
abbrev Rt18 := Int
noncomputable def V18 (al nl ml : Nat) (tl : Nat → ByteArray) (vl : Nat → Int) (gl : Nat → Int) (wl : Nat → Int) (r : Rt18) : PV := PV.int IntKind.i64 r
noncomputable def N18 (al nl ml : Nat) (tl : Nat → ByteArray) (vl : Nat → Int) (gl : Nat → Int) (wl : Nat → Int) (r : Rt18) : List Blk := []
noncomputable def I18 (al nl ml : Nat) (tl : Nat → ByteArray) (vl : Nat → Int) (gl : Nat → Int) (wl : Nat → Int) : St18 → Hd
  | .h0 x0 => ⟨hd Try.f18 0, [PV.loose (PA.mk (0) (4) al (0)) nl, PV.int IntKind.i64 x0, PV.unk,
 PV.unk], [[], [(0, (false, .cols ml [.str tl, .int .i64 vl, .int .i64 gl, .int .i64 wl]))]], 1⟩
  | .h1 x0 x1 x2 x3 x4 x5 => ⟨hd Try.f18 1, [PV.loose (PA.mk (0) (4) al (0)) nl, PV.int IntKind.i64 x0,
 PV.ptr (PA.mk (1) (0) (0) (0)), PV.int IntKind.i64 x1], [[(1, (true, Blk.cells
 [PV.str x2, PV.int IntKind.i64 x3, PV.int IntKind.i64 x4, PV.int IntKind.i64 x5]))], [(0, (false, .cols ml [.str tl, .int .i64 vl, .int .i64 gl, .int .i64 wl]))]], 2⟩
noncomputable def q18 (al nl ml : Nat) (tl : Nat → ByteArray) (vl : Nat → Int) (gl : Nat → Int) (wl : Nat → Int) : St18 → Option (St18 ⊕ Rt18)
  | .h0 x0 => bif (decide (x0 < (↑nl : Int)))
 then (bif (decide ((0 : Int) ≤ x0 ∧ x0 < (↑nl : Int)))
 then (bif (decide (Int.toNat x0 + al < ml))
 then (bif (S.isNam (tl (Int.toNat x0 + al)))
 then (some (.inl (.h1 (x0) ((0 : Int)) (tl (Int.toNat x0 + al)) (vl (Int.toNat x0 + al)) (gl (Int.toNat x0 + al)) (wl (Int.toNat x0 + al)))))
 else (some (.inr ((2 : Int)))))
 else (none))
 else (none))
 else (some (.inr ((0 : Int))))
  | .h1 x0 x1 x2 x3 x4 x5 => bif (decide (x1 < x0))
 then (bif (decide ((0 : Int) ≤ x1 ∧ x1 < (↑nl : Int)))
 then (bif (decide (Int.toNat x1 + al < ml))
 then (bif (S.eqS (tl (Int.toNat x1 + al)) x2)
 then (some (.inr ((5 : Int))))
 else (bif (lim IntKind.i64 (x1 + (1 : Int)))
 then (some (.inl (.h1 (x0) (x1 + (1 : Int)) (x2) (x3) (x4) (x5))))
 else (none)))
 else (none))
 else (none))
 else (bif (decide (x3 < (1 : Int)))
 then (some (.inr ((6 : Int))))
 else (bif (decide (x3 > (1000000 : Int)))
 then (some (.inr ((6 : Int))))
 else (bif (decide (x4 < (1 : Int)))
 then (some (.inr ((6 : Int))))
 else (bif (decide (x4 > x3))
 then (some (.inr ((6 : Int))))
 else (bif (decide (x5 < x4))
 then (some (.inr ((6 : Int))))
 else (bif (decide (x5 > x3))
 then (some (.inr ((6 : Int))))
 else (bif (lim IntKind.i64 (x0 + (1 : Int)))
 then (some (.inl (.h0 (x0 + (1 : Int)))))
 else (none))))))))
noncomputable def p18 (al nl ml : Nat) (tl : Nat → ByteArray) (vl : Nat → Int) (gl : Nat → Int) (wl : Nat → Int) : Option (St18 ⊕ Rt18) := bif ((↑nl : Int) == (0 : Int))
 then (some (.inr ((7 : Int))))
 else (bif (decide ((↑nl : Int) > (8 : Int)))
 then (some (.inr ((3 : Int))))
 else (some (.inl (.h0 ((0 : Int))))))
noncomputable def Te18 (test : Bool → Prop → Prop → Prop) (Kst : KS) (Kret : KR) (al nl ml : Nat) (tl : Nat → ByteArray) (vl : Nat → Int) (gl : Nat → Int) (wl : Nat → Int) : Prop :=
  test ((↑nl : Int) == (0 : Int))
 (Kret (PV.int IntKind.i64 (7 : Int)) ([[(0, false,
 Blk.cols ml
 [Col.str tl, Col.int IntKind.i64 vl, Col.int IntKind.i64 gl,
 Col.int IntKind.i64 wl])]]) (1))
 (test (decide ((↑nl : Int) > (8 : Int)))
 (Kret (PV.int IntKind.i64 (3 : Int)) ([[(0, false,
 Blk.cols ml
 [Col.str tl, Col.int IntKind.i64 vl, Col.int IntKind.i64 gl,
 Col.int IntKind.i64 wl])]]) (1))
 (Kst (hd Try.f18 0) ([PV.loose (PA.mk (0) (4) al (0)) nl, PV.int IntKind.i64 (0 : Int),
 PV.unk, PV.unk]) ([[(0, false,
 Blk.cols ml
 [Col.str tl, Col.int IntKind.i64 vl, Col.int IntKind.i64 gl,
 Col.int IntKind.i64 wl])]]) (1)))
set_option maxRecDepth 100000 in
theorem te18 (test : Bool → Prop → Prop → Prop) (Kst : KS) (Kret : KR) (al nl ml : Nat) (tl : Nat → ByteArray) (vl : Nat → Int) (gl : Nat → Int) (wl : Nat → Int) : run test Try.env true (xV test) true 400 ⟨18, [.cd (mkFn Try.f18).body], argT 0 [.loose ⟨0, 4, al, 0⟩ nl], [[], [(0, (false, .cols ml [.str tl, .int .i64 vl, .int .i64 gl, .int .i64 wl]))]], 1⟩ (proj 1 [0, 3, 4, 5] Kst Kret) =
  Te18 test Kst Kret al nl ml tl vl gl wl := by kernel_rfl
noncomputable def T18_0 (test : Bool → Prop → Prop → Prop) (Kst : KS) (Kret : KR) (al nl ml : Nat) (tl : Nat → ByteArray) (vl : Nat → Int) (gl : Nat → Int) (wl : Nat → Int) (x0 : Int) : Prop :=
  test (decide (x0 < (↑nl : Int)))
 (test (decide ((0 : Int) ≤ x0 ∧ x0 < (↑nl : Int)))
 (test (decide (Int.toNat x0 + al < ml))
 (test (decide (Int.toNat x0 + al < ml))
 (test (decide (Int.toNat x0 + al < ml))
 (test (decide (Int.toNat x0 + al < ml))
 (test (true)
 (test (S.isNam (tl (Int.toNat x0 + al)))
 (Kst (hd Try.f18 1) ([PV.loose (PA.mk (0) (4) al (0)) nl, PV.int IntKind.i64 x0,
 PV.ptr (PA.mk (1) (0) (0) (0)), PV.int IntKind.i64 (0 : Int)]) ([[(0, false,
 Blk.cols ml
 [Col.str tl, Col.int IntKind.i64 vl, Col.int IntKind.i64 gl,
 Col.int IntKind.i64 wl]),
 (1, true,
 Blk.cells
 [PV.str (tl (Int.toNat x0 + al)), PV.int IntKind.i64 (vl (Int.toNat x0 + al)),
 PV.int IntKind.i64 (gl (Int.toNat x0 + al)), PV.int IntKind.i64 (wl (Int.toNat x0 + al))])]]) (3))
 (Kret (PV.int IntKind.i64 (2 : Int)) ([[(0, false,
 Blk.cols ml
 [Col.str tl, Col.int IntKind.i64 vl, Col.int IntKind.i64 gl,
 Col.int IntKind.i64 wl])]]) (3)))
 (False))
 (False))
 (False))
 (False))
 (False))
 (False))
 (Kret (PV.int IntKind.i64 (0 : Int)) ([[(0, false,
 Blk.cols ml
 [Col.str tl, Col.int IntKind.i64 vl, Col.int IntKind.i64 gl,
 Col.int IntKind.i64 wl])]]) (1))
set_option maxRecDepth 100000 in
theorem t18_0 (test : Bool → Prop → Prop → Prop) (Kst : KS) (Kret : KR) (al nl ml : Nat) (tl : Nat → ByteArray) (vl : Nat → Int) (gl : Nat → Int) (wl : Nat → Int) (x0 : Int) : run test Try.env true (xV test) true 400 ⟨18, hd Try.f18 0, zipT [0, 3, 4, 5] [PV.loose (PA.mk (0) (4) al (0)) nl, PV.int IntKind.i64 x0, PV.unk,
 PV.unk], [[], [(0, (false, .cols ml [.str tl, .int .i64 vl, .int .i64 gl, .int .i64 wl]))]], 1⟩ (proj 1 [0, 3, 4, 5] Kst Kret) =
  T18_0 test Kst Kret al nl ml tl vl gl wl x0 := by kernel_rfl
noncomputable def T18_1 (test : Bool → Prop → Prop → Prop) (Kst : KS) (Kret : KR) (al nl ml : Nat) (tl : Nat → ByteArray) (vl : Nat → Int) (gl : Nat → Int) (wl : Nat → Int) (x0 : Int) (x1 : Int) (x2 : ByteArray) (x3 : Int) (x4 : Int) (x5 : Int) : Prop :=
  test (decide (x1 < x0))
 (test (decide ((0 : Int) ≤ x1 ∧ x1 < (↑nl : Int)))
 (test (decide (Int.toNat x1 + al < ml))
 (test (S.eqS (tl (Int.toNat x1 + al)) x2)
 (Kret (PV.int IntKind.i64 (5 : Int)) ([[(0, false,
 Blk.cols ml
 [Col.str tl, Col.int IntKind.i64 vl, Col.int IntKind.i64 gl,
 Col.int IntKind.i64 wl])]]) (2))
 (test (lim IntKind.i64 (x1 + (1 : Int)))
 (Kst (hd Try.f18 1) ([PV.loose (PA.mk (0) (4) al (0)) nl, PV.int IntKind.i64 x0,
 PV.ptr (PA.mk (1) (0) (0) (0)),
 PV.int IntKind.i64 (x1 + (1 : Int))]) ([[(0, false,
 Blk.cols ml
 [Col.str tl, Col.int IntKind.i64 vl, Col.int IntKind.i64 gl,
 Col.int IntKind.i64 wl]),
 (1, true,
 Blk.cells
 [PV.str x2, PV.int IntKind.i64 x3, PV.int IntKind.i64 x4,
 PV.int IntKind.i64 x5])]]) (2))
 (False)))
 (False))
 (False))
 (test (decide (x3 < (1 : Int)))
 (Kret (PV.int IntKind.i64 (6 : Int)) ([[(0, false,
 Blk.cols ml
 [Col.str tl, Col.int IntKind.i64 vl, Col.int IntKind.i64 gl,
 Col.int IntKind.i64 wl])]]) (2))
 (test (decide (x3 > (1000000 : Int)))
 (Kret (PV.int IntKind.i64 (6 : Int)) ([[(0, false,
 Blk.cols ml
 [Col.str tl, Col.int IntKind.i64 vl, Col.int IntKind.i64 gl,
 Col.int IntKind.i64 wl])]]) (2))
 (test (decide (x4 < (1 : Int)))
 (Kret (PV.int IntKind.i64 (6 : Int)) ([[(0, false,
 Blk.cols ml
 [Col.str tl, Col.int IntKind.i64 vl, Col.int IntKind.i64 gl,
 Col.int IntKind.i64 wl])]]) (2))
 (test (decide (x4 > x3))
 (Kret (PV.int IntKind.i64 (6 : Int)) ([[(0, false,
 Blk.cols ml
 [Col.str tl, Col.int IntKind.i64 vl, Col.int IntKind.i64 gl,
 Col.int IntKind.i64 wl])]]) (2))
 (test (decide (x5 < x4))
 (Kret (PV.int IntKind.i64 (6 : Int)) ([[(0, false,
 Blk.cols ml
 [Col.str tl, Col.int IntKind.i64 vl, Col.int IntKind.i64 gl,
 Col.int IntKind.i64 wl])]]) (2))
 (test (decide (x5 > x3))
 (Kret (PV.int IntKind.i64 (6 : Int)) ([[(0, false,
 Blk.cols ml
 [Col.str tl, Col.int IntKind.i64 vl, Col.int IntKind.i64 gl,
 Col.int IntKind.i64 wl])]]) (2))
 (test (lim IntKind.i64 (x0 + (1 : Int)))
 (Kst (hd Try.f18 0) ([PV.loose (PA.mk (0) (4) al (0)) nl, PV.int IntKind.i64 (x0 + (1 : Int)),
 PV.ptr (PA.mk (1) (0) (0) (0)), PV.int IntKind.i64 x1]) ([[(0, false,
 Blk.cols ml
 [Col.str tl, Col.int IntKind.i64 vl, Col.int IntKind.i64 gl,
 Col.int IntKind.i64 wl]),
 (1, true,
 Blk.cells
 [PV.str x2, PV.int IntKind.i64 x3, PV.int IntKind.i64 x4,
 PV.int IntKind.i64 x5])]]) (2))
 (False))))))))
set_option maxRecDepth 100000 in
theorem t18_1 (test : Bool → Prop → Prop → Prop) (Kst : KS) (Kret : KR) (al nl ml : Nat) (tl : Nat → ByteArray) (vl : Nat → Int) (gl : Nat → Int) (wl : Nat → Int) (x0 : Int) (x1 : Int) (x2 : ByteArray) (x3 : Int) (x4 : Int) (x5 : Int) : run test Try.env true (xV test) true 400 ⟨18, hd Try.f18 1, zipT [0, 3, 4, 5] [PV.loose (PA.mk (0) (4) al (0)) nl, PV.int IntKind.i64 x0,
 PV.ptr (PA.mk (1) (0) (0) (0)), PV.int IntKind.i64 x1], [[(1, (true, Blk.cells
 [PV.str x2, PV.int IntKind.i64 x3, PV.int IntKind.i64 x4, PV.int IntKind.i64 x5]))], [(0, (false, .cols ml [.str tl, .int .i64 vl, .int .i64 gl, .int .i64 wl]))]], 2⟩ (proj 1 [0, 3, 4, 5] Kst Kret) =
  T18_1 test Kst Kret al nl ml tl vl gl wl x0 x1 x2 x3 x4 x5 := by kernel_rfl
attribute [local irreducible] Int.subNatNat in
set_option maxRecDepth 100000 in
theorem be18 (al nl ml : Nat) (tl : Nat → ByteArray) (vl : Nat → Int) (gl : Nat → Int) (wl : Nat → Int) (Kst : KS) (Kret : KR) (x : St18 ⊕ Rt18) (hS : HS 1 400 ((I18 al nl ml tl vl gl wl)) Kst x) (hR : HR 1 400 ((V18 al nl ml tl vl gl wl)) (fun r => [newL (1 + 1) ((N18 al nl ml tl vl gl wl) r) ++ [(0, (false, .cols ml [.str tl, .int .i64 vl, .int .i64 gl, .int .i64 wl]))]]) Kret x) (h : (bif ((↑nl : Int) == (0 : Int))
 then (some (.inr ((7 : Int))))
 else (bif (decide ((↑nl : Int) > (8 : Int)))
 then (some (.inr ((3 : Int))))
 else (some (.inl (.h0 ((0 : Int)))))) : Option (St18 ⊕ Rt18)) = some x) : Te18 cond Kst Kret al nl ml tl vl gl wl := by
  unfold Te18
  exact bif_split h
   (fun c0 h => ret_at hR _ h (fun n => n) rfl rfl rfl (rn_int rfl) rfl (entl_bor (use_lo rfl) rfl rfl entl_nil))
   (fun c0 h => bif_split h
   (fun c1 h => ret_at hR _ h (fun n => n) rfl rfl rfl (rn_int rfl) rfl (entl_bor (use_lo rfl) rfl rfl entl_nil))
   (fun c1 h => stop_at hS _ h (fun n => n) rfl rfl rfl ⟨(rn_loose (use_lo rfl) rfl rfl rfl), ⟨(rn_int rfl), ⟨(rn_unk _), ⟨(rn_unk _), trivial⟩⟩⟩⟩ rfl (entl_bor (use_lo rfl) rfl rfl entl_nil)))
attribute [local irreducible] Int.subNatNat in
set_option maxRecDepth 100000 in
theorem b18_0 (al nl ml : Nat) (tl : Nat → ByteArray) (vl : Nat → Int) (gl : Nat → Int) (wl : Nat → Int) (Kst : KS) (Kret : KR) (x : St18 ⊕ Rt18) (hS : HS 1 400 ((I18 al nl ml tl vl gl wl)) Kst x) (hR : HR 1 400 ((V18 al nl ml tl vl gl wl)) (fun r => [newL (1 + 1) ((N18 al nl ml tl vl gl wl) r) ++ [(0, (false, .cols ml [.str tl, .int .i64 vl, .int .i64 gl, .int .i64 wl]))]]) Kret x) (x0 : Int) (h : (bif (decide (x0 < (↑nl : Int)))
 then (bif (decide ((0 : Int) ≤ x0 ∧ x0 < (↑nl : Int)))
 then (bif (decide (Int.toNat x0 + al < ml))
 then (bif (S.isNam (tl (Int.toNat x0 + al)))
 then (some (.inl (.h1 (x0) ((0 : Int)) (tl (Int.toNat x0 + al)) (vl (Int.toNat x0 + al)) (gl (Int.toNat x0 + al)) (wl (Int.toNat x0 + al)))))
 else (some (.inr ((2 : Int)))))
 else (none))
 else (none))
 else (some (.inr ((0 : Int)))) : Option (St18 ⊕ Rt18)) = some x) : T18_0 cond Kst Kret al nl ml tl vl gl wl x0 := by
  unfold T18_0
  exact bif_split h
   (fun c0 h => bif_split h
   (fun c1 h => bif_split h
   (fun c2 h => cond_yes c2 (cond_yes c2 (cond_yes c2 (cond_yes rfl (bif_split h
   (fun c3 h => stop_at hS _ h (fun n => bif Nat.beq n 1 then 1 else n) rfl rfl rfl ⟨(rn_loose (use_lo rfl) rfl rfl rfl), ⟨(rn_int rfl), ⟨(rn_ptr (use_own rfl) rfl rfl), ⟨(rn_int rfl), trivial⟩⟩⟩⟩ rfl (entl_b (use_own rfl) rfl (by simp) (rb_cells ⟨(rn_str rfl), (rn_int rfl), (rn_int rfl), (rn_int rfl), trivial⟩) (entl_bor (use_lo rfl) rfl rfl entl_nil)))
   (fun c3 h => ret_at hR _ h (fun n => n) rfl rfl rfl (rn_int rfl) rfl (entl_bor (use_lo rfl) rfl rfl entl_nil)))))))
   (fun c2 h => no_some h))
   (fun c1 h => no_some h))
   (fun c0 h => ret_at hR _ h (fun n => n) rfl rfl rfl (rn_int rfl) rfl (entl_bor (use_lo rfl) rfl rfl entl_nil))
attribute [local irreducible] Int.subNatNat in
set_option maxRecDepth 100000 in
theorem b18_1 (al nl ml : Nat) (tl : Nat → ByteArray) (vl : Nat → Int) (gl : Nat → Int) (wl : Nat → Int) (Kst : KS) (Kret : KR) (x : St18 ⊕ Rt18) (hS : HS 1 400 ((I18 al nl ml tl vl gl wl)) Kst x) (hR : HR 1 400 ((V18 al nl ml tl vl gl wl)) (fun r => [newL (1 + 1) ((N18 al nl ml tl vl gl wl) r) ++ [(0, (false, .cols ml [.str tl, .int .i64 vl, .int .i64 gl, .int .i64 wl]))]]) Kret x) (x0 : Int) (x1 : Int) (x2 : ByteArray) (x3 : Int) (x4 : Int) (x5 : Int) (h : (bif (decide (x1 < x0))
 then (bif (decide ((0 : Int) ≤ x1 ∧ x1 < (↑nl : Int)))
 then (bif (decide (Int.toNat x1 + al < ml))
 then (bif (S.eqS (tl (Int.toNat x1 + al)) x2)
 then (some (.inr ((5 : Int))))
 else (bif (lim IntKind.i64 (x1 + (1 : Int)))
 then (some (.inl (.h1 (x0) (x1 + (1 : Int)) (x2) (x3) (x4) (x5))))
 else (none)))
 else (none))
 else (none))
 else (bif (decide (x3 < (1 : Int)))
 then (some (.inr ((6 : Int))))
 else (bif (decide (x3 > (1000000 : Int)))
 then (some (.inr ((6 : Int))))
 else (bif (decide (x4 < (1 : Int)))
 then (some (.inr ((6 : Int))))
 else (bif (decide (x4 > x3))
 then (some (.inr ((6 : Int))))
 else (bif (decide (x5 < x4))
 then (some (.inr ((6 : Int))))
 else (bif (decide (x5 > x3))
 then (some (.inr ((6 : Int))))
 else (bif (lim IntKind.i64 (x0 + (1 : Int)))
 then (some (.inl (.h0 (x0 + (1 : Int)))))
 else (none)))))))) : Option (St18 ⊕ Rt18)) = some x) : T18_1 cond Kst Kret al nl ml tl vl gl wl x0 x1 x2 x3 x4 x5 := by
  unfold T18_1
  exact bif_split h
   (fun c0 h => bif_split h
   (fun c1 h => bif_split h
   (fun c2 h => bif_split h
   (fun c3 h => ret_at hR _ h (fun n => n) rfl rfl rfl (rn_int rfl) rfl (entl_bor (use_lo rfl) rfl rfl entl_nil))
   (fun c3 h => bif_split h
   (fun c4 h => stop_at hS _ h (fun n => bif Nat.beq n 1 then 1 else n) rfl rfl rfl ⟨(rn_loose (use_lo rfl) rfl rfl rfl), ⟨(rn_int rfl), ⟨(rn_ptr (use_own rfl) rfl rfl), ⟨(rn_int rfl), trivial⟩⟩⟩⟩ rfl (entl_b (use_own rfl) rfl (by simp) (rb_cells ⟨(rn_str rfl), (rn_int rfl), (rn_int rfl), (rn_int rfl), trivial⟩) (entl_bor (use_lo rfl) rfl rfl entl_nil)))
   (fun c4 h => no_some h)))
   (fun c2 h => no_some h))
   (fun c1 h => no_some h))
   (fun c0 h => bif_split h
   (fun c1 h => ret_at hR _ h (fun n => n) rfl rfl rfl (rn_int rfl) rfl (entl_bor (use_lo rfl) rfl rfl entl_nil))
   (fun c1 h => bif_split h
   (fun c2 h => ret_at hR _ h (fun n => n) rfl rfl rfl (rn_int rfl) rfl (entl_bor (use_lo rfl) rfl rfl entl_nil))
   (fun c2 h => bif_split h
   (fun c3 h => ret_at hR _ h (fun n => n) rfl rfl rfl (rn_int rfl) rfl (entl_bor (use_lo rfl) rfl rfl entl_nil))
   (fun c3 h => bif_split h
   (fun c4 h => ret_at hR _ h (fun n => n) rfl rfl rfl (rn_int rfl) rfl (entl_bor (use_lo rfl) rfl rfl entl_nil))
   (fun c4 h => bif_split h
   (fun c5 h => ret_at hR _ h (fun n => n) rfl rfl rfl (rn_int rfl) rfl (entl_bor (use_lo rfl) rfl rfl entl_nil))
   (fun c5 h => bif_split h
   (fun c6 h => ret_at hR _ h (fun n => n) rfl rfl rfl (rn_int rfl) rfl (entl_bor (use_lo rfl) rfl rfl entl_nil))
   (fun c6 h => bif_split h
   (fun c7 h => stop_at hS _ h (fun n => n) rfl rfl rfl ⟨(rn_loose (use_lo rfl) rfl rfl rfl), ⟨(rn_int rfl), ⟨(rn_unk _), ⟨(rn_unk _), trivial⟩⟩⟩⟩ rfl (entl_bor (use_lo rfl) rfl rfl entl_nil))
   (fun c7 h => no_some h))))))))
theorem a18 (al nl ml : Nat) (tl : Nat → ByteArray) (vl : Nat → Int) (gl : Nat → Int) (wl : Nat → Int) {r : Rt18} (h : Goes ((q18 al nl ml tl vl gl wl)) ((p18 al nl ml tl vl gl wl)) r) : CallR Try.prog 18 [.loose ⟨0, 4, al, 0⟩ nl] [[(0, (false, .cols ml [.str tl, .int .i64 vl, .int .i64 gl, .int .i64 wl]))]] 1 ((V18 al nl ml tl vl gl wl) r) ((fun r => [newL (1 + 1) ((N18 al nl ml tl vl gl wl) r) ++ [(0, (false, .cols ml [.str tl, .int .i64 vl, .int .i64 gl, .int .i64 wl]))]]) r) 400 ∧ ∃ F, Try.prog.funcs[18]? = some F ∧ F.body.isSome = true ∧ (F.name == "runtime.NumGoroutine") = false := by
  refine dec_calls (sy := true) (f := 18) (lo := 1) (hi := 400) (H := [[(0, (false, .cols ml [.str tl, .int .i64 vl, .int .i64 gl, .int .i64 wl]))]]) (args := [.loose ⟨0, 4, al, 0⟩ nl]) Try.envOk Try.mixed xV_ok ((I18 al nl ml tl vl gl wl)) ((V18 al nl ml tl vl gl wl)) (fun r => [newL (1 + 1) ((N18 al nl ml tl vl gl wl) r) ++ [(0, (false, .cols ml [.str tl, .int .i64 vl, .int .i64 gl, .int .i64 wl]))]]) (fn := mkFn Try.f18) (ts := [0, 3, 4, 5]) (n := 400) rfl (by decide) (by simp) (names_of rfl) ?_ ?_ ?_ h
  · intro s; cases s <;> exact ⟨hd_ok _ _, by simp [I18], names_of rfl, Nat.le_of_ble_eq_true rfl⟩
  · intro Kst Kret x hS hR h
    exact Holds.eq (te18 cond Kst Kret al nl ml tl vl gl wl) (be18 al nl ml tl vl gl wl Kst Kret x hS hR h)
  · intro Kst Kret x hS hR s h
    cases s with
    | h0 x0 => exact Holds.eq (t18_0 cond Kst Kret al nl ml tl vl gl wl x0) (b18_0 al nl ml tl vl gl wl Kst Kret x hS hR x0 h)
    | h1 x0 x1 x2 x3 x4 x5 => exact Holds.eq (t18_1 cond Kst Kret al nl ml tl vl gl wl x0 x1 x2 x3 x4 x5) (b18_1 al nl ml tl vl gl wl Kst Kret x hS hR x0 x1 x2 x3 x4 x5 h)
noncomputable def k18 : Con := ⟨18, [.one (.list [.str, .int .i64, .int .i64, .int .i64])], fun (x : (Nat × Nat × Nat × (Nat → ByteArray) × (Nat → Int) × (Nat → Int) × (Nat → Int) × Unit) × Unit) => (fun (al nl ml : Nat) (tl : Nat → ByteArray) (vl : Nat → Int) (gl : Nat → Int) (wl : Nat → Int) => decide (al + nl ≤ ml)) x.1.1 x.1.2.1 x.1.2.2.1 x.1.2.2.2.1 x.1.2.2.2.2.1 x.1.2.2.2.2.2.1 x.1.2.2.2.2.2.2.1, fun (x : (Nat × Nat × Nat × (Nat → ByteArray) × (Nat → Int) × (Nat → Int) × (Nat → Int) × Unit) × Unit) => (fun (al nl ml : Nat) (tl : Nat → ByteArray) (vl : Nat → Int) (gl : Nat → Int) (wl : Nat → Int) => (V18 al nl ml tl vl gl wl) (S.tskS nl (fun j => tl (j + al)) (fun j => vl (j + al)) (fun j => gl (j + al)) (fun j => wl (j + al)))) x.1.1 x.1.2.1 x.1.2.2.1 x.1.2.2.2.1 x.1.2.2.2.2.1 x.1.2.2.2.2.2.1 x.1.2.2.2.2.2.2.1, fun (x : (Nat × Nat × Nat × (Nat → ByteArray) × (Nat → Int) × (Nat → Int) × (Nat → Int) × Unit) × Unit) => (fun (al nl ml : Nat) (tl : Nat → ByteArray) (vl : Nat → Int) (gl : Nat → Int) (wl : Nat → Int) => (N18 al nl ml tl vl gl wl) (S.tskS nl (fun j => tl (j + al)) (fun j => vl (j + al)) (fun j => gl (j + al)) (fun j => wl (j + al)))) x.1.1 x.1.2.1 x.1.2.2.1 x.1.2.2.2.1 x.1.2.2.2.2.1 x.1.2.2.2.2.2.1 x.1.2.2.2.2.2.2.1, fun _ _ => .dead⟩
theorem s18i (al nl ml : Nat) (tl : Nat → ByteArray) (vl : Nat → Int) (gl : Nat → Int) (wl : Nat → Int) (hp : al + nl ≤ ml) (h8 : nl ≤ 8) (i : Nat) (hi : i < nl) (R : Int) (hN : S.any (fun j => S.eqS (tl (j + al)) (tl (i + al))) i = false → S.tskG (vl (i + al)) (gl (i + al)) (wl (i + al)) = true → Comes (q18 al nl ml tl vl gl wl) (.h0 ((i : Int) + 1)) R) (hE5 : S.any (fun j => S.eqS (tl (j + al)) (tl (i + al))) i = true → 5 = R) (hE6 : S.any (fun j => S.eqS (tl (j + al)) (tl (i + al))) i = false → ¬ S.tskG (vl (i + al)) (gl (i + al)) (wl (i + al)) = true → 6 = R) : ∀ d j : Nat, j + d = i → S.any (fun j => S.eqS (tl (j + al)) (tl (i + al))) j = false → Comes (q18 al nl ml tl vl gl wl) (.h1 (i : Int) (j : Int) (tl (i + al)) (vl (i + al)) (gl (i + al)) (wl (i + al))) R := by
  intro d
  induction d with
  | zero =>
    intro j hj ha
    obtain rfl : j = i := by omega
    unfold S.tskG at hN hE6
    by_cases hr : 1 ≤ vl (j + al) ∧ vl (j + al) ≤ 1000000 ∧ 1 ≤ gl (j + al) ∧ gl (j + al) ≤ vl (j + al) ∧ gl (j + al) ≤ wl (j + al) ∧ wl (j + al) ≤ vl (j + al)
    · have hN := hN ha (decide_eq_true hr)
      clear hE5 hE6
      apply Comes.of
      show Goes _ _ _
      (first | rw [q18] | unfold q18)
      repeat' first
        | with_reducible refine goes_if (fun h => ?_) (fun h => ?_) <;> (try simp only [lim64, imp_false, decide_eq_true_eq, decide_eq_false_iff_not, Int.toNat_natCast, toNat_pred, toNat_succ, Option.getD_some, Option.getD_none, Bool.not_eq_true', Bool.not_eq_false', Bool.and_eq_true, Bool.or_eq_true, Bool.and_eq_false_iff, Bool.or_eq_false_iff, bne_iff_ne, beq_iff_eq, bne_eq_false_iff_eq, beq_eq_false_iff_ne, ne_eq, not_and, Int.not_le, Int.not_lt, ge_iff_le, gt_iff_lt, Nat.not_lt, Nat.not_le, Bool.not_eq_true, Bool.not_eq_false, Bool.true_eq_false, Bool.false_eq_true, not_false_eq_true, not_true_eq_false] at h)
        | exact goes_none.mpr (by omega)
      all_goals first | (exfalso; omega) | exact hN
    · have hE6 := hE6 ha (fun h => hr (of_decide_eq_true h))
      clear hE5 hN
      apply Comes.of
      show Goes _ _ _
      (first | rw [q18] | unfold q18)
      repeat' first
        | with_reducible refine goes_if (fun h => ?_) (fun h => ?_) <;> (try simp only [lim64, imp_false, decide_eq_true_eq, decide_eq_false_iff_not, Int.toNat_natCast, toNat_pred, toNat_succ, Option.getD_some, Option.getD_none, Bool.not_eq_true', Bool.not_eq_false', Bool.and_eq_true, Bool.or_eq_true, Bool.and_eq_false_iff, Bool.or_eq_false_iff, bne_iff_ne, beq_iff_eq, bne_eq_false_iff_eq, beq_eq_false_iff_ne, ne_eq, not_and, Int.not_le, Int.not_lt, ge_iff_le, gt_iff_lt, Nat.not_lt, Nat.not_le, Bool.not_eq_true, Bool.not_eq_false, Bool.true_eq_false, Bool.false_eq_true, not_false_eq_true, not_true_eq_false] at h)
        | exact goes_none.mpr (by omega)
      all_goals first | (exfalso; omega) | exact hE6
  | succ d ih =>
    intro j hj ha
    cases hq : S.eqS (tl (j + al)) (tl (i + al))
    · have ih := ih (j + 1) (by omega) (by rw [any_sc, ha]; exact hq)
      clear hN hE5 hE6
      apply Comes.of
      rw [q18]
      simp only [Int.toNat_natCast, hq]
      repeat' first
        | with_reducible refine goes_if (fun h => ?_) (fun h => ?_) <;> (try simp only [lim64, imp_false, decide_eq_true_eq, decide_eq_false_iff_not, Int.toNat_natCast, toNat_pred, toNat_succ, Option.getD_some, Option.getD_none, Bool.not_eq_true', Bool.not_eq_false', Bool.and_eq_true, Bool.or_eq_true, Bool.and_eq_false_iff, Bool.or_eq_false_iff, bne_iff_ne, beq_iff_eq, bne_eq_false_iff_eq, beq_eq_false_iff_ne, ne_eq, not_and, Int.not_le, Int.not_lt, ge_iff_le, gt_iff_lt, Nat.not_lt, Nat.not_le, Bool.not_eq_true, Bool.not_eq_false, Bool.true_eq_false, Bool.false_eq_true, not_false_eq_true, not_true_eq_false] at h)
        | exact goes_none.mpr (by omega)
      all_goals first | (exfalso; omega) | exact ih
    · have hE5 := hE5 (any_iff.mpr ⟨j, by omega, hq⟩)
      clear hN hE6 ih
      apply Comes.of
      rw [q18]
      simp only [Int.toNat_natCast, hq]
      repeat' first
        | with_reducible refine goes_if (fun h => ?_) (fun h => ?_) <;> (try simp only [lim64, imp_false, decide_eq_true_eq, decide_eq_false_iff_not, Int.toNat_natCast, toNat_pred, toNat_succ, Option.getD_some, Option.getD_none, Bool.not_eq_true', Bool.not_eq_false', Bool.and_eq_true, Bool.or_eq_true, Bool.and_eq_false_iff, Bool.or_eq_false_iff, bne_iff_ne, beq_iff_eq, bne_eq_false_iff_eq, beq_eq_false_iff_ne, ne_eq, not_and, Int.not_le, Int.not_lt, ge_iff_le, gt_iff_lt, Nat.not_lt, Nat.not_le, Bool.not_eq_true, Bool.not_eq_false, Bool.true_eq_false, Bool.false_eq_true, not_false_eq_true, not_true_eq_false] at h)
        | exact goes_none.mpr (by omega)
      all_goals first | (exfalso; omega) | exact hE5
theorem s18o (al nl ml : Nat) (tl : Nat → ByteArray) (vl : Nat → Int) (gl : Nat → Int) (wl : Nat → Int) (hp : al + nl ≤ ml) (h8 : nl ≤ 8) : ∀ k i : Nat, i + k = nl → Comes (q18 al nl ml tl vl gl wl) (.h0 (i : Int)) (S.tskE (fun j => tl (j + al)) (fun j => vl (j + al)) (fun j => gl (j + al)) (fun j => wl (j + al)) i k) := by
  intro k
  induction k with
  | zero =>
    intro i hi
    apply Comes.of
    show Goes _ _ _
    (first | rw [q18] | unfold q18)
    repeat' first
      | with_reducible refine goes_if (fun h => ?_) (fun h => ?_) <;> (try simp only [lim64, imp_false, decide_eq_true_eq, decide_eq_false_iff_not, Int.toNat_natCast, toNat_pred, toNat_succ, Option.getD_some, Option.getD_none, Bool.not_eq_true', Bool.not_eq_false', Bool.and_eq_true, Bool.or_eq_true, Bool.and_eq_false_iff, Bool.or_eq_false_iff, bne_iff_ne, beq_iff_eq, bne_eq_false_iff_eq, beq_eq_false_iff_ne, ne_eq, not_and, Int.not_le, Int.not_lt, ge_iff_le, gt_iff_lt, Nat.not_lt, Nat.not_le, Bool.not_eq_true, Bool.not_eq_false, Bool.true_eq_false, Bool.false_eq_true, not_false_eq_true, not_true_eq_false] at h)
      | exact goes_none.mpr (by omega)
    all_goals first | (exfalso; omega) | rfl
  | succ k ih =>
    intro i hi
    have ih := ih (i + 1) (by omega)
    have hin := fun R h1 h2 h3 => s18i al nl ml tl vl gl wl hp h8 i (by omega) R h1 h2 h3 i 0 (Nat.zero_add _) rfl
    simp only [S.tskE]
    cases h2 : S.isNam (tl (i + al))
    · rw [if_neg Bool.false_ne_true]
      clear hin ih
      apply Comes.of
      rw [q18]
      simp only [Int.toNat_natCast, h2]
      repeat' first
        | with_reducible refine goes_if (fun h => ?_) (fun h => ?_) <;> (try simp only [lim64, imp_false, decide_eq_true_eq, decide_eq_false_iff_not, Int.toNat_natCast, toNat_pred, toNat_succ, Option.getD_some, Option.getD_none, Bool.not_eq_true', Bool.not_eq_false', Bool.and_eq_true, Bool.or_eq_true, Bool.and_eq_false_iff, Bool.or_eq_false_iff, bne_iff_ne, beq_iff_eq, bne_eq_false_iff_eq, beq_eq_false_iff_ne, ne_eq, not_and, Int.not_le, Int.not_lt, ge_iff_le, gt_iff_lt, Nat.not_lt, Nat.not_le, Bool.not_eq_true, Bool.not_eq_false, Bool.true_eq_false, Bool.false_eq_true, not_false_eq_true, not_true_eq_false] at h)
        | exact goes_none.mpr (by omega)
      all_goals first | (exfalso; omega) | rfl
    · rw [if_pos rfl]
      apply Comes.of
      rw [q18]
      simp only [Int.toNat_natCast, h2]
      repeat' first
        | with_reducible refine goes_if (fun h => ?_) (fun h => ?_) <;> (try simp only [lim64, imp_false, decide_eq_true_eq, decide_eq_false_iff_not, Int.toNat_natCast, toNat_pred, toNat_succ, Option.getD_some, Option.getD_none, Bool.not_eq_true', Bool.not_eq_false', Bool.and_eq_true, Bool.or_eq_true, Bool.and_eq_false_iff, Bool.or_eq_false_iff, bne_iff_ne, beq_iff_eq, bne_eq_false_iff_eq, beq_eq_false_iff_ne, ne_eq, not_and, Int.not_le, Int.not_lt, ge_iff_le, gt_iff_lt, Nat.not_lt, Nat.not_le, Bool.not_eq_true, Bool.not_eq_false, Bool.true_eq_false, Bool.false_eq_true, not_false_eq_true, not_true_eq_false] at h)
        | exact goes_none.mpr (by omega)
      all_goals first | (exfalso; omega) | skip
      refine hin _ (fun ha hr => ?_) (fun ha => ?_) (fun ha hr => ?_)
      · rw [if_neg (by rw [ha]; exact Bool.false_ne_true), if_pos hr]; exact ih
      · rw [if_pos ha]
      · rw [if_neg (by rw [ha]; exact Bool.false_ne_true), if_neg hr]
theorem s18 (al nl ml : Nat) (tl : Nat → ByteArray) (vl : Nat → Int) (gl : Nat → Int) (wl : Nat → Int) (hp : al + nl ≤ ml) : Goes ((q18 al nl ml tl vl gl wl)) ((p18 al nl ml tl vl gl wl)) (S.tskS nl (fun j => tl (j + al)) (fun j => vl (j + al)) (fun j => gl (j + al)) (fun j => wl (j + al))) := by
  unfold S.tskS
  unfold p18
  by_cases h0 : nl = 0
  · rw [if_pos h0]
    exact goes_ok (by subst h0; rfl) rfl
  · rw [if_neg h0]
    have hd : ((nl : Int) == 0) = false := by simp; omega
    refine goes_no hd ?_
    by_cases h1 : 8 < nl
    · rw [if_pos h1]
      exact goes_ok (decide_eq_true (by omega)) rfl
    · rw [if_neg h1]
      exact goes_no (decide_eq_false (by omega)) (s18o al nl ml tl vl gl wl hp (by omega) nl 0 (Nat.zero_add _))

theorem k18_ok : k18.ok Try.prog := by
  intro x hx
  obtain ⟨⟨al, nl, ml, tl, vl, gl, wl, _⟩, _⟩ := x
  obtain ⟨h1, h2⟩ := a18 al nl ml tl vl gl wl (s18 al nl ml tl vl gl wl (of_dec hx rfl))
  exact ⟨⟨400, (by decide : 1 + 1 + 0 ≤ 400), h1⟩, h2⟩

end Go.Ev
