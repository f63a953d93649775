/-
  The reference's error of cycles.
-/
import Derived.Test.YtamccaclkkgkbaaV0
namespace Go.Ev
open Go.Proofs
set_option linter.unusedVariables false
set_option linter.unusedSimpArgs false
set_option maxRecDepth 100000
inductive St43 where
  | h0 (x0 : Int)
  | h1 (x0 : Int) (x1 : Int) (x2 : Int) (x3 : Nat) (x4 : Nat) (x5 : ByteArray)
abbrev Rt43 := Int
noncomputable def V43 (ac nc mc : Nat) (tc : Nat → ByteArray) (vc : Nat → ByteArray) (gc : Nat → Int) (wc : Nat → Bool) (r : Rt43) : PV := PV.int IntKind.i64 r
noncomputable def N43 (ac nc mc : Nat) (tc : Nat → ByteArray) (vc : Nat → ByteArray) (gc : Nat → Int) (wc : Nat → Bool) (r : Rt43) : List Blk := []
noncomputable def I43 (ac nc mc : Nat) (tc : Nat → ByteArray) (vc : Nat → ByteArray) (gc : Nat → Int) (wc : Nat → Bool) : St43 → Hd
  | .h0 x0 => ⟨hd Try.f43 0, [PV.loose (PA.mk (0) (4) ac (0)) nc, PV.int IntKind.i64 x0, PV.unk,
 PV.unk, PV.unk, PV.unk, PV.unk, PV.unk, PV.unk, PV.unk], [[], [(0, (false, .cols mc [.str tc, .str vc, .int .i64 gc, .bool wc]))]], 1⟩
  | .h1 x0 x1 x2 x3 x4 x5 => ⟨hd Try.f43 1, [PV.loose (PA.mk (0) (4) ac (0)) nc, PV.int IntKind.i64 x0,
 PV.int IntKind.i64 x1, PV.loose (PA.mk (0) (4) ac (0)) nc,
 PV.int IntKind.i64 x2, PV.ptr (PA.mk (0) (4) x3 (0)),
 PV.ptr (PA.mk (0) (4) x4 (1)), PV.str x5, PV.tf true,
 PV.tf false], [[], [(0, (false, .cols mc [.str tc, .str vc, .int .i64 gc, .bool wc]))]], 1⟩
noncomputable def q43 (ac nc mc : Nat) (tc : Nat → ByteArray) (vc : Nat → ByteArray) (gc : Nat → Int) (wc : Nat → Bool) : St43 → Option (St43 ⊕ Rt43)
  | .h0 x0 => bif (decide (x0 < (↑nc : Int)))
 then (bif (decide ((0 : Int) ≤ x0 ∧ x0 < (↑nc : Int)))
 then (bif (decide (Int.toNat x0 + ac < mc))
 then (bif (S.isNam (tc (Int.toNat x0 + ac)))
 then (bif (S.isNam (vc (Int.toNat x0 + ac)))
 then (some (.inl (.h1 (x0) ((0 : Int)) (x0) (Int.toNat x0 + ac) (Int.toNat x0 + ac) (vc (Int.toNat x0 + ac)))))
 else (some (.inr ((2 : Int)))))
 else (some (.inr ((2 : Int)))))
 else (none))
 else (none))
 else (some (.inr ((0 : Int))))
  | .h1 x0 x1 x2 x3 x4 x5 => bif (decide (x1 < x0))
 then (bif (decide ((0 : Int) ≤ x1 ∧ x1 < (↑nc : Int)))
 then (bif (decide (Int.toNat x1 + ac < mc))
 then (bif (decide ((0 : Int) ≤ x0 ∧ x0 < (↑nc : Int)))
 then (bif (decide (Int.toNat x0 + ac < mc))
 then (bif (S.eqS (tc (Int.toNat x1 + ac)) (tc (Int.toNat x0 + ac)))
 then (some (.inr ((5 : Int))))
 else (bif (lim IntKind.i64 (x1 + (1 : Int)))
 then (some (.inl (.h1 (x0) (x1 + (1 : Int)) (x2) (x3) (x4) (x5))))
 else (none)))
 else (none))
 else (none))
 else (none))
 else (none))
 else (bif (decide ((0 : Int) ≤ x0 ∧ x0 < (↑nc : Int)))
 then (bif (decide (Int.toNat x0 + ac < mc))
 then (bif (decide (gc (Int.toNat x0 + ac) ≥ (1 : Int)))
 then (bif (decide (gc (Int.toNat x0 + ac) ≤ (200 : Int)))
 then (bif (lim IntKind.i64 (x0 + (1 : Int)))
 then (some (.inl (.h0 (x0 + (1 : Int)))))
 else (none))
 else (some (.inr ((6 : Int)))))
 else (some (.inr ((6 : Int)))))
 else (none))
 else (none))
noncomputable def p43 (ac nc mc : Nat) (tc : Nat → ByteArray) (vc : Nat → ByteArray) (gc : Nat → Int) (wc : Nat → Bool) : Option (St43 ⊕ Rt43) := bif ((↑nc : Int) == (0 : Int))
 then (some (.inr ((7 : Int))))
 else (bif (decide ((↑nc : Int) > (6 : Int)))
 then (some (.inr ((3 : Int))))
 else (some (.inl (.h0 ((0 : Int))))))
noncomputable def Te43 (test : Bool → Prop → Prop → Prop) (Kst : KS) (Kret : KR) (ac nc mc : Nat) (tc : Nat → ByteArray) (vc : Nat → ByteArray) (gc : Nat → Int) (wc : Nat → Bool) : Prop :=
  test ((↑nc : Int) == (0 : Int))
 (Kret (PV.int IntKind.i64 (7 : Int)) ([[(0, false,
 Blk.cols mc [Col.str tc, Col.str vc, Col.int IntKind.i64 gc, Col.bool wc])]]) (1))
 (test (decide ((↑nc : Int) > (6 : Int)))
 (Kret (PV.int IntKind.i64 (3 : Int)) ([[(0, false,
 Blk.cols mc [Col.str tc, Col.str vc, Col.int IntKind.i64 gc, Col.bool wc])]]) (1))
 (Kst (hd Try.f43 0) ([PV.loose (PA.mk (0) (4) ac (0)) nc, PV.int IntKind.i64 (0 : Int),
 PV.unk, PV.unk, PV.unk, PV.unk, PV.unk, PV.unk, PV.unk, PV.unk]) ([[(0, false,
 Blk.cols mc [Col.str tc, Col.str vc, Col.int IntKind.i64 gc, Col.bool wc])]]) (1)))
set_option maxRecDepth 100000 in
theorem te43 (test : Bool → Prop → Prop → Prop) (Kst : KS) (Kret : KR) (ac nc mc : Nat) (tc : Nat → ByteArray) (vc : Nat → ByteArray) (gc : Nat → Int) (wc : Nat → Bool) : run test Try.env true (xV test) true 400 ⟨43, [.cd (mkFn Try.f43).body], argT 0 [.loose ⟨0, 4, ac, 0⟩ nc], [[], [(0, (false, .cols mc [.str tc, .str vc, .int .i64 gc, .bool wc]))]], 1⟩ (proj 1 [0, 3, 4, 25, 26, 27, 28, 29, 30, 31] Kst Kret) =
  Te43 test Kst Kret ac nc mc tc vc gc wc := by kernel_rfl
noncomputable def T43_0 (test : Bool → Prop → Prop → Prop) (Kst : KS) (Kret : KR) (ac nc mc : Nat) (tc : Nat → ByteArray) (vc : Nat → ByteArray) (gc : Nat → Int) (wc : Nat → Bool) (x0 : Int) : Prop :=
  test (decide (x0 < (↑nc : Int)))
 (test (decide ((0 : Int) ≤ x0 ∧ x0 < (↑nc : Int)))
 (test (decide (Int.toNat x0 + ac < mc))
 (test (true)
 (test (S.isNam (tc (Int.toNat x0 + ac)))
 (test (decide ((0 : Int) ≤ x0 ∧ x0 < (↑nc : Int)))
 (test (decide (Int.toNat x0 + ac < mc))
 (test (true)
 (test (S.isNam (vc (Int.toNat x0 + ac)))
 (Kst (hd Try.f43 1) ([PV.loose (PA.mk (0) (4) ac (0)) nc, PV.int IntKind.i64 x0,
 PV.int IntKind.i64 (0 : Int), PV.loose (PA.mk (0) (4) ac (0)) nc,
 PV.int IntKind.i64 x0, PV.ptr (PA.mk (0) (4) (Int.toNat x0 + ac) (0)),
 PV.ptr (PA.mk (0) (4) (Int.toNat x0 + ac) (1)),
 PV.str (vc (Int.toNat x0 + ac)), PV.tf true, PV.tf false]) ([[(0, false,
 Blk.cols mc [Col.str tc, Col.str vc, Col.int IntKind.i64 gc, Col.bool wc])]]) (3))
 (Kret (PV.int IntKind.i64 (2 : Int)) ([[(0, false,
 Blk.cols mc [Col.str tc, Col.str vc, Col.int IntKind.i64 gc, Col.bool wc])]]) (3)))
 (False))
 (False))
 (False))
 (Kret (PV.int IntKind.i64 (2 : Int)) ([[(0, false,
 Blk.cols mc [Col.str tc, Col.str vc, Col.int IntKind.i64 gc, Col.bool wc])]]) (2)))
 (False))
 (False))
 (False))
 (Kret (PV.int IntKind.i64 (0 : Int)) ([[(0, false,
 Blk.cols mc [Col.str tc, Col.str vc, Col.int IntKind.i64 gc, Col.bool wc])]]) (1))
set_option maxRecDepth 100000 in
theorem t43_0 (test : Bool → Prop → Prop → Prop) (Kst : KS) (Kret : KR) (ac nc mc : Nat) (tc : Nat → ByteArray) (vc : Nat → ByteArray) (gc : Nat → Int) (wc : Nat → Bool) (x0 : Int) : run test Try.env true (xV test) true 400 ⟨43, hd Try.f43 0, zipT [0, 3, 4, 25, 26, 27, 28, 29, 30, 31] [PV.loose (PA.mk (0) (4) ac (0)) nc, PV.int IntKind.i64 x0, PV.unk,
 PV.unk, PV.unk, PV.unk, PV.unk, PV.unk, PV.unk, PV.unk], [[], [(0, (false, .cols mc [.str tc, .str vc, .int .i64 gc, .bool wc]))]], 1⟩ (proj 1 [0, 3, 4, 25, 26, 27, 28, 29, 30, 31] Kst Kret) =
  T43_0 test Kst Kret ac nc mc tc vc gc wc x0 := by kernel_rfl
noncomputable def T43_1 (test : Bool → Prop → Prop → Prop) (Kst : KS) (Kret : KR) (ac nc mc : Nat) (tc : Nat → ByteArray) (vc : Nat → ByteArray) (gc : Nat → Int) (wc : Nat → Bool) (x0 : Int) (x1 : Int) (x2 : Int) (x3 : Nat) (x4 : Nat) (x5 : ByteArray) : Prop :=
  test (decide (x1 < x0))
 (test (decide ((0 : Int) ≤ x1 ∧ x1 < (↑nc : Int)))
 (test (decide (Int.toNat x1 + ac < mc))
 (test (decide ((0 : Int) ≤ x0 ∧ x0 < (↑nc : Int)))
 (test (decide (Int.toNat x0 + ac < mc))
 (test (S.eqS (tc (Int.toNat x1 + ac)) (tc (Int.toNat x0 + ac)))
 (Kret (PV.int IntKind.i64 (5 : Int)) ([[(0, false,
 Blk.cols mc [Col.str tc, Col.str vc, Col.int IntKind.i64 gc, Col.bool wc])]]) (1))
 (test (lim IntKind.i64 (x1 + (1 : Int)))
 (Kst (hd Try.f43 1) ([PV.loose (PA.mk (0) (4) ac (0)) nc, PV.int IntKind.i64 x0,
 PV.int IntKind.i64 (x1 + (1 : Int)), PV.loose (PA.mk (0) (4) ac (0)) nc,
 PV.int IntKind.i64 x2, PV.ptr (PA.mk (0) (4) x3 (0)),
 PV.ptr (PA.mk (0) (4) x4 (1)), PV.str x5, PV.tf true,
 PV.tf false]) ([[(0, false,
 Blk.cols mc [Col.str tc, Col.str vc, Col.int IntKind.i64 gc, Col.bool wc])]]) (1))
 (False)))
 (False))
 (False))
 (False))
 (False))
 (test (decide ((0 : Int) ≤ x0 ∧ x0 < (↑nc : Int)))
 (test (decide (Int.toNat x0 + ac < mc))
 (test (decide (gc (Int.toNat x0 + ac) ≥ (1 : Int)))
 (test (decide (gc (Int.toNat x0 + ac) ≤ (200 : Int)))
 (test (lim IntKind.i64 (x0 + (1 : Int)))
 (Kst (hd Try.f43 0) ([PV.loose (PA.mk (0) (4) ac (0)) nc, PV.int IntKind.i64 (x0 + (1 : Int)),
 PV.int IntKind.i64 x1, PV.loose (PA.mk (0) (4) ac (0)) nc,
 PV.int IntKind.i64 x2, PV.ptr (PA.mk (0) (4) x3 (0)),
 PV.ptr (PA.mk (0) (4) x4 (1)), PV.str x5, PV.tf true,
 PV.tf false]) ([[(0, false,
 Blk.cols mc [Col.str tc, Col.str vc, Col.int IntKind.i64 gc, Col.bool wc])]]) (1))
 (False))
 (Kret (PV.int IntKind.i64 (6 : Int)) ([[(0, false,
 Blk.cols mc [Col.str tc, Col.str vc, Col.int IntKind.i64 gc, Col.bool wc])]]) (1)))
 (Kret (PV.int IntKind.i64 (6 : Int)) ([[(0, false,
 Blk.cols mc [Col.str tc, Col.str vc, Col.int IntKind.i64 gc, Col.bool wc])]]) (1)))
 (False))
 (False))
set_option maxRecDepth 100000 in
theorem t43_1 (test : Bool → Prop → Prop → Prop) (Kst : KS) (Kret : KR) (ac nc mc : Nat) (tc : Nat → ByteArray) (vc : Nat → ByteArray) (gc : Nat → Int) (wc : Nat → Bool) (x0 : Int) (x1 : Int) (x2 : Int) (x3 : Nat) (x4 : Nat) (x5 : ByteArray) : run test Try.env true (xV test) true 400 ⟨43, hd Try.f43 1, zipT [0, 3, 4, 25, 26, 27, 28, 29, 30, 31] [PV.loose (PA.mk (0) (4) ac (0)) nc, PV.int IntKind.i64 x0,
 PV.int IntKind.i64 x1, PV.loose (PA.mk (0) (4) ac (0)) nc,
 PV.int IntKind.i64 x2, PV.ptr (PA.mk (0) (4) x3 (0)),
 PV.ptr (PA.mk (0) (4) x4 (1)), PV.str x5, PV.tf true,
 PV.tf false], [[], [(0, (false, .cols mc [.str tc, .str vc, .int .i64 gc, .bool wc]))]], 1⟩ (proj 1 [0, 3, 4, 25, 26, 27, 28, 29, 30, 31] Kst Kret) =
  T43_1 test Kst Kret ac nc mc tc vc gc wc x0 x1 x2 x3 x4 x5 := by kernel_rfl
attribute [local irreducible] Int.subNatNat in
set_option maxRecDepth 100000 in
theorem be43 (ac nc mc : Nat) (tc : Nat → ByteArray) (vc : Nat → ByteArray) (gc : Nat → Int) (wc : Nat → Bool) (Kst : KS) (Kret : KR) (x : St43 ⊕ Rt43) (hS : HS 1 400 ((I43 ac nc mc tc vc gc wc)) Kst x) (hR : HR 1 400 ((V43 ac nc mc tc vc gc wc)) (fun r => [newL (1 + 1) ((N43 ac nc mc tc vc gc wc) r) ++ [(0, (false, .cols mc [.str tc, .str vc, .int .i64 gc, .bool wc]))]]) Kret x) (h : (bif ((↑nc : Int) == (0 : Int))
 then (some (.inr ((7 : Int))))
 else (bif (decide ((↑nc : Int) > (6 : Int)))
 then (some (.inr ((3 : Int))))
 else (some (.inl (.h0 ((0 : Int)))))) : Option (St43 ⊕ Rt43)) = some x) : Te43 cond Kst Kret ac nc mc tc vc gc wc := by
  unfold Te43
  exact bif_split h
   (fun c0 h => ret_at hR _ h (fun n => n) rfl rfl rfl (rn_int rfl) rfl (entl_bor (use_lo rfl) rfl rfl entl_nil))
   (fun c0 h => bif_split h
   (fun c1 h => ret_at hR _ h (fun n => n) rfl rfl rfl (rn_int rfl) rfl (entl_bor (use_lo rfl) rfl rfl entl_nil))
   (fun c1 h => stop_at hS _ h (fun n => n) rfl rfl rfl ⟨(rn_loose (use_lo rfl) rfl rfl rfl), ⟨(rn_int rfl), ⟨(rn_unk _), ⟨(rn_unk _), ⟨(rn_unk _), ⟨(rn_unk _), ⟨(rn_unk _), ⟨(rn_unk _), ⟨(rn_unk _), ⟨(rn_unk _), trivial⟩⟩⟩⟩⟩⟩⟩⟩⟩⟩ rfl (entl_bor (use_lo rfl) rfl rfl entl_nil)))
attribute [local irreducible] Int.subNatNat in
set_option maxRecDepth 100000 in
theorem b43_0 (ac nc mc : Nat) (tc : Nat → ByteArray) (vc : Nat → ByteArray) (gc : Nat → Int) (wc : Nat → Bool) (Kst : KS) (Kret : KR) (x : St43 ⊕ Rt43) (hS : HS 1 400 ((I43 ac nc mc tc vc gc wc)) Kst x) (hR : HR 1 400 ((V43 ac nc mc tc vc gc wc)) (fun r => [newL (1 + 1) ((N43 ac nc mc tc vc gc wc) r) ++ [(0, (false, .cols mc [.str tc, .str vc, .int .i64 gc, .bool wc]))]]) Kret x) (x0 : Int) (h : (bif (decide (x0 < (↑nc : Int)))
 then (bif (decide ((0 : Int) ≤ x0 ∧ x0 < (↑nc : Int)))
 then (bif (decide (Int.toNat x0 + ac < mc))
 then (bif (S.isNam (tc (Int.toNat x0 + ac)))
 then (bif (S.isNam (vc (Int.toNat x0 + ac)))
 then (some (.inl (.h1 (x0) ((0 : Int)) (x0) (Int.toNat x0 + ac) (Int.toNat x0 + ac) (vc (Int.toNat x0 + ac)))))
 else (some (.inr ((2 : Int)))))
 else (some (.inr ((2 : Int)))))
 else (none))
 else (none))
 else (some (.inr ((0 : Int)))) : Option (St43 ⊕ Rt43)) = some x) : T43_0 cond Kst Kret ac nc mc tc vc gc wc x0 := by
  unfold T43_0
  exact bif_split h
   (fun c0 h => bif_split h
   (fun c1 h => bif_split h
   (fun c2 h => cond_yes rfl (bif_split h
   (fun c3 h => cond_yes c1 (cond_yes c2 (cond_yes rfl (bif_split h
   (fun c4 h => stop_at hS _ h (fun n => n) rfl rfl rfl ⟨(rn_loose (use_lo rfl) rfl rfl rfl), ⟨(rn_int rfl), ⟨(rn_int rfl), ⟨(rn_loose (use_lo rfl) rfl rfl rfl), ⟨(rn_int rfl), ⟨(rn_ptr (use_lo rfl) rfl rfl), ⟨(rn_ptr (use_lo rfl) rfl rfl), ⟨(rn_str rfl), ⟨(rn_tf rfl), ⟨(rn_tf rfl), trivial⟩⟩⟩⟩⟩⟩⟩⟩⟩⟩ rfl (entl_bor (use_lo rfl) rfl rfl entl_nil))
   (fun c4 h => ret_at hR _ h (fun n => n) rfl rfl rfl (rn_int rfl) rfl (entl_bor (use_lo rfl) rfl rfl entl_nil))))))
   (fun c3 h => ret_at hR _ h (fun n => n) rfl rfl rfl (rn_int rfl) rfl (entl_bor (use_lo rfl) rfl rfl entl_nil))))
   (fun c2 h => no_some h))
   (fun c1 h => no_some h))
   (fun c0 h => ret_at hR _ h (fun n => n) rfl rfl rfl (rn_int rfl) rfl (entl_bor (use_lo rfl) rfl rfl entl_nil))
attribute [local irreducible] Int.subNatNat in
set_option maxRecDepth 100000 in
theorem b43_1 (ac nc mc : Nat) (tc : Nat → ByteArray) (vc : Nat → ByteArray) (gc : Nat → Int) (wc : Nat → Bool) (Kst : KS) (Kret : KR) (x : St43 ⊕ Rt43) (hS : HS 1 400 ((I43 ac nc mc tc vc gc wc)) Kst x) (hR : HR 1 400 ((V43 ac nc mc tc vc gc wc)) (fun r => [newL (1 + 1) ((N43 ac nc mc tc vc gc wc) r) ++ [(0, (false, .cols mc [.str tc, .str vc, .int .i64 gc, .bool wc]))]]) Kret x) (x0 : Int) (x1 : Int) (x2 : Int) (x3 : Nat) (x4 : Nat) (x5 : ByteArray) (h : (bif (decide (x1 < x0))
 then (bif (decide ((0 : Int) ≤ x1 ∧ x1 < (↑nc : Int)))
 then (bif (decide (Int.toNat x1 + ac < mc))
 then (bif (decide ((0 : Int) ≤ x0 ∧ x0 < (↑nc : Int)))
 then (bif (decide (Int.toNat x0 + ac < mc))
 then (bif (S.eqS (tc (Int.toNat x1 + ac)) (tc (Int.toNat x0 + ac)))
 then (some (.inr ((5 : Int))))
 else (bif (lim IntKind.i64 (x1 + (1 : Int)))
 then (some (.inl (.h1 (x0) (x1 + (1 : Int)) (x2) (x3) (x4) (x5))))
 else (none)))
 else (none))
 else (none))
 else (none))
 else (none))
 else (bif (decide ((0 : Int) ≤ x0 ∧ x0 < (↑nc : Int)))
 then (bif (decide (Int.toNat x0 + ac < mc))
 then (bif (decide (gc (Int.toNat x0 + ac) ≥ (1 : Int)))
 then (bif (decide (gc (Int.toNat x0 + ac) ≤ (200 : Int)))
 then (bif (lim IntKind.i64 (x0 + (1 : Int)))
 then (some (.inl (.h0 (x0 + (1 : Int)))))
 else (none))
 else (some (.inr ((6 : Int)))))
 else (some (.inr ((6 : Int)))))
 else (none))
 else (none)) : Option (St43 ⊕ Rt43)) = some x) : T43_1 cond Kst Kret ac nc mc tc vc gc wc x0 x1 x2 x3 x4 x5 := by
  unfold T43_1
  exact bif_split h
   (fun c0 h => bif_split h
   (fun c1 h => bif_split h
   (fun c2 h => bif_split h
   (fun c3 h => bif_split h
   (fun c4 h => bif_split h
   (fun c5 h => ret_at hR _ h (fun n => n) rfl rfl rfl (rn_int rfl) rfl (entl_bor (use_lo rfl) rfl rfl entl_nil))
   (fun c5 h => bif_split h
   (fun c6 h => stop_at hS _ h (fun n => n) rfl rfl rfl ⟨(rn_loose (use_lo rfl) rfl rfl rfl), ⟨(rn_int rfl), ⟨(rn_int rfl), ⟨(rn_loose (use_lo rfl) rfl rfl rfl), ⟨(rn_int rfl), ⟨(rn_ptr (use_lo rfl) rfl rfl), ⟨(rn_ptr (use_lo rfl) rfl rfl), ⟨(rn_str rfl), ⟨(rn_tf rfl), ⟨(rn_tf rfl), trivial⟩⟩⟩⟩⟩⟩⟩⟩⟩⟩ rfl (entl_bor (use_lo rfl) rfl rfl entl_nil))
   (fun c6 h => no_some h)))
   (fun c4 h => no_some h))
   (fun c3 h => no_some h))
   (fun c2 h => no_some h))
   (fun c1 h => no_some h))
   (fun c0 h => bif_split h
   (fun c1 h => bif_split h
   (fun c2 h => bif_split h
   (fun c3 h => bif_split h
   (fun c4 h => bif_split h
   (fun c5 h => stop_at hS _ h (fun n => n) rfl rfl rfl ⟨(rn_loose (use_lo rfl) rfl rfl rfl), ⟨(rn_int rfl), ⟨(rn_unk _), ⟨(rn_unk _), ⟨(rn_unk _), ⟨(rn_unk _), ⟨(rn_unk _), ⟨(rn_unk _), ⟨(rn_unk _), ⟨(rn_unk _), trivial⟩⟩⟩⟩⟩⟩⟩⟩⟩⟩ rfl (entl_bor (use_lo rfl) rfl rfl entl_nil))
   (fun c5 h => no_some h))
   (fun c4 h => ret_at hR _ h (fun n => n) rfl rfl rfl (rn_int rfl) rfl (entl_bor (use_lo rfl) rfl rfl entl_nil)))
   (fun c3 h => ret_at hR _ h (fun n => n) rfl rfl rfl (rn_int rfl) rfl (entl_bor (use_lo rfl) rfl rfl entl_nil)))
   (fun c2 h => no_some h))
   (fun c1 h => no_some h))
theorem a43 (ac nc mc : Nat) (tc : Nat → ByteArray) (vc : Nat → ByteArray) (gc : Nat → Int) (wc : Nat → Bool) {r : Rt43} (h : Goes ((q43 ac nc mc tc vc gc wc)) ((p43 ac nc mc tc vc gc wc)) r) : CallR Try.prog 43 [.loose ⟨0, 4, ac, 0⟩ nc] [[(0, (false, .cols mc [.str tc, .str vc, .int .i64 gc, .bool wc]))]] 1 ((V43 ac nc mc tc vc gc wc) r) ((fun r => [newL (1 + 1) ((N43 ac nc mc tc vc gc wc) r) ++ [(0, (false, .cols mc [.str tc, .str vc, .int .i64 gc, .bool wc]))]]) r) 400 ∧ ∃ F, Try.prog.funcs[43]? = some F ∧ F.body.isSome = true ∧ (F.name == "runtime.NumGoroutine") = false := by
  refine dec_calls (f := 43) (lo := 1) (hi := 400) (H := [[(0, (false, .cols mc [.str tc, .str vc, .int .i64 gc, .bool wc]))]]) (args := [.loose ⟨0, 4, ac, 0⟩ nc]) Try.envOk Try.mixed xV_ok ((I43 ac nc mc tc vc gc wc)) ((V43 ac nc mc tc vc gc wc)) (fun r => [newL (1 + 1) ((N43 ac nc mc tc vc gc wc) r) ++ [(0, (false, .cols mc [.str tc, .str vc, .int .i64 gc, .bool wc]))]]) (fn := mkFn Try.f43) (ts := [0, 3, 4, 25, 26, 27, 28, 29, 30, 31]) (n := 400) rfl (by decide) (by simp) (names_of rfl) ?_ ?_ ?_ h
  · intro s; cases s <;> exact ⟨hd_ok _ _, by simp [I43], names_of rfl, Nat.le_of_ble_eq_true rfl⟩
  · intro Kst Kret x hS hR h
    exact Holds.eq (te43 cond Kst Kret ac nc mc tc vc gc wc) (be43 ac nc mc tc vc gc wc Kst Kret x hS hR h)
  · intro Kst Kret x hS hR s h
    cases s with
    | h0 x0 => exact Holds.eq (t43_0 cond Kst Kret ac nc mc tc vc gc wc x0) (b43_0 ac nc mc tc vc gc wc Kst Kret x hS hR x0 h)
    | h1 x0 x1 x2 x3 x4 x5 => exact Holds.eq (t43_1 cond Kst Kret ac nc mc tc vc gc wc x0 x1 x2 x3 x4 x5) (b43_1 ac nc mc tc vc gc wc Kst Kret x hS hR x0 x1 x2 x3 x4 x5 h)
noncomputable def k43 : Con := ⟨43, [.one (.list [.str, .str, .int .i64, .bool])], fun (x : (Nat × Nat × Nat × (Nat → ByteArray) × (Nat → ByteArray) × (Nat → Int) × (Nat → Bool) × Unit) × Unit) => (fun (ac nc mc : Nat) (tc : Nat → ByteArray) (vc : Nat → ByteArray) (gc : Nat → Int) (wc : Nat → Bool) => decide (ac + nc ≤ mc)) x.1.1 x.1.2.1 x.1.2.2.1 x.1.2.2.2.1 x.1.2.2.2.2.1 x.1.2.2.2.2.2.1 x.1.2.2.2.2.2.2.1, fun (x : (Nat × Nat × Nat × (Nat → ByteArray) × (Nat → ByteArray) × (Nat → Int) × (Nat → Bool) × Unit) × Unit) => (fun (ac nc mc : Nat) (tc : Nat → ByteArray) (vc : Nat → ByteArray) (gc : Nat → Int) (wc : Nat → Bool) => (V43 ac nc mc tc vc gc wc) (S.cycS nc (fun j => tc (j + ac)) (fun j => vc (j + ac)) (fun j => gc (j + ac)))) x.1.1 x.1.2.1 x.1.2.2.1 x.1.2.2.2.1 x.1.2.2.2.2.1 x.1.2.2.2.2.2.1 x.1.2.2.2.2.2.2.1, fun (x : (Nat × Nat × Nat × (Nat → ByteArray) × (Nat → ByteArray) × (Nat → Int) × (Nat → Bool) × Unit) × Unit) => (fun (ac nc mc : Nat) (tc : Nat → ByteArray) (vc : Nat → ByteArray) (gc : Nat → Int) (wc : Nat → Bool) => (N43 ac nc mc tc vc gc wc) (S.cycS nc (fun j => tc (j + ac)) (fun j => vc (j + ac)) (fun j => gc (j + ac)))) x.1.1 x.1.2.1 x.1.2.2.1 x.1.2.2.2.1 x.1.2.2.2.2.1 x.1.2.2.2.2.2.1 x.1.2.2.2.2.2.2.1, fun _ _ => .dead⟩
theorem s43i (ac nc mc : Nat) (tc : Nat → ByteArray) (vc : Nat → ByteArray) (gc : Nat → Int) (wc : Nat → Bool) (hp : ac + nc ≤ mc) (h6 : nc ≤ 6) (i : Nat) (hi : i < nc) (R : Int) (hN : S.any (fun j => S.eqS (tc (j + ac)) (tc (i + ac))) i = false → 1 ≤ gc (i + ac) ∧ gc (i + ac) ≤ 200 → Comes (q43 ac nc mc tc vc gc wc) (.h0 ((i : Int) + 1)) R) (hE5 : S.any (fun j => S.eqS (tc (j + ac)) (tc (i + ac))) i = true → 5 = R) (hE6 : S.any (fun j => S.eqS (tc (j + ac)) (tc (i + ac))) i = false → ¬ (1 ≤ gc (i + ac) ∧ gc (i + ac) ≤ 200) → 6 = R) (x2 : Int) (x3 x4 : Nat) (x5 : ByteArray) : ∀ d j : Nat, j + d = i → S.any (fun j => S.eqS (tc (j + ac)) (tc (i + ac))) j = false → Comes (q43 ac nc mc tc vc gc wc) (.h1 (i : Int) (j : Int) x2 x3 x4 x5) R := by
  intro d
  induction d with
  | zero =>
    intro j hj ha
    obtain rfl : j = i := by omega
    by_cases hr : 1 ≤ gc (j + ac) ∧ gc (j + ac) ≤ 200
    · have hN := hN ha hr
      apply Comes.of
      show Goes _ _ _
      (first | rw [q43] | unfold q43)
      repeat' first
        | with_reducible refine goes_if (fun h => ?_) (fun h => ?_) <;> (try simp only [lim64, imp_false, decide_eq_true_eq, decide_eq_false_iff_not, Int.toNat_natCast, toNat_pred, toNat_succ, Option.getD_some, Option.getD_none, Bool.not_eq_true', Bool.not_eq_false', Bool.and_eq_true, Bool.or_eq_true, Bool.and_eq_false_iff, Bool.or_eq_false_iff, bne_iff_ne, beq_iff_eq, bne_eq_false_iff_eq, beq_eq_false_iff_ne, ne_eq, not_and, Int.not_le, Int.not_lt, ge_iff_le, gt_iff_lt, Nat.not_lt, Nat.not_le, Bool.not_eq_true, Bool.not_eq_false, Bool.true_eq_false, Bool.false_eq_true, not_false_eq_true, not_true_eq_false] at h)
        | exact goes_none.mpr (by omega)
      all_goals first | (exfalso; omega) | exact hN
    · have hE6 := hE6 ha hr
      apply Comes.of
      show Goes _ _ _
      (first | rw [q43] | unfold q43)
      repeat' first
        | with_reducible refine goes_if (fun h => ?_) (fun h => ?_) <;> (try simp only [lim64, imp_false, decide_eq_true_eq, decide_eq_false_iff_not, Int.toNat_natCast, toNat_pred, toNat_succ, Option.getD_some, Option.getD_none, Bool.not_eq_true', Bool.not_eq_false', Bool.and_eq_true, Bool.or_eq_true, Bool.and_eq_false_iff, Bool.or_eq_false_iff, bne_iff_ne, beq_iff_eq, bne_eq_false_iff_eq, beq_eq_false_iff_ne, ne_eq, not_and, Int.not_le, Int.not_lt, ge_iff_le, gt_iff_lt, Nat.not_lt, Nat.not_le, Bool.not_eq_true, Bool.not_eq_false, Bool.true_eq_false, Bool.false_eq_true, not_false_eq_true, not_true_eq_false] at h)
        | exact goes_none.mpr (by omega)
      all_goals first | (exfalso; omega) | exact hE6
  | succ d ih =>
    intro j hj ha
    cases hq : S.eqS (tc (j + ac)) (tc (i + ac))
    · have ih := ih (j + 1) (by omega) (by rw [any_sc, ha]; exact hq)
      clear hN hE5 hE6
      apply Comes.of
      rw [q43]
      simp only [Int.toNat_natCast, hq]
      repeat' first
        | with_reducible refine goes_if (fun h => ?_) (fun h => ?_) <;> (try simp only [lim64, imp_false, decide_eq_true_eq, decide_eq_false_iff_not, Int.toNat_natCast, toNat_pred, toNat_succ, Option.getD_some, Option.getD_none, Bool.not_eq_true', Bool.not_eq_false', Bool.and_eq_true, Bool.or_eq_true, Bool.and_eq_false_iff, Bool.or_eq_false_iff, bne_iff_ne, beq_iff_eq, bne_eq_false_iff_eq, beq_eq_false_iff_ne, ne_eq, not_and, Int.not_le, Int.not_lt, ge_iff_le, gt_iff_lt, Nat.not_lt, Nat.not_le, Bool.not_eq_true, Bool.not_eq_false, Bool.true_eq_false, Bool.false_eq_true, not_false_eq_true, not_true_eq_false] at h)
        | exact goes_none.mpr (by omega)
      all_goals first | (exfalso; omega) | exact ih
    · have hE5 := hE5 (any_iff.mpr ⟨j, by omega, hq⟩)
      clear hN hE6 ih
      apply Comes.of
      rw [q43]
      simp only [Int.toNat_natCast, hq]
      repeat' first
        | with_reducible refine goes_if (fun h => ?_) (fun h => ?_) <;> (try simp only [lim64, imp_false, decide_eq_true_eq, decide_eq_false_iff_not, Int.toNat_natCast, toNat_pred, toNat_succ, Option.getD_some, Option.getD_none, Bool.not_eq_true', Bool.not_eq_false', Bool.and_eq_true, Bool.or_eq_true, Bool.and_eq_false_iff, Bool.or_eq_false_iff, bne_iff_ne, beq_iff_eq, bne_eq_false_iff_eq, beq_eq_false_iff_ne, ne_eq, not_and, Int.not_le, Int.not_lt, ge_iff_le, gt_iff_lt, Nat.not_lt, Nat.not_le, Bool.not_eq_true, Bool.not_eq_false, Bool.true_eq_false, Bool.false_eq_true, not_false_eq_true, not_true_eq_false] at h)
        | exact goes_none.mpr (by omega)
      all_goals first | (exfalso; omega) | exact hE5
theorem s43o (ac nc mc : Nat) (tc : Nat → ByteArray) (vc : Nat → ByteArray) (gc : Nat → Int) (wc : Nat → Bool) (hp : ac + nc ≤ mc) (h6 : nc ≤ 6) : ∀ k i : Nat, i + k = nc → Comes (q43 ac nc mc tc vc gc wc) (.h0 (i : Int)) (S.cycE (fun j => tc (j + ac)) (fun j => vc (j + ac)) (fun j => gc (j + ac)) i k) := by
  intro k
  induction k with
  | zero =>
    intro i hi
    apply Comes.of
    show Goes _ _ _
    (first | rw [q43] | unfold q43)
    repeat' first
      | with_reducible refine goes_if (fun h => ?_) (fun h => ?_) <;> (try simp only [lim64, imp_false, decide_eq_true_eq, decide_eq_false_iff_not, Int.toNat_natCast, toNat_pred, toNat_succ, Option.getD_some, Option.getD_none, Bool.not_eq_true', Bool.not_eq_false', Bool.and_eq_true, Bool.or_eq_true, Bool.and_eq_false_iff, Bool.or_eq_false_iff, bne_iff_ne, beq_iff_eq, bne_eq_false_iff_eq, beq_eq_false_iff_ne, ne_eq, not_and, Int.not_le, Int.not_lt, ge_iff_le, gt_iff_lt, Nat.not_lt, Nat.not_le, Bool.not_eq_true, Bool.not_eq_false, Bool.true_eq_false, Bool.false_eq_true, not_false_eq_true, not_true_eq_false] at h)
      | exact goes_none.mpr (by omega)
    all_goals first | (exfalso; omega) | rfl
  | succ k ih =>
    intro i hi
    have ih := ih (i + 1) (by omega)
    have hin := fun x2 x3 x4 x5 R h1 h2 h3 => s43i ac nc mc tc vc gc wc hp h6 i (by omega) R h1 h2 h3 x2 x3 x4 x5 i 0 (Nat.zero_add _) rfl
    simp only [S.cycE]
    cases h2 : S.isNam (tc (i + ac)) <;> cases h3 : S.isNam (vc (i + ac))
    all_goals first
      | (rw [if_pos ⟨rfl, rfl⟩]
         apply Comes.of
         rw [q43]
         simp only [Int.toNat_natCast, h2, h3]
         repeat' first
           | with_reducible refine goes_if (fun h => ?_) (fun h => ?_) <;> (try simp only [lim64, imp_false, decide_eq_true_eq, decide_eq_false_iff_not, Int.toNat_natCast, toNat_pred, toNat_succ, Option.getD_some, Option.getD_none, Bool.not_eq_true', Bool.not_eq_false', Bool.and_eq_true, Bool.or_eq_true, Bool.and_eq_false_iff, Bool.or_eq_false_iff, bne_iff_ne, beq_iff_eq, bne_eq_false_iff_eq, beq_eq_false_iff_ne, ne_eq, not_and, Int.not_le, Int.not_lt, ge_iff_le, gt_iff_lt, Nat.not_lt, Nat.not_le, Bool.not_eq_true, Bool.not_eq_false, Bool.true_eq_false, Bool.false_eq_true, not_false_eq_true, not_true_eq_false] at h)
           | exact goes_none.mpr (by omega)
         all_goals first | (exfalso; omega) | skip
         refine hin _ _ _ _ _ (fun ha hr => ?_) (fun ha => ?_) (fun ha hr => ?_)
         · rw [if_neg (by rw [ha]; exact Bool.false_ne_true), if_pos hr]; exact ih
         · rw [if_pos ha]
         · rw [if_neg (by rw [ha]; exact Bool.false_ne_true), if_neg hr])
      | (rw [if_neg (by simp)]
         clear hin ih
         apply Comes.of
         rw [q43]
         simp only [Int.toNat_natCast, h2, h3]
         repeat' first
           | with_reducible refine goes_if (fun h => ?_) (fun h => ?_) <;> (try simp only [lim64, imp_false, decide_eq_true_eq, decide_eq_false_iff_not, Int.toNat_natCast, toNat_pred, toNat_succ, Option.getD_some, Option.getD_none, Bool.not_eq_true', Bool.not_eq_false', Bool.and_eq_true, Bool.or_eq_true, Bool.and_eq_false_iff, Bool.or_eq_false_iff, bne_iff_ne, beq_iff_eq, bne_eq_false_iff_eq, beq_eq_false_iff_ne, ne_eq, not_and, Int.not_le, Int.not_lt, ge_iff_le, gt_iff_lt, Nat.not_lt, Nat.not_le, Bool.not_eq_true, Bool.not_eq_false, Bool.true_eq_false, Bool.false_eq_true, not_false_eq_true, not_true_eq_false] at h)
           | exact goes_none.mpr (by omega)
         all_goals first | (exfalso; omega) | rfl)
theorem s43 (ac nc mc : Nat) (tc : Nat → ByteArray) (vc : Nat → ByteArray) (gc : Nat → Int) (wc : Nat → Bool) (hp : ac + nc ≤ mc) : Goes ((q43 ac nc mc tc vc gc wc)) ((p43 ac nc mc tc vc gc wc)) (S.cycS nc (fun j => tc (j + ac)) (fun j => vc (j + ac)) (fun j => gc (j + ac))) := by
  unfold S.cycS
  unfold p43
  by_cases h0 : nc = 0
  · rw [if_pos h0]
    exact goes_ok (by subst h0; rfl) rfl
  · rw [if_neg h0]
    have hd : ((nc : Int) == 0) = false := by simp; omega
    refine goes_no hd ?_
    by_cases h1 : 6 < nc
    · rw [if_pos h1]
      exact goes_ok (decide_eq_true (by omega)) rfl
    · rw [if_neg h1]
      exact goes_no (decide_eq_false (by omega)) (s43o ac nc mc tc vc gc wc hp (by omega) nc 0 (Nat.zero_add _))

theorem k43_ok : k43.ok Try.prog := by
  intro x hx
  obtain ⟨⟨ac, nc, mc, tc, vc, gc, wc, _⟩, _⟩ := x
  obtain ⟨h1, h2⟩ := a43 ac nc mc tc vc gc wc (s43 ac nc mc tc vc gc wc (of_dec hx rfl))
  exact ⟨⟨400, (by decide : 1 + 1 + 0 ≤ 400), h1⟩, h2⟩
noncomputable def xC (test : Bool → Prop → Prop → Prop) : Ext := consX test [k43, k76]
theorem xC_ok : ExtOk Try.prog (xC cond) := consX_ok ⟨k43_ok, k76_ok, trivial⟩

end Go.Ev
