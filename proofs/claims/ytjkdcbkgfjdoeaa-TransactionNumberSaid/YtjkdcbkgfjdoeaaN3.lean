/-
  Are two states the same?
-/
import Derived.Test.YtjkdcbkgfjdoeaaN0
namespace Go.Ev
open Go.Proofs
set_option linter.unusedVariables false
set_option linter.unusedSimpArgs false
set_option maxRecDepth 100000
inductive St23 where
  | h0 (x0 : Int)
abbrev Rt23 := Bool
noncomputable def V23 (c0 : Int) (c1 : Bool) (aa na ma : Nat) (ta : Nat → Int) (va : Nat → Int) (ga : Nat → Int) (c2 : Int) (c3 : Bool) (ab nb mb : Nat) (tb : Nat → Int) (vb : Nat → Int) (gb : Nat → Int) (r : Rt23) : PV := PV.bool r
noncomputable def N23 (c0 : Int) (c1 : Bool) (aa na ma : Nat) (ta : Nat → Int) (va : Nat → Int) (ga : Nat → Int) (c2 : Int) (c3 : Bool) (ab nb mb : Nat) (tb : Nat → Int) (vb : Nat → Int) (gb : Nat → Int) (r : Rt23) : List Blk := []
noncomputable def I23 (c0 : Int) (c1 : Bool) (aa na ma : Nat) (ta : Nat → Int) (va : Nat → Int) (ga : Nat → Int) (c2 : Int) (c3 : Bool) (ab nb mb : Nat) (tb : Nat → Int) (vb : Nat → Int) (gb : Nat → Int) : St23 → Hd
  | .h0 x0 => ⟨hd Try.f23 0, [PV.ptr (PA.mk (2) (0) (0) (0)),
 PV.ptr (PA.mk (3) (0) (0) (0)), PV.int IntKind.i64 x0], [[(2, (true, Blk.cells
 [PV.int IntKind.i64 c0, PV.bool c1,
 PV.loose (PA.mk (0) (3) aa (0)) na])), (3, (true, Blk.cells
 [PV.int IntKind.i64 c2, PV.bool c3,
 PV.loose (PA.mk (1) (3) ab (0)) nb]))], [(0, (false, .cols ma [.int .i64 ta, .int .i64 va, .int .i64 ga])), (1, (false, .cols mb [.int .i64 tb, .int .i64 vb, .int .i64 gb]))]], 4⟩
noncomputable def q23 (c0 : Int) (c1 : Bool) (aa na ma : Nat) (ta : Nat → Int) (va : Nat → Int) (ga : Nat → Int) (c2 : Int) (c3 : Bool) (ab nb mb : Nat) (tb : Nat → Int) (vb : Nat → Int) (gb : Nat → Int) : St23 → Option (St23 ⊕ Rt23)
  | .h0 x0 => bif (decide (x0 < (↑na : Int)))
 then (bif (decide ((0 : Int) ≤ x0 ∧ x0 < (↑na : Int)))
 then (bif (decide (Int.toNat x0 + aa < ma))
 then (bif (decide ((0 : Int) ≤ x0 ∧ x0 < (↑nb : Int)))
 then (bif (decide (Int.toNat x0 + ab < mb))
 then (bif (!(ta (Int.toNat x0 + aa) == tb (Int.toNat x0 + ab) &&
 (va (Int.toNat x0 + aa) == vb (Int.toNat x0 + ab) &&
 (ga (Int.toNat x0 + aa) == gb (Int.toNat x0 + ab) && true))))
 then (some (.inr (false)))
 else (bif (lim IntKind.i64 (x0 + (1 : Int)))
 then (some (.inl (.h0 (x0 + (1 : Int)))))
 else (none)))
 else (none))
 else (none))
 else (none))
 else (none))
 else (some (.inr (true)))
noncomputable def p23 (c0 : Int) (c1 : Bool) (aa na ma : Nat) (ta : Nat → Int) (va : Nat → Int) (ga : Nat → Int) (c2 : Int) (c3 : Bool) (ab nb mb : Nat) (tb : Nat → Int) (vb : Nat → Int) (gb : Nat → Int) : Option (St23 ⊕ Rt23) := bif (c0 != c2)
 then (some (.inr (false)))
 else (bif (c1)
 then (bif (c3)
 then (bif ((↑na : Int) != (↑nb : Int))
 then (some (.inr (false)))
 else (some (.inl (.h0 ((0 : Int))))))
 else (some (.inr (false))))
 else (bif (c3)
 then (some (.inr (false)))
 else (bif ((↑na : Int) != (↑nb : Int))
 then (some (.inr (false)))
 else (some (.inl (.h0 ((0 : Int))))))))
noncomputable def Te23 (test : Bool → Prop → Prop → Prop) (Kst : KS) (Kret : KR) (c0 : Int) (c1 : Bool) (aa na ma : Nat) (ta : Nat → Int) (va : Nat → Int) (ga : Nat → Int) (c2 : Int) (c3 : Bool) (ab nb mb : Nat) (tb : Nat → Int) (vb : Nat → Int) (gb : Nat → Int) : Prop :=
  test (c0 != c2)
 (Kret (PV.tf false) ([[(1, false,
 Blk.cols mb
 [Col.int IntKind.i64 tb, Col.int IntKind.i64 vb, Col.int IntKind.i64 gb]),
 (0, false,
 Blk.cols ma
 [Col.int IntKind.i64 ta, Col.int IntKind.i64 va, Col.int IntKind.i64 ga])]]) (4))
 (test (c1)
 (test (c3)
 (test ((↑na : Int) != (↑nb : Int))
 (Kret (PV.tf false) ([[(1, false,
 Blk.cols mb
 [Col.int IntKind.i64 tb, Col.int IntKind.i64 vb, Col.int IntKind.i64 gb]),
 (0, false,
 Blk.cols ma
 [Col.int IntKind.i64 ta, Col.int IntKind.i64 va, Col.int IntKind.i64 ga])]]) (4))
 (Kst (hd Try.f23 0) ([PV.ptr (PA.mk (2) (0) (0) (0)),
 PV.ptr (PA.mk (3) (0) (0) (0)), PV.int IntKind.i64 (0 : Int)]) ([[(1, false,
 Blk.cols mb
 [Col.int IntKind.i64 tb, Col.int IntKind.i64 vb, Col.int IntKind.i64 gb]),
 (0, false,
 Blk.cols ma
 [Col.int IntKind.i64 ta, Col.int IntKind.i64 va, Col.int IntKind.i64 ga]),
 (3, true,
 Blk.cells
 [PV.int IntKind.i64 c2, PV.bool c3,
 PV.loose (PA.mk (1) (3) ab (0)) nb]),
 (2, true,
 Blk.cells
 [PV.int IntKind.i64 c0, PV.bool c1,
 PV.loose (PA.mk (0) (3) aa (0)) na])]]) (4)))
 (Kret (PV.tf false) ([[(1, false,
 Blk.cols mb
 [Col.int IntKind.i64 tb, Col.int IntKind.i64 vb, Col.int IntKind.i64 gb]),
 (0, false,
 Blk.cols ma
 [Col.int IntKind.i64 ta, Col.int IntKind.i64 va, Col.int IntKind.i64 ga])]]) (4)))
 (test (c3)
 (Kret (PV.tf false) ([[(1, false,
 Blk.cols mb
 [Col.int IntKind.i64 tb, Col.int IntKind.i64 vb, Col.int IntKind.i64 gb]),
 (0, false,
 Blk.cols ma
 [Col.int IntKind.i64 ta, Col.int IntKind.i64 va, Col.int IntKind.i64 ga])]]) (4))
 (test ((↑na : Int) != (↑nb : Int))
 (Kret (PV.tf false) ([[(1, false,
 Blk.cols mb
 [Col.int IntKind.i64 tb, Col.int IntKind.i64 vb, Col.int IntKind.i64 gb]),
 (0, false,
 Blk.cols ma
 [Col.int IntKind.i64 ta, Col.int IntKind.i64 va, Col.int IntKind.i64 ga])]]) (4))
 (Kst (hd Try.f23 0) ([PV.ptr (PA.mk (2) (0) (0) (0)),
 PV.ptr (PA.mk (3) (0) (0) (0)), PV.int IntKind.i64 (0 : Int)]) ([[(1, false,
 Blk.cols mb
 [Col.int IntKind.i64 tb, Col.int IntKind.i64 vb, Col.int IntKind.i64 gb]),
 (0, false,
 Blk.cols ma
 [Col.int IntKind.i64 ta, Col.int IntKind.i64 va, Col.int IntKind.i64 ga]),
 (3, true,
 Blk.cells
 [PV.int IntKind.i64 c2, PV.bool c3,
 PV.loose (PA.mk (1) (3) ab (0)) nb]),
 (2, true,
 Blk.cells
 [PV.int IntKind.i64 c0, PV.bool c1,
 PV.loose (PA.mk (0) (3) aa (0)) na])]]) (4)))))
set_option maxRecDepth 100000 in
theorem te23 (test : Bool → Prop → Prop → Prop) (Kst : KS) (Kret : KR) (c0 : Int) (c1 : Bool) (aa na ma : Nat) (ta : Nat → Int) (va : Nat → Int) (ga : Nat → Int) (c2 : Int) (c3 : Bool) (ab nb mb : Nat) (tb : Nat → Int) (vb : Nat → Int) (gb : Nat → Int) : run test Try.env true noX true 400 ⟨23, [.cd (mkFn Try.f23).body], argT 0 [.agg [.int .i64 c0, .bool c1, .loose ⟨0, 3, aa, 0⟩ na], .agg [.int .i64 c2, .bool c3, .loose ⟨1, 3, ab, 0⟩ nb]], [[], [(0, (false, .cols ma [.int .i64 ta, .int .i64 va, .int .i64 ga])), (1, (false, .cols mb [.int .i64 tb, .int .i64 vb, .int .i64 gb]))]], 2⟩ (proj 2 [2, 3, 5] Kst Kret) =
  Te23 test Kst Kret c0 c1 aa na ma ta va ga c2 c3 ab nb mb tb vb gb := by kernel_rfl
noncomputable def T23_0 (test : Bool → Prop → Prop → Prop) (Kst : KS) (Kret : KR) (c0 : Int) (c1 : Bool) (aa na ma : Nat) (ta : Nat → Int) (va : Nat → Int) (ga : Nat → Int) (c2 : Int) (c3 : Bool) (ab nb mb : Nat) (tb : Nat → Int) (vb : Nat → Int) (gb : Nat → Int) (x0 : Int) : Prop :=
  test (decide (x0 < (↑na : Int)))
 (test (decide ((0 : Int) ≤ x0 ∧ x0 < (↑na : Int)))
 (test (decide (Int.toNat x0 + aa < ma))
 (test (decide (Int.toNat x0 + aa < ma))
 (test (decide (Int.toNat x0 + aa < ma))
 (test (decide ((0 : Int) ≤ x0 ∧ x0 < (↑nb : Int)))
 (test (decide (Int.toNat x0 + ab < mb))
 (test (decide (Int.toNat x0 + ab < mb))
 (test (decide (Int.toNat x0 + ab < mb))
 (test (!(ta (Int.toNat x0 + aa) == tb (Int.toNat x0 + ab) &&
 (va (Int.toNat x0 + aa) == vb (Int.toNat x0 + ab) &&
 (ga (Int.toNat x0 + aa) == gb (Int.toNat x0 + ab) && true))))
 (Kret (PV.tf false) ([[(1, false,
 Blk.cols mb
 [Col.int IntKind.i64 tb, Col.int IntKind.i64 vb, Col.int IntKind.i64 gb]),
 (0, false,
 Blk.cols ma
 [Col.int IntKind.i64 ta, Col.int IntKind.i64 va, Col.int IntKind.i64 ga])]]) (4))
 (test (lim IntKind.i64 (x0 + (1 : Int)))
 (Kst (hd Try.f23 0) ([PV.ptr (PA.mk (2) (0) (0) (0)),
 PV.ptr (PA.mk (3) (0) (0) (0)),
 PV.int IntKind.i64 (x0 + (1 : Int))]) ([[(1, false,
 Blk.cols mb
 [Col.int IntKind.i64 tb, Col.int IntKind.i64 vb, Col.int IntKind.i64 gb]),
 (0, false,
 Blk.cols ma
 [Col.int IntKind.i64 ta, Col.int IntKind.i64 va, Col.int IntKind.i64 ga]),
 (3, true,
 Blk.cells
 [PV.int IntKind.i64 c2, PV.bool c3,
 PV.loose (PA.mk (1) (3) ab (0)) nb]),
 (2, true,
 Blk.cells
 [PV.int IntKind.i64 c0, PV.bool c1,
 PV.loose (PA.mk (0) (3) aa (0)) na])]]) (4))
 (False)))
 (False))
 (False))
 (False))
 (False))
 (False))
 (False))
 (False))
 (False))
 (Kret (PV.tf true) ([[(1, false,
 Blk.cols mb
 [Col.int IntKind.i64 tb, Col.int IntKind.i64 vb, Col.int IntKind.i64 gb]),
 (0, false,
 Blk.cols ma
 [Col.int IntKind.i64 ta, Col.int IntKind.i64 va, Col.int IntKind.i64 ga])]]) (4))
set_option maxRecDepth 100000 in
theorem t23_0 (test : Bool → Prop → Prop → Prop) (Kst : KS) (Kret : KR) (c0 : Int) (c1 : Bool) (aa na ma : Nat) (ta : Nat → Int) (va : Nat → Int) (ga : Nat → Int) (c2 : Int) (c3 : Bool) (ab nb mb : Nat) (tb : Nat → Int) (vb : Nat → Int) (gb : Nat → Int) (x0 : Int) : run test Try.env true noX true 400 ⟨23, hd Try.f23 0, zipT [2, 3, 5] [PV.ptr (PA.mk (2) (0) (0) (0)),
 PV.ptr (PA.mk (3) (0) (0) (0)), PV.int IntKind.i64 x0], [[(2, (true, Blk.cells
 [PV.int IntKind.i64 c0, PV.bool c1,
 PV.loose (PA.mk (0) (3) aa (0)) na])), (3, (true, Blk.cells
 [PV.int IntKind.i64 c2, PV.bool c3,
 PV.loose (PA.mk (1) (3) ab (0)) nb]))], [(0, (false, .cols ma [.int .i64 ta, .int .i64 va, .int .i64 ga])), (1, (false, .cols mb [.int .i64 tb, .int .i64 vb, .int .i64 gb]))]], 4⟩ (proj 2 [2, 3, 5] Kst Kret) =
  T23_0 test Kst Kret c0 c1 aa na ma ta va ga c2 c3 ab nb mb tb vb gb x0 := by kernel_rfl
set_option maxRecDepth 100000 in
theorem be23 (c0 : Int) (c1 : Bool) (aa na ma : Nat) (ta : Nat → Int) (va : Nat → Int) (ga : Nat → Int) (c2 : Int) (c3 : Bool) (ab nb mb : Nat) (tb : Nat → Int) (vb : Nat → Int) (gb : Nat → Int) (Kst : KS) (Kret : KR) (x : St23 ⊕ Rt23) (hS : HS 2 400 ((I23 c0 c1 aa na ma ta va ga c2 c3 ab nb mb tb vb gb)) Kst x) (hR : HR 2 400 ((V23 c0 c1 aa na ma ta va ga c2 c3 ab nb mb tb vb gb)) (fun r => [newL (2 + 1) ((N23 c0 c1 aa na ma ta va ga c2 c3 ab nb mb tb vb gb) r) ++ [(0, (false, .cols ma [.int .i64 ta, .int .i64 va, .int .i64 ga])), (1, (false, .cols mb [.int .i64 tb, .int .i64 vb, .int .i64 gb]))]]) Kret x) (h : (bif (c0 != c2)
 then (some (.inr (false)))
 else (bif (c1)
 then (bif (c3)
 then (bif ((↑na : Int) != (↑nb : Int))
 then (some (.inr (false)))
 else (some (.inl (.h0 ((0 : Int))))))
 else (some (.inr (false))))
 else (bif (c3)
 then (some (.inr (false)))
 else (bif ((↑na : Int) != (↑nb : Int))
 then (some (.inr (false)))
 else (some (.inl (.h0 ((0 : Int)))))))) : Option (St23 ⊕ Rt23)) = some x) : Te23 cond Kst Kret c0 c1 aa na ma ta va ga c2 c3 ab nb mb tb vb gb := by
  unfold Te23
  exact bif_split h
   (fun c0 h => ret_at hR _ h (fun n => n) rfl rfl rfl (rn_bool_tf rfl) rfl (entl_bor (use_lo rfl) rfl rfl (entl_bor (use_lo rfl) rfl rfl entl_nil)))
   (fun c0 h => bif_split h
   (fun c1 h => bif_split h
   (fun c2 h => bif_split h
   (fun c3 h => ret_at hR _ h (fun n => n) rfl rfl rfl (rn_bool_tf rfl) rfl (entl_bor (use_lo rfl) rfl rfl (entl_bor (use_lo rfl) rfl rfl entl_nil)))
   (fun c3 h => stop_at hS _ h (fun n => bif Nat.beq n 2 then 2 else bif Nat.beq n 3 then 3 else n) rfl rfl rfl ⟨(rn_ptr (use_own rfl) rfl rfl), ⟨(rn_ptr (use_own rfl) rfl rfl), ⟨(rn_int rfl), trivial⟩⟩⟩ rfl (entl_b (use_own rfl) rfl (by simp) (rb_cells ⟨(rn_int rfl), (rn_bool rfl), (rn_loose (use_lo rfl) rfl rfl rfl), trivial⟩) (entl_b (use_own rfl) rfl (by simp) (rb_cells ⟨(rn_int rfl), (rn_bool rfl), (rn_loose (use_lo rfl) rfl rfl rfl), trivial⟩) (entl_bor (use_lo rfl) rfl rfl (entl_bor (use_lo rfl) rfl rfl entl_nil))))))
   (fun c2 h => ret_at hR _ h (fun n => n) rfl rfl rfl (rn_bool_tf rfl) rfl (entl_bor (use_lo rfl) rfl rfl (entl_bor (use_lo rfl) rfl rfl entl_nil))))
   (fun c1 h => bif_split h
   (fun c2 h => ret_at hR _ h (fun n => n) rfl rfl rfl (rn_bool_tf rfl) rfl (entl_bor (use_lo rfl) rfl rfl (entl_bor (use_lo rfl) rfl rfl entl_nil)))
   (fun c2 h => bif_split h
   (fun c3 h => ret_at hR _ h (fun n => n) rfl rfl rfl (rn_bool_tf rfl) rfl (entl_bor (use_lo rfl) rfl rfl (entl_bor (use_lo rfl) rfl rfl entl_nil)))
   (fun c3 h => stop_at hS _ h (fun n => bif Nat.beq n 2 then 2 else bif Nat.beq n 3 then 3 else n) rfl rfl rfl ⟨(rn_ptr (use_own rfl) rfl rfl), ⟨(rn_ptr (use_own rfl) rfl rfl), ⟨(rn_int rfl), trivial⟩⟩⟩ rfl (entl_b (use_own rfl) rfl (by simp) (rb_cells ⟨(rn_int rfl), (rn_bool rfl), (rn_loose (use_lo rfl) rfl rfl rfl), trivial⟩) (entl_b (use_own rfl) rfl (by simp) (rb_cells ⟨(rn_int rfl), (rn_bool rfl), (rn_loose (use_lo rfl) rfl rfl rfl), trivial⟩) (entl_bor (use_lo rfl) rfl rfl (entl_bor (use_lo rfl) rfl rfl entl_nil))))))))
set_option maxRecDepth 100000 in
theorem b23_0 (c0 : Int) (c1 : Bool) (aa na ma : Nat) (ta : Nat → Int) (va : Nat → Int) (ga : Nat → Int) (c2 : Int) (c3 : Bool) (ab nb mb : Nat) (tb : Nat → Int) (vb : Nat → Int) (gb : Nat → Int) (Kst : KS) (Kret : KR) (x : St23 ⊕ Rt23) (hS : HS 2 400 ((I23 c0 c1 aa na ma ta va ga c2 c3 ab nb mb tb vb gb)) Kst x) (hR : HR 2 400 ((V23 c0 c1 aa na ma ta va ga c2 c3 ab nb mb tb vb gb)) (fun r => [newL (2 + 1) ((N23 c0 c1 aa na ma ta va ga c2 c3 ab nb mb tb vb gb) r) ++ [(0, (false, .cols ma [.int .i64 ta, .int .i64 va, .int .i64 ga])), (1, (false, .cols mb [.int .i64 tb, .int .i64 vb, .int .i64 gb]))]]) Kret x) (x0 : Int) (h : (bif (decide (x0 < (↑na : Int)))
 then (bif (decide ((0 : Int) ≤ x0 ∧ x0 < (↑na : Int)))
 then (bif (decide (Int.toNat x0 + aa < ma))
 then (bif (decide ((0 : Int) ≤ x0 ∧ x0 < (↑nb : Int)))
 then (bif (decide (Int.toNat x0 + ab < mb))
 then (bif (!(ta (Int.toNat x0 + aa) == tb (Int.toNat x0 + ab) &&
 (va (Int.toNat x0 + aa) == vb (Int.toNat x0 + ab) &&
 (ga (Int.toNat x0 + aa) == gb (Int.toNat x0 + ab) && true))))
 then (some (.inr (false)))
 else (bif (lim IntKind.i64 (x0 + (1 : Int)))
 then (some (.inl (.h0 (x0 + (1 : Int)))))
 else (none)))
 else (none))
 else (none))
 else (none))
 else (none))
 else (some (.inr (true))) : Option (St23 ⊕ Rt23)) = some x) : T23_0 cond Kst Kret c0 c1 aa na ma ta va ga c2 c3 ab nb mb tb vb gb x0 := by
  unfold T23_0
  exact bif_split h
   (fun c0 h => bif_split h
   (fun c1 h => bif_split h
   (fun c2 h => cond_yes c2 (cond_yes c2 (bif_split h
   (fun c3 h => bif_split h
   (fun c4 h => cond_yes c4 (cond_yes c4 (bif_split h
   (fun c5 h => ret_at hR _ h (fun n => n) rfl rfl rfl (rn_bool_tf rfl) rfl (entl_bor (use_lo rfl) rfl rfl (entl_bor (use_lo rfl) rfl rfl entl_nil)))
   (fun c5 h => bif_split h
   (fun c6 h => stop_at hS _ h (fun n => bif Nat.beq n 2 then 2 else bif Nat.beq n 3 then 3 else n) rfl rfl rfl ⟨(rn_ptr (use_own rfl) rfl rfl), ⟨(rn_ptr (use_own rfl) rfl rfl), ⟨(rn_int rfl), trivial⟩⟩⟩ rfl (entl_b (use_own rfl) rfl (by simp) (rb_cells ⟨(rn_int rfl), (rn_bool rfl), (rn_loose (use_lo rfl) rfl rfl rfl), trivial⟩) (entl_b (use_own rfl) rfl (by simp) (rb_cells ⟨(rn_int rfl), (rn_bool rfl), (rn_loose (use_lo rfl) rfl rfl rfl), trivial⟩) (entl_bor (use_lo rfl) rfl rfl (entl_bor (use_lo rfl) rfl rfl entl_nil)))))
   (fun c6 h => no_some h)))))
   (fun c4 h => no_some h))
   (fun c3 h => no_some h))))
   (fun c2 h => no_some h))
   (fun c1 h => no_some h))
   (fun c0 h => ret_at hR _ h (fun n => n) rfl rfl rfl (rn_bool_tf rfl) rfl (entl_bor (use_lo rfl) rfl rfl (entl_bor (use_lo rfl) rfl rfl entl_nil)))
theorem a23 (c0 : Int) (c1 : Bool) (aa na ma : Nat) (ta : Nat → Int) (va : Nat → Int) (ga : Nat → Int) (c2 : Int) (c3 : Bool) (ab nb mb : Nat) (tb : Nat → Int) (vb : Nat → Int) (gb : Nat → Int) {r : Rt23} (h : Goes ((q23 c0 c1 aa na ma ta va ga c2 c3 ab nb mb tb vb gb)) ((p23 c0 c1 aa na ma ta va ga c2 c3 ab nb mb tb vb gb)) r) : CallR Try.prog 23 [.agg [.int .i64 c0, .bool c1, .loose ⟨0, 3, aa, 0⟩ na], .agg [.int .i64 c2, .bool c3, .loose ⟨1, 3, ab, 0⟩ nb]] [[(0, (false, .cols ma [.int .i64 ta, .int .i64 va, .int .i64 ga])), (1, (false, .cols mb [.int .i64 tb, .int .i64 vb, .int .i64 gb]))]] 2 ((V23 c0 c1 aa na ma ta va ga c2 c3 ab nb mb tb vb gb) r) ((fun r => [newL (2 + 1) ((N23 c0 c1 aa na ma ta va ga c2 c3 ab nb mb tb vb gb) r) ++ [(0, (false, .cols ma [.int .i64 ta, .int .i64 va, .int .i64 ga])), (1, (false, .cols mb [.int .i64 tb, .int .i64 vb, .int .i64 gb]))]]) r) 400 ∧ ∃ F, Try.prog.funcs[23]? = some F ∧ F.body.isSome = true ∧ (F.name == "runtime.NumGoroutine") = false := by
  refine dec_calls (f := 23) (lo := 2) (hi := 400) (H := [[(0, (false, .cols ma [.int .i64 ta, .int .i64 va, .int .i64 ga])), (1, (false, .cols mb [.int .i64 tb, .int .i64 vb, .int .i64 gb]))]]) (args := [.agg [.int .i64 c0, .bool c1, .loose ⟨0, 3, aa, 0⟩ na], .agg [.int .i64 c2, .bool c3, .loose ⟨1, 3, ab, 0⟩ nb]]) Try.envOk Try.mixed noX_ok ((I23 c0 c1 aa na ma ta va ga c2 c3 ab nb mb tb vb gb)) ((V23 c0 c1 aa na ma ta va ga c2 c3 ab nb mb tb vb gb)) (fun r => [newL (2 + 1) ((N23 c0 c1 aa na ma ta va ga c2 c3 ab nb mb tb vb gb) r) ++ [(0, (false, .cols ma [.int .i64 ta, .int .i64 va, .int .i64 ga])), (1, (false, .cols mb [.int .i64 tb, .int .i64 vb, .int .i64 gb]))]]) (fn := mkFn Try.f23) (ts := [2, 3, 5]) (n := 400) rfl (by decide) (by simp) (names_of rfl) ?_ ?_ ?_ h
  · intro s; cases s <;> exact ⟨hd_ok _ _, by simp [I23], names_of rfl, Nat.le_of_ble_eq_true rfl⟩
  · intro Kst Kret x hS hR h
    exact Holds.eq (te23 cond Kst Kret c0 c1 aa na ma ta va ga c2 c3 ab nb mb tb vb gb) (be23 c0 c1 aa na ma ta va ga c2 c3 ab nb mb tb vb gb Kst Kret x hS hR h)
  · intro Kst Kret x hS hR s h
    cases s with
    | h0 x0 => exact Holds.eq (t23_0 cond Kst Kret c0 c1 aa na ma ta va ga c2 c3 ab nb mb tb vb gb x0) (b23_0 c0 c1 aa na ma ta va ga c2 c3 ab nb mb tb vb gb Kst Kret x hS hR x0 h)
noncomputable def k23 : Con := ⟨23, [.agg [.plain (.int .i64), .plain (.bool), .list [.int .i64, .int .i64, .int .i64]], .agg [.plain (.int .i64), .plain (.bool), .list [.int .i64, .int .i64, .int .i64]]], fun (x : (Int × Bool × (Nat × Nat × Nat × (Nat → Int) × (Nat → Int) × (Nat → Int) × Unit) × Unit) × (Int × Bool × (Nat × Nat × Nat × (Nat → Int) × (Nat → Int) × (Nat → Int) × Unit) × Unit) × Unit) => (fun (c0 : Int) (c1 : Bool) (aa na ma : Nat) (ta : Nat → Int) (va : Nat → Int) (ga : Nat → Int) (c2 : Int) (c3 : Bool) (ab nb mb : Nat) (tb : Nat → Int) (vb : Nat → Int) (gb : Nat → Int) => decide (aa + na ≤ ma ∧ na ≤ 1000000 ∧ ab + nb ≤ mb ∧ nb ≤ 1000000)) x.1.1 x.1.2.1 x.1.2.2.1.1 x.1.2.2.1.2.1 x.1.2.2.1.2.2.1 x.1.2.2.1.2.2.2.1 x.1.2.2.1.2.2.2.2.1 x.1.2.2.1.2.2.2.2.2.1 x.2.1.1 x.2.1.2.1 x.2.1.2.2.1.1 x.2.1.2.2.1.2.1 x.2.1.2.2.1.2.2.1 x.2.1.2.2.1.2.2.2.1 x.2.1.2.2.1.2.2.2.2.1 x.2.1.2.2.1.2.2.2.2.2.1, fun (x : (Int × Bool × (Nat × Nat × Nat × (Nat → Int) × (Nat → Int) × (Nat → Int) × Unit) × Unit) × (Int × Bool × (Nat × Nat × Nat × (Nat → Int) × (Nat → Int) × (Nat → Int) × Unit) × Unit) × Unit) => (fun (c0 : Int) (c1 : Bool) (aa na ma : Nat) (ta : Nat → Int) (va : Nat → Int) (ga : Nat → Int) (c2 : Int) (c3 : Bool) (ab nb mb : Nat) (tb : Nat → Int) (vb : Nat → Int) (gb : Nat → Int) => (V23 c0 c1 aa na ma ta va ga c2 c3 ab nb mb tb vb gb) (S.sameB c0 c1 c2 c3 (S.mkl na fun j => (ta (j + aa), va (j + aa), ga (j + aa))) (S.mkl nb fun j => (tb (j + ab), vb (j + ab), gb (j + ab))))) x.1.1 x.1.2.1 x.1.2.2.1.1 x.1.2.2.1.2.1 x.1.2.2.1.2.2.1 x.1.2.2.1.2.2.2.1 x.1.2.2.1.2.2.2.2.1 x.1.2.2.1.2.2.2.2.2.1 x.2.1.1 x.2.1.2.1 x.2.1.2.2.1.1 x.2.1.2.2.1.2.1 x.2.1.2.2.1.2.2.1 x.2.1.2.2.1.2.2.2.1 x.2.1.2.2.1.2.2.2.2.1 x.2.1.2.2.1.2.2.2.2.2.1, fun (x : (Int × Bool × (Nat × Nat × Nat × (Nat → Int) × (Nat → Int) × (Nat → Int) × Unit) × Unit) × (Int × Bool × (Nat × Nat × Nat × (Nat → Int) × (Nat → Int) × (Nat → Int) × Unit) × Unit) × Unit) => (fun (c0 : Int) (c1 : Bool) (aa na ma : Nat) (ta : Nat → Int) (va : Nat → Int) (ga : Nat → Int) (c2 : Int) (c3 : Bool) (ab nb mb : Nat) (tb : Nat → Int) (vb : Nat → Int) (gb : Nat → Int) => (N23 c0 c1 aa na ma ta va ga c2 c3 ab nb mb tb vb gb) (S.sameB c0 c1 c2 c3 (S.mkl na fun j => (ta (j + aa), va (j + aa), ga (j + aa))) (S.mkl nb fun j => (tb (j + ab), vb (j + ab), gb (j + ab))))) x.1.1 x.1.2.1 x.1.2.2.1.1 x.1.2.2.1.2.1 x.1.2.2.1.2.2.1 x.1.2.2.1.2.2.2.1 x.1.2.2.1.2.2.2.2.1 x.1.2.2.1.2.2.2.2.2.1 x.2.1.1 x.2.1.2.1 x.2.1.2.2.1.1 x.2.1.2.2.1.2.1 x.2.1.2.2.1.2.2.1 x.2.1.2.2.1.2.2.2.1 x.2.1.2.2.1.2.2.2.2.1 x.2.1.2.2.1.2.2.2.2.2.1, fun _ _ => .dead⟩
theorem s23' (c0 : Int) (c1 : Bool) (aa na ma : Nat) (ta : Nat → Int) (va : Nat → Int) (ga : Nat → Int) (c2 : Int) (c3 : Bool) (ab nb mb : Nat) (tb : Nat → Int) (vb : Nat → Int) (gb : Nat → Int) (hp : aa + na ≤ ma ∧ na ≤ 1000000 ∧ ab + nb ≤ mb ∧ nb ≤ 1000000) (he : na = nb) : ∀ k i : Nat, i + k = na → (∀ j, j < i → (ta (j + aa) = tb (j + ab) ∧ va (j + aa) = vb (j + ab) ∧ ga (j + aa) = gb (j + ab))) → Comes (q23 c0 c1 aa na ma ta va ga c2 c3 ab nb mb tb vb gb) (.h0 (i : Int)) (decide ((S.mkl na fun j => (ta (j + aa), va (j + aa), ga (j + aa))) = (S.mkl nb fun j => (tb (j + ab), vb (j + ab), gb (j + ab))))) := by
  obtain ⟨hp1, hp2, hp3, hp4⟩ := hp
  have hq : decide ((S.mkl na fun j => (ta (j + aa), va (j + aa), ga (j + aa))) = (S.mkl nb fun j => (tb (j + ab), vb (j + ab), gb (j + ab)))) = true ↔ ∀ j, j < na → (ta (j + aa) = tb (j + ab) ∧ va (j + aa) = vb (j + ab) ∧ ga (j + aa) = gb (j + ab)) := by
    rw [decide_eq_true_eq, mkl_inj]; simp only [he, true_and, Prod.mk.injEq]
  generalize decide ((S.mkl na fun j => (ta (j + aa), va (j + aa), ga (j + aa))) = (S.mkl nb fun j => (tb (j + ab), vb (j + ab), gb (j + ab)))) = R at hq ⊢
  intro k
  induction k with
  | zero =>
    intro i hi hj
    obtain rfl : na = i := by omega
    apply Comes.of
    show Goes _ _ _
    (first | rw [q23] | unfold q23)
    repeat' first
      | with_reducible refine goes_if (fun h => ?_) (fun h => ?_) <;> (try simp only [lim64, decide_eq_true_eq, decide_eq_false_iff_not, Int.toNat_natCast, toNat_pred, toNat_succ, Option.getD_some, Option.getD_none, Bool.not_eq_true', Bool.not_eq_false', Bool.and_eq_true, Bool.or_eq_true, Bool.and_eq_false_iff, Bool.or_eq_false_iff, bne_iff_ne, beq_iff_eq, bne_eq_false_iff_eq, beq_eq_false_iff_ne, ne_eq, not_and, Int.not_le, Int.not_lt, ge_iff_le, gt_iff_lt, Nat.not_lt, Nat.not_le, Bool.not_eq_true, Bool.not_eq_false, Bool.true_eq_false, Bool.false_eq_true, not_false_eq_true, not_true_eq_false] at h)
      | exact goes_none.mpr (by omega)
    all_goals first | (exfalso; omega) | (exact goes_inr.mpr (hq.mpr hj).symm)
  | succ k ih =>
    intro i hi hj
    have hw : ∀ {P : Prop}, (R = true → P) → ¬ P → false = R := fun h1 h2 => by cases R; rfl; exact absurd (h1 rfl) h2
    by_cases hc : (ta (i + aa) = tb (i + ab) ∧ va (i + aa) = vb (i + ab) ∧ ga (i + aa) = gb (i + ab))
    · have ih := ih (i + 1) (by omega) (fun j hlt => by
        rcases Nat.lt_or_eq_of_le (Nat.le_of_lt_succ hlt) with h1 | h1
        · exact hj j h1
        · subst h1; exact hc)
      obtain ⟨e1, e2, e3⟩ := hc
      have hb : (!(ta (i + aa) == tb (i + ab) && (va (i + aa) == vb (i + ab) && (ga (i + aa) == gb (i + ab) && true)))) = false := by rw [e1, e2, e3]; simp
      apply Comes.of
      rw [q23]
      simp only [Int.toNat_natCast, hb]
      repeat' first
        | with_reducible refine goes_if (fun h => ?_) (fun h => ?_) <;> (try simp only [lim64, decide_eq_true_eq, decide_eq_false_iff_not, Int.toNat_natCast, toNat_pred, toNat_succ, Option.getD_some, Option.getD_none, Bool.not_eq_true', Bool.not_eq_false', Bool.and_eq_true, Bool.or_eq_true, Bool.and_eq_false_iff, Bool.or_eq_false_iff, bne_iff_ne, beq_iff_eq, bne_eq_false_iff_eq, beq_eq_false_iff_ne, ne_eq, not_and, Int.not_le, Int.not_lt, ge_iff_le, gt_iff_lt, Nat.not_lt, Nat.not_le, Bool.not_eq_true, Bool.not_eq_false, Bool.true_eq_false, Bool.false_eq_true, not_false_eq_true, not_true_eq_false] at h)
        | exact goes_none.mpr (by omega)
      all_goals first | (exfalso; omega) | exact ih | (exfalso; simp_all; done)
    · have hf := hw (fun e => hq.mp e i (by omega)) hc
      have hb : (!(ta (i + aa) == tb (i + ab) && (va (i + aa) == vb (i + ab) && (ga (i + aa) == gb (i + ab) && true)))) = true := by
        rw [Bool.not_eq_true', Bool.and_true, Bool.eq_false_iff]
        intro h
        simp only [Bool.and_eq_true, beq_iff_eq] at h
        exact hc h
      apply Comes.of
      rw [q23]
      simp only [Int.toNat_natCast, hb]
      repeat' first
        | with_reducible refine goes_if (fun h => ?_) (fun h => ?_) <;> (try simp only [lim64, decide_eq_true_eq, decide_eq_false_iff_not, Int.toNat_natCast, toNat_pred, toNat_succ, Option.getD_some, Option.getD_none, Bool.not_eq_true', Bool.not_eq_false', Bool.and_eq_true, Bool.or_eq_true, Bool.and_eq_false_iff, Bool.or_eq_false_iff, bne_iff_ne, beq_iff_eq, bne_eq_false_iff_eq, beq_eq_false_iff_ne, ne_eq, not_and, Int.not_le, Int.not_lt, ge_iff_le, gt_iff_lt, Nat.not_lt, Nat.not_le, Bool.not_eq_true, Bool.not_eq_false, Bool.true_eq_false, Bool.false_eq_true, not_false_eq_true, not_true_eq_false] at h)
        | exact goes_none.mpr (by omega)
      all_goals first | (exfalso; omega) | exact goes_inr.mpr hf | (exfalso; simp_all; done)
theorem s23 (c0 : Int) (c1 : Bool) (aa na ma : Nat) (ta : Nat → Int) (va : Nat → Int) (ga : Nat → Int) (c2 : Int) (c3 : Bool) (ab nb mb : Nat) (tb : Nat → Int) (vb : Nat → Int) (gb : Nat → Int) (hp : aa + na ≤ ma ∧ na ≤ 1000000 ∧ ab + nb ≤ mb ∧ nb ≤ 1000000) : Goes ((q23 c0 c1 aa na ma ta va ga c2 c3 ab nb mb tb vb gb)) ((p23 c0 c1 aa na ma ta va ga c2 c3 ab nb mb tb vb gb)) (S.sameB c0 c1 c2 c3 (S.mkl na fun j => (ta (j + aa), va (j + aa), ga (j + aa))) (S.mkl nb fun j => (tb (j + ab), vb (j + ab), gb (j + ab)))) := by
  unfold S.sameB
  by_cases h1 : c0 = c2
  · by_cases h2 : c1 = c3
    · have e : decide (c0 = c2 ∧ c1 = c3 ∧ (S.mkl na fun j => (ta (j + aa), va (j + aa), ga (j + aa))) = (S.mkl nb fun j => (tb (j + ab), vb (j + ab), gb (j + ab)))) = decide ((S.mkl na fun j => (ta (j + aa), va (j + aa), ga (j + aa))) = (S.mkl nb fun j => (tb (j + ab), vb (j + ab), gb (j + ab)))) := by simp only [h1, h2, true_and]
      rw [e]
      subst h1 h2
      by_cases he : na = nb
      · have hm := s23' c0 c1 aa na ma ta va ga c0 c1 ab nb mb tb vb gb hp he na 0 (Nat.zero_add _) (fun j hj => absurd hj (Nat.not_lt_zero j))
        cases c1
        · skip
          show Goes _ _ _
          unfold p23
          repeat' first
            | with_reducible refine goes_if (fun h => ?_) (fun h => ?_) <;> (try simp only [lim64, decide_eq_true_eq, decide_eq_false_iff_not, Int.toNat_natCast, toNat_pred, toNat_succ, Option.getD_some, Option.getD_none, Bool.not_eq_true', Bool.not_eq_false', Bool.and_eq_true, Bool.or_eq_true, Bool.and_eq_false_iff, Bool.or_eq_false_iff, bne_iff_ne, beq_iff_eq, bne_eq_false_iff_eq, beq_eq_false_iff_ne, ne_eq, not_and, Int.not_le, Int.not_lt, ge_iff_le, gt_iff_lt, Nat.not_lt, Nat.not_le, Bool.not_eq_true, Bool.not_eq_false, Bool.true_eq_false, Bool.false_eq_true, not_false_eq_true, not_true_eq_false] at h)
            | exact goes_none.mpr (by omega)
          all_goals first | (exfalso; omega) | exact hm
        · skip
          show Goes _ _ _
          unfold p23
          repeat' first
            | with_reducible refine goes_if (fun h => ?_) (fun h => ?_) <;> (try simp only [lim64, decide_eq_true_eq, decide_eq_false_iff_not, Int.toNat_natCast, toNat_pred, toNat_succ, Option.getD_some, Option.getD_none, Bool.not_eq_true', Bool.not_eq_false', Bool.and_eq_true, Bool.or_eq_true, Bool.and_eq_false_iff, Bool.or_eq_false_iff, bne_iff_ne, beq_iff_eq, bne_eq_false_iff_eq, beq_eq_false_iff_ne, ne_eq, not_and, Int.not_le, Int.not_lt, ge_iff_le, gt_iff_lt, Nat.not_lt, Nat.not_le, Bool.not_eq_true, Bool.not_eq_false, Bool.true_eq_false, Bool.false_eq_true, not_false_eq_true, not_true_eq_false] at h)
            | exact goes_none.mpr (by omega)
          all_goals first | (exfalso; omega) | exact hm
      · have hd : decide ((S.mkl na fun j => (ta (j + aa), va (j + aa), ga (j + aa))) = (S.mkl nb fun j => (tb (j + ab), vb (j + ab), gb (j + ab)))) = false := decide_eq_false (fun e => he (mkl_inj.mp e).1)
        rw [hd]
        cases c1
        · skip
          show Goes _ _ _
          unfold p23
          repeat' first
            | with_reducible refine goes_if (fun h => ?_) (fun h => ?_) <;> (try simp only [lim64, decide_eq_true_eq, decide_eq_false_iff_not, Int.toNat_natCast, toNat_pred, toNat_succ, Option.getD_some, Option.getD_none, Bool.not_eq_true', Bool.not_eq_false', Bool.and_eq_true, Bool.or_eq_true, Bool.and_eq_false_iff, Bool.or_eq_false_iff, bne_iff_ne, beq_iff_eq, bne_eq_false_iff_eq, beq_eq_false_iff_ne, ne_eq, not_and, Int.not_le, Int.not_lt, ge_iff_le, gt_iff_lt, Nat.not_lt, Nat.not_le, Bool.not_eq_true, Bool.not_eq_false, Bool.true_eq_false, Bool.false_eq_true, not_false_eq_true, not_true_eq_false] at h)
            | exact goes_none.mpr (by omega)
          all_goals first | (exfalso; omega) | exact goes_inr.mpr rfl
        · skip
          show Goes _ _ _
          unfold p23
          repeat' first
            | with_reducible refine goes_if (fun h => ?_) (fun h => ?_) <;> (try simp only [lim64, decide_eq_true_eq, decide_eq_false_iff_not, Int.toNat_natCast, toNat_pred, toNat_succ, Option.getD_some, Option.getD_none, Bool.not_eq_true', Bool.not_eq_false', Bool.and_eq_true, Bool.or_eq_true, Bool.and_eq_false_iff, Bool.or_eq_false_iff, bne_iff_ne, beq_iff_eq, bne_eq_false_iff_eq, beq_eq_false_iff_ne, ne_eq, not_and, Int.not_le, Int.not_lt, ge_iff_le, gt_iff_lt, Nat.not_lt, Nat.not_le, Bool.not_eq_true, Bool.not_eq_false, Bool.true_eq_false, Bool.false_eq_true, not_false_eq_true, not_true_eq_false] at h)
            | exact goes_none.mpr (by omega)
          all_goals first | (exfalso; omega) | exact goes_inr.mpr rfl
    · rw [decide_eq_false (fun h => h2 h.2.1)]
      cases c1 <;> cases c3
      · exact absurd rfl h2
      · skip
        show Goes _ _ _
        unfold p23
        repeat' first
          | with_reducible refine goes_if (fun h => ?_) (fun h => ?_) <;> (try simp only [lim64, decide_eq_true_eq, decide_eq_false_iff_not, Int.toNat_natCast, toNat_pred, toNat_succ, Option.getD_some, Option.getD_none, Bool.not_eq_true', Bool.not_eq_false', Bool.and_eq_true, Bool.or_eq_true, Bool.and_eq_false_iff, Bool.or_eq_false_iff, bne_iff_ne, beq_iff_eq, bne_eq_false_iff_eq, beq_eq_false_iff_ne, ne_eq, not_and, Int.not_le, Int.not_lt, ge_iff_le, gt_iff_lt, Nat.not_lt, Nat.not_le, Bool.not_eq_true, Bool.not_eq_false, Bool.true_eq_false, Bool.false_eq_true, not_false_eq_true, not_true_eq_false] at h)
          | exact goes_none.mpr (by omega)
        all_goals first | (exfalso; omega) | exact goes_inr.mpr rfl
      · skip
        show Goes _ _ _
        unfold p23
        repeat' first
          | with_reducible refine goes_if (fun h => ?_) (fun h => ?_) <;> (try simp only [lim64, decide_eq_true_eq, decide_eq_false_iff_not, Int.toNat_natCast, toNat_pred, toNat_succ, Option.getD_some, Option.getD_none, Bool.not_eq_true', Bool.not_eq_false', Bool.and_eq_true, Bool.or_eq_true, Bool.and_eq_false_iff, Bool.or_eq_false_iff, bne_iff_ne, beq_iff_eq, bne_eq_false_iff_eq, beq_eq_false_iff_ne, ne_eq, not_and, Int.not_le, Int.not_lt, ge_iff_le, gt_iff_lt, Nat.not_lt, Nat.not_le, Bool.not_eq_true, Bool.not_eq_false, Bool.true_eq_false, Bool.false_eq_true, not_false_eq_true, not_true_eq_false] at h)
          | exact goes_none.mpr (by omega)
        all_goals first | (exfalso; omega) | exact goes_inr.mpr rfl
      · exact absurd rfl h2
  · rw [decide_eq_false (fun h => h1 h.1)]
    show Goes _ _ _
    unfold p23
    repeat' first
      | with_reducible refine goes_if (fun h => ?_) (fun h => ?_) <;> (try simp only [lim64, decide_eq_true_eq, decide_eq_false_iff_not, Int.toNat_natCast, toNat_pred, toNat_succ, Option.getD_some, Option.getD_none, Bool.not_eq_true', Bool.not_eq_false', Bool.and_eq_true, Bool.or_eq_true, Bool.and_eq_false_iff, Bool.or_eq_false_iff, bne_iff_ne, beq_iff_eq, bne_eq_false_iff_eq, beq_eq_false_iff_ne, ne_eq, not_and, Int.not_le, Int.not_lt, ge_iff_le, gt_iff_lt, Nat.not_lt, Nat.not_le, Bool.not_eq_true, Bool.not_eq_false, Bool.true_eq_false, Bool.false_eq_true, not_false_eq_true, not_true_eq_false] at h)
      | exact goes_none.mpr (by omega)
    all_goals first | (exfalso; omega) | exact goes_inr.mpr rfl

theorem k23_ok : k23.ok Try.prog := by
  intro x hx
  obtain ⟨⟨c0, c1, ⟨aa, na, ma, ta, va, ga, _⟩, _⟩, ⟨c2, c3, ⟨ab, nb, mb, tb, vb, gb, _⟩, _⟩, _⟩ := x
  obtain ⟨h1, h2⟩ := a23 c0 c1 aa na ma ta va ga c2 c3 ab nb mb tb vb gb (s23 c0 c1 aa na ma ta va ga c2 c3 ab nb mb tb vb gb (of_dec hx rfl))
  exact ⟨⟨400, (by decide : 2 + 1 + 0 ≤ 400), h1⟩, h2⟩

end Go.Ev
