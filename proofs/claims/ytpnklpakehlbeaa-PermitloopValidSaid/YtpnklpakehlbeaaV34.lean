/-
  The parts that the statement needs, 4 of 4.
-/
import Derived.Test.YtpnklpakehlbeaaV33
namespace Go.Ev
open Go.Proofs
open Go.IntWalk
set_option linter.unusedVariables false
set_option linter.unusedSimpArgs false
set_option maxRecDepth 100000
noncomputable def k12 : Con := ⟨12, [], fun (x : Unit) => decide (True), fun (x : Unit) => V12 (true), fun (x : Unit) => N12 (true), fun _ _ => .dead⟩
theorem s12  (hp : True) : Goes (q12) (p12) (true) := by
  exact goes_inr.mpr rfl
theorem k12_ok : k12.ok Try.prog := by
  intro x hx
  obtain _ := x
  obtain ⟨h1, h2⟩ := a12  (s12  (of_dec hx rfl))
  exact ⟨⟨400, (by decide : 0 + 1 + 0 ≤ 400), h1⟩, h2⟩
abbrev St15 := Empty
abbrev Rt15 := List (ByteArray × Int × Int)
noncomputable def V15 (aq nq mq : Nat) (tq : Nat → ByteArray) (vq : Nat → Int) (gq : Nat → Int) (de : Int) (r : Rt15) : PV := PV.agg [PV.own (2) (3) (List.length r), PV.int IntKind.i64 de]
noncomputable def N15 (aq nq mq : Nat) (tq : Nat → ByteArray) (vq : Nat → Int) (gq : Nat → Int) (de : Int) (r : Rt15) : List Blk := [Blk.cols (List.length r)
 [Col.str fun (j : Nat) => (S.at' r j).1,
 Col.int IntKind.i64 fun (j : Nat) => (S.at' r j).2.1,
 Col.int IntKind.i64 fun (j : Nat) => (S.at' r j).2.2]]
noncomputable def I15 (aq nq mq : Nat) (tq : Nat → ByteArray) (vq : Nat → Int) (gq : Nat → Int) (de : Int) : St15 → Hd := fun s => s.elim
noncomputable def q15 (aq nq mq : Nat) (tq : Nat → ByteArray) (vq : Nat → Int) (gq : Nat → Int) (de : Int) : St15 → Option (St15 ⊕ Rt15) := fun s => s.elim
noncomputable def p15 (aq nq mq : Nat) (tq : Nat → ByteArray) (vq : Nat → Int) (gq : Nat → Int) (de : Int) : Option (St15 ⊕ Rt15) := bif (decide (aq + nq ≤ mq ∧ nq ≤ 1000000))
 then (some (.inr (S.mkl nq fun (j : Nat) => (tq (j + aq), vq (j + aq), gq (j + aq)))))
 else (none)
noncomputable def Te15 (test : Bool → Prop → Prop → Prop) (Kst : KS) (Kret : KR) (aq nq mq : Nat) (tq : Nat → ByteArray) (vq : Nat → Int) (gq : Nat → Int) (de : Int) : Prop :=
  test (decide (aq + nq ≤ mq ∧ nq ≤ 1000000))
 (Kret (PV.agg [PV.own (4) (3) nq, PV.int IntKind.i64 de]) ([[(0, false,
 Blk.cols mq [Col.str tq, Col.int IntKind.i64 vq, Col.int IntKind.i64 gq]),
 (4, true,
 Blk.cols nq
 [Col.str fun (j : Nat) => tq (j + aq), Col.int IntKind.i64 fun (j : Nat) => vq (j + aq),
 Col.int IntKind.i64 fun (j : Nat) => gq (j + aq)])]]) (5))
 (False)
set_option maxRecDepth 100000 in
theorem te15 (test : Bool → Prop → Prop → Prop) (Kst : KS) (Kret : KR) (aq nq mq : Nat) (tq : Nat → ByteArray) (vq : Nat → Int) (gq : Nat → Int) (de : Int) : run test Try.env true (xD test) true 400 ⟨15, [.cd (mkFn Try.f15).body], argT 0 [.agg [.loose ⟨0, 3, aq, 0⟩ nq, .int .i64 de]], [[], [(0, (false, .cols mq [.str tq, .int .i64 vq, .int .i64 gq]))]], 1⟩ (proj 1 [] Kst Kret) =
  Te15 test Kst Kret aq nq mq tq vq gq de := by kernel_rfl
set_option maxRecDepth 100000 in
theorem be15 (aq nq mq : Nat) (tq : Nat → ByteArray) (vq : Nat → Int) (gq : Nat → Int) (de : Int) (Kst : KS) (Kret : KR) (x : St15 ⊕ Rt15) (hS : HS 1 400 ((I15 aq nq mq tq vq gq de)) Kst x) (hR : HR 1 400 ((V15 aq nq mq tq vq gq de)) (fun r => [newL (1 + 1) ((N15 aq nq mq tq vq gq de) r) ++ [(0, (false, .cols mq [.str tq, .int .i64 vq, .int .i64 gq]))]]) Kret x) (h : (bif (decide (aq + nq ≤ mq ∧ nq ≤ 1000000))
 then (some (.inr (S.mkl nq fun (j : Nat) => (tq (j + aq), vq (j + aq), gq (j + aq)))))
 else (none) : Option (St15 ⊕ Rt15)) = some x) : Te15 cond Kst Kret aq nq mq tq vq gq de := by
  unfold Te15
  exact bif_split h
   (fun c0 h => ret_at hR _ h (fun n => bif Nat.beq n 2 then 4 else n) rfl rfl rfl (rn_agg ⟨(rn_own (use_own rfl) rfl mkl_len), (rn_int rfl), trivial⟩) rfl (entl_new (use_own rfl) rfl (Nat.le_of_eq mkl_len) (rcs_str (fun _ hj => col_mkl (fun (t : ByteArray × Int × Int) => t.1) hj) (rcs_int (fun _ hj => col_mkl (fun (t : ByteArray × Int × Int) => t.2.1) hj) (rcs_int (fun _ hj => col_mkl (fun (t : ByteArray × Int × Int) => t.2.2) hj) rcs_nil))) (entl_bor (use_lo rfl) rfl rfl entl_nil)))
   (fun c0 h => no_some h)
theorem a15 (aq nq mq : Nat) (tq : Nat → ByteArray) (vq : Nat → Int) (gq : Nat → Int) (de : Int) {r : Rt15} (h : Goes ((q15 aq nq mq tq vq gq de)) ((p15 aq nq mq tq vq gq de)) r) : CallR Try.prog 15 [.agg [.loose ⟨0, 3, aq, 0⟩ nq, .int .i64 de]] [[(0, (false, .cols mq [.str tq, .int .i64 vq, .int .i64 gq]))]] 1 ((V15 aq nq mq tq vq gq de) r) ((fun r => [newL (1 + 1) ((N15 aq nq mq tq vq gq de) r) ++ [(0, (false, .cols mq [.str tq, .int .i64 vq, .int .i64 gq]))]]) r) 400 ∧ ∃ F, Try.prog.funcs[15]? = some F ∧ F.body.isSome = true ∧ (F.name == "runtime.NumGoroutine") = false := by
  refine dec_calls (f := 15) (lo := 1) (hi := 400) (H := [[(0, (false, .cols mq [.str tq, .int .i64 vq, .int .i64 gq]))]]) (args := [.agg [.loose ⟨0, 3, aq, 0⟩ nq, .int .i64 de]]) Try.envOk Try.mixed xD_ok ((I15 aq nq mq tq vq gq de)) ((V15 aq nq mq tq vq gq de)) (fun r => [newL (1 + 1) ((N15 aq nq mq tq vq gq de) r) ++ [(0, (false, .cols mq [.str tq, .int .i64 vq, .int .i64 gq]))]]) (fn := mkFn Try.f15) (ts := []) (n := 400) rfl (by decide) (by simp) (names_of rfl) ?_ ?_ ?_ h
  · intro s; exact s.elim
  · intro Kst Kret x hS hR h
    exact Holds.eq (te15 cond Kst Kret aq nq mq tq vq gq de) (be15 aq nq mq tq vq gq de Kst Kret x hS hR h)
  · intro Kst Kret x hS hR s h; exact s.elim
noncomputable def k15 : Con := ⟨15, [.agg [.list [.str, .int .i64, .int .i64], .plain (.int .i64)]], fun (x : ((Nat × Nat × Nat × (Nat → ByteArray) × (Nat → Int) × (Nat → Int) × Unit) × Int × Unit) × Unit) => (fun (aq nq mq : Nat) (tq : Nat → ByteArray) (vq : Nat → Int) (gq : Nat → Int) (de : Int) => decide (aq + nq ≤ mq ∧ nq ≤ 1000000)) x.1.1.1 x.1.1.2.1 x.1.1.2.2.1 x.1.1.2.2.2.1 x.1.1.2.2.2.2.1 x.1.1.2.2.2.2.2.1 x.1.2.1, fun (x : ((Nat × Nat × Nat × (Nat → ByteArray) × (Nat → Int) × (Nat → Int) × Unit) × Int × Unit) × Unit) => (fun (aq nq mq : Nat) (tq : Nat → ByteArray) (vq : Nat → Int) (gq : Nat → Int) (de : Int) => (V15 aq nq mq tq vq gq de) ((S.mkl nq fun j => (tq (j + aq), vq (j + aq), gq (j + aq))))) x.1.1.1 x.1.1.2.1 x.1.1.2.2.1 x.1.1.2.2.2.1 x.1.1.2.2.2.2.1 x.1.1.2.2.2.2.2.1 x.1.2.1, fun (x : ((Nat × Nat × Nat × (Nat → ByteArray) × (Nat → Int) × (Nat → Int) × Unit) × Int × Unit) × Unit) => (fun (aq nq mq : Nat) (tq : Nat → ByteArray) (vq : Nat → Int) (gq : Nat → Int) (de : Int) => (N15 aq nq mq tq vq gq de) ((S.mkl nq fun j => (tq (j + aq), vq (j + aq), gq (j + aq))))) x.1.1.1 x.1.1.2.1 x.1.1.2.2.1 x.1.1.2.2.2.1 x.1.1.2.2.2.2.1 x.1.1.2.2.2.2.2.1 x.1.2.1, fun _ _ => .dead⟩
theorem s15 (aq nq mq : Nat) (tq : Nat → ByteArray) (vq : Nat → Int) (gq : Nat → Int) (de : Int) (hp : aq + nq ≤ mq ∧ nq ≤ 1000000) : Goes ((q15 aq nq mq tq vq gq de)) ((p15 aq nq mq tq vq gq de)) ((S.mkl nq fun j => (tq (j + aq), vq (j + aq), gq (j + aq)))) := by
  obtain ⟨hp1, hp2⟩ := hp
  show Goes _ _ _
  unfold p15
  repeat' first
    | with_reducible refine goes_if (fun h => ?_) (fun h => ?_) <;> (try simp only [lim64, imp_false, decide_eq_true_eq, decide_eq_false_iff_not, Int.toNat_natCast, toNat_pred, toNat_succ, Option.getD_some, Option.getD_none, Bool.not_eq_true', Bool.not_eq_false', Bool.and_eq_true, Bool.or_eq_true, Bool.and_eq_false_iff, Bool.or_eq_false_iff, bne_iff_ne, beq_iff_eq, bne_eq_false_iff_eq, beq_eq_false_iff_ne, ne_eq, not_and, Int.not_le, Int.not_lt, ge_iff_le, gt_iff_lt, Nat.not_lt, Nat.not_le, Bool.not_eq_true, Bool.not_eq_false, Bool.true_eq_false, Bool.false_eq_true, not_false_eq_true, not_true_eq_false] at h)
    | exact goes_none.mpr (by omega)
  all_goals first | (exfalso; omega) | exact goes_inr.mpr rfl
theorem k15_ok : k15.ok Try.prog := by
  intro x hx
  obtain ⟨⟨⟨aq, nq, mq, tq, vq, gq, _⟩, de, _⟩, _⟩ := x
  obtain ⟨h1, h2⟩ := a15 aq nq mq tq vq gq de (s15 aq nq mq tq vq gq de (of_dec hx rfl))
  exact ⟨⟨400, (by decide : 1 + 1 + 1 ≤ 400), h1⟩, h2⟩
inductive St21 where
  | h0 (x0 : Int)
abbrev Rt21 := Bool
noncomputable def V21 (aa na ma : Nat) (ta : Nat → Int) (va : Nat → Int) (ga : Nat → Int) (ab nb mb : Nat) (tb : Nat → Int) (vb : Nat → Int) (gb : Nat → Int) (r : Rt21) : PV := PV.bool r
noncomputable def N21 (aa na ma : Nat) (ta : Nat → Int) (va : Nat → Int) (ga : Nat → Int) (ab nb mb : Nat) (tb : Nat → Int) (vb : Nat → Int) (gb : Nat → Int) (r : Rt21) : List Blk := []
noncomputable def I21 (aa na ma : Nat) (ta : Nat → Int) (va : Nat → Int) (ga : Nat → Int) (ab nb mb : Nat) (tb : Nat → Int) (vb : Nat → Int) (gb : Nat → Int) : St21 → Hd
  | .h0 x0 => ⟨hd Try.f21 0, [PV.loose (PA.mk (0) (3) aa (0)) na,
 PV.loose (PA.mk (1) (3) ab (0)) nb, PV.int IntKind.i64 (↑na : Int),
 PV.int IntKind.i64 x0], [[], [(0, (false, .cols ma [.int .i64 ta, .int .i64 va, .int .i64 ga])), (1, (false, .cols mb [.int .i64 tb, .int .i64 vb, .int .i64 gb]))]], 2⟩
noncomputable def q21 (aa na ma : Nat) (ta : Nat → Int) (va : Nat → Int) (ga : Nat → Int) (ab nb mb : Nat) (tb : Nat → Int) (vb : Nat → Int) (gb : Nat → Int) : St21 → Option (St21 ⊕ Rt21)
  | .h0 x0 => bif (decide (x0 < (↑na : Int)))
 then (bif (decide ((0 : Int) ≤ x0 ∧ x0 < (↑na : Int)))
 then (bif (decide (Int.toNat x0 + aa < ma))
 then (bif (decide ((0 : Int) ≤ x0 ∧ x0 < (↑nb : Int)))
 then (bif (decide (Int.toNat x0 + ab < mb))
 then (bif (!(ta (Int.toNat x0 + aa) == tb (Int.toNat x0 + ab) &&
 (va (Int.toNat x0 + aa) == vb (Int.toNat x0 + ab) &&
 (ga (Int.toNat x0 + aa) == gb (Int.toNat x0 + ab) && true))))
 then (some (.inr (false)))
 else (bif (lim IntKind.i64 (x0 + (1 : Int)))
 then (some (.inl (.h0 (x0 + (1 : Int)))))
 else (none)))
 else (none))
 else (none))
 else (none))
 else (none))
 else (some (.inr (true)))
noncomputable def p21 (aa na ma : Nat) (ta : Nat → Int) (va : Nat → Int) (ga : Nat → Int) (ab nb mb : Nat) (tb : Nat → Int) (vb : Nat → Int) (gb : Nat → Int) : Option (St21 ⊕ Rt21) := bif ((↑na : Int) != (↑nb : Int))
 then (some (.inr (false)))
 else (some (.inl (.h0 ((0 : Int)))))
noncomputable def Te21 (test : Bool → Prop → Prop → Prop) (Kst : KS) (Kret : KR) (aa na ma : Nat) (ta : Nat → Int) (va : Nat → Int) (ga : Nat → Int) (ab nb mb : Nat) (tb : Nat → Int) (vb : Nat → Int) (gb : Nat → Int) : Prop :=
  test ((↑na : Int) != (↑nb : Int))
 (Kret (PV.tf false) ([[(1, false,
 Blk.cols mb
 [Col.int IntKind.i64 tb, Col.int IntKind.i64 vb, Col.int IntKind.i64 gb]),
 (0, false,
 Blk.cols ma
 [Col.int IntKind.i64 ta, Col.int IntKind.i64 va, Col.int IntKind.i64 ga])]]) (2))
 (Kst (hd Try.f21 0) ([PV.loose (PA.mk (0) (3) aa (0)) na,
 PV.loose (PA.mk (1) (3) ab (0)) nb, PV.int IntKind.i64 (↑na : Int),
 PV.int IntKind.i64 (0 : Int)]) ([[(1, false,
 Blk.cols mb
 [Col.int IntKind.i64 tb, Col.int IntKind.i64 vb, Col.int IntKind.i64 gb]),
 (0, false,
 Blk.cols ma
 [Col.int IntKind.i64 ta, Col.int IntKind.i64 va, Col.int IntKind.i64 ga])]]) (2))
set_option maxRecDepth 100000 in
theorem te21 (test : Bool → Prop → Prop → Prop) (Kst : KS) (Kret : KR) (aa na ma : Nat) (ta : Nat → Int) (va : Nat → Int) (ga : Nat → Int) (ab nb mb : Nat) (tb : Nat → Int) (vb : Nat → Int) (gb : Nat → Int) : run test Try.env true noX true 400 ⟨21, [.cd (mkFn Try.f21).body], argT 0 [.loose ⟨0, 3, aa, 0⟩ na, .loose ⟨1, 3, ab, 0⟩ nb], [[], [(0, (false, .cols ma [.int .i64 ta, .int .i64 va, .int .i64 ga])), (1, (false, .cols mb [.int .i64 tb, .int .i64 vb, .int .i64 gb]))]], 2⟩ (proj 2 [0, 1, 12, 13] Kst Kret) =
  Te21 test Kst Kret aa na ma ta va ga ab nb mb tb vb gb := by kernel_rfl
noncomputable def T21_0 (test : Bool → Prop → Prop → Prop) (Kst : KS) (Kret : KR) (aa na ma : Nat) (ta : Nat → Int) (va : Nat → Int) (ga : Nat → Int) (ab nb mb : Nat) (tb : Nat → Int) (vb : Nat → Int) (gb : Nat → Int) (x0 : Int) : Prop :=
  test (decide (x0 < (↑na : Int)))
 (test (decide ((0 : Int) ≤ x0 ∧ x0 < (↑na : Int)))
 (test (decide (Int.toNat x0 + aa < ma))
 (test (decide (Int.toNat x0 + aa < ma))
 (test (decide (Int.toNat x0 + aa < ma))
 (test (decide ((0 : Int) ≤ x0 ∧ x0 < (↑nb : Int)))
 (test (decide (Int.toNat x0 + ab < mb))
 (test (decide (Int.toNat x0 + ab < mb))
 (test (decide (Int.toNat x0 + ab < mb))
 (test (!(ta (Int.toNat x0 + aa) == tb (Int.toNat x0 + ab) &&
 (va (Int.toNat x0 + aa) == vb (Int.toNat x0 + ab) &&
 (ga (Int.toNat x0 + aa) == gb (Int.toNat x0 + ab) && true))))
 (Kret (PV.tf false) ([[(1, false,
 Blk.cols mb
 [Col.int IntKind.i64 tb, Col.int IntKind.i64 vb, Col.int IntKind.i64 gb]),
 (0, false,
 Blk.cols ma
 [Col.int IntKind.i64 ta, Col.int IntKind.i64 va, Col.int IntKind.i64 ga])]]) (2))
 (test (lim IntKind.i64 (x0 + (1 : Int)))
 (Kst (hd Try.f21 0) ([PV.loose (PA.mk (0) (3) aa (0)) na,
 PV.loose (PA.mk (1) (3) ab (0)) nb, PV.int IntKind.i64 (↑na : Int),
 PV.int IntKind.i64 (x0 + (1 : Int))]) ([[(1, false,
 Blk.cols mb
 [Col.int IntKind.i64 tb, Col.int IntKind.i64 vb, Col.int IntKind.i64 gb]),
 (0, false,
 Blk.cols ma
 [Col.int IntKind.i64 ta, Col.int IntKind.i64 va, Col.int IntKind.i64 ga])]]) (2))
 (False)))
 (False))
 (False))
 (False))
 (False))
 (False))
 (False))
 (False))
 (False))
 (Kret (PV.tf true) ([[(1, false,
 Blk.cols mb
 [Col.int IntKind.i64 tb, Col.int IntKind.i64 vb, Col.int IntKind.i64 gb]),
 (0, false,
 Blk.cols ma
 [Col.int IntKind.i64 ta, Col.int IntKind.i64 va, Col.int IntKind.i64 ga])]]) (2))
set_option maxRecDepth 100000 in
theorem t21_0 (test : Bool → Prop → Prop → Prop) (Kst : KS) (Kret : KR) (aa na ma : Nat) (ta : Nat → Int) (va : Nat → Int) (ga : Nat → Int) (ab nb mb : Nat) (tb : Nat → Int) (vb : Nat → Int) (gb : Nat → Int) (x0 : Int) : run test Try.env true noX true 400 ⟨21, hd Try.f21 0, zipT [0, 1, 12, 13] [PV.loose (PA.mk (0) (3) aa (0)) na,
 PV.loose (PA.mk (1) (3) ab (0)) nb, PV.int IntKind.i64 (↑na : Int),
 PV.int IntKind.i64 x0], [[], [(0, (false, .cols ma [.int .i64 ta, .int .i64 va, .int .i64 ga])), (1, (false, .cols mb [.int .i64 tb, .int .i64 vb, .int .i64 gb]))]], 2⟩ (proj 2 [0, 1, 12, 13] Kst Kret) =
  T21_0 test Kst Kret aa na ma ta va ga ab nb mb tb vb gb x0 := by kernel_rfl
set_option maxRecDepth 100000 in
theorem be21 (aa na ma : Nat) (ta : Nat → Int) (va : Nat → Int) (ga : Nat → Int) (ab nb mb : Nat) (tb : Nat → Int) (vb : Nat → Int) (gb : Nat → Int) (Kst : KS) (Kret : KR) (x : St21 ⊕ Rt21) (hS : HS 2 400 ((I21 aa na ma ta va ga ab nb mb tb vb gb)) Kst x) (hR : HR 2 400 ((V21 aa na ma ta va ga ab nb mb tb vb gb)) (fun r => [newL (2 + 1) ((N21 aa na ma ta va ga ab nb mb tb vb gb) r) ++ [(0, (false, .cols ma [.int .i64 ta, .int .i64 va, .int .i64 ga])), (1, (false, .cols mb [.int .i64 tb, .int .i64 vb, .int .i64 gb]))]]) Kret x) (h : (bif ((↑na : Int) != (↑nb : Int))
 then (some (.inr (false)))
 else (some (.inl (.h0 ((0 : Int))))) : Option (St21 ⊕ Rt21)) = some x) : Te21 cond Kst Kret aa na ma ta va ga ab nb mb tb vb gb := by
  unfold Te21
  exact bif_split h
   (fun c0 h => ret_at hR _ h (fun n => n) rfl rfl rfl (rn_bool_tf rfl) rfl (entl_bor (use_lo rfl) rfl rfl (entl_bor (use_lo rfl) rfl rfl entl_nil)))
   (fun c0 h => stop_at hS _ h (fun n => n) rfl rfl rfl ⟨(rn_loose (use_lo rfl) rfl rfl rfl), ⟨(rn_loose (use_lo rfl) rfl rfl rfl), ⟨(rn_int rfl), ⟨(rn_int rfl), trivial⟩⟩⟩⟩ rfl (entl_bor (use_lo rfl) rfl rfl (entl_bor (use_lo rfl) rfl rfl entl_nil)))
set_option maxRecDepth 100000 in
theorem b21_0 (aa na ma : Nat) (ta : Nat → Int) (va : Nat → Int) (ga : Nat → Int) (ab nb mb : Nat) (tb : Nat → Int) (vb : Nat → Int) (gb : Nat → Int) (Kst : KS) (Kret : KR) (x : St21 ⊕ Rt21) (hS : HS 2 400 ((I21 aa na ma ta va ga ab nb mb tb vb gb)) Kst x) (hR : HR 2 400 ((V21 aa na ma ta va ga ab nb mb tb vb gb)) (fun r => [newL (2 + 1) ((N21 aa na ma ta va ga ab nb mb tb vb gb) r) ++ [(0, (false, .cols ma [.int .i64 ta, .int .i64 va, .int .i64 ga])), (1, (false, .cols mb [.int .i64 tb, .int .i64 vb, .int .i64 gb]))]]) Kret x) (x0 : Int) (h : (bif (decide (x0 < (↑na : Int)))
 then (bif (decide ((0 : Int) ≤ x0 ∧ x0 < (↑na : Int)))
 then (bif (decide (Int.toNat x0 + aa < ma))
 then (bif (decide ((0 : Int) ≤ x0 ∧ x0 < (↑nb : Int)))
 then (bif (decide (Int.toNat x0 + ab < mb))
 then (bif (!(ta (Int.toNat x0 + aa) == tb (Int.toNat x0 + ab) &&
 (va (Int.toNat x0 + aa) == vb (Int.toNat x0 + ab) &&
 (ga (Int.toNat x0 + aa) == gb (Int.toNat x0 + ab) && true))))
 then (some (.inr (false)))
 else (bif (lim IntKind.i64 (x0 + (1 : Int)))
 then (some (.inl (.h0 (x0 + (1 : Int)))))
 else (none)))
 else (none))
 else (none))
 else (none))
 else (none))
 else (some (.inr (true))) : Option (St21 ⊕ Rt21)) = some x) : T21_0 cond Kst Kret aa na ma ta va ga ab nb mb tb vb gb x0 := by
  unfold T21_0
  exact bif_split h
   (fun c0 h => bif_split h
   (fun c1 h => bif_split h
   (fun c2 h => cond_yes c2 (cond_yes c2 (bif_split h
   (fun c3 h => bif_split h
   (fun c4 h => cond_yes c4 (cond_yes c4 (bif_split h
   (fun c5 h => ret_at hR _ h (fun n => n) rfl rfl rfl (rn_bool_tf rfl) rfl (entl_bor (use_lo rfl) rfl rfl (entl_bor (use_lo rfl) rfl rfl entl_nil)))
   (fun c5 h => bif_split h
   (fun c6 h => stop_at hS _ h (fun n => n) rfl rfl rfl ⟨(rn_loose (use_lo rfl) rfl rfl rfl), ⟨(rn_loose (use_lo rfl) rfl rfl rfl), ⟨(rn_int rfl), ⟨(rn_int rfl), trivial⟩⟩⟩⟩ rfl (entl_bor (use_lo rfl) rfl rfl (entl_bor (use_lo rfl) rfl rfl entl_nil)))
   (fun c6 h => no_some h)))))
   (fun c4 h => no_some h))
   (fun c3 h => no_some h))))
   (fun c2 h => no_some h))
   (fun c1 h => no_some h))
   (fun c0 h => ret_at hR _ h (fun n => n) rfl rfl rfl (rn_bool_tf rfl) rfl (entl_bor (use_lo rfl) rfl rfl (entl_bor (use_lo rfl) rfl rfl entl_nil)))
theorem a21 (aa na ma : Nat) (ta : Nat → Int) (va : Nat → Int) (ga : Nat → Int) (ab nb mb : Nat) (tb : Nat → Int) (vb : Nat → Int) (gb : Nat → Int) {r : Rt21} (h : Goes ((q21 aa na ma ta va ga ab nb mb tb vb gb)) ((p21 aa na ma ta va ga ab nb mb tb vb gb)) r) : CallR Try.prog 21 [.loose ⟨0, 3, aa, 0⟩ na, .loose ⟨1, 3, ab, 0⟩ nb] [[(0, (false, .cols ma [.int .i64 ta, .int .i64 va, .int .i64 ga])), (1, (false, .cols mb [.int .i64 tb, .int .i64 vb, .int .i64 gb]))]] 2 ((V21 aa na ma ta va ga ab nb mb tb vb gb) r) ((fun r => [newL (2 + 1) ((N21 aa na ma ta va ga ab nb mb tb vb gb) r) ++ [(0, (false, .cols ma [.int .i64 ta, .int .i64 va, .int .i64 ga])), (1, (false, .cols mb [.int .i64 tb, .int .i64 vb, .int .i64 gb]))]]) r) 400 ∧ ∃ F, Try.prog.funcs[21]? = some F ∧ F.body.isSome = true ∧ (F.name == "runtime.NumGoroutine") = false := by
  refine dec_calls (f := 21) (lo := 2) (hi := 400) (H := [[(0, (false, .cols ma [.int .i64 ta, .int .i64 va, .int .i64 ga])), (1, (false, .cols mb [.int .i64 tb, .int .i64 vb, .int .i64 gb]))]]) (args := [.loose ⟨0, 3, aa, 0⟩ na, .loose ⟨1, 3, ab, 0⟩ nb]) Try.envOk Try.mixed noX_ok ((I21 aa na ma ta va ga ab nb mb tb vb gb)) ((V21 aa na ma ta va ga ab nb mb tb vb gb)) (fun r => [newL (2 + 1) ((N21 aa na ma ta va ga ab nb mb tb vb gb) r) ++ [(0, (false, .cols ma [.int .i64 ta, .int .i64 va, .int .i64 ga])), (1, (false, .cols mb [.int .i64 tb, .int .i64 vb, .int .i64 gb]))]]) (fn := mkFn Try.f21) (ts := [0, 1, 12, 13]) (n := 400) rfl (by decide) (by simp) (names_of rfl) ?_ ?_ ?_ h
  · intro s; cases s <;> exact ⟨hd_ok _ _, by simp [I21], names_of rfl, Nat.le_of_ble_eq_true rfl⟩
  · intro Kst Kret x hS hR h
    exact Holds.eq (te21 cond Kst Kret aa na ma ta va ga ab nb mb tb vb gb) (be21 aa na ma ta va ga ab nb mb tb vb gb Kst Kret x hS hR h)
  · intro Kst Kret x hS hR s h
    cases s with
    | h0 x0 => exact Holds.eq (t21_0 cond Kst Kret aa na ma ta va ga ab nb mb tb vb gb x0) (b21_0 aa na ma ta va ga ab nb mb tb vb gb Kst Kret x hS hR x0 h)
noncomputable def k21 : Con := ⟨21, [.one (.list [.int .i64, .int .i64, .int .i64]), .one (.list [.int .i64, .int .i64, .int .i64])], fun (x : (Nat × Nat × Nat × (Nat → Int) × (Nat → Int) × (Nat → Int) × Unit) × (Nat × Nat × Nat × (Nat → Int) × (Nat → Int) × (Nat → Int) × Unit) × Unit) => (fun (aa na ma : Nat) (ta : Nat → Int) (va : Nat → Int) (ga : Nat → Int) (ab nb mb : Nat) (tb : Nat → Int) (vb : Nat → Int) (gb : Nat → Int) => decide (aa + na ≤ ma ∧ na ≤ 1000000 ∧ ab + nb ≤ mb ∧ nb ≤ 1000000)) x.1.1 x.1.2.1 x.1.2.2.1 x.1.2.2.2.1 x.1.2.2.2.2.1 x.1.2.2.2.2.2.1 x.2.1.1 x.2.1.2.1 x.2.1.2.2.1 x.2.1.2.2.2.1 x.2.1.2.2.2.2.1 x.2.1.2.2.2.2.2.1, fun (x : (Nat × Nat × Nat × (Nat → Int) × (Nat → Int) × (Nat → Int) × Unit) × (Nat × Nat × Nat × (Nat → Int) × (Nat → Int) × (Nat → Int) × Unit) × Unit) => (fun (aa na ma : Nat) (ta : Nat → Int) (va : Nat → Int) (ga : Nat → Int) (ab nb mb : Nat) (tb : Nat → Int) (vb : Nat → Int) (gb : Nat → Int) => (V21 aa na ma ta va ga ab nb mb tb vb gb) (decide ((S.mkl na fun j => (ta (j + aa), va (j + aa), ga (j + aa))) = (S.mkl nb fun j => (tb (j + ab), vb (j + ab), gb (j + ab)))))) x.1.1 x.1.2.1 x.1.2.2.1 x.1.2.2.2.1 x.1.2.2.2.2.1 x.1.2.2.2.2.2.1 x.2.1.1 x.2.1.2.1 x.2.1.2.2.1 x.2.1.2.2.2.1 x.2.1.2.2.2.2.1 x.2.1.2.2.2.2.2.1, fun (x : (Nat × Nat × Nat × (Nat → Int) × (Nat → Int) × (Nat → Int) × Unit) × (Nat × Nat × Nat × (Nat → Int) × (Nat → Int) × (Nat → Int) × Unit) × Unit) => (fun (aa na ma : Nat) (ta : Nat → Int) (va : Nat → Int) (ga : Nat → Int) (ab nb mb : Nat) (tb : Nat → Int) (vb : Nat → Int) (gb : Nat → Int) => (N21 aa na ma ta va ga ab nb mb tb vb gb) (decide ((S.mkl na fun j => (ta (j + aa), va (j + aa), ga (j + aa))) = (S.mkl nb fun j => (tb (j + ab), vb (j + ab), gb (j + ab)))))) x.1.1 x.1.2.1 x.1.2.2.1 x.1.2.2.2.1 x.1.2.2.2.2.1 x.1.2.2.2.2.2.1 x.2.1.1 x.2.1.2.1 x.2.1.2.2.1 x.2.1.2.2.2.1 x.2.1.2.2.2.2.1 x.2.1.2.2.2.2.2.1, fun _ _ => .dead⟩
theorem e21 (aa na ma : Nat) (ta : Nat → Int) (va : Nat → Int) (ga : Nat → Int) (ab nb mb : Nat) (tb : Nat → Int) (vb : Nat → Int) (gb : Nat → Int) (h : na = nb) : decide ((S.mkl na fun j => (ta (j + aa), va (j + aa), ga (j + aa))) = (S.mkl nb fun j => (tb (j + ab), vb (j + ab), gb (j + ab)))) = true ↔ ∀ j, j < na → ta (j + aa) = tb (j + ab) ∧ va (j + aa) = vb (j + ab) ∧ ga (j + aa) = gb (j + ab) := by
  rw [decide_eq_true_eq, mkl_inj]
  simp only [h, true_and, Prod.mk.injEq]
theorem s21' (aa na ma : Nat) (ta : Nat → Int) (va : Nat → Int) (ga : Nat → Int) (ab nb mb : Nat) (tb : Nat → Int) (vb : Nat → Int) (gb : Nat → Int) (hp : aa + na ≤ ma ∧ na ≤ 1000000 ∧ ab + nb ≤ mb ∧ nb ≤ 1000000) (he : na = nb) : ∀ k i : Nat, i + k = na → (∀ j, j < i → ta (j + aa) = tb (j + ab) ∧ va (j + aa) = vb (j + ab) ∧ ga (j + aa) = gb (j + ab)) → Comes (q21 aa na ma ta va ga ab nb mb tb vb gb) (.h0 (i : Int)) (decide ((S.mkl na fun j => (ta (j + aa), va (j + aa), ga (j + aa))) = (S.mkl nb fun j => (tb (j + ab), vb (j + ab), gb (j + ab))))) := by
  obtain ⟨hp1, hp2, hp3, hp4⟩ := hp
  have hq := e21 aa na ma ta va ga ab nb mb tb vb gb he
  generalize decide ((S.mkl na fun j => (ta (j + aa), va (j + aa), ga (j + aa))) = (S.mkl nb fun j => (tb (j + ab), vb (j + ab), gb (j + ab)))) = R at hq ⊢
  intro k
  induction k with
  | zero =>
    intro i hi hj
    obtain rfl : na = i := by omega
    apply Comes.of
    show Goes _ _ _
    (first | rw [q21] | unfold q21)
    repeat' first
      | with_reducible refine goes_if (fun h => ?_) (fun h => ?_) <;> (try simp only [lim64, imp_false, decide_eq_true_eq, decide_eq_false_iff_not, Int.toNat_natCast, toNat_pred, toNat_succ, Option.getD_some, Option.getD_none, Bool.not_eq_true', Bool.not_eq_false', Bool.and_eq_true, Bool.or_eq_true, Bool.and_eq_false_iff, Bool.or_eq_false_iff, bne_iff_ne, beq_iff_eq, bne_eq_false_iff_eq, beq_eq_false_iff_ne, ne_eq, not_and, Int.not_le, Int.not_lt, ge_iff_le, gt_iff_lt, Nat.not_lt, Nat.not_le, Bool.not_eq_true, Bool.not_eq_false, Bool.true_eq_false, Bool.false_eq_true, not_false_eq_true, not_true_eq_false] at h)
      | exact goes_none.mpr (by omega)
    all_goals first | (exfalso; omega) | (exact goes_inr.mpr (hq.mpr hj).symm)
  | succ k ih =>
    intro i hi hj
    have hw : ∀ {P : Prop}, (R = true → P) → ¬ P → false = R := fun h1 h2 => by cases R; rfl; exact absurd (h1 rfl) h2
    apply Comes.of
    show Goes _ _ _
    (first | rw [q21] | unfold q21)
    repeat' first
      | with_reducible refine goes_if (fun h => ?_) (fun h => ?_) <;> (try simp only [lim64, imp_false, decide_eq_true_eq, decide_eq_false_iff_not, Int.toNat_natCast, toNat_pred, toNat_succ, Option.getD_some, Option.getD_none, Bool.not_eq_true', Bool.not_eq_false', Bool.and_eq_true, Bool.or_eq_true, Bool.and_eq_false_iff, Bool.or_eq_false_iff, bne_iff_ne, beq_iff_eq, bne_eq_false_iff_eq, beq_eq_false_iff_ne, ne_eq, not_and, Int.not_le, Int.not_lt, ge_iff_le, gt_iff_lt, Nat.not_lt, Nat.not_le, Bool.not_eq_true, Bool.not_eq_false, Bool.true_eq_false, Bool.false_eq_true, not_false_eq_true, not_true_eq_false] at h)
      | exact goes_none.mpr (by omega)
    all_goals first
      | (exfalso; omega)
      | (refine ih (i + 1) (by omega) fun j hlt => ?_
         rcases Nat.lt_or_eq_of_le (Nat.le_of_lt_succ hlt) with h1 | h1
         · exact hj j h1
         · subst h1; simp_all)
      | (refine goes_inr.mpr (hw (fun e => hq.mp e i (by omega)) fun e => ?_); simp_all)
theorem s21 (aa na ma : Nat) (ta : Nat → Int) (va : Nat → Int) (ga : Nat → Int) (ab nb mb : Nat) (tb : Nat → Int) (vb : Nat → Int) (gb : Nat → Int) (hp : aa + na ≤ ma ∧ na ≤ 1000000 ∧ ab + nb ≤ mb ∧ nb ≤ 1000000) : Goes ((q21 aa na ma ta va ga ab nb mb tb vb gb)) ((p21 aa na ma ta va ga ab nb mb tb vb gb)) (decide ((S.mkl na fun j => (ta (j + aa), va (j + aa), ga (j + aa))) = (S.mkl nb fun j => (tb (j + ab), vb (j + ab), gb (j + ab))))) := by
  by_cases he : na = nb
  · have hm := s21' aa na ma ta va ga ab nb mb tb vb gb hp he na 0 (by omega) (fun j hj => absurd hj (Nat.not_lt_zero j))
    show Goes _ _ _
    unfold p21
    repeat' first
      | with_reducible refine goes_if (fun h => ?_) (fun h => ?_) <;> (try simp only [lim64, imp_false, decide_eq_true_eq, decide_eq_false_iff_not, Int.toNat_natCast, toNat_pred, toNat_succ, Option.getD_some, Option.getD_none, Bool.not_eq_true', Bool.not_eq_false', Bool.and_eq_true, Bool.or_eq_true, Bool.and_eq_false_iff, Bool.or_eq_false_iff, bne_iff_ne, beq_iff_eq, bne_eq_false_iff_eq, beq_eq_false_iff_ne, ne_eq, not_and, Int.not_le, Int.not_lt, ge_iff_le, gt_iff_lt, Nat.not_lt, Nat.not_le, Bool.not_eq_true, Bool.not_eq_false, Bool.true_eq_false, Bool.false_eq_true, not_false_eq_true, not_true_eq_false] at h)
      | exact goes_none.mpr (by omega)
    all_goals first | (exfalso; omega) | exact hm
  · have hd : decide ((S.mkl na fun j => (ta (j + aa), va (j + aa), ga (j + aa))) = (S.mkl nb fun j => (tb (j + ab), vb (j + ab), gb (j + ab)))) = false := decide_eq_false (fun e => he (mkl_inj.mp e).1)
    rw [hd]
    show Goes _ _ _
    unfold p21
    repeat' first
      | with_reducible refine goes_if (fun h => ?_) (fun h => ?_) <;> (try simp only [lim64, imp_false, decide_eq_true_eq, decide_eq_false_iff_not, Int.toNat_natCast, toNat_pred, toNat_succ, Option.getD_some, Option.getD_none, Bool.not_eq_true', Bool.not_eq_false', Bool.and_eq_true, Bool.or_eq_true, Bool.and_eq_false_iff, Bool.or_eq_false_iff, bne_iff_ne, beq_iff_eq, bne_eq_false_iff_eq, beq_eq_false_iff_ne, ne_eq, not_and, Int.not_le, Int.not_lt, ge_iff_le, gt_iff_lt, Nat.not_lt, Nat.not_le, Bool.not_eq_true, Bool.not_eq_false, Bool.true_eq_false, Bool.false_eq_true, not_false_eq_true, not_true_eq_false] at h)
      | exact goes_none.mpr (by omega)
    all_goals first | (exfalso; omega) | rfl
theorem k21_ok : k21.ok Try.prog := by
  intro x hx
  obtain ⟨⟨aa, na, ma, ta, va, ga, _⟩, ⟨ab, nb, mb, tb, vb, gb, _⟩, _⟩ := x
  obtain ⟨h1, h2⟩ := a21 aa na ma ta va ga ab nb mb tb vb gb (s21 aa na ma ta va ga ab nb mb tb vb gb (of_dec hx rfl))
  exact ⟨⟨400, (by decide : 2 + 1 + 0 ≤ 400), h1⟩, h2⟩
noncomputable def xL1 (test : Bool → Prop → Prop → Prop) : Ext := consX test [k12, k13, k15, k14, k16, k17, k18, k19, k20, k21]
theorem xL1_ok : ExtOk Try.prog (xL1 cond) := consX_ok ⟨k12_ok, k13_ok, k15_ok, k14_ok, k16_ok, k17_ok, k18_ok, k19_ok, k20_ok, k21_ok, trivial⟩
theorem staE_congr {e : Int} {t t' : Nat → ByteArray} {v g v' g' : Nat → Int} : ∀ {k i n : Nat}, i + k ≤ n → (∀ j, j < n → t j = t' j ∧ v j = v' j ∧ g j = g' j) → S.staE e t v g i k = S.staE e t' v' g' i k
  | 0, i, n, _, _ => rfl
  | k + 1, i, n, hn, h => by
    simp only [S.staE]
    obtain ⟨h1, h2, h3⟩ := h i (by omega)
    rw [h1, h2, h3, staE_congr (k := k) (i := i + 1) (n := n) (by omega) h]
    have e2 : S.any (fun j => S.eqS (t j) (t' i)) i = S.any (fun j => S.eqS (t' j) (t' i)) i := any_congr fun j hj => by rw [(h j (by omega)).1]
    rw [e2]
theorem netE_congr {n : Nat} {t t' : Nat → ByteArray} {v g v' g' : Nat → Int} {de : Int} (h : ∀ j, j < n → t j = t' j ∧ v j = v' j ∧ g j = g' j) : S.netE n t v g de = S.netE n t' v' g' de := by
  unfold S.netE
  rw [staE_congr (n := n) (by omega) h]
theorem tA_congr {v g v' g' : Nat → Int} {de st : Int} : ∀ {n : Nat}, (∀ j, j < n → v j = v' j ∧ g j = g' j) → S.tA v g de st n = S.tA v' g' de st n
  | 0, _ => rfl
  | n + 1, h => by
    obtain ⟨h1, h2⟩ := h n (by omega)
    simp only [S.tA]
    rw [h1, h2, tA_congr fun j hj => h j (by omega)]
theorem tB_congr {v g v' g' : Nat → Int} {de st : Int} : ∀ {n : Nat}, (∀ j, j < n → v j = v' j ∧ g j = g' j) → S.tB v g de st n = S.tB v' g' de st n
  | 0, _ => rfl
  | n + 1, h => by
    obtain ⟨h1, h2⟩ := h n (by omega)
    simp only [S.tB, S.cB]
    rw [h1, h2, tB_congr fun j hj => h j (by omega)]
theorem latI_congr {n : Nat} {v g v' g' : Nat → Int} {de st k l p : Int} (h : ∀ j, j < n → v j = v' j ∧ g j = g' j) : S.latI n v g de st k l p = S.latI n v' g' de st k l p := by
  unfold S.latI
  rw [tA_congr h, tB_congr h]
theorem worE_congr {n : Nat} {e : Int} {v g v' g' : Nat → Int} {de : Int} (h : ∀ j, j < n → v j = v' j ∧ g j = g' j) : S.worE n e v g de = S.worE n e v' g' de := by
  have hl : S.latI n v g de = S.latI n v' g' de := by
    funext st k l p
    exact latI_congr h
  unfold S.worE
  rw [hl]
section
variable {n : Nat} {t : Nat → ByteArray} {v g : Nat → Int} {de e st k l p : Int}
theorem net_mkl : S.netE n (fun j => (S.at' (S.mkl n fun j => (t j, v j, g j)) j).1) (fun j => (S.at' (S.mkl n fun j => (t j, v j, g j)) j).2.1) (fun j => (S.at' (S.mkl n fun j => (t j, v j, g j)) j).2.2) de = S.netE n t v g de :=
  netE_congr fun j hj => by rw [at_mkl hj]; exact ⟨rfl, rfl, rfl⟩
theorem wor_mkl : S.worE n e (fun j => (S.at' (S.mkl n fun j => (t j, v j, g j)) j).2.1) (fun j => (S.at' (S.mkl n fun j => (t j, v j, g j)) j).2.2) de = S.worE n e v g de :=
  worE_congr fun j hj => by rw [at_mkl hj]; exact ⟨rfl, rfl⟩
end
theorem fai_len {n : Nat} {e : Int} (h : n ≤ 1000) : (S.faiS n e).2.length ≤ 1000000 := by
  unfold S.faiS
  split
  · show (S.failL n).length ≤ _
    rw [fail_len]; omega
  · exact Nat.zero_le _
abbrev St3 := Empty
abbrev Rt3 := Bool
noncomputable def V3 (aq nq mq : Nat) (tq : Nat → ByteArray) (vq : Nat → Int) (gq : Nat → Int) (de : Int) (r : Rt3) : PV := PV.bool r
noncomputable def N3 (aq nq mq : Nat) (tq : Nat → ByteArray) (vq : Nat → Int) (gq : Nat → Int) (de : Int) (r : Rt3) : List Blk := []
noncomputable def I3 (aq nq mq : Nat) (tq : Nat → ByteArray) (vq : Nat → Int) (gq : Nat → Int) (de : Int) : St3 → Hd := fun s => s.elim
noncomputable def q3 (aq nq mq : Nat) (tq : Nat → ByteArray) (vq : Nat → Int) (gq : Nat → Int) (de : Int) : St3 → Option (St3 ⊕ Rt3) := fun s => s.elim
noncomputable def p3 (aq nq mq : Nat) (tq : Nat → ByteArray) (vq : Nat → Int) (gq : Nat → Int) (de : Int) : Option (St3 ⊕ Rt3) := bif (decide (aq + nq ≤ mq))
 then (bif (S.fewB nq fun (j : Nat) => tq (j + aq))
 then (bif (decide (aq + nq ≤ mq ∧ nq ≤ 1000000))
 then (bif (decide
 (0 + List.length (S.mkl nq fun (j : Nat) => (tq (j + aq), vq (j + aq), gq (j + aq))) ≤
 List.length (S.mkl nq fun (j : Nat) => (tq (j + aq), vq (j + aq), gq (j + aq))) ∧
 List.length (S.mkl nq fun (j : Nat) => (tq (j + aq), vq (j + aq), gq (j + aq))) ≤ 1000000))
 then (bif (S.netE (List.length (S.mkl nq fun (j : Nat) => (tq (j + aq), vq (j + aq), gq (j + aq))))
 (fun (j : Nat) =>
 (S.at' (S.mkl nq fun (j : Nat) => (tq (j + aq), vq (j + aq), gq (j + aq))) j).1)
 (fun (j : Nat) =>
 (S.at' (S.mkl nq fun (j : Nat) => (tq (j + aq), vq (j + aq), gq (j + aq))) j).2.1)
 (fun (j : Nat) =>
 (S.at' (S.mkl nq fun (j : Nat) => (tq (j + aq), vq (j + aq), gq (j + aq))) j).2.2)
 de ==
 S.netE nq (fun (j : Nat) => tq (j + aq)) (fun (j : Nat) => vq (j + aq)) (fun (j : Nat) => gq (j + aq)) de)
 then (bif (Prod.fst
 (S.faiS (List.length (S.mkl nq fun (j : Nat) => (tq (j + aq), vq (j + aq), gq (j + aq))))
 (S.netE (List.length (S.mkl nq fun (j : Nat) => (tq (j + aq), vq (j + aq), gq (j + aq))))
 (fun (j : Nat) =>
 (S.at' (S.mkl nq fun (j : Nat) => (tq (j + aq), vq (j + aq), gq (j + aq))) j).1)
 (fun (j : Nat) =>
 (S.at' (S.mkl nq fun (j : Nat) => (tq (j + aq), vq (j + aq), gq (j + aq))) j).2.1)
 (fun (j : Nat) =>
 (S.at' (S.mkl nq fun (j : Nat) => (tq (j + aq), vq (j + aq), gq (j + aq))) j).2.2)
 de)) ==
 Prod.fst
 (S.faiS nq
 (S.netE nq (fun (j : Nat) => tq (j + aq)) (fun (j : Nat) => vq (j + aq)) (fun (j : Nat) => gq (j + aq)) de)))
 then (bif (decide
 (0 +
 List.length
 (Prod.snd
 (S.faiS (List.length (S.mkl nq fun (j : Nat) => (tq (j + aq), vq (j + aq), gq (j + aq))))
 (S.netE (List.length (S.mkl nq fun (j : Nat) => (tq (j + aq), vq (j + aq), gq (j + aq))))
 (fun (j : Nat) =>
 (S.at' (S.mkl nq fun (j : Nat) => (tq (j + aq), vq (j + aq), gq (j + aq))) j).1)
 (fun (j : Nat) =>
 Prod.fst
 (Prod.snd
 (S.at' (S.mkl nq fun (j : Nat) => (tq (j + aq), vq (j + aq), gq (j + aq))) j)))
 (fun (j : Nat) =>
 Prod.snd
 (Prod.snd
 (S.at' (S.mkl nq fun (j : Nat) => (tq (j + aq), vq (j + aq), gq (j + aq))) j)))
 de))) ≤
 List.length
 (Prod.snd
 (S.faiS (List.length (S.mkl nq fun (j : Nat) => (tq (j + aq), vq (j + aq), gq (j + aq))))
 (S.netE (List.length (S.mkl nq fun (j : Nat) => (tq (j + aq), vq (j + aq), gq (j + aq))))
 (fun (j : Nat) =>
 (S.at' (S.mkl nq fun (j : Nat) => (tq (j + aq), vq (j + aq), gq (j + aq))) j).1)
 (fun (j : Nat) =>
 Prod.fst
 ((S.at' (S.mkl nq fun (j : Nat) => (tq (j + aq), vq (j + aq), gq (j + aq))) j).2))
 (fun (j : Nat) =>
 Prod.snd
 ((S.at' (S.mkl nq fun (j : Nat) => (tq (j + aq), vq (j + aq), gq (j + aq))) j).2))
 de))) ∧
 List.length
 (Prod.snd
 (S.faiS (List.length (S.mkl nq fun (j : Nat) => (tq (j + aq), vq (j + aq), gq (j + aq))))
 (S.netE (List.length (S.mkl nq fun (j : Nat) => (tq (j + aq), vq (j + aq), gq (j + aq))))
 (fun (j : Nat) =>
 (S.at' (S.mkl nq fun (j : Nat) => (tq (j + aq), vq (j + aq), gq (j + aq))) j).1)
 (fun (j : Nat) =>
 Prod.fst
 (Prod.snd
 (S.at' (S.mkl nq fun (j : Nat) => (tq (j + aq), vq (j + aq), gq (j + aq))) j)))
 (fun (j : Nat) =>
 Prod.snd
 (Prod.snd
 (S.at' (S.mkl nq fun (j : Nat) => (tq (j + aq), vq (j + aq), gq (j + aq))) j)))
 de))) ≤
 1000000 ∧
 0 +
 List.length
 (Prod.snd
 (S.faiS nq
 (S.netE nq (fun (j : Nat) => tq (j + aq)) (fun (j : Nat) => vq (j + aq))
 (fun (j : Nat) => gq (j + aq)) de))) ≤
 List.length
 (Prod.snd
 (S.faiS nq
 (S.netE nq (fun (j : Nat) => tq (j + aq)) (fun (j : Nat) => vq (j + aq))
 (fun (j : Nat) => gq (j + aq)) de))) ∧
 List.length
 (Prod.snd
 (S.faiS nq
 (S.netE nq (fun (j : Nat) => tq (j + aq)) (fun (j : Nat) => vq (j + aq))
 (fun (j : Nat) => gq (j + aq)) de))) ≤
 1000000))
 then (bif (decide
 ((S.mkl
 (List.length
 (Prod.snd
 (S.faiS (List.length (S.mkl nq fun (j : Nat) => (tq (j + aq), vq (j + aq), gq (j + aq))))
 (S.netE (List.length (S.mkl nq fun (j : Nat) => (tq (j + aq), vq (j + aq), gq (j + aq))))
 (fun (j : Nat) =>
 (S.at' (S.mkl nq fun (j : Nat) => (tq (j + aq), vq (j + aq), gq (j + aq))) j).1)
 (fun (j : Nat) =>
 Prod.fst
 ((S.at' (S.mkl nq fun (j : Nat) => (tq (j + aq), vq (j + aq), gq (j + aq))) j).2))
 (fun (j : Nat) =>
 Prod.snd
 ((S.at' (S.mkl nq fun (j : Nat) => (tq (j + aq), vq (j + aq), gq (j + aq))) j).2))
 de))))
 fun (j : Nat) =>
 (Prod.fst
 (S.at'
 (Prod.snd
 (S.faiS (List.length (S.mkl nq fun (j : Nat) => (tq (j + aq), vq (j + aq), gq (j + aq))))
 (S.netE (List.length (S.mkl nq fun (j : Nat) => (tq (j + aq), vq (j + aq), gq (j + aq))))
 (fun (j : Nat) =>
 (S.at' (S.mkl nq fun (j : Nat) => (tq (j + aq), vq (j + aq), gq (j + aq))) j).1)
 (fun (j : Nat) =>
 Prod.fst
 (Prod.snd
 (S.at' (S.mkl nq fun (j : Nat) => (tq (j + aq), vq (j + aq), gq (j + aq))) j)))
 (fun (j : Nat) =>
 Prod.snd
 (Prod.snd
 (S.at' (S.mkl nq fun (j : Nat) => (tq (j + aq), vq (j + aq), gq (j + aq))) j)))
 de)))
 j),
 Prod.fst
 (Prod.snd
 (S.at'
 (Prod.snd
 (S.faiS (List.length (S.mkl nq fun (j : Nat) => (tq (j + aq), vq (j + aq), gq (j + aq))))
 (S.netE (List.length (S.mkl nq fun (j : Nat) => (tq (j + aq), vq (j + aq), gq (j + aq))))
 (fun (j : Nat) =>
 Prod.fst
 (S.at' (S.mkl nq fun (j : Nat) => (tq (j + aq), vq (j + aq), gq (j + aq))) j))
 (fun (j : Nat) =>
 Prod.fst
 (Prod.snd
 (S.at' (S.mkl nq fun (j : Nat) => (tq (j + aq), vq (j + aq), gq (j + aq))) j)))
 (fun (j : Nat) =>
 Prod.snd
 (Prod.snd
 (S.at' (S.mkl nq fun (j : Nat) => (tq (j + aq), vq (j + aq), gq (j + aq))) j)))
 de)))
 j)),
 Prod.snd
 (Prod.snd
 (S.at'
 (Prod.snd
 (S.faiS (List.length (S.mkl nq fun (j : Nat) => (tq (j + aq), vq (j + aq), gq (j + aq))))
 (S.netE (List.length (S.mkl nq fun (j : Nat) => (tq (j + aq), vq (j + aq), gq (j + aq))))
 (fun (j : Nat) =>
 Prod.fst
 (S.at' (S.mkl nq fun (j : Nat) => (tq (j + aq), vq (j + aq), gq (j + aq))) j))
 (fun (j : Nat) =>
 Prod.fst
 (Prod.snd
 (S.at' (S.mkl nq fun (j : Nat) => (tq (j + aq), vq (j + aq), gq (j + aq))) j)))
 (fun (j : Nat) =>
 Prod.snd
 (Prod.snd
 (S.at' (S.mkl nq fun (j : Nat) => (tq (j + aq), vq (j + aq), gq (j + aq))) j)))
 de)))
 j)))) =
 S.mkl
 (List.length
 (Prod.snd
 (S.faiS nq
 (S.netE nq (fun (j : Nat) => tq (j + aq)) (fun (j : Nat) => vq (j + aq))
 (fun (j : Nat) => gq (j + aq)) de))))
 fun (j : Nat) =>
 (Prod.fst
 (S.at'
 (Prod.snd
 (S.faiS nq
 (S.netE nq (fun (j : Nat) => tq (j + aq)) (fun (j : Nat) => vq (j + aq))
 (fun (j : Nat) => gq (j + aq)) de)))
 j),
 Prod.fst
 (Prod.snd
 (S.at'
 (Prod.snd
 (S.faiS nq
 (S.netE nq (fun (j : Nat) => tq (j + aq)) (fun (j : Nat) => vq (j + aq))
 (fun (j : Nat) => gq (j + aq)) de)))
 j)),
 Prod.snd
 (Prod.snd
 (S.at'
 (Prod.snd
 (S.faiS nq
 (S.netE nq (fun (j : Nat) => tq (j + aq)) (fun (j : Nat) => vq (j + aq))
 (fun (j : Nat) => gq (j + aq)) de)))
 j)))))
 then (bif (Prod.snd
 (Prod.snd
 (Prod.snd
 (Prod.snd
 (Prod.snd
 (S.worE (List.length (S.mkl nq fun (j : Nat) => (tq (j + aq), vq (j + aq), gq (j + aq))))
 (S.netE (List.length (S.mkl nq fun (j : Nat) => (tq (j + aq), vq (j + aq), gq (j + aq))))
 (fun (j : Nat) =>
 (S.at' (S.mkl nq fun (j : Nat) => (tq (j + aq), vq (j + aq), gq (j + aq))) j).1)
 (fun (j : Nat) =>
 Prod.fst
 (Prod.snd
 (S.at' (S.mkl nq fun (j : Nat) => (tq (j + aq), vq (j + aq), gq (j + aq))) j)))
 (fun (j : Nat) =>
 Prod.snd
 (Prod.snd
 (S.at' (S.mkl nq fun (j : Nat) => (tq (j + aq), vq (j + aq), gq (j + aq))) j)))
 de)
 (fun (j : Nat) =>
 Prod.fst
 ((S.at' (S.mkl nq fun (j : Nat) => (tq (j + aq), vq (j + aq), gq (j + aq))) j).2))
 (fun (j : Nat) =>
 Prod.snd
 ((S.at' (S.mkl nq fun (j : Nat) => (tq (j + aq), vq (j + aq), gq (j + aq))) j).2))
 de))))) ==
 Prod.snd
 (Prod.snd
 (Prod.snd
 (Prod.snd
 (Prod.snd
 (S.worE nq
 (S.netE nq (fun (j : Nat) => tq (j + aq)) (fun (j : Nat) => vq (j + aq))
 (fun (j : Nat) => gq (j + aq)) de)
 (fun (j : Nat) => vq (j + aq)) (fun (j : Nat) => gq (j + aq)) de))))))
 then (bif (Prod.fst
 (S.worE (List.length (S.mkl nq fun (j : Nat) => (tq (j + aq), vq (j + aq), gq (j + aq))))
 (S.netE (List.length (S.mkl nq fun (j : Nat) => (tq (j + aq), vq (j + aq), gq (j + aq))))
 (fun (j : Nat) =>
 (S.at' (S.mkl nq fun (j : Nat) => (tq (j + aq), vq (j + aq), gq (j + aq))) j).1)
 (fun (j : Nat) =>
 (S.at' (S.mkl nq fun (j : Nat) => (tq (j + aq), vq (j + aq), gq (j + aq))) j).2.1)
 (fun (j : Nat) =>
 (S.at' (S.mkl nq fun (j : Nat) => (tq (j + aq), vq (j + aq), gq (j + aq))) j).2.2)
 de)
 (fun (j : Nat) =>
 (S.at' (S.mkl nq fun (j : Nat) => (tq (j + aq), vq (j + aq), gq (j + aq))) j).2.1)
 (fun (j : Nat) =>
 (S.at' (S.mkl nq fun (j : Nat) => (tq (j + aq), vq (j + aq), gq (j + aq))) j).2.2)
 de) ==
 Prod.fst
 (S.worE nq
 (S.netE nq (fun (j : Nat) => tq (j + aq)) (fun (j : Nat) => vq (j + aq)) (fun (j : Nat) => gq (j + aq)) de)
 (fun (j : Nat) => vq (j + aq)) (fun (j : Nat) => gq (j + aq)) de))
 then (bif (Prod.fst
 (Prod.snd
 (S.worE (List.length (S.mkl nq fun (j : Nat) => (tq (j + aq), vq (j + aq), gq (j + aq))))
 (S.netE (List.length (S.mkl nq fun (j : Nat) => (tq (j + aq), vq (j + aq), gq (j + aq))))
 (fun (j : Nat) =>
 (S.at' (S.mkl nq fun (j : Nat) => (tq (j + aq), vq (j + aq), gq (j + aq))) j).1)
 (fun (j : Nat) =>
 Prod.fst
 ((S.at' (S.mkl nq fun (j : Nat) => (tq (j + aq), vq (j + aq), gq (j + aq))) j).2))
 (fun (j : Nat) =>
 Prod.snd
 ((S.at' (S.mkl nq fun (j : Nat) => (tq (j + aq), vq (j + aq), gq (j + aq))) j).2))
 de)
 (fun (j : Nat) =>
 (S.at' (S.mkl nq fun (j : Nat) => (tq (j + aq), vq (j + aq), gq (j + aq))) j).2.1)
 (fun (j : Nat) =>
 (S.at' (S.mkl nq fun (j : Nat) => (tq (j + aq), vq (j + aq), gq (j + aq))) j).2.2)
 de)) ==
 Prod.fst
 (Prod.snd
 (S.worE nq
 (S.netE nq (fun (j : Nat) => tq (j + aq)) (fun (j : Nat) => vq (j + aq)) (fun (j : Nat) => gq (j + aq))
 de)
 (fun (j : Nat) => vq (j + aq)) (fun (j : Nat) => gq (j + aq)) de)))
 then (bif (Prod.fst
 (Prod.snd
 (Prod.snd
 (S.worE (List.length (S.mkl nq fun (j : Nat) => (tq (j + aq), vq (j + aq), gq (j + aq))))
 (S.netE (List.length (S.mkl nq fun (j : Nat) => (tq (j + aq), vq (j + aq), gq (j + aq))))
 (fun (j : Nat) =>
 (S.at' (S.mkl nq fun (j : Nat) => (tq (j + aq), vq (j + aq), gq (j + aq))) j).1)
 (fun (j : Nat) =>
 Prod.fst
 ((S.at' (S.mkl nq fun (j : Nat) => (tq (j + aq), vq (j + aq), gq (j + aq))) j).2))
 (fun (j : Nat) =>
 Prod.snd
 ((S.at' (S.mkl nq fun (j : Nat) => (tq (j + aq), vq (j + aq), gq (j + aq))) j).2))
 de)
 (fun (j : Nat) =>
 Prod.fst
 ((S.at' (S.mkl nq fun (j : Nat) => (tq (j + aq), vq (j + aq), gq (j + aq))) j).2))
 (fun (j : Nat) =>
 Prod.snd
 ((S.at' (S.mkl nq fun (j : Nat) => (tq (j + aq), vq (j + aq), gq (j + aq))) j).2))
 de))) ==
 Prod.fst
 (Prod.snd
 (Prod.snd
 (S.worE nq
 (S.netE nq (fun (j : Nat) => tq (j + aq)) (fun (j : Nat) => vq (j + aq))
 (fun (j : Nat) => gq (j + aq)) de)
 (fun (j : Nat) => vq (j + aq)) (fun (j : Nat) => gq (j + aq)) de))) &&
 (Prod.fst
 (Prod.snd
 (Prod.snd
 (Prod.snd
 (S.worE (List.length (S.mkl nq fun (j : Nat) => (tq (j + aq), vq (j + aq), gq (j + aq))))
 (S.netE (List.length (S.mkl nq fun (j : Nat) => (tq (j + aq), vq (j + aq), gq (j + aq))))
 (fun (j : Nat) =>
 (S.at' (S.mkl nq fun (j : Nat) => (tq (j + aq), vq (j + aq), gq (j + aq))) j).1)
 (fun (j : Nat) =>
 Prod.fst
 (Prod.snd
 (S.at' (S.mkl nq fun (j : Nat) => (tq (j + aq), vq (j + aq), gq (j + aq))) j)))
 (fun (j : Nat) =>
 Prod.snd
 (Prod.snd
 (S.at' (S.mkl nq fun (j : Nat) => (tq (j + aq), vq (j + aq), gq (j + aq))) j)))
 de)
 (fun (j : Nat) =>
 Prod.fst
 (Prod.snd
 (S.at' (S.mkl nq fun (j : Nat) => (tq (j + aq), vq (j + aq), gq (j + aq))) j)))
 (fun (j : Nat) =>
 Prod.snd
 (Prod.snd
 (S.at' (S.mkl nq fun (j : Nat) => (tq (j + aq), vq (j + aq), gq (j + aq))) j)))
 de)))) ==
 Prod.fst
 (Prod.snd
 (Prod.snd
 (Prod.snd
 (S.worE nq
 (S.netE nq (fun (j : Nat) => tq (j + aq)) (fun (j : Nat) => vq (j + aq))
 (fun (j : Nat) => gq (j + aq)) de)
 (fun (j : Nat) => vq (j + aq)) (fun (j : Nat) => gq (j + aq)) de)))) &&
 (Prod.fst
 (Prod.snd
 (Prod.snd
 (Prod.snd
 (Prod.snd
 (S.worE (List.length (S.mkl nq fun (j : Nat) => (tq (j + aq), vq (j + aq), gq (j + aq))))
 (S.netE
 (List.length (S.mkl nq fun (j : Nat) => (tq (j + aq), vq (j + aq), gq (j + aq))))
 (fun (j : Nat) =>
 Prod.fst
 (S.at' (S.mkl nq fun (j : Nat) => (tq (j + aq), vq (j + aq), gq (j + aq))) j))
 (fun (j : Nat) =>
 Prod.fst
 (Prod.snd
 (S.at' (S.mkl nq fun (j : Nat) => (tq (j + aq), vq (j + aq), gq (j + aq))) j)))
 (fun (j : Nat) =>
 Prod.snd
 (Prod.snd
 (S.at' (S.mkl nq fun (j : Nat) => (tq (j + aq), vq (j + aq), gq (j + aq))) j)))
 de)
 (fun (j : Nat) =>
 Prod.fst
 (Prod.snd
 (S.at' (S.mkl nq fun (j : Nat) => (tq (j + aq), vq (j + aq), gq (j + aq))) j)))
 (fun (j : Nat) =>
 Prod.snd
 (Prod.snd
 (S.at' (S.mkl nq fun (j : Nat) => (tq (j + aq), vq (j + aq), gq (j + aq))) j)))
 de))))) ==
 Prod.fst
 (Prod.snd
 (Prod.snd
 (Prod.snd
 (Prod.snd
 (S.worE nq
 (S.netE nq (fun (j : Nat) => tq (j + aq)) (fun (j : Nat) => vq (j + aq))
 (fun (j : Nat) => gq (j + aq)) de)
 (fun (j : Nat) => vq (j + aq)) (fun (j : Nat) => gq (j + aq)) de))))) &&
 true)))
 then (some (.inr (true)))
 else (some (.inr (false))))
 else (some (.inr (false))))
 else (some (.inr (false))))
 else (some (.inr (false))))
 else (some (.inr (false))))
 else (none))
 else (some (.inr (false))))
 else (some (.inr (false))))
 else (none))
 else (none))
 else (some (.inr (true))))
 else (none)
noncomputable def Te3 (test : Bool → Prop → Prop → Prop) (Kst : KS) (Kret : KR) (aq nq mq : Nat) (tq : Nat → ByteArray) (vq : Nat → Int) (gq : Nat → Int) (de : Int) : Prop :=
  test (true)
 (test (true)
 (test (decide (aq + nq ≤ mq))
 (test (S.fewB nq fun (j : Nat) => tq (j + aq))
 (test (decide (aq + nq ≤ mq ∧ nq ≤ 1000000))
 (test (decide
 (0 + List.length (S.mkl nq fun (j : Nat) => (tq (j + aq), vq (j + aq), gq (j + aq))) ≤
 List.length (S.mkl nq fun (j : Nat) => (tq (j + aq), vq (j + aq), gq (j + aq))) ∧
 List.length (S.mkl nq fun (j : Nat) => (tq (j + aq), vq (j + aq), gq (j + aq))) ≤ 1000000))
 (test (decide (aq + nq ≤ mq ∧ nq ≤ 1000000))
 (test (decide (aq + nq ≤ mq ∧ nq ≤ 1000000))
 (test (decide
 (0 + List.length (S.mkl nq fun (j : Nat) => (tq (j + aq), vq (j + aq), gq (j + aq))) ≤
 List.length (S.mkl nq fun (j : Nat) => (tq (j + aq), vq (j + aq), gq (j + aq))) ∧
 List.length (S.mkl nq fun (j : Nat) => (tq (j + aq), vq (j + aq), gq (j + aq))) ≤ 1000000))
 (test (decide (aq + nq ≤ mq ∧ nq ≤ 1000000))
 (test (decide (aq + nq ≤ mq ∧ nq ≤ 1000000))
 (test (decide
 (0 + List.length (S.mkl nq fun (j : Nat) => (tq (j + aq), vq (j + aq), gq (j + aq))) ≤
 List.length (S.mkl nq fun (j : Nat) => (tq (j + aq), vq (j + aq), gq (j + aq))) ∧
 List.length (S.mkl nq fun (j : Nat) => (tq (j + aq), vq (j + aq), gq (j + aq))) ≤ 1000000))
 (test (decide (aq + nq ≤ mq ∧ nq ≤ 1000000))
 (test (S.netE (List.length (S.mkl nq fun (j : Nat) => (tq (j + aq), vq (j + aq), gq (j + aq))))
 (fun (j : Nat) =>
 (S.at' (S.mkl nq fun (j : Nat) => (tq (j + aq), vq (j + aq), gq (j + aq))) j).1)
 (fun (j : Nat) =>
 (S.at' (S.mkl nq fun (j : Nat) => (tq (j + aq), vq (j + aq), gq (j + aq))) j).2.1)
 (fun (j : Nat) =>
 (S.at' (S.mkl nq fun (j : Nat) => (tq (j + aq), vq (j + aq), gq (j + aq))) j).2.2)
 de ==
 S.netE nq (fun (j : Nat) => tq (j + aq)) (fun (j : Nat) => vq (j + aq)) (fun (j : Nat) => gq (j + aq)) de)
 (test (Prod.fst
 (S.faiS (List.length (S.mkl nq fun (j : Nat) => (tq (j + aq), vq (j + aq), gq (j + aq))))
 (S.netE (List.length (S.mkl nq fun (j : Nat) => (tq (j + aq), vq (j + aq), gq (j + aq))))
 (fun (j : Nat) =>
 (S.at' (S.mkl nq fun (j : Nat) => (tq (j + aq), vq (j + aq), gq (j + aq))) j).1)
 (fun (j : Nat) =>
 (S.at' (S.mkl nq fun (j : Nat) => (tq (j + aq), vq (j + aq), gq (j + aq))) j).2.1)
 (fun (j : Nat) =>
 (S.at' (S.mkl nq fun (j : Nat) => (tq (j + aq), vq (j + aq), gq (j + aq))) j).2.2)
 de)) ==
 Prod.fst
 (S.faiS nq
 (S.netE nq (fun (j : Nat) => tq (j + aq)) (fun (j : Nat) => vq (j + aq)) (fun (j : Nat) => gq (j + aq)) de)))
 (test (decide
 (0 +
 List.length
 (Prod.snd
 (S.faiS (List.length (S.mkl nq fun (j : Nat) => (tq (j + aq), vq (j + aq), gq (j + aq))))
 (S.netE (List.length (S.mkl nq fun (j : Nat) => (tq (j + aq), vq (j + aq), gq (j + aq))))
 (fun (j : Nat) =>
 (S.at' (S.mkl nq fun (j : Nat) => (tq (j + aq), vq (j + aq), gq (j + aq))) j).1)
 (fun (j : Nat) =>
 Prod.fst
 (Prod.snd
 (S.at' (S.mkl nq fun (j : Nat) => (tq (j + aq), vq (j + aq), gq (j + aq))) j)))
 (fun (j : Nat) =>
 Prod.snd
 (Prod.snd
 (S.at' (S.mkl nq fun (j : Nat) => (tq (j + aq), vq (j + aq), gq (j + aq))) j)))
 de))) ≤
 List.length
 (Prod.snd
 (S.faiS (List.length (S.mkl nq fun (j : Nat) => (tq (j + aq), vq (j + aq), gq (j + aq))))
 (S.netE (List.length (S.mkl nq fun (j : Nat) => (tq (j + aq), vq (j + aq), gq (j + aq))))
 (fun (j : Nat) =>
 (S.at' (S.mkl nq fun (j : Nat) => (tq (j + aq), vq (j + aq), gq (j + aq))) j).1)
 (fun (j : Nat) =>
 Prod.fst
 ((S.at' (S.mkl nq fun (j : Nat) => (tq (j + aq), vq (j + aq), gq (j + aq))) j).2))
 (fun (j : Nat) =>
 Prod.snd
 ((S.at' (S.mkl nq fun (j : Nat) => (tq (j + aq), vq (j + aq), gq (j + aq))) j).2))
 de))) ∧
 List.length
 (Prod.snd
 (S.faiS (List.length (S.mkl nq fun (j : Nat) => (tq (j + aq), vq (j + aq), gq (j + aq))))
 (S.netE (List.length (S.mkl nq fun (j : Nat) => (tq (j + aq), vq (j + aq), gq (j + aq))))
 (fun (j : Nat) =>
 (S.at' (S.mkl nq fun (j : Nat) => (tq (j + aq), vq (j + aq), gq (j + aq))) j).1)
 (fun (j : Nat) =>
 Prod.fst
 (Prod.snd
 (S.at' (S.mkl nq fun (j : Nat) => (tq (j + aq), vq (j + aq), gq (j + aq))) j)))
 (fun (j : Nat) =>
 Prod.snd
 (Prod.snd
 (S.at' (S.mkl nq fun (j : Nat) => (tq (j + aq), vq (j + aq), gq (j + aq))) j)))
 de))) ≤
 1000000 ∧
 0 +
 List.length
 (Prod.snd
 (S.faiS nq
 (S.netE nq (fun (j : Nat) => tq (j + aq)) (fun (j : Nat) => vq (j + aq))
 (fun (j : Nat) => gq (j + aq)) de))) ≤
 List.length
 (Prod.snd
 (S.faiS nq
 (S.netE nq (fun (j : Nat) => tq (j + aq)) (fun (j : Nat) => vq (j + aq))
 (fun (j : Nat) => gq (j + aq)) de))) ∧
 List.length
 (Prod.snd
 (S.faiS nq
 (S.netE nq (fun (j : Nat) => tq (j + aq)) (fun (j : Nat) => vq (j + aq))
 (fun (j : Nat) => gq (j + aq)) de))) ≤
 1000000))
 (test (decide
 ((S.mkl
 (List.length
 (Prod.snd
 (S.faiS (List.length (S.mkl nq fun (j : Nat) => (tq (j + aq), vq (j + aq), gq (j + aq))))
 (S.netE (List.length (S.mkl nq fun (j : Nat) => (tq (j + aq), vq (j + aq), gq (j + aq))))
 (fun (j : Nat) =>
 (S.at' (S.mkl nq fun (j : Nat) => (tq (j + aq), vq (j + aq), gq (j + aq))) j).1)
 (fun (j : Nat) =>
 Prod.fst
 ((S.at' (S.mkl nq fun (j : Nat) => (tq (j + aq), vq (j + aq), gq (j + aq))) j).2))
 (fun (j : Nat) =>
 Prod.snd
 ((S.at' (S.mkl nq fun (j : Nat) => (tq (j + aq), vq (j + aq), gq (j + aq))) j).2))
 de))))
 fun (j : Nat) =>
 (Prod.fst
 (S.at'
 (Prod.snd
 (S.faiS (List.length (S.mkl nq fun (j : Nat) => (tq (j + aq), vq (j + aq), gq (j + aq))))
 (S.netE (List.length (S.mkl nq fun (j : Nat) => (tq (j + aq), vq (j + aq), gq (j + aq))))
 (fun (j : Nat) =>
 (S.at' (S.mkl nq fun (j : Nat) => (tq (j + aq), vq (j + aq), gq (j + aq))) j).1)
 (fun (j : Nat) =>
 Prod.fst
 (Prod.snd
 (S.at' (S.mkl nq fun (j : Nat) => (tq (j + aq), vq (j + aq), gq (j + aq))) j)))
 (fun (j : Nat) =>
 Prod.snd
 (Prod.snd
 (S.at' (S.mkl nq fun (j : Nat) => (tq (j + aq), vq (j + aq), gq (j + aq))) j)))
 de)))
 j),
 Prod.fst
 (Prod.snd
 (S.at'
 (Prod.snd
 (S.faiS (List.length (S.mkl nq fun (j : Nat) => (tq (j + aq), vq (j + aq), gq (j + aq))))
 (S.netE (List.length (S.mkl nq fun (j : Nat) => (tq (j + aq), vq (j + aq), gq (j + aq))))
 (fun (j : Nat) =>
 Prod.fst
 (S.at' (S.mkl nq fun (j : Nat) => (tq (j + aq), vq (j + aq), gq (j + aq))) j))
 (fun (j : Nat) =>
 Prod.fst
 (Prod.snd
 (S.at' (S.mkl nq fun (j : Nat) => (tq (j + aq), vq (j + aq), gq (j + aq))) j)))
 (fun (j : Nat) =>
 Prod.snd
 (Prod.snd
 (S.at' (S.mkl nq fun (j : Nat) => (tq (j + aq), vq (j + aq), gq (j + aq))) j)))
 de)))
 j)),
 Prod.snd
 (Prod.snd
 (S.at'
 (Prod.snd
 (S.faiS (List.length (S.mkl nq fun (j : Nat) => (tq (j + aq), vq (j + aq), gq (j + aq))))
 (S.netE (List.length (S.mkl nq fun (j : Nat) => (tq (j + aq), vq (j + aq), gq (j + aq))))
 (fun (j : Nat) =>
 Prod.fst
 (S.at' (S.mkl nq fun (j : Nat) => (tq (j + aq), vq (j + aq), gq (j + aq))) j))
 (fun (j : Nat) =>
 Prod.fst
 (Prod.snd
 (S.at' (S.mkl nq fun (j : Nat) => (tq (j + aq), vq (j + aq), gq (j + aq))) j)))
 (fun (j : Nat) =>
 Prod.snd
 (Prod.snd
 (S.at' (S.mkl nq fun (j : Nat) => (tq (j + aq), vq (j + aq), gq (j + aq))) j)))
 de)))
 j)))) =
 S.mkl
 (List.length
 (Prod.snd
 (S.faiS nq
 (S.netE nq (fun (j : Nat) => tq (j + aq)) (fun (j : Nat) => vq (j + aq))
 (fun (j : Nat) => gq (j + aq)) de))))
 fun (j : Nat) =>
 (Prod.fst
 (S.at'
 (Prod.snd
 (S.faiS nq
 (S.netE nq (fun (j : Nat) => tq (j + aq)) (fun (j : Nat) => vq (j + aq))
 (fun (j : Nat) => gq (j + aq)) de)))
 j),
 Prod.fst
 (Prod.snd
 (S.at'
 (Prod.snd
 (S.faiS nq
 (S.netE nq (fun (j : Nat) => tq (j + aq)) (fun (j : Nat) => vq (j + aq))
 (fun (j : Nat) => gq (j + aq)) de)))
 j)),
 Prod.snd
 (Prod.snd
 (S.at'
 (Prod.snd
 (S.faiS nq
 (S.netE nq (fun (j : Nat) => tq (j + aq)) (fun (j : Nat) => vq (j + aq))
 (fun (j : Nat) => gq (j + aq)) de)))
 j)))))
 (test (Prod.snd
 (Prod.snd
 (Prod.snd
 (Prod.snd
 (Prod.snd
 (S.worE (List.length (S.mkl nq fun (j : Nat) => (tq (j + aq), vq (j + aq), gq (j + aq))))
 (S.netE (List.length (S.mkl nq fun (j : Nat) => (tq (j + aq), vq (j + aq), gq (j + aq))))
 (fun (j : Nat) =>
 (S.at' (S.mkl nq fun (j : Nat) => (tq (j + aq), vq (j + aq), gq (j + aq))) j).1)
 (fun (j : Nat) =>
 Prod.fst
 (Prod.snd
 (S.at' (S.mkl nq fun (j : Nat) => (tq (j + aq), vq (j + aq), gq (j + aq))) j)))
 (fun (j : Nat) =>
 Prod.snd
 (Prod.snd
 (S.at' (S.mkl nq fun (j : Nat) => (tq (j + aq), vq (j + aq), gq (j + aq))) j)))
 de)
 (fun (j : Nat) =>
 Prod.fst
 ((S.at' (S.mkl nq fun (j : Nat) => (tq (j + aq), vq (j + aq), gq (j + aq))) j).2))
 (fun (j : Nat) =>
 Prod.snd
 ((S.at' (S.mkl nq fun (j : Nat) => (tq (j + aq), vq (j + aq), gq (j + aq))) j).2))
 de))))) ==
 Prod.snd
 (Prod.snd
 (Prod.snd
 (Prod.snd
 (Prod.snd
 (S.worE nq
 (S.netE nq (fun (j : Nat) => tq (j + aq)) (fun (j : Nat) => vq (j + aq))
 (fun (j : Nat) => gq (j + aq)) de)
 (fun (j : Nat) => vq (j + aq)) (fun (j : Nat) => gq (j + aq)) de))))))
 (test (Prod.fst
 (S.worE (List.length (S.mkl nq fun (j : Nat) => (tq (j + aq), vq (j + aq), gq (j + aq))))
 (S.netE (List.length (S.mkl nq fun (j : Nat) => (tq (j + aq), vq (j + aq), gq (j + aq))))
 (fun (j : Nat) =>
 (S.at' (S.mkl nq fun (j : Nat) => (tq (j + aq), vq (j + aq), gq (j + aq))) j).1)
 (fun (j : Nat) =>
 (S.at' (S.mkl nq fun (j : Nat) => (tq (j + aq), vq (j + aq), gq (j + aq))) j).2.1)
 (fun (j : Nat) =>
 (S.at' (S.mkl nq fun (j : Nat) => (tq (j + aq), vq (j + aq), gq (j + aq))) j).2.2)
 de)
 (fun (j : Nat) =>
 (S.at' (S.mkl nq fun (j : Nat) => (tq (j + aq), vq (j + aq), gq (j + aq))) j).2.1)
 (fun (j : Nat) =>
 (S.at' (S.mkl nq fun (j : Nat) => (tq (j + aq), vq (j + aq), gq (j + aq))) j).2.2)
 de) ==
 Prod.fst
 (S.worE nq
 (S.netE nq (fun (j : Nat) => tq (j + aq)) (fun (j : Nat) => vq (j + aq)) (fun (j : Nat) => gq (j + aq)) de)
 (fun (j : Nat) => vq (j + aq)) (fun (j : Nat) => gq (j + aq)) de))
 (test (Prod.fst
 (Prod.snd
 (S.worE (List.length (S.mkl nq fun (j : Nat) => (tq (j + aq), vq (j + aq), gq (j + aq))))
 (S.netE (List.length (S.mkl nq fun (j : Nat) => (tq (j + aq), vq (j + aq), gq (j + aq))))
 (fun (j : Nat) =>
 (S.at' (S.mkl nq fun (j : Nat) => (tq (j + aq), vq (j + aq), gq (j + aq))) j).1)
 (fun (j : Nat) =>
 Prod.fst
 ((S.at' (S.mkl nq fun (j : Nat) => (tq (j + aq), vq (j + aq), gq (j + aq))) j).2))
 (fun (j : Nat) =>
 Prod.snd
 ((S.at' (S.mkl nq fun (j : Nat) => (tq (j + aq), vq (j + aq), gq (j + aq))) j).2))
 de)
 (fun (j : Nat) =>
 (S.at' (S.mkl nq fun (j : Nat) => (tq (j + aq), vq (j + aq), gq (j + aq))) j).2.1)
 (fun (j : Nat) =>
 (S.at' (S.mkl nq fun (j : Nat) => (tq (j + aq), vq (j + aq), gq (j + aq))) j).2.2)
 de)) ==
 Prod.fst
 (Prod.snd
 (S.worE nq
 (S.netE nq (fun (j : Nat) => tq (j + aq)) (fun (j : Nat) => vq (j + aq)) (fun (j : Nat) => gq (j + aq))
 de)
 (fun (j : Nat) => vq (j + aq)) (fun (j : Nat) => gq (j + aq)) de)))
 (test (Prod.fst
 (Prod.snd
 (Prod.snd
 (S.worE (List.length (S.mkl nq fun (j : Nat) => (tq (j + aq), vq (j + aq), gq (j + aq))))
 (S.netE (List.length (S.mkl nq fun (j : Nat) => (tq (j + aq), vq (j + aq), gq (j + aq))))
 (fun (j : Nat) =>
 (S.at' (S.mkl nq fun (j : Nat) => (tq (j + aq), vq (j + aq), gq (j + aq))) j).1)
 (fun (j : Nat) =>
 Prod.fst
 ((S.at' (S.mkl nq fun (j : Nat) => (tq (j + aq), vq (j + aq), gq (j + aq))) j).2))
 (fun (j : Nat) =>
 Prod.snd
 ((S.at' (S.mkl nq fun (j : Nat) => (tq (j + aq), vq (j + aq), gq (j + aq))) j).2))
 de)
 (fun (j : Nat) =>
 Prod.fst
 ((S.at' (S.mkl nq fun (j : Nat) => (tq (j + aq), vq (j + aq), gq (j + aq))) j).2))
 (fun (j : Nat) =>
 Prod.snd
 ((S.at' (S.mkl nq fun (j : Nat) => (tq (j + aq), vq (j + aq), gq (j + aq))) j).2))
 de))) ==
 Prod.fst
 (Prod.snd
 (Prod.snd
 (S.worE nq
 (S.netE nq (fun (j : Nat) => tq (j + aq)) (fun (j : Nat) => vq (j + aq))
 (fun (j : Nat) => gq (j + aq)) de)
 (fun (j : Nat) => vq (j + aq)) (fun (j : Nat) => gq (j + aq)) de))) &&
 (Prod.fst
 (Prod.snd
 (Prod.snd
 (Prod.snd
 (S.worE (List.length (S.mkl nq fun (j : Nat) => (tq (j + aq), vq (j + aq), gq (j + aq))))
 (S.netE (List.length (S.mkl nq fun (j : Nat) => (tq (j + aq), vq (j + aq), gq (j + aq))))
 (fun (j : Nat) =>
 (S.at' (S.mkl nq fun (j : Nat) => (tq (j + aq), vq (j + aq), gq (j + aq))) j).1)
 (fun (j : Nat) =>
 Prod.fst
 (Prod.snd
 (S.at' (S.mkl nq fun (j : Nat) => (tq (j + aq), vq (j + aq), gq (j + aq))) j)))
 (fun (j : Nat) =>
 Prod.snd
 (Prod.snd
 (S.at' (S.mkl nq fun (j : Nat) => (tq (j + aq), vq (j + aq), gq (j + aq))) j)))
 de)
 (fun (j : Nat) =>
 Prod.fst
 (Prod.snd
 (S.at' (S.mkl nq fun (j : Nat) => (tq (j + aq), vq (j + aq), gq (j + aq))) j)))
 (fun (j : Nat) =>
 Prod.snd
 (Prod.snd
 (S.at' (S.mkl nq fun (j : Nat) => (tq (j + aq), vq (j + aq), gq (j + aq))) j)))
 de)))) ==
 Prod.fst
 (Prod.snd
 (Prod.snd
 (Prod.snd
 (S.worE nq
 (S.netE nq (fun (j : Nat) => tq (j + aq)) (fun (j : Nat) => vq (j + aq))
 (fun (j : Nat) => gq (j + aq)) de)
 (fun (j : Nat) => vq (j + aq)) (fun (j : Nat) => gq (j + aq)) de)))) &&
 (Prod.fst
 (Prod.snd
 (Prod.snd
 (Prod.snd
 (Prod.snd
 (S.worE (List.length (S.mkl nq fun (j : Nat) => (tq (j + aq), vq (j + aq), gq (j + aq))))
 (S.netE
 (List.length (S.mkl nq fun (j : Nat) => (tq (j + aq), vq (j + aq), gq (j + aq))))
 (fun (j : Nat) =>
 Prod.fst
 (S.at' (S.mkl nq fun (j : Nat) => (tq (j + aq), vq (j + aq), gq (j + aq))) j))
 (fun (j : Nat) =>
 Prod.fst
 (Prod.snd
 (S.at' (S.mkl nq fun (j : Nat) => (tq (j + aq), vq (j + aq), gq (j + aq))) j)))
 (fun (j : Nat) =>
 Prod.snd
 (Prod.snd
 (S.at' (S.mkl nq fun (j : Nat) => (tq (j + aq), vq (j + aq), gq (j + aq))) j)))
 de)
 (fun (j : Nat) =>
 Prod.fst
 (Prod.snd
 (S.at' (S.mkl nq fun (j : Nat) => (tq (j + aq), vq (j + aq), gq (j + aq))) j)))
 (fun (j : Nat) =>
 Prod.snd
 (Prod.snd
 (S.at' (S.mkl nq fun (j : Nat) => (tq (j + aq), vq (j + aq), gq (j + aq))) j)))
 de))))) ==
 Prod.fst
 (Prod.snd
 (Prod.snd
 (Prod.snd
 (Prod.snd
 (S.worE nq
 (S.netE nq (fun (j : Nat) => tq (j + aq)) (fun (j : Nat) => vq (j + aq))
 (fun (j : Nat) => gq (j + aq)) de)
 (fun (j : Nat) => vq (j + aq)) (fun (j : Nat) => gq (j + aq)) de))))) &&
 true)))
 (Kret (PV.tf true) ([[(0, false,
 Blk.cols mq [Col.str tq, Col.int IntKind.i64 vq, Col.int IntKind.i64 gq])]]) (21))
 (Kret (PV.tf false) ([[(0, false,
 Blk.cols mq [Col.str tq, Col.int IntKind.i64 vq, Col.int IntKind.i64 gq])]]) (21)))
 (Kret (PV.tf false) ([[(0, false,
 Blk.cols mq [Col.str tq, Col.int IntKind.i64 vq, Col.int IntKind.i64 gq])]]) (21)))
 (Kret (PV.tf false) ([[(0, false,
 Blk.cols mq [Col.str tq, Col.int IntKind.i64 vq, Col.int IntKind.i64 gq])]]) (21)))
 (Kret (PV.tf false) ([[(0, false,
 Blk.cols mq [Col.str tq, Col.int IntKind.i64 vq, Col.int IntKind.i64 gq])]]) (21)))
 (Kret (PV.tf false) ([[(0, false,
 Blk.cols mq [Col.str tq, Col.int IntKind.i64 vq, Col.int IntKind.i64 gq])]]) (21)))
 (False))
 (Kret (PV.tf false) ([[(0, false,
 Blk.cols mq [Col.str tq, Col.int IntKind.i64 vq, Col.int IntKind.i64 gq])]]) (20)))
 (Kret (PV.tf false) ([[(0, false,
 Blk.cols mq [Col.str tq, Col.int IntKind.i64 vq, Col.int IntKind.i64 gq])]]) (20)))
 (False))
 (False))
 (False))
 (False))
 (False))
 (False))
 (False))
 (False))
 (False))
 (test (true)
 (test (true)
 (Kret (PV.tf true) ([[(0, false,
 Blk.cols mq [Col.str tq, Col.int IntKind.i64 vq, Col.int IntKind.i64 gq])]]) (5))
 (Kret (PV.tf false) ([[(0, false,
 Blk.cols mq [Col.str tq, Col.int IntKind.i64 vq, Col.int IntKind.i64 gq])]]) (5)))
 (False)))
 (False))
 (test (true)
 (test (true)
 (Kret (PV.tf true) ([[(0, false,
 Blk.cols mq [Col.str tq, Col.int IntKind.i64 vq, Col.int IntKind.i64 gq])]]) (4))
 (Kret (PV.tf false) ([[(0, false,
 Blk.cols mq [Col.str tq, Col.int IntKind.i64 vq, Col.int IntKind.i64 gq])]]) (4)))
 (False)))
 (False)
set_option maxRecDepth 100000 in
theorem te3 (test : Bool → Prop → Prop → Prop) (Kst : KS) (Kret : KR) (aq nq mq : Nat) (tq : Nat → ByteArray) (vq : Nat → Int) (gq : Nat → Int) (de : Int) : run test Try.env true (xL1 test) true 400 ⟨3, [.cd (mkFn Try.f3).body], argT 0 [.agg [.loose ⟨0, 3, aq, 0⟩ nq, .int .i64 de]], [[], [(0, (false, .cols mq [.str tq, .int .i64 vq, .int .i64 gq]))]], 1⟩ (proj 1 [] Kst Kret) =
  Te3 test Kst Kret aq nq mq tq vq gq de := by kernel_rfl
set_option maxRecDepth 100000 in
theorem be3 (aq nq mq : Nat) (tq : Nat → ByteArray) (vq : Nat → Int) (gq : Nat → Int) (de : Int) (Kst : KS) (Kret : KR) (x : St3 ⊕ Rt3) (hS : HS 1 400 ((I3 aq nq mq tq vq gq de)) Kst x) (hR : HR 1 400 ((V3 aq nq mq tq vq gq de)) (fun r => [newL (1 + 1) ((N3 aq nq mq tq vq gq de) r) ++ [(0, (false, .cols mq [.str tq, .int .i64 vq, .int .i64 gq]))]]) Kret x) (h : (bif (decide (aq + nq ≤ mq))
 then (bif (S.fewB nq fun (j : Nat) => tq (j + aq))
 then (bif (decide (aq + nq ≤ mq ∧ nq ≤ 1000000))
 then (bif (decide
 (0 + List.length (S.mkl nq fun (j : Nat) => (tq (j + aq), vq (j + aq), gq (j + aq))) ≤
 List.length (S.mkl nq fun (j : Nat) => (tq (j + aq), vq (j + aq), gq (j + aq))) ∧
 List.length (S.mkl nq fun (j : Nat) => (tq (j + aq), vq (j + aq), gq (j + aq))) ≤ 1000000))
 then (bif (S.netE (List.length (S.mkl nq fun (j : Nat) => (tq (j + aq), vq (j + aq), gq (j + aq))))
 (fun (j : Nat) =>
 (S.at' (S.mkl nq fun (j : Nat) => (tq (j + aq), vq (j + aq), gq (j + aq))) j).1)
 (fun (j : Nat) =>
 (S.at' (S.mkl nq fun (j : Nat) => (tq (j + aq), vq (j + aq), gq (j + aq))) j).2.1)
 (fun (j : Nat) =>
 (S.at' (S.mkl nq fun (j : Nat) => (tq (j + aq), vq (j + aq), gq (j + aq))) j).2.2)
 de ==
 S.netE nq (fun (j : Nat) => tq (j + aq)) (fun (j : Nat) => vq (j + aq)) (fun (j : Nat) => gq (j + aq)) de)
 then (bif (Prod.fst
 (S.faiS (List.length (S.mkl nq fun (j : Nat) => (tq (j + aq), vq (j + aq), gq (j + aq))))
 (S.netE (List.length (S.mkl nq fun (j : Nat) => (tq (j + aq), vq (j + aq), gq (j + aq))))
 (fun (j : Nat) =>
 (S.at' (S.mkl nq fun (j : Nat) => (tq (j + aq), vq (j + aq), gq (j + aq))) j).1)
 (fun (j : Nat) =>
 (S.at' (S.mkl nq fun (j : Nat) => (tq (j + aq), vq (j + aq), gq (j + aq))) j).2.1)
 (fun (j : Nat) =>
 (S.at' (S.mkl nq fun (j : Nat) => (tq (j + aq), vq (j + aq), gq (j + aq))) j).2.2)
 de)) ==
 Prod.fst
 (S.faiS nq
 (S.netE nq (fun (j : Nat) => tq (j + aq)) (fun (j : Nat) => vq (j + aq)) (fun (j : Nat) => gq (j + aq)) de)))
 then (bif (decide
 (0 +
 List.length
 (Prod.snd
 (S.faiS (List.length (S.mkl nq fun (j : Nat) => (tq (j + aq), vq (j + aq), gq (j + aq))))
 (S.netE (List.length (S.mkl nq fun (j : Nat) => (tq (j + aq), vq (j + aq), gq (j + aq))))
 (fun (j : Nat) =>
 (S.at' (S.mkl nq fun (j : Nat) => (tq (j + aq), vq (j + aq), gq (j + aq))) j).1)
 (fun (j : Nat) =>
 Prod.fst
 (Prod.snd
 (S.at' (S.mkl nq fun (j : Nat) => (tq (j + aq), vq (j + aq), gq (j + aq))) j)))
 (fun (j : Nat) =>
 Prod.snd
 (Prod.snd
 (S.at' (S.mkl nq fun (j : Nat) => (tq (j + aq), vq (j + aq), gq (j + aq))) j)))
 de))) ≤
 List.length
 (Prod.snd
 (S.faiS (List.length (S.mkl nq fun (j : Nat) => (tq (j + aq), vq (j + aq), gq (j + aq))))
 (S.netE (List.length (S.mkl nq fun (j : Nat) => (tq (j + aq), vq (j + aq), gq (j + aq))))
 (fun (j : Nat) =>
 (S.at' (S.mkl nq fun (j : Nat) => (tq (j + aq), vq (j + aq), gq (j + aq))) j).1)
 (fun (j : Nat) =>
 Prod.fst
 ((S.at' (S.mkl nq fun (j : Nat) => (tq (j + aq), vq (j + aq), gq (j + aq))) j).2))
 (fun (j : Nat) =>
 Prod.snd
 ((S.at' (S.mkl nq fun (j : Nat) => (tq (j + aq), vq (j + aq), gq (j + aq))) j).2))
 de))) ∧
 List.length
 (Prod.snd
 (S.faiS (List.length (S.mkl nq fun (j : Nat) => (tq (j + aq), vq (j + aq), gq (j + aq))))
 (S.netE (List.length (S.mkl nq fun (j : Nat) => (tq (j + aq), vq (j + aq), gq (j + aq))))
 (fun (j : Nat) =>
 (S.at' (S.mkl nq fun (j : Nat) => (tq (j + aq), vq (j + aq), gq (j + aq))) j).1)
 (fun (j : Nat) =>
 Prod.fst
 (Prod.snd
 (S.at' (S.mkl nq fun (j : Nat) => (tq (j + aq), vq (j + aq), gq (j + aq))) j)))
 (fun (j : Nat) =>
 Prod.snd
 (Prod.snd
 (S.at' (S.mkl nq fun (j : Nat) => (tq (j + aq), vq (j + aq), gq (j + aq))) j)))
 de))) ≤
 1000000 ∧
 0 +
 List.length
 (Prod.snd
 (S.faiS nq
 (S.netE nq (fun (j : Nat) => tq (j + aq)) (fun (j : Nat) => vq (j + aq))
 (fun (j : Nat) => gq (j + aq)) de))) ≤
 List.length
 (Prod.snd
 (S.faiS nq
 (S.netE nq (fun (j : Nat) => tq (j + aq)) (fun (j : Nat) => vq (j + aq))
 (fun (j : Nat) => gq (j + aq)) de))) ∧
 List.length
 (Prod.snd
 (S.faiS nq
 (S.netE nq (fun (j : Nat) => tq (j + aq)) (fun (j : Nat) => vq (j + aq))
 (fun (j : Nat) => gq (j + aq)) de))) ≤
 1000000))
 then (bif (decide
 ((S.mkl
 (List.length
 (Prod.snd
 (S.faiS (List.length (S.mkl nq fun (j : Nat) => (tq (j + aq), vq (j + aq), gq (j + aq))))
 (S.netE (List.length (S.mkl nq fun (j : Nat) => (tq (j + aq), vq (j + aq), gq (j + aq))))
 (fun (j : Nat) =>
 (S.at' (S.mkl nq fun (j : Nat) => (tq (j + aq), vq (j + aq), gq (j + aq))) j).1)
 (fun (j : Nat) =>
 Prod.fst
 ((S.at' (S.mkl nq fun (j : Nat) => (tq (j + aq), vq (j + aq), gq (j + aq))) j).2))
 (fun (j : Nat) =>
 Prod.snd
 ((S.at' (S.mkl nq fun (j : Nat) => (tq (j + aq), vq (j + aq), gq (j + aq))) j).2))
 de))))
 fun (j : Nat) =>
 (Prod.fst
 (S.at'
 (Prod.snd
 (S.faiS (List.length (S.mkl nq fun (j : Nat) => (tq (j + aq), vq (j + aq), gq (j + aq))))
 (S.netE (List.length (S.mkl nq fun (j : Nat) => (tq (j + aq), vq (j + aq), gq (j + aq))))
 (fun (j : Nat) =>
 (S.at' (S.mkl nq fun (j : Nat) => (tq (j + aq), vq (j + aq), gq (j + aq))) j).1)
 (fun (j : Nat) =>
 Prod.fst
 (Prod.snd
 (S.at' (S.mkl nq fun (j : Nat) => (tq (j + aq), vq (j + aq), gq (j + aq))) j)))
 (fun (j : Nat) =>
 Prod.snd
 (Prod.snd
 (S.at' (S.mkl nq fun (j : Nat) => (tq (j + aq), vq (j + aq), gq (j + aq))) j)))
 de)))
 j),
 Prod.fst
 (Prod.snd
 (S.at'
 (Prod.snd
 (S.faiS (List.length (S.mkl nq fun (j : Nat) => (tq (j + aq), vq (j + aq), gq (j + aq))))
 (S.netE (List.length (S.mkl nq fun (j : Nat) => (tq (j + aq), vq (j + aq), gq (j + aq))))
 (fun (j : Nat) =>
 Prod.fst
 (S.at' (S.mkl nq fun (j : Nat) => (tq (j + aq), vq (j + aq), gq (j + aq))) j))
 (fun (j : Nat) =>
 Prod.fst
 (Prod.snd
 (S.at' (S.mkl nq fun (j : Nat) => (tq (j + aq), vq (j + aq), gq (j + aq))) j)))
 (fun (j : Nat) =>
 Prod.snd
 (Prod.snd
 (S.at' (S.mkl nq fun (j : Nat) => (tq (j + aq), vq (j + aq), gq (j + aq))) j)))
 de)))
 j)),
 Prod.snd
 (Prod.snd
 (S.at'
 (Prod.snd
 (S.faiS (List.length (S.mkl nq fun (j : Nat) => (tq (j + aq), vq (j + aq), gq (j + aq))))
 (S.netE (List.length (S.mkl nq fun (j : Nat) => (tq (j + aq), vq (j + aq), gq (j + aq))))
 (fun (j : Nat) =>
 Prod.fst
 (S.at' (S.mkl nq fun (j : Nat) => (tq (j + aq), vq (j + aq), gq (j + aq))) j))
 (fun (j : Nat) =>
 Prod.fst
 (Prod.snd
 (S.at' (S.mkl nq fun (j : Nat) => (tq (j + aq), vq (j + aq), gq (j + aq))) j)))
 (fun (j : Nat) =>
 Prod.snd
 (Prod.snd
 (S.at' (S.mkl nq fun (j : Nat) => (tq (j + aq), vq (j + aq), gq (j + aq))) j)))
 de)))
 j)))) =
 S.mkl
 (List.length
 (Prod.snd
 (S.faiS nq
 (S.netE nq (fun (j : Nat) => tq (j + aq)) (fun (j : Nat) => vq (j + aq))
 (fun (j : Nat) => gq (j + aq)) de))))
 fun (j : Nat) =>
 (Prod.fst
 (S.at'
 (Prod.snd
 (S.faiS nq
 (S.netE nq (fun (j : Nat) => tq (j + aq)) (fun (j : Nat) => vq (j + aq))
 (fun (j : Nat) => gq (j + aq)) de)))
 j),
 Prod.fst
 (Prod.snd
 (S.at'
 (Prod.snd
 (S.faiS nq
 (S.netE nq (fun (j : Nat) => tq (j + aq)) (fun (j : Nat) => vq (j + aq))
 (fun (j : Nat) => gq (j + aq)) de)))
 j)),
 Prod.snd
 (Prod.snd
 (S.at'
 (Prod.snd
 (S.faiS nq
 (S.netE nq (fun (j : Nat) => tq (j + aq)) (fun (j : Nat) => vq (j + aq))
 (fun (j : Nat) => gq (j + aq)) de)))
 j)))))
 then (bif (Prod.snd
 (Prod.snd
 (Prod.snd
 (Prod.snd
 (Prod.snd
 (S.worE (List.length (S.mkl nq fun (j : Nat) => (tq (j + aq), vq (j + aq), gq (j + aq))))
 (S.netE (List.length (S.mkl nq fun (j : Nat) => (tq (j + aq), vq (j + aq), gq (j + aq))))
 (fun (j : Nat) =>
 (S.at' (S.mkl nq fun (j : Nat) => (tq (j + aq), vq (j + aq), gq (j + aq))) j).1)
 (fun (j : Nat) =>
 Prod.fst
 (Prod.snd
 (S.at' (S.mkl nq fun (j : Nat) => (tq (j + aq), vq (j + aq), gq (j + aq))) j)))
 (fun (j : Nat) =>
 Prod.snd
 (Prod.snd
 (S.at' (S.mkl nq fun (j : Nat) => (tq (j + aq), vq (j + aq), gq (j + aq))) j)))
 de)
 (fun (j : Nat) =>
 Prod.fst
 ((S.at' (S.mkl nq fun (j : Nat) => (tq (j + aq), vq (j + aq), gq (j + aq))) j).2))
 (fun (j : Nat) =>
 Prod.snd
 ((S.at' (S.mkl nq fun (j : Nat) => (tq (j + aq), vq (j + aq), gq (j + aq))) j).2))
 de))))) ==
 Prod.snd
 (Prod.snd
 (Prod.snd
 (Prod.snd
 (Prod.snd
 (S.worE nq
 (S.netE nq (fun (j : Nat) => tq (j + aq)) (fun (j : Nat) => vq (j + aq))
 (fun (j : Nat) => gq (j + aq)) de)
 (fun (j : Nat) => vq (j + aq)) (fun (j : Nat) => gq (j + aq)) de))))))
 then (bif (Prod.fst
 (S.worE (List.length (S.mkl nq fun (j : Nat) => (tq (j + aq), vq (j + aq), gq (j + aq))))
 (S.netE (List.length (S.mkl nq fun (j : Nat) => (tq (j + aq), vq (j + aq), gq (j + aq))))
 (fun (j : Nat) =>
 (S.at' (S.mkl nq fun (j : Nat) => (tq (j + aq), vq (j + aq), gq (j + aq))) j).1)
 (fun (j : Nat) =>
 (S.at' (S.mkl nq fun (j : Nat) => (tq (j + aq), vq (j + aq), gq (j + aq))) j).2.1)
 (fun (j : Nat) =>
 (S.at' (S.mkl nq fun (j : Nat) => (tq (j + aq), vq (j + aq), gq (j + aq))) j).2.2)
 de)
 (fun (j : Nat) =>
 (S.at' (S.mkl nq fun (j : Nat) => (tq (j + aq), vq (j + aq), gq (j + aq))) j).2.1)
 (fun (j : Nat) =>
 (S.at' (S.mkl nq fun (j : Nat) => (tq (j + aq), vq (j + aq), gq (j + aq))) j).2.2)
 de) ==
 Prod.fst
 (S.worE nq
 (S.netE nq (fun (j : Nat) => tq (j + aq)) (fun (j : Nat) => vq (j + aq)) (fun (j : Nat) => gq (j + aq)) de)
 (fun (j : Nat) => vq (j + aq)) (fun (j : Nat) => gq (j + aq)) de))
 then (bif (Prod.fst
 (Prod.snd
 (S.worE (List.length (S.mkl nq fun (j : Nat) => (tq (j + aq), vq (j + aq), gq (j + aq))))
 (S.netE (List.length (S.mkl nq fun (j : Nat) => (tq (j + aq), vq (j + aq), gq (j + aq))))
 (fun (j : Nat) =>
 (S.at' (S.mkl nq fun (j : Nat) => (tq (j + aq), vq (j + aq), gq (j + aq))) j).1)
 (fun (j : Nat) =>
 Prod.fst
 ((S.at' (S.mkl nq fun (j : Nat) => (tq (j + aq), vq (j + aq), gq (j + aq))) j).2))
 (fun (j : Nat) =>
 Prod.snd
 ((S.at' (S.mkl nq fun (j : Nat) => (tq (j + aq), vq (j + aq), gq (j + aq))) j).2))
 de)
 (fun (j : Nat) =>
 (S.at' (S.mkl nq fun (j : Nat) => (tq (j + aq), vq (j + aq), gq (j + aq))) j).2.1)
 (fun (j : Nat) =>
 (S.at' (S.mkl nq fun (j : Nat) => (tq (j + aq), vq (j + aq), gq (j + aq))) j).2.2)
 de)) ==
 Prod.fst
 (Prod.snd
 (S.worE nq
 (S.netE nq (fun (j : Nat) => tq (j + aq)) (fun (j : Nat) => vq (j + aq)) (fun (j : Nat) => gq (j + aq))
 de)
 (fun (j : Nat) => vq (j + aq)) (fun (j : Nat) => gq (j + aq)) de)))
 then (bif (Prod.fst
 (Prod.snd
 (Prod.snd
 (S.worE (List.length (S.mkl nq fun (j : Nat) => (tq (j + aq), vq (j + aq), gq (j + aq))))
 (S.netE (List.length (S.mkl nq fun (j : Nat) => (tq (j + aq), vq (j + aq), gq (j + aq))))
 (fun (j : Nat) =>
 (S.at' (S.mkl nq fun (j : Nat) => (tq (j + aq), vq (j + aq), gq (j + aq))) j).1)
 (fun (j : Nat) =>
 Prod.fst
 ((S.at' (S.mkl nq fun (j : Nat) => (tq (j + aq), vq (j + aq), gq (j + aq))) j).2))
 (fun (j : Nat) =>
 Prod.snd
 ((S.at' (S.mkl nq fun (j : Nat) => (tq (j + aq), vq (j + aq), gq (j + aq))) j).2))
 de)
 (fun (j : Nat) =>
 Prod.fst
 ((S.at' (S.mkl nq fun (j : Nat) => (tq (j + aq), vq (j + aq), gq (j + aq))) j).2))
 (fun (j : Nat) =>
 Prod.snd
 ((S.at' (S.mkl nq fun (j : Nat) => (tq (j + aq), vq (j + aq), gq (j + aq))) j).2))
 de))) ==
 Prod.fst
 (Prod.snd
 (Prod.snd
 (S.worE nq
 (S.netE nq (fun (j : Nat) => tq (j + aq)) (fun (j : Nat) => vq (j + aq))
 (fun (j : Nat) => gq (j + aq)) de)
 (fun (j : Nat) => vq (j + aq)) (fun (j : Nat) => gq (j + aq)) de))) &&
 (Prod.fst
 (Prod.snd
 (Prod.snd
 (Prod.snd
 (S.worE (List.length (S.mkl nq fun (j : Nat) => (tq (j + aq), vq (j + aq), gq (j + aq))))
 (S.netE (List.length (S.mkl nq fun (j : Nat) => (tq (j + aq), vq (j + aq), gq (j + aq))))
 (fun (j : Nat) =>
 (S.at' (S.mkl nq fun (j : Nat) => (tq (j + aq), vq (j + aq), gq (j + aq))) j).1)
 (fun (j : Nat) =>
 Prod.fst
 (Prod.snd
 (S.at' (S.mkl nq fun (j : Nat) => (tq (j + aq), vq (j + aq), gq (j + aq))) j)))
 (fun (j : Nat) =>
 Prod.snd
 (Prod.snd
 (S.at' (S.mkl nq fun (j : Nat) => (tq (j + aq), vq (j + aq), gq (j + aq))) j)))
 de)
 (fun (j : Nat) =>
 Prod.fst
 (Prod.snd
 (S.at' (S.mkl nq fun (j : Nat) => (tq (j + aq), vq (j + aq), gq (j + aq))) j)))
 (fun (j : Nat) =>
 Prod.snd
 (Prod.snd
 (S.at' (S.mkl nq fun (j : Nat) => (tq (j + aq), vq (j + aq), gq (j + aq))) j)))
 de)))) ==
 Prod.fst
 (Prod.snd
 (Prod.snd
 (Prod.snd
 (S.worE nq
 (S.netE nq (fun (j : Nat) => tq (j + aq)) (fun (j : Nat) => vq (j + aq))
 (fun (j : Nat) => gq (j + aq)) de)
 (fun (j : Nat) => vq (j + aq)) (fun (j : Nat) => gq (j + aq)) de)))) &&
 (Prod.fst
 (Prod.snd
 (Prod.snd
 (Prod.snd
 (Prod.snd
 (S.worE (List.length (S.mkl nq fun (j : Nat) => (tq (j + aq), vq (j + aq), gq (j + aq))))
 (S.netE
 (List.length (S.mkl nq fun (j : Nat) => (tq (j + aq), vq (j + aq), gq (j + aq))))
 (fun (j : Nat) =>
 Prod.fst
 (S.at' (S.mkl nq fun (j : Nat) => (tq (j + aq), vq (j + aq), gq (j + aq))) j))
 (fun (j : Nat) =>
 Prod.fst
 (Prod.snd
 (S.at' (S.mkl nq fun (j : Nat) => (tq (j + aq), vq (j + aq), gq (j + aq))) j)))
 (fun (j : Nat) =>
 Prod.snd
 (Prod.snd
 (S.at' (S.mkl nq fun (j : Nat) => (tq (j + aq), vq (j + aq), gq (j + aq))) j)))
 de)
 (fun (j : Nat) =>
 Prod.fst
 (Prod.snd
 (S.at' (S.mkl nq fun (j : Nat) => (tq (j + aq), vq (j + aq), gq (j + aq))) j)))
 (fun (j : Nat) =>
 Prod.snd
 (Prod.snd
 (S.at' (S.mkl nq fun (j : Nat) => (tq (j + aq), vq (j + aq), gq (j + aq))) j)))
 de))))) ==
 Prod.fst
 (Prod.snd
 (Prod.snd
 (Prod.snd
 (Prod.snd
 (S.worE nq
 (S.netE nq (fun (j : Nat) => tq (j + aq)) (fun (j : Nat) => vq (j + aq))
 (fun (j : Nat) => gq (j + aq)) de)
 (fun (j : Nat) => vq (j + aq)) (fun (j : Nat) => gq (j + aq)) de))))) &&
 true)))
 then (some (.inr (true)))
 else (some (.inr (false))))
 else (some (.inr (false))))
 else (some (.inr (false))))
 else (some (.inr (false))))
 else (some (.inr (false))))
 else (none))
 else (some (.inr (false))))
 else (some (.inr (false))))
 else (none))
 else (none))
 else (some (.inr (true))))
 else (none) : Option (St3 ⊕ Rt3)) = some x) : Te3 cond Kst Kret aq nq mq tq vq gq de := by
  unfold Te3
  exact cond_yes rfl (cond_yes rfl (bif_split h
   (fun c0 h => bif_split h
   (fun c1 h => bif_split h
   (fun c2 h => bif_split h
   (fun c3 h => cond_yes c2 (cond_yes c2 (cond_yes c3 (cond_yes c2 (cond_yes c2 (cond_yes c3 (cond_yes c2 (bif_split h
   (fun c4 h => bif_split h
   (fun c5 h => bif_split h
   (fun c6 h => bif_split h
   (fun c7 h => bif_split h
   (fun c8 h => bif_split h
   (fun c9 h => bif_split h
   (fun c10 h => bif_split h
   (fun c11 h => ret_at hR _ h (fun n => n) rfl rfl rfl (rn_bool_tf rfl) rfl (entl_bor (use_lo rfl) rfl rfl entl_nil))
   (fun c11 h => ret_at hR _ h (fun n => n) rfl rfl rfl (rn_bool_tf rfl) rfl (entl_bor (use_lo rfl) rfl rfl entl_nil)))
   (fun c10 h => ret_at hR _ h (fun n => n) rfl rfl rfl (rn_bool_tf rfl) rfl (entl_bor (use_lo rfl) rfl rfl entl_nil)))
   (fun c9 h => ret_at hR _ h (fun n => n) rfl rfl rfl (rn_bool_tf rfl) rfl (entl_bor (use_lo rfl) rfl rfl entl_nil)))
   (fun c8 h => ret_at hR _ h (fun n => n) rfl rfl rfl (rn_bool_tf rfl) rfl (entl_bor (use_lo rfl) rfl rfl entl_nil)))
   (fun c7 h => ret_at hR _ h (fun n => n) rfl rfl rfl (rn_bool_tf rfl) rfl (entl_bor (use_lo rfl) rfl rfl entl_nil)))
   (fun c6 h => no_some h))
   (fun c5 h => ret_at hR _ h (fun n => n) rfl rfl rfl (rn_bool_tf rfl) rfl (entl_bor (use_lo rfl) rfl rfl entl_nil)))
   (fun c4 h => ret_at hR _ h (fun n => n) rfl rfl rfl (rn_bool_tf rfl) rfl (entl_bor (use_lo rfl) rfl rfl entl_nil))))))))))
   (fun c3 h => no_some h))
   (fun c2 h => no_some h))
   (fun c1 h => cond_yes rfl (cond_yes rfl (ret_at hR _ h (fun n => n) rfl rfl rfl (rn_bool_tf rfl) rfl (entl_bor (use_lo rfl) rfl rfl entl_nil)))))
   (fun c0 h => no_some h)))
theorem a3 (aq nq mq : Nat) (tq : Nat → ByteArray) (vq : Nat → Int) (gq : Nat → Int) (de : Int) {r : Rt3} (h : Goes ((q3 aq nq mq tq vq gq de)) ((p3 aq nq mq tq vq gq de)) r) : CallR Try.prog 3 [.agg [.loose ⟨0, 3, aq, 0⟩ nq, .int .i64 de]] [[(0, (false, .cols mq [.str tq, .int .i64 vq, .int .i64 gq]))]] 1 ((V3 aq nq mq tq vq gq de) r) ((fun r => [newL (1 + 1) ((N3 aq nq mq tq vq gq de) r) ++ [(0, (false, .cols mq [.str tq, .int .i64 vq, .int .i64 gq]))]]) r) 400 ∧ ∃ F, Try.prog.funcs[3]? = some F ∧ F.body.isSome = true ∧ (F.name == "runtime.NumGoroutine") = false := by
  refine dec_calls (f := 3) (lo := 1) (hi := 400) (H := [[(0, (false, .cols mq [.str tq, .int .i64 vq, .int .i64 gq]))]]) (args := [.agg [.loose ⟨0, 3, aq, 0⟩ nq, .int .i64 de]]) Try.envOk Try.mixed xL1_ok ((I3 aq nq mq tq vq gq de)) ((V3 aq nq mq tq vq gq de)) (fun r => [newL (1 + 1) ((N3 aq nq mq tq vq gq de) r) ++ [(0, (false, .cols mq [.str tq, .int .i64 vq, .int .i64 gq]))]]) (fn := mkFn Try.f3) (ts := []) (n := 400) rfl (by decide) (by simp) (names_of rfl) ?_ ?_ ?_ h
  · intro s; exact s.elim
  · intro Kst Kret x hS hR h
    exact Holds.eq (te3 cond Kst Kret aq nq mq tq vq gq de) (be3 aq nq mq tq vq gq de Kst Kret x hS hR h)
  · intro Kst Kret x hS hR s h; exact s.elim
noncomputable def k3 : Con := ⟨3, [.agg [.list [.str, .int .i64, .int .i64], .plain (.int .i64)]], fun (x : ((Nat × Nat × Nat × (Nat → ByteArray) × (Nat → Int) × (Nat → Int) × Unit) × Int × Unit) × Unit) => (fun (aq nq mq : Nat) (tq : Nat → ByteArray) (vq : Nat → Int) (gq : Nat → Int) (de : Int) => decide (aq + nq ≤ mq)) x.1.1.1 x.1.1.2.1 x.1.1.2.2.1 x.1.1.2.2.2.1 x.1.1.2.2.2.2.1 x.1.1.2.2.2.2.2.1 x.1.2.1, fun (x : ((Nat × Nat × Nat × (Nat → ByteArray) × (Nat → Int) × (Nat → Int) × Unit) × Int × Unit) × Unit) => (fun (aq nq mq : Nat) (tq : Nat → ByteArray) (vq : Nat → Int) (gq : Nat → Int) (de : Int) => (V3 aq nq mq tq vq gq de) (true)) x.1.1.1 x.1.1.2.1 x.1.1.2.2.1 x.1.1.2.2.2.1 x.1.1.2.2.2.2.1 x.1.1.2.2.2.2.2.1 x.1.2.1, fun (x : ((Nat × Nat × Nat × (Nat → ByteArray) × (Nat → Int) × (Nat → Int) × Unit) × Int × Unit) × Unit) => (fun (aq nq mq : Nat) (tq : Nat → ByteArray) (vq : Nat → Int) (gq : Nat → Int) (de : Int) => (N3 aq nq mq tq vq gq de) (true)) x.1.1.1 x.1.1.2.1 x.1.1.2.2.1 x.1.1.2.2.2.1 x.1.1.2.2.2.2.1 x.1.1.2.2.2.2.2.1 x.1.2.1, fun _ _ => .dead⟩
theorem s3 (aq nq mq : Nat) (tq : Nat → ByteArray) (vq : Nat → Int) (gq : Nat → Int) (de : Int) (hp : aq + nq ≤ mq) : Goes ((q3 aq nq mq tq vq gq de)) ((p3 aq nq mq tq vq gq de)) (true) := by
  have hfl := fun h => fai_len (n := nq) (e := (S.netE nq (fun j => tq (j + aq)) (fun j => vq (j + aq)) (fun j => gq (j + aq)) de)) h
  unfold p3
  cases hf : S.fewB nq (fun j => tq (j + aq))
  · rw [decide_eq_true (show aq + nq ≤ mq by omega)]
    exact goes_inr.mpr rfl
  have hq : nq ≤ 20 := by
    unfold S.fewB at hf
    rw [Bool.and_eq_true, decide_eq_true_eq] at hf
    exact hf.1
  simp only [mkl_len, Nat.zero_add, net_mkl, wor_mkl, BEq.rfl, Bool.and_self, Bool.and_true]
  show Goes _ _ _
  
  all_goals
   repeat' first
    | with_reducible exact goes_inr.mpr rfl
    | with_reducible refine goes_if (fun h => ?_) (fun h => ?_) <;> (try simp only [lim64, imp_false, decide_eq_true_eq, decide_eq_false_iff_not, Int.toNat_natCast, toNat_pred, toNat_succ, Option.getD_some, Option.getD_none, Bool.not_eq_true', Bool.not_eq_false', Bool.and_eq_true, Bool.or_eq_true, Bool.and_eq_false_iff, Bool.or_eq_false_iff, bne_iff_ne, beq_iff_eq, bne_eq_false_iff_eq, beq_eq_false_iff_ne, ne_eq, not_and, Int.not_le, Int.not_lt, ge_iff_le, gt_iff_lt, Nat.not_lt, Nat.not_le, Bool.not_eq_true, Bool.not_eq_false, Bool.true_eq_false, Bool.false_eq_true, not_false_eq_true, not_true_eq_false] at h)
    | exact goes_none.mpr (by omega)
   all_goals first | (exfalso; omega) | exact goes_inr.mpr rfl | (exfalso; simp_all; done) | (exfalso; simp at h; done)
theorem k3_ok : k3.ok Try.prog := by
  intro x hx
  obtain ⟨⟨⟨aq, nq, mq, tq, vq, gq, _⟩, de, _⟩, _⟩ := x
  obtain ⟨h1, h2⟩ := a3 aq nq mq tq vq gq de (s3 aq nq mq tq vq gq de (of_dec hx rfl))
  exact ⟨⟨400, (by decide : 1 + 1 + 0 ≤ 400), h1⟩, h2⟩
end Go.Ev
