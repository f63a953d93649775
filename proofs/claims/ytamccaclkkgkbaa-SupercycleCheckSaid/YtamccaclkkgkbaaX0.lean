/-
  Forbidden pairs.
-/
import Derived.Test.YtamccaclkkgkbaaW2
namespace Go.Ev
open Go.Proofs
set_option linter.unusedVariables false
set_option linter.unusedSimpArgs false
set_option maxRecDepth 100000
inductive St70 where
  | h0 (x0 : Int)
abbrev Rt70 := Bool
noncomputable def V70 (ac nc mc : Nat) (tc : Nat → ByteArray) (vc : Nat → ByteArray) (gc : Nat → Int) (wc : Nat → Bool) (an nn mn : Nat) (tn : Nat → Int) (ag ng mg : Nat) (tg : Nat → Int) (vg : Nat → Int) (rc : Int) (fa : Int) (fb : Int) (r : Rt70) : PV := PV.bool r
noncomputable def N70 (ac nc mc : Nat) (tc : Nat → ByteArray) (vc : Nat → ByteArray) (gc : Nat → Int) (wc : Nat → Bool) (an nn mn : Nat) (tn : Nat → Int) (ag ng mg : Nat) (tg : Nat → Int) (vg : Nat → Int) (rc : Int) (fa : Int) (fb : Int) (r : Rt70) : List Blk := []
noncomputable def I70 (ac nc mc : Nat) (tc : Nat → ByteArray) (vc : Nat → ByteArray) (gc : Nat → Int) (wc : Nat → Bool) (an nn mn : Nat) (tn : Nat → Int) (ag ng mg : Nat) (tg : Nat → Int) (vg : Nat → Int) (rc : Int) (fa : Int) (fb : Int) : St70 → Hd
  | .h0 x0 => ⟨hd Try.f70 0, [PV.int IntKind.i64 fa, PV.int IntKind.i64 fb,
 PV.ptr (PA.mk (3) (0) (0) (0)), PV.int IntKind.i64 x0], [[(3, (true, Blk.cells
 [PV.loose (PA.mk (0) (4) ac (0)) nc,
 PV.loose (PA.mk (1) (1) an (0)) nn,
 PV.loose (PA.mk (2) (2) ag (0)) ng, PV.int IntKind.i64 rc]))], [(0, (false, .cols mc [.str tc, .str vc, .int .i64 gc, .bool wc])), (1, (false, .cols mn [.int .i64 tn])), (2, (false, .cols mg [.int .i64 tg, .int .i64 vg]))]], 4⟩
noncomputable def q70 (ac nc mc : Nat) (tc : Nat → ByteArray) (vc : Nat → ByteArray) (gc : Nat → Int) (wc : Nat → Bool) (an nn mn : Nat) (tn : Nat → Int) (ag ng mg : Nat) (tg : Nat → Int) (vg : Nat → Int) (rc : Int) (fa : Int) (fb : Int) : St70 → Option (St70 ⊕ Rt70)
  | .h0 x0 => bif (decide (x0 < (↑ng : Int)))
 then (bif (decide ((0 : Int) ≤ x0 ∧ x0 < (↑ng : Int)))
 then (bif (decide (Int.toNat x0 + ag < mg))
 then (bif (tg (Int.toNat x0 + ag) == fa)
 then (bif (vg (Int.toNat x0 + ag) == fb)
 then (some (.inr (true)))
 else (bif (lim IntKind.i64 (x0 + (1 : Int)))
 then (some (.inl (.h0 (x0 + (1 : Int)))))
 else (none)))
 else (bif (lim IntKind.i64 (x0 + (1 : Int)))
 then (some (.inl (.h0 (x0 + (1 : Int)))))
 else (none)))
 else (none))
 else (none))
 else (some (.inr (false)))
noncomputable def p70 (ac nc mc : Nat) (tc : Nat → ByteArray) (vc : Nat → ByteArray) (gc : Nat → Int) (wc : Nat → Bool) (an nn mn : Nat) (tn : Nat → Int) (ag ng mg : Nat) (tg : Nat → Int) (vg : Nat → Int) (rc : Int) (fa : Int) (fb : Int) : Option (St70 ⊕ Rt70) := some (.inl (.h0 ((0 : Int))))
noncomputable def Te70 (test : Bool → Prop → Prop → Prop) (Kst : KS) (Kret : KR) (ac nc mc : Nat) (tc : Nat → ByteArray) (vc : Nat → ByteArray) (gc : Nat → Int) (wc : Nat → Bool) (an nn mn : Nat) (tn : Nat → Int) (ag ng mg : Nat) (tg : Nat → Int) (vg : Nat → Int) (rc : Int) (fa : Int) (fb : Int) : Prop :=
  Kst (hd Try.f70 0) ([PV.int IntKind.i64 fa, PV.int IntKind.i64 fb,
 PV.ptr (PA.mk (3) (0) (0) (0)), PV.int IntKind.i64 (0 : Int)]) ([[(2, false, Blk.cols mg [Col.int IntKind.i64 tg, Col.int IntKind.i64 vg]),
 (1, false, Blk.cols mn [Col.int IntKind.i64 tn]),
 (0, false,
 Blk.cols mc [Col.str tc, Col.str vc, Col.int IntKind.i64 gc, Col.bool wc]),
 (3, true,
 Blk.cells
 [PV.loose (PA.mk (0) (4) ac (0)) nc,
 PV.loose (PA.mk (1) (1) an (0)) nn,
 PV.loose (PA.mk (2) (2) ag (0)) ng, PV.int IntKind.i64 rc])]]) (4)
set_option maxRecDepth 100000 in
theorem te70 (test : Bool → Prop → Prop → Prop) (Kst : KS) (Kret : KR) (ac nc mc : Nat) (tc : Nat → ByteArray) (vc : Nat → ByteArray) (gc : Nat → Int) (wc : Nat → Bool) (an nn mn : Nat) (tn : Nat → Int) (ag ng mg : Nat) (tg : Nat → Int) (vg : Nat → Int) (rc : Int) (fa : Int) (fb : Int) : run test Try.env true noX true 400 ⟨70, [.cd (mkFn Try.f70).body], argT 0 [.agg [.loose ⟨0, 4, ac, 0⟩ nc, .loose ⟨1, 1, an, 0⟩ nn, .loose ⟨2, 2, ag, 0⟩ ng, .int .i64 rc], .int .i64 fa, .int .i64 fb], [[], [(0, (false, .cols mc [.str tc, .str vc, .int .i64 gc, .bool wc])), (1, (false, .cols mn [.int .i64 tn])), (2, (false, .cols mg [.int .i64 tg, .int .i64 vg]))]], 3⟩ (proj 3 [1, 2, 3, 7] Kst Kret) =
  Te70 test Kst Kret ac nc mc tc vc gc wc an nn mn tn ag ng mg tg vg rc fa fb := by kernel_rfl
noncomputable def T70_0 (test : Bool → Prop → Prop → Prop) (Kst : KS) (Kret : KR) (ac nc mc : Nat) (tc : Nat → ByteArray) (vc : Nat → ByteArray) (gc : Nat → Int) (wc : Nat → Bool) (an nn mn : Nat) (tn : Nat → Int) (ag ng mg : Nat) (tg : Nat → Int) (vg : Nat → Int) (rc : Int) (fa : Int) (fb : Int) (x0 : Int) : Prop :=
  test (decide (x0 < (↑ng : Int)))
 (test (decide ((0 : Int) ≤ x0 ∧ x0 < (↑ng : Int)))
 (test (decide (Int.toNat x0 + ag < mg))
 (test (tg (Int.toNat x0 + ag) == fa)
 (test (decide ((0 : Int) ≤ x0 ∧ x0 < (↑ng : Int)))
 (test (decide (Int.toNat x0 + ag < mg))
 (test (vg (Int.toNat x0 + ag) == fb)
 (Kret (PV.tf true) ([[(2, false, Blk.cols mg [Col.int IntKind.i64 tg, Col.int IntKind.i64 vg]),
 (1, false, Blk.cols mn [Col.int IntKind.i64 tn]),
 (0, false,
 Blk.cols mc [Col.str tc, Col.str vc, Col.int IntKind.i64 gc, Col.bool wc])]]) (4))
 (test (lim IntKind.i64 (x0 + (1 : Int)))
 (Kst (hd Try.f70 0) ([PV.int IntKind.i64 fa, PV.int IntKind.i64 fb,
 PV.ptr (PA.mk (3) (0) (0) (0)),
 PV.int IntKind.i64 (x0 + (1 : Int))]) ([[(2, false, Blk.cols mg [Col.int IntKind.i64 tg, Col.int IntKind.i64 vg]),
 (1, false, Blk.cols mn [Col.int IntKind.i64 tn]),
 (0, false,
 Blk.cols mc [Col.str tc, Col.str vc, Col.int IntKind.i64 gc, Col.bool wc]),
 (3, true,
 Blk.cells
 [PV.loose (PA.mk (0) (4) ac (0)) nc,
 PV.loose (PA.mk (1) (1) an (0)) nn,
 PV.loose (PA.mk (2) (2) ag (0)) ng, PV.int IntKind.i64 rc])]]) (4))
 (False)))
 (False))
 (False))
 (test (lim IntKind.i64 (x0 + (1 : Int)))
 (Kst (hd Try.f70 0) ([PV.int IntKind.i64 fa, PV.int IntKind.i64 fb,
 PV.ptr (PA.mk (3) (0) (0) (0)),
 PV.int IntKind.i64 (x0 + (1 : Int))]) ([[(2, false, Blk.cols mg [Col.int IntKind.i64 tg, Col.int IntKind.i64 vg]),
 (1, false, Blk.cols mn [Col.int IntKind.i64 tn]),
 (0, false,
 Blk.cols mc [Col.str tc, Col.str vc, Col.int IntKind.i64 gc, Col.bool wc]),
 (3, true,
 Blk.cells
 [PV.loose (PA.mk (0) (4) ac (0)) nc,
 PV.loose (PA.mk (1) (1) an (0)) nn,
 PV.loose (PA.mk (2) (2) ag (0)) ng, PV.int IntKind.i64 rc])]]) (4))
 (False)))
 (False))
 (False))
 (Kret (PV.tf false) ([[(2, false, Blk.cols mg [Col.int IntKind.i64 tg, Col.int IntKind.i64 vg]),
 (1, false, Blk.cols mn [Col.int IntKind.i64 tn]),
 (0, false,
 Blk.cols mc [Col.str tc, Col.str vc, Col.int IntKind.i64 gc, Col.bool wc])]]) (4))
set_option maxRecDepth 100000 in
theorem t70_0 (test : Bool → Prop → Prop → Prop) (Kst : KS) (Kret : KR) (ac nc mc : Nat) (tc : Nat → ByteArray) (vc : Nat → ByteArray) (gc : Nat → Int) (wc : Nat → Bool) (an nn mn : Nat) (tn : Nat → Int) (ag ng mg : Nat) (tg : Nat → Int) (vg : Nat → Int) (rc : Int) (fa : Int) (fb : Int) (x0 : Int) : run test Try.env true noX true 400 ⟨70, hd Try.f70 0, zipT [1, 2, 3, 7] [PV.int IntKind.i64 fa, PV.int IntKind.i64 fb,
 PV.ptr (PA.mk (3) (0) (0) (0)), PV.int IntKind.i64 x0], [[(3, (true, Blk.cells
 [PV.loose (PA.mk (0) (4) ac (0)) nc,
 PV.loose (PA.mk (1) (1) an (0)) nn,
 PV.loose (PA.mk (2) (2) ag (0)) ng, PV.int IntKind.i64 rc]))], [(0, (false, .cols mc [.str tc, .str vc, .int .i64 gc, .bool wc])), (1, (false, .cols mn [.int .i64 tn])), (2, (false, .cols mg [.int .i64 tg, .int .i64 vg]))]], 4⟩ (proj 3 [1, 2, 3, 7] Kst Kret) =
  T70_0 test Kst Kret ac nc mc tc vc gc wc an nn mn tn ag ng mg tg vg rc fa fb x0 := by kernel_rfl
attribute [local irreducible] Int.subNatNat in
set_option maxRecDepth 100000 in
theorem be70 (ac nc mc : Nat) (tc : Nat → ByteArray) (vc : Nat → ByteArray) (gc : Nat → Int) (wc : Nat → Bool) (an nn mn : Nat) (tn : Nat → Int) (ag ng mg : Nat) (tg : Nat → Int) (vg : Nat → Int) (rc : Int) (fa : Int) (fb : Int) (Kst : KS) (Kret : KR) (x : St70 ⊕ Rt70) (hS : HS 3 400 ((I70 ac nc mc tc vc gc wc an nn mn tn ag ng mg tg vg rc fa fb)) Kst x) (hR : HR 3 400 ((V70 ac nc mc tc vc gc wc an nn mn tn ag ng mg tg vg rc fa fb)) (fun r => [newL (3 + 1) ((N70 ac nc mc tc vc gc wc an nn mn tn ag ng mg tg vg rc fa fb) r) ++ [(0, (false, .cols mc [.str tc, .str vc, .int .i64 gc, .bool wc])), (1, (false, .cols mn [.int .i64 tn])), (2, (false, .cols mg [.int .i64 tg, .int .i64 vg]))]]) Kret x) (h : (some (.inl (.h0 ((0 : Int)))) : Option (St70 ⊕ Rt70)) = some x) : Te70 cond Kst Kret ac nc mc tc vc gc wc an nn mn tn ag ng mg tg vg rc fa fb := by
  unfold Te70
  exact stop_at hS _ h (fun n => bif Nat.beq n 3 then 3 else n) rfl rfl rfl ⟨(rn_int rfl), ⟨(rn_int rfl), ⟨(rn_ptr (use_own rfl) rfl rfl), ⟨(rn_int rfl), trivial⟩⟩⟩⟩ rfl (entl_b (use_own rfl) rfl (by simp) (rb_cells ⟨(rn_loose (use_lo rfl) rfl rfl rfl), (rn_loose (use_lo rfl) rfl rfl rfl), (rn_loose (use_lo rfl) rfl rfl rfl), (rn_int rfl), trivial⟩) (entl_bor (use_lo rfl) rfl rfl (entl_bor (use_lo rfl) rfl rfl (entl_bor (use_lo rfl) rfl rfl entl_nil))))
attribute [local irreducible] Int.subNatNat in
set_option maxRecDepth 100000 in
theorem b70_0 (ac nc mc : Nat) (tc : Nat → ByteArray) (vc : Nat → ByteArray) (gc : Nat → Int) (wc : Nat → Bool) (an nn mn : Nat) (tn : Nat → Int) (ag ng mg : Nat) (tg : Nat → Int) (vg : Nat → Int) (rc : Int) (fa : Int) (fb : Int) (Kst : KS) (Kret : KR) (x : St70 ⊕ Rt70) (hS : HS 3 400 ((I70 ac nc mc tc vc gc wc an nn mn tn ag ng mg tg vg rc fa fb)) Kst x) (hR : HR 3 400 ((V70 ac nc mc tc vc gc wc an nn mn tn ag ng mg tg vg rc fa fb)) (fun r => [newL (3 + 1) ((N70 ac nc mc tc vc gc wc an nn mn tn ag ng mg tg vg rc fa fb) r) ++ [(0, (false, .cols mc [.str tc, .str vc, .int .i64 gc, .bool wc])), (1, (false, .cols mn [.int .i64 tn])), (2, (false, .cols mg [.int .i64 tg, .int .i64 vg]))]]) Kret x) (x0 : Int) (h : (bif (decide (x0 < (↑ng : Int)))
 then (bif (decide ((0 : Int) ≤ x0 ∧ x0 < (↑ng : Int)))
 then (bif (decide (Int.toNat x0 + ag < mg))
 then (bif (tg (Int.toNat x0 + ag) == fa)
 then (bif (vg (Int.toNat x0 + ag) == fb)
 then (some (.inr (true)))
 else (bif (lim IntKind.i64 (x0 + (1 : Int)))
 then (some (.inl (.h0 (x0 + (1 : Int)))))
 else (none)))
 else (bif (lim IntKind.i64 (x0 + (1 : Int)))
 then (some (.inl (.h0 (x0 + (1 : Int)))))
 else (none)))
 else (none))
 else (none))
 else (some (.inr (false))) : Option (St70 ⊕ Rt70)) = some x) : T70_0 cond Kst Kret ac nc mc tc vc gc wc an nn mn tn ag ng mg tg vg rc fa fb x0 := by
  unfold T70_0
  exact bif_split h
   (fun c0 h => bif_split h
   (fun c1 h => bif_split h
   (fun c2 h => bif_split h
   (fun c3 h => cond_yes c1 (cond_yes c2 (bif_split h
   (fun c4 h => ret_at hR _ h (fun n => n) rfl rfl rfl (rn_bool_tf rfl) rfl (entl_bor (use_lo rfl) rfl rfl (entl_bor (use_lo rfl) rfl rfl (entl_bor (use_lo rfl) rfl rfl entl_nil))))
   (fun c4 h => bif_split h
   (fun c5 h => stop_at hS _ h (fun n => bif Nat.beq n 3 then 3 else n) rfl rfl rfl ⟨(rn_int rfl), ⟨(rn_int rfl), ⟨(rn_ptr (use_own rfl) rfl rfl), ⟨(rn_int rfl), trivial⟩⟩⟩⟩ rfl (entl_b (use_own rfl) rfl (by simp) (rb_cells ⟨(rn_loose (use_lo rfl) rfl rfl rfl), (rn_loose (use_lo rfl) rfl rfl rfl), (rn_loose (use_lo rfl) rfl rfl rfl), (rn_int rfl), trivial⟩) (entl_bor (use_lo rfl) rfl rfl (entl_bor (use_lo rfl) rfl rfl (entl_bor (use_lo rfl) rfl rfl entl_nil)))))
   (fun c5 h => no_some h)))))
   (fun c3 h => bif_split h
   (fun c4 h => stop_at hS _ h (fun n => bif Nat.beq n 3 then 3 else n) rfl rfl rfl ⟨(rn_int rfl), ⟨(rn_int rfl), ⟨(rn_ptr (use_own rfl) rfl rfl), ⟨(rn_int rfl), trivial⟩⟩⟩⟩ rfl (entl_b (use_own rfl) rfl (by simp) (rb_cells ⟨(rn_loose (use_lo rfl) rfl rfl rfl), (rn_loose (use_lo rfl) rfl rfl rfl), (rn_loose (use_lo rfl) rfl rfl rfl), (rn_int rfl), trivial⟩) (entl_bor (use_lo rfl) rfl rfl (entl_bor (use_lo rfl) rfl rfl (entl_bor (use_lo rfl) rfl rfl entl_nil)))))
   (fun c4 h => no_some h)))
   (fun c2 h => no_some h))
   (fun c1 h => no_some h))
   (fun c0 h => ret_at hR _ h (fun n => n) rfl rfl rfl (rn_bool_tf rfl) rfl (entl_bor (use_lo rfl) rfl rfl (entl_bor (use_lo rfl) rfl rfl (entl_bor (use_lo rfl) rfl rfl entl_nil))))
theorem a70 (ac nc mc : Nat) (tc : Nat → ByteArray) (vc : Nat → ByteArray) (gc : Nat → Int) (wc : Nat → Bool) (an nn mn : Nat) (tn : Nat → Int) (ag ng mg : Nat) (tg : Nat → Int) (vg : Nat → Int) (rc : Int) (fa : Int) (fb : Int) {r : Rt70} (h : Goes ((q70 ac nc mc tc vc gc wc an nn mn tn ag ng mg tg vg rc fa fb)) ((p70 ac nc mc tc vc gc wc an nn mn tn ag ng mg tg vg rc fa fb)) r) : CallR Try.prog 70 [.agg [.loose ⟨0, 4, ac, 0⟩ nc, .loose ⟨1, 1, an, 0⟩ nn, .loose ⟨2, 2, ag, 0⟩ ng, .int .i64 rc], .int .i64 fa, .int .i64 fb] [[(0, (false, .cols mc [.str tc, .str vc, .int .i64 gc, .bool wc])), (1, (false, .cols mn [.int .i64 tn])), (2, (false, .cols mg [.int .i64 tg, .int .i64 vg]))]] 3 ((V70 ac nc mc tc vc gc wc an nn mn tn ag ng mg tg vg rc fa fb) r) ((fun r => [newL (3 + 1) ((N70 ac nc mc tc vc gc wc an nn mn tn ag ng mg tg vg rc fa fb) r) ++ [(0, (false, .cols mc [.str tc, .str vc, .int .i64 gc, .bool wc])), (1, (false, .cols mn [.int .i64 tn])), (2, (false, .cols mg [.int .i64 tg, .int .i64 vg]))]]) r) 400 ∧ ∃ F, Try.prog.funcs[70]? = some F ∧ F.body.isSome = true ∧ (F.name == "runtime.NumGoroutine") = false := by
  refine dec_calls (f := 70) (lo := 3) (hi := 400) (H := [[(0, (false, .cols mc [.str tc, .str vc, .int .i64 gc, .bool wc])), (1, (false, .cols mn [.int .i64 tn])), (2, (false, .cols mg [.int .i64 tg, .int .i64 vg]))]]) (args := [.agg [.loose ⟨0, 4, ac, 0⟩ nc, .loose ⟨1, 1, an, 0⟩ nn, .loose ⟨2, 2, ag, 0⟩ ng, .int .i64 rc], .int .i64 fa, .int .i64 fb]) Try.envOk Try.mixed noX_ok ((I70 ac nc mc tc vc gc wc an nn mn tn ag ng mg tg vg rc fa fb)) ((V70 ac nc mc tc vc gc wc an nn mn tn ag ng mg tg vg rc fa fb)) (fun r => [newL (3 + 1) ((N70 ac nc mc tc vc gc wc an nn mn tn ag ng mg tg vg rc fa fb) r) ++ [(0, (false, .cols mc [.str tc, .str vc, .int .i64 gc, .bool wc])), (1, (false, .cols mn [.int .i64 tn])), (2, (false, .cols mg [.int .i64 tg, .int .i64 vg]))]]) (fn := mkFn Try.f70) (ts := [1, 2, 3, 7]) (n := 400) rfl (by decide) (by simp) (names_of rfl) ?_ ?_ ?_ h
  · intro s; cases s <;> exact ⟨hd_ok _ _, by simp [I70], names_of rfl, Nat.le_of_ble_eq_true rfl⟩
  · intro Kst Kret x hS hR h
    exact Holds.eq (te70 cond Kst Kret ac nc mc tc vc gc wc an nn mn tn ag ng mg tg vg rc fa fb) (be70 ac nc mc tc vc gc wc an nn mn tn ag ng mg tg vg rc fa fb Kst Kret x hS hR h)
  · intro Kst Kret x hS hR s h
    cases s with
    | h0 x0 => exact Holds.eq (t70_0 cond Kst Kret ac nc mc tc vc gc wc an nn mn tn ag ng mg tg vg rc fa fb x0) (b70_0 ac nc mc tc vc gc wc an nn mn tn ag ng mg tg vg rc fa fb Kst Kret x hS hR x0 h)
noncomputable def k70 : Con := ⟨70, [.agg [.list [.str, .str, .int .i64, .bool], .list [.int .i64], .list [.int .i64, .int .i64], .plain (.int .i64)], .one (.plain (.int .i64)), .one (.plain (.int .i64))], fun (x : ((Nat × Nat × Nat × (Nat → ByteArray) × (Nat → ByteArray) × (Nat → Int) × (Nat → Bool) × Unit) × (Nat × Nat × Nat × (Nat → Int) × Unit) × (Nat × Nat × Nat × (Nat → Int) × (Nat → Int) × Unit) × Int × Unit) × Int × Int × Unit) => (fun (ac nc mc : Nat) (tc : Nat → ByteArray) (vc : Nat → ByteArray) (gc : Nat → Int) (wc : Nat → Bool) (an nn mn : Nat) (tn : Nat → Int) (ag ng mg : Nat) (tg : Nat → Int) (vg : Nat → Int) (rc : Int) (fa : Int) (fb : Int) => decide (ag + ng ≤ mg ∧ ng ≤ 1000)) x.1.1.1 x.1.1.2.1 x.1.1.2.2.1 x.1.1.2.2.2.1 x.1.1.2.2.2.2.1 x.1.1.2.2.2.2.2.1 x.1.1.2.2.2.2.2.2.1 x.1.2.1.1 x.1.2.1.2.1 x.1.2.1.2.2.1 x.1.2.1.2.2.2.1 x.1.2.2.1.1 x.1.2.2.1.2.1 x.1.2.2.1.2.2.1 x.1.2.2.1.2.2.2.1 x.1.2.2.1.2.2.2.2.1 x.1.2.2.2.1 x.2.1 x.2.2.1, fun (x : ((Nat × Nat × Nat × (Nat → ByteArray) × (Nat → ByteArray) × (Nat → Int) × (Nat → Bool) × Unit) × (Nat × Nat × Nat × (Nat → Int) × Unit) × (Nat × Nat × Nat × (Nat → Int) × (Nat → Int) × Unit) × Int × Unit) × Int × Int × Unit) => (fun (ac nc mc : Nat) (tc : Nat → ByteArray) (vc : Nat → ByteArray) (gc : Nat → Int) (wc : Nat → Bool) (an nn mn : Nat) (tn : Nat → Int) (ag ng mg : Nat) (tg : Nat → Int) (vg : Nat → Int) (rc : Int) (fa : Int) (fb : Int) => (V70 ac nc mc tc vc gc wc an nn mn tn ag ng mg tg vg rc fa fb) (S.forb ng (fun j => tg (j + ag)) (fun j => vg (j + ag)) fa fb)) x.1.1.1 x.1.1.2.1 x.1.1.2.2.1 x.1.1.2.2.2.1 x.1.1.2.2.2.2.1 x.1.1.2.2.2.2.2.1 x.1.1.2.2.2.2.2.2.1 x.1.2.1.1 x.1.2.1.2.1 x.1.2.1.2.2.1 x.1.2.1.2.2.2.1 x.1.2.2.1.1 x.1.2.2.1.2.1 x.1.2.2.1.2.2.1 x.1.2.2.1.2.2.2.1 x.1.2.2.1.2.2.2.2.1 x.1.2.2.2.1 x.2.1 x.2.2.1, fun (x : ((Nat × Nat × Nat × (Nat → ByteArray) × (Nat → ByteArray) × (Nat → Int) × (Nat → Bool) × Unit) × (Nat × Nat × Nat × (Nat → Int) × Unit) × (Nat × Nat × Nat × (Nat → Int) × (Nat → Int) × Unit) × Int × Unit) × Int × Int × Unit) => (fun (ac nc mc : Nat) (tc : Nat → ByteArray) (vc : Nat → ByteArray) (gc : Nat → Int) (wc : Nat → Bool) (an nn mn : Nat) (tn : Nat → Int) (ag ng mg : Nat) (tg : Nat → Int) (vg : Nat → Int) (rc : Int) (fa : Int) (fb : Int) => (N70 ac nc mc tc vc gc wc an nn mn tn ag ng mg tg vg rc fa fb) (S.forb ng (fun j => tg (j + ag)) (fun j => vg (j + ag)) fa fb)) x.1.1.1 x.1.1.2.1 x.1.1.2.2.1 x.1.1.2.2.2.1 x.1.1.2.2.2.2.1 x.1.1.2.2.2.2.2.1 x.1.1.2.2.2.2.2.2.1 x.1.2.1.1 x.1.2.1.2.1 x.1.2.1.2.2.1 x.1.2.1.2.2.2.1 x.1.2.2.1.1 x.1.2.2.1.2.1 x.1.2.2.1.2.2.1 x.1.2.2.1.2.2.2.1 x.1.2.2.1.2.2.2.2.1 x.1.2.2.2.1 x.2.1 x.2.2.1, fun _ _ => .dead⟩
theorem s70' (ac nc mc : Nat) (tc : Nat → ByteArray) (vc : Nat → ByteArray) (gc : Nat → Int) (wc : Nat → Bool) (an nn mn : Nat) (tn : Nat → Int) (ag ng mg : Nat) (tg : Nat → Int) (vg : Nat → Int) (rc : Int) (fa : Int) (fb : Int) (hp : ag + ng ≤ mg ∧ ng ≤ 1000) : ∀ k i : Nat, i + k = ng → S.forb i (fun j => tg (j + ag)) (fun j => vg (j + ag)) fa fb = false → Comes (q70 ac nc mc tc vc gc wc an nn mn tn ag ng mg tg vg rc fa fb) (.h0 (i : Int)) (S.forb ng (fun j => tg (j + ag)) (fun j => vg (j + ag)) fa fb) := by
  obtain ⟨hp1, hp2⟩ := hp
  intro k
  induction k with
  | zero =>
    intro i hi ha
    obtain rfl : i = ng := by omega
    rw [ha]
    apply Comes.of
    show Goes _ _ _
    (first | rw [q70] | unfold q70)
    repeat' first
      | with_reducible refine goes_if (fun h => ?_) (fun h => ?_) <;> (try simp only [lim64, imp_false, decide_eq_true_eq, decide_eq_false_iff_not, Int.toNat_natCast, toNat_pred, toNat_succ, Option.getD_some, Option.getD_none, Bool.not_eq_true', Bool.not_eq_false', Bool.and_eq_true, Bool.or_eq_true, Bool.and_eq_false_iff, Bool.or_eq_false_iff, bne_iff_ne, beq_iff_eq, bne_eq_false_iff_eq, beq_eq_false_iff_ne, ne_eq, not_and, Int.not_le, Int.not_lt, ge_iff_le, gt_iff_lt, Nat.not_lt, Nat.not_le, Bool.not_eq_true, Bool.not_eq_false, Bool.true_eq_false, Bool.false_eq_true, not_false_eq_true, not_true_eq_false] at h)
      | exact goes_none.mpr (by omega)
    all_goals first | (exfalso; omega) | rfl
  | succ k ih =>
    intro i hi ha
    by_cases hc : tg (i + ag) = fa ∧ vg (i + ag) = fb
    · have e : S.forb ng (fun j => tg (j + ag)) (fun j => vg (j + ag)) fa fb = true := any_iff.mpr ⟨i, by omega, by show (decide _ && decide _) = true; rw [decide_eq_true hc.1, decide_eq_true hc.2]; rfl⟩
      rw [e]
      clear ih
      apply Comes.of
      show Goes _ _ _
      (first | rw [q70] | unfold q70)
      repeat' first
        | with_reducible refine goes_if (fun h => ?_) (fun h => ?_) <;> (try simp only [lim64, imp_false, decide_eq_true_eq, decide_eq_false_iff_not, Int.toNat_natCast, toNat_pred, toNat_succ, Option.getD_some, Option.getD_none, Bool.not_eq_true', Bool.not_eq_false', Bool.and_eq_true, Bool.or_eq_true, Bool.and_eq_false_iff, Bool.or_eq_false_iff, bne_iff_ne, beq_iff_eq, bne_eq_false_iff_eq, beq_eq_false_iff_ne, ne_eq, not_and, Int.not_le, Int.not_lt, ge_iff_le, gt_iff_lt, Nat.not_lt, Nat.not_le, Bool.not_eq_true, Bool.not_eq_false, Bool.true_eq_false, Bool.false_eq_true, not_false_eq_true, not_true_eq_false] at h)
        | exact goes_none.mpr (by omega)
      all_goals first | (exfalso; omega) | rfl
    · have ih := ih (i + 1) (by omega) (by unfold S.forb at *; rw [any_sc, ha, Bool.false_or, Bool.and_eq_false_iff, decide_eq_false_iff_not, decide_eq_false_iff_not]; exact Classical.not_and_iff_not_or_not.mp hc)
      apply Comes.of
      show Goes _ _ _
      (first | rw [q70] | unfold q70)
      repeat' first
        | with_reducible refine goes_if (fun h => ?_) (fun h => ?_) <;> (try simp only [lim64, imp_false, decide_eq_true_eq, decide_eq_false_iff_not, Int.toNat_natCast, toNat_pred, toNat_succ, Option.getD_some, Option.getD_none, Bool.not_eq_true', Bool.not_eq_false', Bool.and_eq_true, Bool.or_eq_true, Bool.and_eq_false_iff, Bool.or_eq_false_iff, bne_iff_ne, beq_iff_eq, bne_eq_false_iff_eq, beq_eq_false_iff_ne, ne_eq, not_and, Int.not_le, Int.not_lt, ge_iff_le, gt_iff_lt, Nat.not_lt, Nat.not_le, Bool.not_eq_true, Bool.not_eq_false, Bool.true_eq_false, Bool.false_eq_true, not_false_eq_true, not_true_eq_false] at h)
        | exact goes_none.mpr (by omega)
      all_goals first | (exfalso; omega) | exact ih
theorem s70 (ac nc mc : Nat) (tc : Nat → ByteArray) (vc : Nat → ByteArray) (gc : Nat → Int) (wc : Nat → Bool) (an nn mn : Nat) (tn : Nat → Int) (ag ng mg : Nat) (tg : Nat → Int) (vg : Nat → Int) (rc : Int) (fa : Int) (fb : Int) (hp : ag + ng ≤ mg ∧ ng ≤ 1000) : Goes ((q70 ac nc mc tc vc gc wc an nn mn tn ag ng mg tg vg rc fa fb)) ((p70 ac nc mc tc vc gc wc an nn mn tn ag ng mg tg vg rc fa fb)) (S.forb ng (fun j => tg (j + ag)) (fun j => vg (j + ag)) fa fb) := by
  exact s70' ac nc mc tc vc gc wc an nn mn tn ag ng mg tg vg rc fa fb hp ng 0 (Nat.zero_add _) rfl

theorem k70_ok : k70.ok Try.prog := by
  intro x hx
  obtain ⟨⟨⟨ac, nc, mc, tc, vc, gc, wc, _⟩, ⟨an, nn, mn, tn, _⟩, ⟨ag, ng, mg, tg, vg, _⟩, rc, _⟩, fa, fb, _⟩ := x
  obtain ⟨h1, h2⟩ := a70 ac nc mc tc vc gc wc an nn mn tn ag ng mg tg vg rc fa fb (s70 ac nc mc tc vc gc wc an nn mn tn ag ng mg tg vg rc fa fb (of_dec hx rfl))
  exact ⟨⟨400, (by decide : 3 + 1 + 0 ≤ 400), h1⟩, h2⟩
noncomputable def xD (test : Bool → Prop → Prop → Prop) : Ext := consX test [k70]
theorem xD_ok : ExtOk Try.prog (xD cond) := consX_ok ⟨k70_ok, trivial⟩

end Go.Ev
