/-
  The parts that the statement needs, 3 of 4.
-/
import Derived.Test.YtlmomkdmbacbpaaDoorV62
namespace Go.Ev
open Go.Proofs
set_option linter.unusedVariables false
set_option linter.unusedSimpArgs false
set_option maxRecDepth 100000
theorem t72_1 (test : TT) (Kst : KS) (Kret : KR) (ap np mp : Nat) (tp : NI) (aq nq mq : Nat) (tq : NI) (x0 x1 x2 : Int) (x3 : List Int) : run test Tryd.env true noX true 400 ⟨72, hd Tryd.f72 1, zipT [0, 1, 5, 6, 7, 8, 11, 61, 62, 63, 112, 113, 114] [PV.loose (PA.mk (0) (1) ap (0)) np,
 PV.loose (PA.mk (1) (1) aq (0)) nq, PV.int .i64 (↑nq : Int),
 PV.unk, PV.int .i64 x0, PV.int .i64 x1, PV.unk,
 PV.loose (PA.mk (1) (1) aq (0)) nq, PV.int .i64 (↑nq : Int),
 PV.int .i64 x2, PV.unk, PV.unk, PV.unk], [[], [(0, (true, Blk.cols (List.length x3) [Col.int .i64 fun j => S.at' x3 j])), (1, (false, .cols mq [.int .i64 tq]))]], 2⟩ (proj 2 [0, 1, 5, 6, 7, 8, 11, 61, 62, 63, 112, 113, 114] Kst Kret) =
  T72_1 test Kst Kret ap np mp tp aq nq mq tq x0 x1 x2 x3 := by kernel_rfl
noncomputable def T72_2 (test : TT) (Kst : KS) (Kret : KR) (ap np mp : Nat) (tp : NI) (aq nq mq : Nat) (tq : NI) (x0 x1 x2 : Int) (x3 : List Int) : Prop := test (decide (x2 < (↑nq : Int))) (test (decide ((0 : Int) ≤ x2 ∧ x2 < (↑nq : Int))) (test (decide (Int.toNat x2 + aq < mq)) (test (decide ((0 : Int) ≤ x2 ∧ x2 < (↑np : Int))) (test (decide (Int.toNat x2 + ap < List.length x3)) (test (lim .i64 (S.at' x3 (Int.toNat x2 + ap) + tq (Int.toNat x2 + aq))) (test (lim .i64 (x1 + (S.at' x3 (Int.toNat x2 + ap) + tq (Int.toNat x2 + aq)))) (test (false) (False) (test (decide ((0 : Int) ≤ x2 ∧ x2 < (↑np : Int))) (test (decide (Int.toNat x2 + ap < List.length x3)) (test (false) (False) (test (lim .i64 (Int.tdiv (x1 + (S.at' x3 (Int.toNat x2 + ap) + tq (Int.toNat x2 + aq))) (1000000 : Int))) (test (lim .i64 (x2 + 1)) (Kst (hd Tryd.f72 2) ([PV.loose (PA.mk (0) (1) ap (0)) np, PV.unk, PV.int .i64 (↑nq : Int), PV.unk, PV.int .i64 x0, PV.unk, PV.int .i64 (Int.tdiv (x1 + (S.at' x3 (Int.toNat x2 + ap) + tq (Int.toNat x2 + aq))) (1000000 : Int)), PV.unk, PV.unk, PV.unk, PV.loose (PA.mk (1) (1) aq (0)) nq, PV.int .i64 (↑nq : Int), PV.int .i64 (x2 + 1)]) ([[(1, false, Blk.cols mq [Col.int .i64 tq]), (0, true, Blk.cols (List.length x3) [Col.int .i64 fun j => bif Nat.beq j (Int.toNat x2 + ap) then Int.tmod (x1 + (S.at' x3 (Int.toNat x2 + ap) + tq (Int.toNat x2 + aq))) (1000000 : Int) else S.at' x3 j])]]) (2)) (False)) (False))) (False)) (False))) (False)) (False)) (False)) (False)) (False)) (False)) (test (decide ((0 : Int) ≤ (↑nq : Int) ∧ (↑nq : Int) < (↑np : Int))) (test (decide (nq + ap < List.length x3)) (test (lim .i64 (S.at' x3 (nq + ap) + x1)) (test (decide ((0 : Int) ≤ (↑nq : Int) ∧ (↑nq : Int) < (↑np : Int))) (test (decide (nq + ap < List.length x3)) (test (lim .i64 (x0 - 1)) (Kret (PV.int .i64 (x0 - 1)) ([[(1, false, Blk.cols mq [Col.int .i64 tq]), (0, true, Blk.cols (List.length x3) [Col.int .i64 fun j => bif Nat.beq j (nq + ap) then S.at' x3 (nq + ap) + x1 else S.at' x3 j])]]) (2)) (False)) (False)) (False)) (False)) (False)) (False))
theorem t72_2 (test : TT) (Kst : KS) (Kret : KR) (ap np mp : Nat) (tp : NI) (aq nq mq : Nat) (tq : NI) (x0 x1 x2 : Int) (x3 : List Int) : run test Tryd.env true noX true 400 ⟨72, hd Tryd.f72 2, zipT [0, 1, 5, 6, 7, 8, 11, 61, 62, 63, 112, 113, 114] [PV.loose (PA.mk (0) (1) ap (0)) np, PV.unk,
 PV.int .i64 (↑nq : Int), PV.unk, PV.int .i64 x0, PV.unk,
 PV.int .i64 x1, PV.unk, PV.unk, PV.unk,
 PV.loose (PA.mk (1) (1) aq (0)) nq, PV.int .i64 (↑nq : Int),
 PV.int .i64 x2], [[], [(0, (true, Blk.cols (List.length x3) [Col.int .i64 fun j => S.at' x3 j])), (1, (false, .cols mq [.int .i64 tq]))]], 2⟩ (proj 2 [0, 1, 5, 6, 7, 8, 11, 61, 62, 63, 112, 113, 114] Kst Kret) =
  T72_2 test Kst Kret ap np mp tp aq nq mq tq x0 x1 x2 x3 := by kernel_rfl
noncomputable abbrev J72 (ap np mp : Nat) (tp : NI) (aq nq mq : Nat) (tq : NI) : Rt72 → Heap := fun r => [newL (2 + 1) ((N72 ap np mp tp aq nq mq tq) r) ++ [(0, (true, ((W72 ap np mp tp aq nq mq tq) r 0))), (1, (false, .cols mq [.int .i64 tq]))]]
attribute [local irreducible] Int.subNatNat in
theorem be72 (ap np mp : Nat) (tp : NI) (aq nq mq : Nat) (tq : NI) (Kst : KS) (Kret : KR) (x : St72 ⊕ Rt72) (hS : HS 2 400 ((I72 ap np mp tp aq nq mq tq)) Kst x) (hR : HR 2 400 ((V72 ap np mp tp aq nq mq tq)) (J72 ap np mp tp aq nq mq tq) Kret x) (h : p72 ap np mp tp aq nq mq tq = some x) : Te72 cond Kst Kret ap np mp tp aq nq mq tq := by
  unfold Te72
  unfold p72 at h
  refine bif_split h (fun c0 h => bif_split h (fun c1 h => bif_split h (fun c2 h => bif_split h (fun c3 h => bif_split h (fun c4 h => bif_split h (fun c5 h => bif_split h (fun c6 h => cond_yes c3 (bif_split h (fun c7 h => bif_split h (fun c8 h => bif_split h (fun c9 h => no_some h) (fun c9 h => bif_split h (fun c10 h => stop_at hS _ h (fun n => n) rfl rfl rfl ⟨(rn_loose (use_lo rfl) rfl rfl rfl), ⟨(rn_loose (use_lo rfl) rfl rfl rfl), ⟨(rn_int rfl), ⟨(rn_int rfl), ⟨(rn_int rfl), ⟨(rn_unk _), ⟨(rn_unk _), ⟨(rn_unk _), ⟨(rn_unk _), ⟨(rn_unk _), ⟨(rn_unk _), ⟨(rn_unk _), ⟨(rn_unk _), trivial⟩⟩⟩⟩⟩⟩⟩⟩⟩⟩⟩⟩⟩ rfl (entl_new (use_lo rfl) rfl (Nat.le_of_eq mkl_len) (rcs_int (fun _ hj => col_mkl (fun (t : Int) => t) hj) rcs_nil) (entl_bor (use_lo rfl) rfl rfl entl_nil))) (fun c10 h => no_some h))) (fun c8 h => no_some h)) (fun c7 h => no_some h))) (fun c6 h => no_some h)) (fun c5 h => no_some h)) (fun c4 h => no_some h)) (fun c3 h => no_some h)) (fun c2 h => no_some h)) (fun c1 h => no_some h)) (fun c0 h => no_some h)
attribute [local irreducible] Int.subNatNat in
theorem b72_0 (ap np mp : Nat) (tp : NI) (aq nq mq : Nat) (tq : NI) (Kst : KS) (Kret : KR) (x : St72 ⊕ Rt72) (hS : HS 2 400 ((I72 ap np mp tp aq nq mq tq)) Kst x) (hR : HR 2 400 ((V72 ap np mp tp aq nq mq tq)) (J72 ap np mp tp aq nq mq tq) Kret x) (x0 : Int) (x1 : List Int) (h : q72 ap np mp tp aq nq mq tq (.h0 x0 x1) = some x) : T72_0 cond Kst Kret ap np mp tp aq nq mq tq x0 x1 := by
  unfold T72_0
  rw [q72] at h
  exact bif_split h (fun c0 h => bif_split h (fun c1 h => bif_split h (fun c2 h => bif_split h (fun c3 h => bif_split h (fun c4 h => bif_split h (fun c5 h => bif_split h (fun c6 h => bif_split h (fun c7 h => bif_split h (fun c8 h => bif_split h (fun c9 h => cond_yes c0 (bif_split h (fun c10 h => bif_split h (fun c11 h => bif_split h (fun c12 h => bif_split h (fun c13 h => bif_split h (fun c14 h => stop_at hS _ h (fun n => n) rfl rfl rfl ⟨(rn_loose (use_lo rfl) rfl rfl rfl), ⟨(rn_loose (use_lo rfl) rfl rfl rfl), ⟨(rn_int rfl), ⟨(rn_int rfl), ⟨(rn_int rfl), ⟨(rn_unk _), ⟨(rn_unk _), ⟨(rn_unk _), ⟨(rn_unk _), ⟨(rn_unk _), ⟨(rn_unk _), ⟨(rn_unk _), ⟨(rn_unk _), trivial⟩⟩⟩⟩⟩⟩⟩⟩⟩⟩⟩⟩⟩ rfl (entl_new (use_lo rfl) rfl (Nat.le_of_eq rfl) (rcs_int (fun _ _ => rfl) rcs_nil) (entl_bor (use_lo rfl) rfl rfl entl_nil))) (fun c14 h => no_some h)) (fun c13 h => stop_at hS _ h (fun n => n) rfl rfl rfl ⟨(rn_loose (use_lo rfl) rfl rfl rfl), ⟨(rn_loose (use_lo rfl) rfl rfl rfl), ⟨(rn_int rfl), ⟨(rn_unk _), ⟨(rn_int rfl), ⟨(rn_int rfl), ⟨(rn_unk _), ⟨(rn_loose (use_lo rfl) rfl rfl rfl), ⟨(rn_int rfl), ⟨(rn_int rfl), ⟨(rn_unk _), ⟨(rn_unk _), ⟨(rn_unk _), trivial⟩⟩⟩⟩⟩⟩⟩⟩⟩⟩⟩⟩⟩ rfl (entl_new (use_lo rfl) rfl (Nat.le_of_eq rfl) (rcs_int (fun _ _ => rfl) rcs_nil) (entl_bor (use_lo rfl) rfl rfl entl_nil)))) (fun c12 h => no_some h)) (fun c11 h => no_some h)) (fun c10 h => no_some h))) (fun c9 h => no_some h)) (fun c8 h => no_some h)) (fun c7 h => no_some h)) (fun c6 h => no_some h)) (fun c5 h => no_some h)) (fun c4 h => no_some h)) (fun c3 h => no_some h)) (fun c2 h => no_some h)) (fun c1 h => no_some h)) (fun c0 h => no_some h)
attribute [local irreducible] Int.subNatNat in
theorem b72_1 (ap np mp : Nat) (tp : NI) (aq nq mq : Nat) (tq : NI) (Kst : KS) (Kret : KR) (x : St72 ⊕ Rt72) (hS : HS 2 400 ((I72 ap np mp tp aq nq mq tq)) Kst x) (hR : HR 2 400 ((V72 ap np mp tp aq nq mq tq)) (J72 ap np mp tp aq nq mq tq) Kret x) (x0 x1 x2 : Int) (x3 : List Int) (h : q72 ap np mp tp aq nq mq tq (.h1 x0 x1 x2 x3) = some x) : T72_1 cond Kst Kret ap np mp tp aq nq mq tq x0 x1 x2 x3 := by
  unfold T72_1
  rw [q72] at h
  refine bif_split h (fun c0 h => bif_split h (fun c1 h => bif_split h (fun c2 h => bif_split h (fun c3 h => bif_split h (fun c4 h => bif_split h (fun c5 h => bif_split h (fun c6 h => bif_split h (fun c7 h => cond_no rfl (cond_yes c3 (cond_yes c4 (cond_no rfl (bif_split h (fun c8 h => cond_yes c3 (cond_yes c4 (bif_split h (fun c9 h => cond_yes c3 (cond_yes c4 (bif_split h (fun c10 h => cond_yes c3 (cond_yes c4 (bif_split h (fun c11 h => bif_split h (fun c12 h => ?_) (fun c12 h => ?_)) (fun c11 h => ?_)))) (fun c10 h => ?_)))) (fun c9 h => bif_split h (fun c10 h => ?_) (fun c10 h => ?_))))) (fun c8 h => ?_)))))) (fun c7 h => ?_)) (fun c6 h => ?_)) (fun c5 h => ?_)) (fun c4 h => ?_)) (fun c3 h => ?_)) (fun c2 h => ?_)) (fun c1 h => ?_)) (fun c0 h => bif_split h (fun c1 h => bif_split h (fun c2 h => bif_split h (fun c3 h => cond_yes c1 (cond_yes c2 (cond_yes c1 (cond_yes c2 (bif_split h (fun c4 h => ret_at hR _ h (fun n => n) rfl rfl rfl (rn_int rfl) rfl (entl_new (use_lo rfl) rfl (Nat.le_of_eq mkl_len) (rcs_int (fun _ hj => col_mkl (fun (t : Int) => t) hj) rcs_nil) (entl_bor (use_lo rfl) rfl rfl entl_nil))) (fun c4 h => stop_at hS _ h (fun n => n) rfl rfl rfl ⟨(rn_loose (use_lo rfl) rfl rfl rfl), ⟨(rn_unk _), ⟨(rn_int rfl), ⟨(rn_unk _), ⟨(rn_int rfl), ⟨(rn_unk _), ⟨(rn_int rfl), ⟨(rn_unk _), ⟨(rn_unk _), ⟨(rn_unk _), ⟨(rn_loose (use_lo rfl) rfl rfl rfl), ⟨(rn_int rfl), ⟨(rn_int rfl), trivial⟩⟩⟩⟩⟩⟩⟩⟩⟩⟩⟩⟩⟩ rfl (entl_new (use_lo rfl) rfl (Nat.le_of_eq mkl_len) (rcs_int (fun _ hj => col_mkl (fun (t : Int) => t) hj) rcs_nil) (entl_bor (use_lo rfl) rfl rfl entl_nil)))))))) (fun c3 h => ?_)) (fun c2 h => ?_)) (fun c1 h => ?_))
  all_goals first
    | exact no_some h
    | exact stop_at hS _ h (fun n => n) rfl rfl rfl ⟨(rn_loose (use_lo rfl) rfl rfl rfl), ⟨(rn_loose (use_lo rfl) rfl rfl rfl), ⟨(rn_int rfl), ⟨(rn_unk _), ⟨(rn_int rfl), ⟨(rn_int rfl), ⟨(rn_unk _), ⟨(rn_loose (use_lo rfl) rfl rfl rfl), ⟨(rn_int rfl), ⟨(rn_int rfl), ⟨(rn_unk _), ⟨(rn_unk _), ⟨(rn_unk _), trivial⟩⟩⟩⟩⟩⟩⟩⟩⟩⟩⟩⟩⟩ rfl (entl_new (use_lo rfl) rfl (Nat.le_of_eq mkl_len) (rcs_int (fun _ hj => col_mkl (fun (t : Int) => t) hj) rcs_nil) (entl_bor (use_lo rfl) rfl rfl entl_nil))
attribute [local irreducible] Int.subNatNat in
theorem b72_2 (ap np mp : Nat) (tp : NI) (aq nq mq : Nat) (tq : NI) (Kst : KS) (Kret : KR) (x : St72 ⊕ Rt72) (hS : HS 2 400 ((I72 ap np mp tp aq nq mq tq)) Kst x) (hR : HR 2 400 ((V72 ap np mp tp aq nq mq tq)) (J72 ap np mp tp aq nq mq tq) Kret x) (x0 x1 x2 : Int) (x3 : List Int) (h : q72 ap np mp tp aq nq mq tq (.h2 x0 x1 x2 x3) = some x) : T72_2 cond Kst Kret ap np mp tp aq nq mq tq x0 x1 x2 x3 := by
  unfold T72_2
  rw [q72] at h
  exact bif_split h (fun c0 h => bif_split h (fun c1 h => bif_split h (fun c2 h => bif_split h (fun c3 h => bif_split h (fun c4 h => bif_split h (fun c5 h => bif_split h (fun c6 h => cond_no rfl (cond_yes c3 (cond_yes c4 (cond_no rfl (bif_split h (fun c7 h => bif_split h (fun c8 h => stop_at hS _ h (fun n => n) rfl rfl rfl ⟨(rn_loose (use_lo rfl) rfl rfl rfl), ⟨(rn_unk _), ⟨(rn_int rfl), ⟨(rn_unk _), ⟨(rn_int rfl), ⟨(rn_unk _), ⟨(rn_int rfl), ⟨(rn_unk _), ⟨(rn_unk _), ⟨(rn_unk _), ⟨(rn_loose (use_lo rfl) rfl rfl rfl), ⟨(rn_int rfl), ⟨(rn_int rfl), trivial⟩⟩⟩⟩⟩⟩⟩⟩⟩⟩⟩⟩⟩ rfl (entl_new (use_lo rfl) rfl (Nat.le_of_eq mkl_len) (rcs_int (fun _ hj => col_mkl (fun (t : Int) => t) hj) rcs_nil) (entl_bor (use_lo rfl) rfl rfl entl_nil))) (fun c8 h => no_some h)) (fun c7 h => no_some h)))))) (fun c6 h => no_some h)) (fun c5 h => no_some h)) (fun c4 h => no_some h)) (fun c3 h => no_some h)) (fun c2 h => no_some h)) (fun c1 h => no_some h)) (fun c0 h => bif_split h (fun c1 h => bif_split h (fun c2 h => bif_split h (fun c3 h => cond_yes c1 (cond_yes c2 (bif_split h (fun c4 h => ret_at hR _ h (fun n => n) rfl rfl rfl (rn_int rfl) rfl (entl_new (use_lo rfl) rfl (Nat.le_of_eq mkl_len) (rcs_int (fun _ hj => col_mkl (fun (t : Int) => t) hj) rcs_nil) (entl_bor (use_lo rfl) rfl rfl entl_nil))) (fun c4 h => no_some h)))) (fun c3 h => no_some h)) (fun c2 h => no_some h)) (fun c1 h => no_some h))
theorem a72 (ap np mp : Nat) (tp : NI) (aq nq mq : Nat) (tq : NI) {r : Rt72} (h : Goes ((q72 ap np mp tp aq nq mq tq)) ((p72 ap np mp tp aq nq mq tq)) r) : CallR Tryd.prog 72 [.loose ⟨0, 1, ap, 0⟩ np, .loose ⟨1, 1, aq, 0⟩ nq] [[(0, (true, .cols mp [.int .i64 tp])), (1, (false, .cols mq [.int .i64 tq]))]] 2 ((V72 ap np mp tp aq nq mq tq) r) ((J72 ap np mp tp aq nq mq tq) r) 400 ∧ ∃ F, Tryd.prog.funcs[72]? = some F ∧ F.body.isSome = true ∧ (F.name == "runtime.NumGoroutine") = false := by
  refine dec_calls (f := 72) (lo := 2) (hi := 400) Tryd.envOk Tryd.mixed noX_ok ((I72 ap np mp tp aq nq mq tq)) ((V72 ap np mp tp aq nq mq tq)) (J72 ap np mp tp aq nq mq tq) (fn := mkFn Tryd.f72) (ts := [0, 1, 5, 6, 7, 8, 11, 61, 62, 63, 112, 113, 114]) (n := 400) rfl (by decide) (by simp) (names_of rfl) ?_ ?_ ?_ h
  · intro s; cases s <;> exact ⟨hd_ok _ _, by simp [I72], names_of rfl, Nat.le_of_ble_eq_true rfl⟩
  · intro Kst Kret x hS hR h
    exact Holds.eq (te72 cond Kst Kret ap np mp tp aq nq mq tq) (be72 ap np mp tp aq nq mq tq Kst Kret x hS hR h)
  · intro Kst Kret x hS hR s h
    cases s with
    | h0 x0 x1 => exact Holds.eq (t72_0 cond Kst Kret ap np mp tp aq nq mq tq x0 x1) (b72_0 ap np mp tp aq nq mq tq Kst Kret x hS hR x0 x1 h)
    | h1 x0 x1 x2 x3 => exact Holds.eq (t72_1 cond Kst Kret ap np mp tp aq nq mq tq x0 x1 x2 x3) (b72_1 ap np mp tp aq nq mq tq Kst Kret x hS hR x0 x1 x2 x3 h)
    | h2 x0 x1 x2 x3 => exact Holds.eq (t72_2 cond Kst Kret ap np mp tp aq nq mq tq x0 x1 x2 x3) (b72_2 ap np mp tp aq nq mq tq Kst Kret x hS hR x0 x1 x2 x3 h)
noncomputable abbrev w72 {α : Type} (g : Nat → Nat → Nat → (Nat → Int) → Nat → Nat → Nat → (Nat → Int) → α) (x : (Nat × Nat × Nat × (Nat → Int) × Unit) × (Nat × Nat × Nat × (Nat → Int) × Unit) × Unit) : α := g x.1.1 x.1.2.1 x.1.2.2.1 x.1.2.2.2.1 x.2.1.1 x.2.1.2.1 x.2.1.2.2.1 x.2.1.2.2.2.1
noncomputable def k72  : Con := ⟨72, [.one (.win [.int .i64]), .one (.list [.int .i64])], w72 (fun ap np mp tp aq nq mq tq => decide (ap + np ≤ mp ∧ mp ≤ 1000000 ∧ np = nq + 1 ∧ 2 ≤ nq ∧ nq ≤ 1000 ∧ aq + nq ≤ mq ∧ S.okD np (fun j => tp (j + ap)) = true ∧ S.okG nq (fun j => tq (j + aq)) = true ∧ (S.val np (fun j => tp (j + ap))) < 1000000 * (S.val nq (fun j => tq (j + aq))))), w72 (fun ap np mp tp aq nq mq tq => (V72 ap np mp tp aq nq mq tq) (((S.val np (fun j => tp (j + ap))) / (S.val nq (fun j => tq (j + aq))), S.mkl mp fun j => S.winD tp ap np ((S.val np (fun j => tp (j + ap))) % (S.val nq (fun j => tq (j + aq)))) j))), w72 (fun ap np mp tp aq nq mq tq => (N72 ap np mp tp aq nq mq tq) (((S.val np (fun j => tp (j + ap))) / (S.val nq (fun j => tq (j + aq))), S.mkl mp fun j => S.winD tp ap np ((S.val np (fun j => tp (j + ap))) % (S.val nq (fun j => tq (j + aq)))) j))), w72 (fun ap np mp tp aq nq mq tq => (W72 ap np mp tp aq nq mq tq) (((S.val np (fun j => tp (j + ap))) / (S.val nq (fun j => tq (j + aq))), S.mkl mp fun j => S.winD tp ap np ((S.val np (fun j => tp (j + ap))) % (S.val nq (fun j => tq (j + aq)))) j)))⟩
theorem s72h (ap np mp : Nat) (tp : Nat → Int) (aq nq mq : Nat) (tq : Nat → Int) (hp : ap + np ≤ mp ∧ mp ≤ 1000000 ∧ np = nq + 1 ∧ 2 ≤ nq ∧ nq ≤ 1000 ∧ aq + nq ≤ mq ∧ S.okD np (fun j => tp (j + ap)) = true ∧ S.okG nq (fun j => tq (j + aq)) = true ∧ (S.val np (fun j => tp (j + ap))) < 1000000 * (S.val nq (fun j => tq (j + aq)))) : ∀ (k : Nat) (d : Int), d.toNat ≤ k → (S.val np (fun j => tp (j + ap))) / (S.val nq (fun j => tq (j + aq))) ≤ d → d ≤ 999999 → (∀ d, (S.val np (fun j => tp (j + ap))) / (S.val nq (fun j => tq (j + aq))) ≤ d → d ≤ (S.val np (fun j => tp (j + ap))) / (S.val nq (fun j => tq (j + aq))) + 1 → d ≤ 999999 → Comes (q72 ap np mp tp aq nq mq tq) (.h1 d 0 0 (S.mkl mp fun j => tp j)) ((S.val np (fun j => tp (j + ap))) / (S.val nq (fun j => tq (j + aq))), S.mkl mp fun j => S.winD tp ap np ((S.val np (fun j => tp (j + ap))) % (S.val nq (fun j => tq (j + aq)))) j)) → Comes (q72 ap np mp tp aq nq mq tq) (.h0 d (S.mkl mp fun j => tp j)) ((S.val np (fun j => tp (j + ap))) / (S.val nq (fun j => tq (j + aq))), S.mkl mp fun j => S.winD tp ap np ((S.val np (fun j => tp (j + ap))) % (S.val nq (fun j => tq (j + aq)))) j) := by
  obtain ⟨hp1, hp2, rfl, hp4, hp5, hp6, hp7, hp8, hp9⟩ := hp
  have dP := okD_iff.mp hp7
  have dQ := (okG_iff.mp hp8).1
  obtain ⟨m, rfl⟩ : ∃ m, nq = m + 2 := ⟨nq - 2, by omega⟩
  have vp := val_pos hp8 (by omega)
  have up := val_nn hp7
  have q0 : 0 ≤ (S.val (m + 2 + 1) (fun j => tp (j + ap))) / (S.val (m + 2) (fun j => tq (j + aq))) := Int.ediv_nonneg up (by omega)
  have hv : (S.val (m + 2) (fun j => tq (j + aq))) = S.valF (fun j => tq (j + aq)) 0 m + S.pw m * (tq (m + aq) + 1000000 * tq (m + 1 + aq)) := by
    show S.valF (fun j => tq (j + aq)) 0 (m + 2) = _
    rw [valF_add, Nat.zero_add]
    simp only [S.valF]
    rw [Int.mul_zero, Int.add_zero]
  have hu : (S.val (m + 2 + 1) (fun j => tp (j + ap))) = S.valF (fun j => tp (j + ap)) 0 m + S.pw m * (tp (m + ap) + 1000000 * (tp (m + 1 + ap) + 1000000 * tp (m + 2 + ap))) := by
    show S.valF (fun j => tp (j + ap)) 0 (m + 3) = _
    rw [valF_add, Nat.zero_add]
    simp only [S.valF]
    rw [Int.mul_zero, Int.add_zero]
  have lv0 := valF_nn (t := (fun j => tq (j + aq))) (k := m) (i := 0) fun j _ h => (dQ j (by omega)).1
  have lv1 := valF_lt (t := (fun j => tq (j + aq))) (k := m) (i := 0) fun j _ h => dQ j (by omega)
  have lu0 := valF_nn (t := (fun j => tp (j + ap))) (k := m) (i := 0) fun j _ h => (dP j (by omega)).1
  have lu1 := valF_lt (t := (fun j => tp (j + ap))) (k := m) (i := 0) fun j _ h => dP j (by omega)
  have hw := pw_pos (k := m)
  have a0 := dQ m (by omega)
  have a1 := dQ (m + 1) (by omega)
  have b0 := dP m (by omega)
  have b1 := dP (m + 1) (by omega)
  have b2 := dP (m + 2) (by omega)
  (try dsimp only at a0 a1 b0 b1 b2)
  have e1 : (((m + 2 : Nat) : Int) - 1).toNat = m + 1 := by omega
  have e2 : (((m + 2 : Nat) : Int) - 2).toNat = m := by omega
  have z0 : S.at' (S.mkl mp fun j => tp j) (m + ap) = tp (m + ap) := at_mkl (by omega)
  have step : ∀ d : Int, 0 ≤ d → d ≤ 999999 → (¬ d * tq (m + aq) > (tp (m + 2 + ap) * 1000000 + tp (m + 1 + ap) - d * tq (m + 1 + aq)) * 1000000 + tp (m + ap) → d ≤ (S.val (m + 2 + 1) (fun j => tp (j + ap))) / (S.val (m + 2) (fun j => tq (j + aq))) + 1) ∧ (d * tq (m + aq) > (tp (m + 2 + ap) * 1000000 + tp (m + 1 + ap) - d * tq (m + 1 + aq)) * 1000000 + tp (m + ap) → (S.val (m + 2 + 1) (fun j => tp (j + ap))) / (S.val (m + 2) (fun j => tq (j + aq))) < d) := fun d hd0 hd9 => by
    have ed : d * (tq (m + 1 + aq) * 1000000 + tq (m + aq)) = d * tq (m + 1 + aq) * 1000000 + d * tq (m + aq) := by rw [Int.mul_add, Int.mul_assoc]
    have c1 : (tq (m + 1 + aq) * 1000000 + tq (m + aq)) * S.pw m = S.pw m * (tq (m + aq) + 1000000 * tq (m + 1 + aq)) := by rw [Int.mul_comm, Int.add_comm, Int.mul_comm 1000000]
    have c2 : ((tp (m + 2 + ap) * 1000000 + tp (m + 1 + ap)) * 1000000 + tp (m + ap)) * S.pw m = S.pw m * (tp (m + ap) + 1000000 * (tp (m + 1 + ap) + 1000000 * tp (m + 2 + ap))) := by
      rw [Int.mul_comm]; congr 1; omega
    have v1 : (tq (m + 1 + aq) * 1000000 + tq (m + aq)) * S.pw m ≤ (S.val (m + 2) (fun j => tq (j + aq))) := by rw [hv, c1]; omega
    have v2 : (S.val (m + 2) (fun j => tq (j + aq))) < (tq (m + 1 + aq) * 1000000 + tq (m + aq) + 1) * S.pw m := by rw [Int.add_mul, c1, hv, Int.one_mul]; omega
    have u1 : ((tp (m + 2 + ap) * 1000000 + tp (m + 1 + ap)) * 1000000 + tp (m + ap)) * S.pw m ≤ (S.val (m + 2 + 1) (fun j => tp (j + ap))) := by rw [hu, c2]; omega
    have u2 : (S.val (m + 2 + 1) (fun j => tp (j + ap))) < ((tp (m + 2 + ap) * 1000000 + tp (m + 1 + ap)) * 1000000 + tp (m + ap) + 1) * S.pw m := by rw [Int.add_mul, c2, hu, Int.one_mul]; omega
    have l1 : tq (m + 1 + aq) ≠ 0 := by
      have := (okG_iff.mp hp8).2
      rcases this with h | h
      · omega
      · exact h
    constructor
    · intro h
      have k1 := knuth_ok hw v2 (by omega) u1 up (by omega) hd0 (by omega)
      have k2 := (Int.le_ediv_iff_mul_le vp).mpr k1
      omega
    · intro h
      have k1 := knuth_no hw v1 u2 hd0 (by omega)
      exact (Int.ediv_lt_iff_lt_mul vp).mpr k1
  intro k
  induction k with
  | zero =>
    intro d hk hq h9 hC
    obtain rfl : d = 0 := by omega
    have hC := hC 0 hq (by omega) (by omega)
    have s0 := (step 0 (by omega) (by omega)).2
    rw [Int.zero_mul, Int.zero_mul] at s0
    clear step hu hv
    apply Comes.of
    show Goes _ _ _
    rw [q72]
    simp only [e1, e2, z0, mkl_len, Int.zero_mul]
    repeat' (first | with_reducible refine goes_if (fun h => ?_) (fun h => ?_) <;> (try simp only [SH] at h) | exact goes_none.mpr (by omega))
    all_goals first | (exfalso; omega) | exact hC
  | succ k ih =>
    intro d hk hq h9 hC
    obtain ⟨s1, s2⟩ := step d (by omega) h9
    have m1 := mul_dig (x := d) (y := tq (m + aq)) (by omega) a0
    have m2 := mul_dig (x := d) (y := tq (m + 1 + aq)) (by omega) a1
    clear step hu hv
    by_cases hg : d * tq (m + aq) > (tp (m + 2 + ap) * 1000000 + tp (m + 1 + ap) - d * tq (m + 1 + aq)) * 1000000 + tp (m + ap)
    · have s2 := s2 hg
      have ih := ih (d - 1) (by omega) (by omega) (by omega) hC
      clear s1
      apply Comes.of
      show Goes _ _ _
      rw [q72]
      simp only [e1, e2, z0, mkl_len]
      repeat' (first | with_reducible refine goes_if (fun h => ?_) (fun h => ?_) <;> (try simp only [SH] at h) | exact goes_none.mpr (by omega))
      all_goals first | (exfalso; omega) | exact ih
    · have hC := hC d hq (s1 hg) h9
      clear s1 s2
      apply Comes.of
      show Goes _ _ _
      rw [q72]
      simp only [e1, e2, z0, mkl_len]
      repeat' (first | with_reducible refine goes_if (fun h => ?_) (fun h => ?_) <;> (try simp only [SH] at h) | exact goes_none.mpr (by omega))
      all_goals first | (exfalso; omega) | exact hC
theorem upd_twice  {p : Nat} {g g2 : Int} {f : Nat → Int} : (fun j => bif Nat.beq j p then g else bif Nat.beq j p then g2 else f j) = fun j => bif Nat.beq j p then g else f j := by
  funext j
  cases Nat.beq j p <;> rfl
theorem tdiv_nn  {X Y : Int} (hX : 0 ≤ X) (hY : 0 < Y) : 0 ≤ Int.tdiv X Y ∧ X < (Int.tdiv X Y + 1) * Y ∧ Int.tdiv X Y ≤ X := by
  rw [Int.tdiv_eq_ediv_of_nonneg hX]
  refine ⟨Int.ediv_nonneg hX (by omega), ?_, Int.ediv_le_self _ hX⟩
  have h2 := Int.emod_lt_of_pos X hY
  have h3 := Int.emod_add_mul_ediv X Y
  rw [Int.mul_comm] at h3
  rw [Int.add_mul, Int.one_mul]
  omega
theorem s72s (ap np mp : Nat) (tp : Nat → Int) (aq nq mq : Nat) (tq : Nat → Int) (hp : ap + np ≤ mp ∧ mp ≤ 1000000 ∧ np = nq + 1 ∧ 2 ≤ nq ∧ nq ≤ 1000 ∧ aq + nq ≤ mq ∧ S.okD np (fun j => tp (j + ap)) = true ∧ S.okG nq (fun j => tq (j + aq)) = true ∧ (S.val np (fun j => tp (j + ap))) < 1000000 * (S.val nq (fun j => tq (j + aq)))) (d : Int) (hd0 : 0 ≤ d ∧ d < 1000000) : ∀ (k i : Nat) (c : Int) (R : List Int), i + k = nq → R.length = mp → (∀ j, j < mp → ¬ (ap ≤ j ∧ j < ap + i) → S.at' R j = tp j) → (∀ j, j < i → 0 ≤ S.at' R (j + ap) ∧ S.at' R (j + ap) < 1000000) → (-999999 ≤ c ∧ c ≤ 0) → S.valF (fun j => S.at' R (j + ap)) 0 i + S.pw i * c = S.valF (fun j => tp (j + ap)) 0 i - d * S.valF (fun j => tq (j + aq)) 0 i →
    ∃ (R' : List Int) (c' : Int), R'.length = mp ∧ (∀ j, j < mp → ¬ (ap ≤ j ∧ j < ap + nq) → S.at' R' j = tp j) ∧ (∀ j, j < nq → 0 ≤ S.at' R' (j + ap) ∧ S.at' R' (j + ap) < 1000000) ∧ (-999999 ≤ c' ∧ c' ≤ 0) ∧ S.valF (fun j => S.at' R' (j + ap)) 0 nq + S.pw nq * c' = S.valF (fun j => tp (j + ap)) 0 nq - d * S.valF (fun j => tq (j + aq)) 0 nq ∧ ∀ res, Comes (q72 ap np mp tp aq nq mq tq) (.h1 d c' nq R') res → Comes (q72 ap np mp tp aq nq mq tq) (.h1 d c i R) res := by
  obtain ⟨hp1, hp2, rfl, hp4, hp5, hp6, hp7, hp8, hp9⟩ := hp
  have dP := okD_iff.mp hp7
  have dQ := (okG_iff.mp hp8).1
  intro k
  induction k with
  | zero =>
    intro i c R hi hR ho hdg hc he
    obtain rfl : i = nq := by omega
    exact ⟨R, c, hR, ho, hdg, hc, he, fun res h => h⟩
  | succ k ih =>
    intro i c R hi hR ho hdg hc he
    have a0 := dP i (by omega)
    have b0 := dQ i (by omega)
    (try dsimp only at a0 b0)
    have m1 := mul_dig (x := d) (y := tq (i + aq)) hd0 b0
    have eo := ho (i + ap) (by omega) (by omega)
    have hX : ∃ X, c + (tp (i + ap) - d * tq (i + aq)) = X := ⟨_, rfl⟩
    obtain ⟨X, hX⟩ := hX
    by_cases hn : Int.tmod X 1000000 < 0
    · obtain ⟨f1, f2⟩ := floor_neg hn
      obtain ⟨R', c', r1, r2, r3, r4, r5, r6⟩ := ih (i + 1) (Int.tdiv X 1000000 - 1) (S.mkl mp fun j => bif Nat.beq j (i + ap) then (Int.tmod X 1000000 + 1000000) else S.at' R j) (by omega) mkl_len
        (fun j hj hw => by rw [upd_at hj, if_neg (by omega)]; exact ho j hj (by omega))
        (fun j hj => by
          rw [upd_at (by omega)]
          by_cases hji : j = i
          · subst hji; rw [if_pos rfl]; omega
          · rw [if_neg (by omega)]; exact hdg j (by omega))
        (by omega)
        (by rw [pre_upd (by omega), valF_snoc (t := (fun j => tp (j + ap))), valF_snoc (t := (fun j => tq (j + aq))), Nat.zero_add]; exact sub_eq he (by omega))
      refine ⟨R', c', r1, r2, r3, r4, r5, fun res hC => ?_⟩
      have r6 := r6 res hC
      clear ih he r5 hC
      generalize hM : Int.tmod X 1000000 = M at *
      generalize hY : Int.tdiv X 1000000 = Y at *
      apply Comes.of
      show Goes _ _ _
      rw [q72]
      simp only [Int.toNat_natCast, eo, hX, hM, hY, hR, Nat.beq_refl, cond_true, upd_twice]
      repeat' (first | with_reducible refine goes_if (fun h => ?_) (fun h => ?_) <;> (try simp only [SH] at h) | exact goes_none.mpr (by omega))
      all_goals first | (exfalso; omega) | exact r6
    · obtain ⟨f1, f2⟩ := floor_nn hn
      obtain ⟨R', c', r1, r2, r3, r4, r5, r6⟩ := ih (i + 1) (Int.tdiv X 1000000) (S.mkl mp fun j => bif Nat.beq j (i + ap) then (Int.tmod X 1000000) else S.at' R j) (by omega) mkl_len
        (fun j hj hw => by rw [upd_at hj, if_neg (by omega)]; exact ho j hj (by omega))
        (fun j hj => by
          rw [upd_at (by omega)]
          by_cases hji : j = i
          · subst hji; rw [if_pos rfl]; omega
          · rw [if_neg (by omega)]; exact hdg j (by omega))
        (by omega)
        (by rw [pre_upd (by omega), valF_snoc (t := (fun j => tp (j + ap))), valF_snoc (t := (fun j => tq (j + aq))), Nat.zero_add]; exact sub_eq he (by omega))
      refine ⟨R', c', r1, r2, r3, r4, r5, fun res hC => ?_⟩
      have r6 := r6 res hC
      clear ih he r5 hC
      generalize hM : Int.tmod X 1000000 = M at *
      generalize hY : Int.tdiv X 1000000 = Y at *
      apply Comes.of
      show Goes _ _ _
      rw [q72]
      simp only [Int.toNat_natCast, eo, hX, hM, hY, hR, Nat.beq_refl, cond_true, upd_twice]
      repeat' (first | with_reducible refine goes_if (fun h => ?_) (fun h => ?_) <;> (try simp only [SH] at h) | exact goes_none.mpr (by omega))
      all_goals first | (exfalso; omega) | exact r6
theorem s72p (ap np mp : Nat) (tp : Nat → Int) (aq nq mq : Nat) (tq : Nat → Int) (hp : ap + np ≤ mp ∧ mp ≤ 1000000 ∧ np = nq + 1 ∧ 2 ≤ nq ∧ nq ≤ 1000 ∧ aq + nq ≤ mq ∧ S.okD np (fun j => tp (j + ap)) = true ∧ S.okG nq (fun j => tq (j + aq)) = true ∧ (S.val np (fun j => tp (j + ap))) < 1000000 * (S.val nq (fun j => tq (j + aq)))) (d : Int) (R0 : List Int) (h0 : ∀ j, j < nq → 0 ≤ S.at' R0 (j + ap) ∧ S.at' R0 (j + ap) < 1000000) : ∀ (k i : Nat) (c : Int) (R : List Int), i + k = nq → R.length = mp → (∀ j, j < mp → ¬ (ap ≤ j ∧ j < ap + i) → S.at' R j = S.at' R0 j) → (∀ j, j < i → 0 ≤ S.at' R (j + ap) ∧ S.at' R (j + ap) < 1000000) → (0 ≤ c ∧ c ≤ 1) → S.valF (fun j => S.at' R (j + ap)) 0 i + S.pw i * c = S.valF (fun j => S.at' R0 (j + ap)) 0 i + S.valF (fun j => tq (j + aq)) 0 i →
    ∃ (R' : List Int) (c' : Int), R'.length = mp ∧ (∀ j, j < mp → ¬ (ap ≤ j ∧ j < ap + nq) → S.at' R' j = S.at' R0 j) ∧ (∀ j, j < nq → 0 ≤ S.at' R' (j + ap) ∧ S.at' R' (j + ap) < 1000000) ∧ (0 ≤ c' ∧ c' ≤ 1) ∧ S.valF (fun j => S.at' R' (j + ap)) 0 nq + S.pw nq * c' = S.valF (fun j => S.at' R0 (j + ap)) 0 nq + S.valF (fun j => tq (j + aq)) 0 nq ∧ ∀ res, Comes (q72 ap np mp tp aq nq mq tq) (.h2 d c' nq R') res → Comes (q72 ap np mp tp aq nq mq tq) (.h2 d c i R) res := by
  obtain ⟨hp1, hp2, rfl, hp4, hp5, hp6, hp7, hp8, hp9⟩ := hp
  have dP := okD_iff.mp hp7
  have dQ := (okG_iff.mp hp8).1
  intro k
  induction k with
  | zero =>
    intro i c R hi hR ho hdg hc he
    obtain rfl : i = nq := by omega
    exact ⟨R, c, hR, ho, hdg, hc, he, fun res h => h⟩
  | succ k ih =>
    intro i c R hi hR ho hdg hc he
    have a0 := h0 i (by omega)
    have b0 := dQ i (by omega)
    (try dsimp only at b0)
    have eo := ho (i + ap) (by omega) (by omega)
    have hX : ∃ X, c + (S.at' R0 (i + ap) + tq (i + aq)) = X := ⟨_, rfl⟩
    obtain ⟨X, hX⟩ := hX
    have f1 := tmB (x := X) (by omega)
    have f2 := tdB (x := X) (by omega)
    obtain ⟨R', c', r1, r2, r3, r4, r5, r6⟩ := ih (i + 1) (Int.tdiv X 1000000) (S.mkl mp fun j => bif Nat.beq j (i + ap) then Int.tmod X 1000000 else S.at' R j) (by omega) mkl_len
        (fun j hj hw => by rw [upd_at hj, if_neg (by omega)]; exact ho j hj (by omega))
        (fun j hj => by
          rw [upd_at (by omega)]
          by_cases hji : j = i
          · subst hji; rw [if_pos rfl]; omega
          · rw [if_neg (by omega)]; exact hdg j (by omega))
        (by omega)
        (by rw [pre_upd (by omega), valF_snoc (t := fun j => S.at' R0 (j + ap)), valF_snoc (t := (fun j => tq (j + aq))), Nat.zero_add]; exact add_eq he (by omega))
    refine ⟨R', c', r1, r2, r3, r4, r5, fun res hC => ?_⟩
    have r6 := r6 res hC
    clear ih he r5 hC
    generalize hM : Int.tmod X 1000000 = M at *
    generalize hY : Int.tdiv X 1000000 = Y at *
    apply Comes.of
    show Goes _ _ _
    rw [q72]
    simp only [Int.toNat_natCast, eo, hX, hM, hY, hR, Nat.beq_refl, cond_true]
    repeat' (first | with_reducible refine goes_if (fun h => ?_) (fun h => ?_) <;> (try simp only [SH] at h) | exact goes_none.mpr (by omega))
    all_goals first | (exfalso; omega) | exact r6
theorem s72d (ap np mp : Nat) (tp : Nat → Int) (aq nq mq : Nat) (tq : Nat → Int) (hp : ap + np ≤ mp ∧ mp ≤ 1000000 ∧ np = nq + 1 ∧ 2 ≤ nq ∧ nq ≤ 1000 ∧ aq + nq ≤ mq ∧ S.okD np (fun j => tp (j + ap)) = true ∧ S.okG nq (fun j => tq (j + aq)) = true ∧ (S.val np (fun j => tp (j + ap))) < 1000000 * (S.val nq (fun j => tq (j + aq)))) (d : Int) (hq : (S.val np (fun j => tp (j + ap))) / (S.val nq (fun j => tq (j + aq))) ≤ d ∧ d ≤ (S.val np (fun j => tp (j + ap))) / (S.val nq (fun j => tq (j + aq))) + 1) (h9 : d ≤ 999999) : Comes (q72 ap np mp tp aq nq mq tq) (.h1 d 0 0 (S.mkl mp fun j => tp j)) ((S.val np (fun j => tp (j + ap))) / (S.val nq (fun j => tq (j + aq))), S.mkl mp fun j => S.winD tp ap np ((S.val np (fun j => tp (j + ap))) % (S.val nq (fun j => tq (j + aq)))) j) := by
  have hp' := hp
  obtain ⟨hp1, hp2, rfl, hp4, hp5, hp6, hp7, hp8, hp9⟩ := hp
  have dP := okD_iff.mp hp7
  have dQ := (okG_iff.mp hp8).1
  have vp := val_pos hp8 (by omega)
  have up := val_nn hp7
  have q0 : 0 ≤ (S.val (nq + 1) (fun j => tp (j + ap))) / (S.val nq (fun j => tq (j + aq))) := Int.ediv_nonneg up (by omega)
  obtain ⟨R, c, r1, r2, r3, r4, r5, r6⟩ := s72s ap (nq + 1) mp tp aq nq mq tq hp' d (by omega) nq 0 0 (S.mkl mp fun j => tp j) (by omega) mkl_len (fun j hj _ => at_mkl hj) (fun j hj => by omega) (by omega) (by simp only [S.valF]; omega)
  have hw := pw_pos (k := nq)
  have hV : S.valF (fun j => tq (j + aq)) 0 nq = (S.val nq (fun j => tq (j + aq))) := rfl
  have hU : (S.val (nq + 1) (fun j => tp (j + ap))) = S.valF (fun j => tp (j + ap)) 0 nq + S.pw nq * tp (nq + ap) := by
    show S.valF (fun j => tp (j + ap)) 0 (nq + 1) = _
    rw [valF_snoc, Nat.zero_add]
  have vlt := val_lt (okG_D hp8) (Nat.le_refl nq)
  have x0 := valF_nn (t := fun j => S.at' R (j + ap)) (k := nq) (i := 0) fun j _ h => (r3 j (by omega)).1
  have x1 := valF_lt (t := fun j => S.at' R (j + ap)) (k := nq) (i := 0) fun j _ h => r3 j (by omega)
  have eo := r2 (nq + ap) (by omega) (by omega)
  have b2 := dP nq (by omega)
  (try dsimp only at b2)
  have hm0 := Int.emod_nonneg (S.val (nq + 1) (fun j => tp (j + ap))) (show (S.val nq (fun j => tq (j + aq))) ≠ 0 by omega)
  have hm1 := Int.emod_lt_of_pos (S.val (nq + 1) (fun j => tp (j + ap))) vp
  have hmd := Int.emod_add_mul_ediv (S.val (nq + 1) (fun j => tp (j + ap))) (S.val nq (fun j => tq (j + aq)))
  rw [Int.mul_comm] at hmd
  have tot : S.valF (fun j => S.at' R (j + ap)) 0 nq + S.pw nq * (tp (nq + ap) + c) = (S.val (nq + 1) (fun j => tp (j + ap))) - d * (S.val nq (fun j => tq (j + aq))) := by
    rw [Int.mul_add, hU, ← hV]
    omega
  apply r6
  by_cases ht : 0 ≤ tp (nq + ap) + c
  · have t0 : 0 ≤ S.pw nq * (tp (nq + ap) + c) := Int.mul_nonneg (by omega) ht
    have hdq : d = (S.val (nq + 1) (fun j => tp (j + ap))) / (S.val nq (fun j => tq (j + aq))) := by
      have := (Int.le_ediv_iff_mul_le vp).mpr (show d * (S.val nq (fun j => tq (j + aq))) ≤ (S.val (nq + 1) (fun j => tp (j + ap))) by omega)
      omega
    rw [hdq] at tot
    have hz := top_zero (T := tp (nq + ap) + c) hw ⟨x0, x1⟩ (by omega) (V := (S.val nq (fun j => tq (j + aq)))) (by omega) (by omega)
    rw [hz, Int.mul_zero] at tot
    have hL : (S.mkl mp fun j => bif Nat.beq j (nq + ap) then tp (nq + ap) + c else S.at' R j) = S.mkl mp fun j => S.winD tp ap (nq + 1) ((S.val (nq + 1) (fun j => tp (j + ap))) % (S.val nq (fun j => tq (j + aq)))) j := by
      refine win_list mkl_len hp1 (fun j hj hn => ?_) (fun j hj => ?_) ?_ ?_
      · rw [upd_at hj, if_neg (by omega)]; exact r2 j hj (by omega)
      · rw [upd_at (by omega), if_neg (by omega)]; exact r3 j hj
      · rw [upd_at (by omega), if_pos rfl]; exact hz
      · rw [valF_congr (u := fun j => S.at' R (j + ap)) fun j h1 h2 => by rw [upd_at (by omega), if_neg (by omega)]]; omega
    rw [← hL, ← hdq]
    clear tot hU hmd hL r5
    apply Comes.of
    show Goes _ _ _
    rw [q72]
    simp only [Int.toNat_natCast, eo, r1, Nat.beq_refl, cond_true]
    repeat' (first | with_reducible refine goes_if (fun h => ?_) (fun h => ?_) <;> (try simp only [SH] at h) | exact goes_none.mpr (by omega))
    all_goals first | (exfalso; omega) | exact goes_inr.mpr rfl
  · have t0 : S.pw nq * (tp (nq + ap) + c) ≤ S.pw nq * (-1) := Int.mul_le_mul_of_nonneg_left (by omega) (by omega)
    have hdq : d = (S.val (nq + 1) (fun j => tp (j + ap))) / (S.val nq (fun j => tq (j + aq))) + 1 := by
      have := (Int.ediv_lt_iff_lt_mul vp).mpr (show (S.val (nq + 1) (fun j => tp (j + ap))) < d * (S.val nq (fun j => tq (j + aq))) by omega)
      omega
    have g0 : ∀ j, j < nq → 0 ≤ S.at' (S.mkl mp fun j => bif Nat.beq j (nq + ap) then tp (nq + ap) + c else S.at' R j) (j + ap) ∧ S.at' (S.mkl mp fun j => bif Nat.beq j (nq + ap) then tp (nq + ap) + c else S.at' R j) (j + ap) < 1000000 := fun j hj => by
      rw [upd_at (by omega), if_neg (by omega)]; exact r3 j hj
    have g1 : S.valF (fun j => S.at' (S.mkl mp fun j => bif Nat.beq j (nq + ap) then tp (nq + ap) + c else S.at' R j) (j + ap)) 0 nq = S.valF (fun j => S.at' R (j + ap)) 0 nq := valF_congr fun j h1 h2 => by rw [upd_at (by omega), if_neg (by omega)]
    obtain ⟨R', c', w1, w2, w3, w4, w5, w6⟩ := s72p ap (nq + 1) mp tp aq nq mq tq hp' d _ g0 nq 0 0 (S.mkl mp fun j => bif Nat.beq j (nq + ap) then tp (nq + ap) + c else S.at' R j) (by omega) mkl_len (fun j hj _ => rfl) (fun j hj => by omega) (by omega) (by simp only [S.valF]; omega)
    rw [g1] at w5
    have eo' := w2 (nq + ap) (by omega) (by omega)
    rw [upd_at (by omega), if_pos rfl] at eo'
    have y0 := valF_nn (t := fun j => S.at' R' (j + ap)) (k := nq) (i := 0) fun j _ h => (w3 j (by omega)).1
    have y1 := valF_lt (t := fun j => S.at' R' (j + ap)) (k := nq) (i := 0) fun j _ h => w3 j (by omega)
    rw [hdq, Int.add_mul, Int.one_mul] at tot
    have tot2 : S.valF (fun j => S.at' R' (j + ap)) 0 nq + S.pw nq * (tp (nq + ap) + c + c') = (S.val (nq + 1) (fun j => tp (j + ap))) % (S.val nq (fun j => tq (j + aq))) := by
      rw [Int.mul_add]
      omega
    have hz := top_zero (T := tp (nq + ap) + c + c') hw ⟨y0, y1⟩ (by omega) (V := (S.val nq (fun j => tq (j + aq)))) (by omega) (by omega)
    rw [hz, Int.mul_zero] at tot2
    have hL : (S.mkl mp fun j => bif Nat.beq j (nq + ap) then tp (nq + ap) + c + c' else S.at' R' j) = S.mkl mp fun j => S.winD tp ap (nq + 1) ((S.val (nq + 1) (fun j => tp (j + ap))) % (S.val nq (fun j => tq (j + aq)))) j := by
      refine win_list mkl_len hp1 (fun j hj hn => ?_) (fun j hj => ?_) ?_ ?_
      · rw [upd_at hj, if_neg (by omega), w2 j hj (by omega), upd_at hj, if_neg (by omega)]; exact r2 j hj (by omega)
      · rw [upd_at (by omega), if_neg (by omega)]; exact w3 j hj
      · rw [upd_at (by omega), if_pos rfl]; exact hz
      · rw [valF_congr (u := fun j => S.at' R' (j + ap)) fun j h1 h2 => by rw [upd_at (by omega), if_neg (by omega)]]; omega
    have hq1 : (S.val (nq + 1) (fun j => tp (j + ap))) / (S.val nq (fun j => tq (j + aq))) = d - 1 := by omega
    rw [← hL, hq1]
    have hE : Comes (q72 ap (nq + 1) mp tp aq nq mq tq) (.h2 d c' nq R') (d - 1, S.mkl mp fun j => bif Nat.beq j (nq + ap) then tp (nq + ap) + c + c' else S.at' R' j) := by
      clear tot tot2 hU hmd hL r5 w5
      apply Comes.of
      show Goes _ _ _
      rw [q72]
      simp only [Int.toNat_natCast, eo', w1, Nat.beq_refl, cond_true]
      repeat' (first | with_reducible refine goes_if (fun h => ?_) (fun h => ?_) <;> (try simp only [SH] at h) | exact goes_none.mpr (by omega))
      all_goals first | (exfalso; omega) | exact goes_inr.mpr rfl
    have hE := w6 _ hE
    clear tot tot2 hU hmd hL r5 w5
    apply Comes.of
    show Goes _ _ _
    rw [q72]
    simp only [Int.toNat_natCast, eo, r1, Nat.beq_refl, cond_true]
    repeat' (first | with_reducible refine goes_if (fun h => ?_) (fun h => ?_) <;> (try simp only [SH] at h) | exact goes_none.mpr (by omega))
    all_goals first | (exfalso; omega) | exact hE
theorem s72 (ap np mp : Nat) (tp : Nat → Int) (aq nq mq : Nat) (tq : Nat → Int) (hp : ap + np ≤ mp ∧ mp ≤ 1000000 ∧ np = nq + 1 ∧ 2 ≤ nq ∧ nq ≤ 1000 ∧ aq + nq ≤ mq ∧ S.okD np (fun j => tp (j + ap)) = true ∧ S.okG nq (fun j => tq (j + aq)) = true ∧ (S.val np (fun j => tp (j + ap))) < 1000000 * (S.val nq (fun j => tq (j + aq)))) : Goes ((q72 ap np mp tp aq nq mq tq)) ((p72 ap np mp tp aq nq mq tq)) (((S.val np (fun j => tp (j + ap))) / (S.val nq (fun j => tq (j + aq))), S.mkl mp fun j => S.winD tp ap np ((S.val np (fun j => tp (j + ap))) % (S.val nq (fun j => tq (j + aq)))) j)) := by
  have hp' := hp
  obtain ⟨hp1, hp2, rfl, hp4, hp5, hp6, hp7, hp8, hp9⟩ := hp
  have dP := okD_iff.mp hp7
  have dQ := (okG_iff.mp hp8).1
  have vp := val_pos hp8 (by omega)
  have up := val_nn hp7
  have q0 : 0 ≤ (S.val (nq + 1) (fun j => tp (j + ap))) / (S.val nq (fun j => tq (j + aq))) := Int.ediv_nonneg up (by omega)
  have q9 : (S.val (nq + 1) (fun j => tp (j + ap))) / (S.val nq (fun j => tq (j + aq))) < 1000000 := (Int.ediv_lt_iff_lt_mul vp).mpr hp9
  have hm := fun (d : Int) (h : (S.val (nq + 1) (fun j => tp (j + ap))) / (S.val nq (fun j => tq (j + aq))) ≤ d) (h9 : d ≤ 999999) => s72h ap (nq + 1) mp tp aq nq mq tq hp' d.toNat d (Nat.le_refl _) h h9 (fun d a1 a2 a3 => s72d ap (nq + 1) mp tp aq nq mq tq hp' d ⟨a1, a2⟩ a3)
  have hV : (S.val nq (fun j => tq (j + aq))) = S.valF (fun j => tq (j + aq)) 0 (nq - 1) + S.pw (nq - 1) * tq (nq - 1 + aq) := by
    show S.valF (fun j => tq (j + aq)) 0 nq = _
    have := valF_snoc (t := (fun j => tq (j + aq))) (i := 0) (k := nq - 1)
    rw [show nq - 1 + 1 = nq by omega, Nat.zero_add] at this
    exact this
  have hU : (S.val (nq + 1) (fun j => tp (j + ap))) = S.valF (fun j => tp (j + ap)) 0 (nq - 1) + S.pw (nq - 1) * (tp (nq - 1 + ap) + 1000000 * tp (nq + ap)) := by
    show S.valF (fun j => tp (j + ap)) 0 (nq + 1) = _
    have := valF_add (t := (fun j => tp (j + ap))) (i := 0) (a := nq - 1) (b := 2)
    rw [show nq - 1 + 2 = nq + 1 by omega, Nat.zero_add] at this
    simp only [S.valF] at this
    rw [show nq - 1 + 1 = nq by omega, Int.mul_zero, Int.add_zero] at this
    exact this
  have lv0 := valF_nn (t := (fun j => tq (j + aq))) (k := nq - 1) (i := 0) fun j _ h => (dQ j (by omega)).1
  have lu1 := valF_lt (t := (fun j => tp (j + ap))) (k := nq - 1) (i := 0) fun j _ h => dP j (by omega)
  have hw := pw_pos (k := nq - 1)
  have a1 := dQ (nq - 1) (by omega)
  have b1 := dP (nq - 1) (by omega)
  have b2 := dP nq (by omega)
  (try dsimp only at a1 b1 b2)
  have l1 : tq (nq - 1 + aq) ≠ 0 := by
    have := (okG_iff.mp hp8).2
    rcases this with h | h
    · omega
    · exact h
  have td := tdiv_nn (X := tp (nq + ap) * 1000000 + tp (nq - 1 + ap)) (Y := tq (nq - 1 + aq)) (by omega) (by omega)
  have hd : (S.val (nq + 1) (fun j => tp (j + ap))) / (S.val nq (fun j => tq (j + aq))) ≤ Int.tdiv (tp (nq + ap) * 1000000 + tp (nq - 1 + ap)) (tq (nq - 1 + aq)) := by
    obtain ⟨t1, t2, -⟩ := td
    have c1 : tq (nq - 1 + aq) * S.pw (nq - 1) = S.pw (nq - 1) * tq (nq - 1 + aq) := Int.mul_comm _ _
    have c2 : (tp (nq + ap) * 1000000 + tp (nq - 1 + ap) + 1) * S.pw (nq - 1) = S.pw (nq - 1) * (tp (nq - 1 + ap) + 1000000 * tp (nq + ap)) + S.pw (nq - 1) := by
      rw [Int.add_mul, Int.one_mul, Int.mul_comm]; congr 2; omega
    have k1 := knuth_no (d := Int.tdiv (tp (nq + ap) * 1000000 + tp (nq - 1 + ap)) (tq (nq - 1 + aq)) + 1) (v := tq (nq - 1 + aq)) (t := tp (nq + ap) * 1000000 + tp (nq - 1 + ap)) (U := (S.val (nq + 1) (fun j => tp (j + ap)))) (V := (S.val nq (fun j => tq (j + aq)))) hw (by rw [hV, c1]; omega) (by rw [hU, c2]; omega) (by omega) t2
    have := (Int.ediv_lt_iff_lt_mul vp).mpr k1
    omega
  obtain ⟨t1, t2, t3⟩ := td
  have hm := hm (min (Int.tdiv (tp (nq + ap) * 1000000 + tp (nq - 1 + ap)) (tq (nq - 1 + aq))) 999999) (by omega) (by omega)
  have e1 : ((nq : Int) - 1).toNat = nq - 1 := by omega
  clear hV hU hd t2
  generalize hT : Int.tdiv (tp (nq + ap) * 1000000 + tp (nq - 1 + ap)) (tq (nq - 1 + aq)) = T at *
  show Goes _ _ _
  unfold p72
  simp only [e1, hT]
  repeat' (first | with_reducible refine goes_if (fun h => ?_) (fun h => ?_) <;> (try simp only [SH] at h) | exact goes_none.mpr (by omega))
  all_goals first | (exfalso; omega) | exact hm
theorem k72_ok  : k72.ok Tryd.prog := by
  intro x hx
  obtain ⟨⟨ap, np, mp, tp, _⟩, ⟨aq, nq, mq, tq, _⟩, _⟩ := x
  obtain ⟨h1, h2⟩ := a72 ap np mp tp aq nq mq tq (s72 ap np mp tp aq nq mq tq (of_dec hx rfl))
  exact ⟨⟨400, (by decide : 2 + 1 + 0 ≤ 400), h1⟩, h2⟩
noncomputable def xF2 (test : Bool → Prop → Prop → Prop) : Ext := consX test [k69, k65, k69v, k65v, k60, k61, k44, k73, k55, k45, k58, k56, k59, k52, k53, k71, k74, k77, k72]
theorem xF2_ok  : ExtOk Tryd.prog (xF2 cond) := consX_ok ⟨k69_ok, k65_ok, k69v_ok, k65v_ok, k60_ok, k61_ok, k44_ok, k73_ok, k55_ok, k45_ok, k58_ok, k56_ok, k59_ok, k52_ok, k53_ok, k71_ok, k74_ok, k77_ok, k72_ok, trivial⟩
theorem mkl_mkl  {n : Nat} {f : Nat → Int} : (S.mkl n fun j => S.at' (S.mkl n f) j) = S.mkl n f := mkl_congr fun j hj => at_mkl hj
theorem win_at  {m a n j : Nat} {t : Nat → Int} {v : Int} (hj : j < m) : S.at' (S.mkl m fun j => S.winD t a n v j) j = if a ≤ j ∧ j < a + n then S.at' (S.grp v) (j - a) else t j := at_mkl hj
theorem grp_at  {v : Int} {j : Nat} : 0 ≤ S.at' (S.grp v) j ∧ S.at' (S.grp v) j < 1000000 := by
  by_cases h : j < (S.grp v).length
  · rw [at_lt h]; exact grp_dig _ (List.getElem_mem _)
  · have e : S.at' (S.grp v) j = 0 := by
      simp [S.at', List.getElem?_eq_none (Nat.le_of_not_lt h)]
    rw [e]; omega
theorem grp_valF  : ∀ {k : Nat} {v : Int}, 0 ≤ v → v < S.pw k → S.valF (fun j => S.at' (S.grp v) j) 0 k = v
  | 0, v, h0, h1 => by
    have h1 : v < 1 := h1
    simp only [S.valF]; omega
  | k + 1, v, h0, h1 => by
    have h1 : v < 1000000 * S.pw k := h1
    by_cases hp : 0 < v
    · have ih := grp_valF (k := k) (v := v / 1000000) (by omega) (by omega)
      rw [grp_pos hp]
      simp only [S.valF]
      rw [show (0 : Nat) + 1 = 0 + 1 from rfl, ← valF_shift (a := 1) (i := 0)]
      have e : (fun j => S.at' (v % 1000000 :: S.grp (v / 1000000)) (j + 1)) = fun j => S.at' (S.grp (v / 1000000)) j := by
        funext j
        simp [S.at']
      rw [e, ih]
      show v % 1000000 + 1000000 * (v / 1000000) = v
      omega
    · obtain rfl : v = 0 := by omega
      rw [grp_zero]
      exact valF_zeros fun j _ _ => by simp [S.at']
theorem len_ge  {v : Int} {k : Nat} (h : S.pw k ≤ v) : k < (S.grp v).length := by
  refine Nat.not_le.mp fun hl => ?_
  have h0 := val_grp (v := v) (by have := pw_pos (k := k); omega)
  rw [← val_at] at h0
  have h1 := val_lt (okG_D (grp_ok (v := v))) hl
  omega
theorem step_eq  {A P U V q r Wo T : Int} (h : U = q * V + r) (he : A + P * U + 1000000 * P * Wo * V = T) : A + P * r + P * (q + 1000000 * Wo) * V = T := by
  subst h
  grind
theorem end_eq  {X W Q s T : Int} (h : X + W * (Q * s) = T * s) : X = (T - W * Q) * s := by grind
inductive St54 where
  | h0 (x0 : Int) (x1 : List Int) (x2 : List Int) (x3 : List Int) (x4 : List Int)
abbrev Rt54  := List Int × List Int
noncomputable def V54 (ap np mp : Nat) (tp : NI) (aq nq mq : Nat) (tq : NI) (r : Rt54) : PV := PV.tup [PV.own (4) (1) (List.length r.2), PV.own (3) (1) (List.length r.1)]
noncomputable def N54 (ap np mp : Nat) (tp : NI) (aq nq mq : Nat) (tq : NI) (r : Rt54) : List Blk := [Blk.cols (List.length r.1) [Col.int .i64 fun j => S.at' r.1 j], Blk.cols (List.length r.2) [Col.int .i64 fun j => S.at' r.2 j]]
noncomputable def I54 (ap np mp : Nat) (tp : NI) (aq nq mq : Nat) (tq : NI) : St54 → Hd
  | .h0 x0 x1 x2 x3 x4 => ⟨hd Tryd.f54 0, [PV.own (2) (1) (List.length x1), PV.own (3) (1) (List.length x2),
 PV.own (4) (1) (List.length x3), PV.own (5) (1) (List.length x4),
 PV.int .i64 x0], [[(2, (true, Blk.cols (List.length x1) [Col.int .i64 fun j => S.at' x1 j])), (3, (true, Blk.cols (List.length x2) [Col.int .i64 fun j => S.at' x2 j])), (4, (true, Blk.cols (List.length x3) [Col.int .i64 fun j => S.at' x3 j])), (5, (true, Blk.cols (List.length x4) [Col.int .i64 fun j => S.at' x4 j]))], [(0, (false, .cols mp [.int .i64 tp])), (1, (false, .cols mq [.int .i64 tq]))]], 6⟩
noncomputable def q54 (ap np mp : Nat) (tp : NI) (aq nq mq : Nat) (tq : NI) : St54 → Option (St54 ⊕ Rt54) | .h0 x0 x1 x2 x3 x4 => bif (decide (x0 ≥ 0)) then (bif (lim .i64 (x0 + (↑(List.length x3) : Int))) then (bif (lim .i64 (x0 + (↑(List.length x3) : Int) + 1)) then (bif (decide ((0 : Int) ≤ x0 ∧ x0 ≤ x0 + (↑(List.length x3) : Int) + 1 ∧ x0 + (↑(List.length x3) : Int) + 1 ≤ (↑(List.length x2) : Int))) then (bif (decide (Int.toNat x0 + (Int.toNat (x0 + (↑(List.length x3) : Int) + 1) - Int.toNat x0) ≤ List.length x2 ∧ List.length x2 ≤ 1000000 ∧ Int.toNat (x0 + (↑(List.length x3) : Int) + 1) - Int.toNat x0 = List.length x3 + 1 ∧ 2 ≤ List.length x3 ∧ List.length x3 ≤ 1000 ∧ 0 + List.length x3 ≤ List.length x3 ∧ (S.okD (Int.toNat (x0 + (↑(List.length x3) : Int) + 1) - Int.toNat x0) fun j => S.at' x2 (j + Int.toNat x0)) = true ∧ (S.okG (List.length x3) fun j => S.at' x3 j) = true ∧ (S.val (Int.toNat (x0 + (↑(List.length x3) : Int) + 1) - Int.toNat x0) fun j => S.at' x2 (j + Int.toNat x0)) < 1000000 * S.val (List.length x3) fun j => S.at' x3 j)) then (bif (decide ((0 : Int) ≤ x0 ∧ x0 < (↑(List.length x4) : Int))) then (bif (decide (Int.toNat x0 < List.length x4)) then (bif (lim .i64 (x0 - 1)) then (some (.inl (.h0 (x0 - 1) (x1) (S.mkl (List.length x2) fun j => S.at' (S.mkl (List.length x2) fun j => S.winD (fun j => S.at' x2 j) (Int.toNat x0) (Int.toNat (x0 + (↑(List.length x3) : Int) + 1) - Int.toNat x0) ((S.val (Int.toNat (x0 + (↑(List.length x3) : Int) + 1) - Int.toNat x0) fun j => S.at' x2 (j + Int.toNat x0)) % S.val (List.length x3) fun j => S.at' x3 j) j) j) (x3) (S.mkl (List.length x4) fun j => bif Nat.beq j (Int.toNat x0) then (S.val (Int.toNat (x0 + (↑(List.length x3) : Int) + 1) - Int.toNat x0) fun j => S.at' x2 (j + Int.toNat x0)) / S.val (List.length x3) fun j => S.at' x3 j else S.at' x4 j)))) else (none)) else (none)) else (none)) else (none)) else (none)) else (none)) else (none)) else (bif (decide (List.length x2 ≤ List.length x2)) then (bif (decide (List.length x2 ≤ 1000000)) then (bif (decide ((0 : Int) ≤ 0 ∧ (0 : Int) < (↑(List.length x1) : Int))) then (bif (decide (0 < List.length x1)) then (bif (decide (0 + List.length (S.trim (S.mkl (List.length x2) fun j => S.at' x2 j)) ≤ List.length (S.trim (S.mkl (List.length x2) fun j => S.at' x2 j)) ∧ List.length (S.trim (S.mkl (List.length x2) fun j => S.at' x2 j)) ≤ 1000 ∧ (S.okD (List.length (S.trim (S.mkl (List.length x2) fun j => S.at' x2 j))) fun j => S.at' (S.trim (S.mkl (List.length x2) fun j => S.at' x2 j)) j) = true ∧ (0 : Int) < S.at' x1 (0) ∧ S.at' x1 (0) ≤ 1000000)) then (bif (decide (List.length x4 ≤ List.length x4)) then (bif (decide (List.length x4 ≤ 1000000)) then (some (.inr (S.grp ((S.val (List.length (S.trim (S.mkl (List.length x2) fun j => S.at' x2 j))) fun j => S.at' (S.trim (S.mkl (List.length x2) fun j => S.at' x2 j)) j) / S.at' x1 (0)), S.trim (S.mkl (List.length x4) fun j => S.at' x4 j)))) else (none)) else (none)) else (none)) else (none)) else (none)) else (none)) else (none))
noncomputable def p54 (ap np mp : Nat) (tp : NI) (aq nq mq : Nat) (tq : NI) : Option (St54 ⊕ Rt54) := bif (decide (ap + np ≤ mp ∧ np ≤ 1000000 ∧ aq + nq ≤ mq ∧ nq ≤ 1000000 ∧ (S.okG np fun j => tp (j + ap)) = true ∧ (S.okG nq fun j => tq (j + aq)) = true)) then (bif (decide (S.cmpS (S.val np fun j => tp (j + ap)) (S.val nq fun j => tq (j + aq)) < 0)) then (bif (decide (ap + np ≤ mp ∧ np ≤ 1000000)) then (some (.inr (S.mkl np fun j => tp (j + ap), []))) else (none)) else (bif ((↑nq : Int) == 1) then (bif (decide ((0 : Int) ≤ 0 ∧ (0 : Int) < (↑nq : Int))) then (bif (decide (0 + aq < mq)) then (bif (decide (ap + np ≤ mp ∧ np ≤ 1000 ∧ (S.okD np fun j => tp (j + ap)) = true ∧ (0 : Int) < tq (0 + aq) ∧ tq (0 + aq) ≤ 1000000)) then (bif (decide ((0 : Int) ≤ IntKind.wrap .u64 ((S.val np fun j => tp (j + ap)) % tq (0 + aq)) ∧ IntKind.wrap .u64 ((S.val np fun j => tp (j + ap)) % tq (0 + aq)) ≤ 9223372036854775808)) then (some (.inr (S.grp (IntKind.wrap .u64 ((S.val np fun j => tp (j + ap)) % tq (0 + aq))), S.grp ((S.val np fun j => tp (j + ap)) / tq (0 + aq))))) else (none)) else (none)) else (none)) else (none)) else (bif (lim .i64 ((↑nq : Int) - 1)) then (bif (decide ((0 : Int) ≤ (↑nq : Int) - 1 ∧ (↑nq : Int) - 1 < (↑nq : Int))) then (bif (decide (Int.toNat ((↑nq : Int) - 1) + aq < mq)) then (bif (lim .i64 (tq (Int.toNat ((↑nq : Int) - 1) + aq) + 1)) then (bif (decide (tq (Int.toNat ((↑nq : Int) - 1) + aq) + 1 = 0)) then (none) else (bif (lim .i64 (Int.tdiv (1000000 : Int) (tq (Int.toNat ((↑nq : Int) - 1) + aq) + 1))) then (bif (decide ((ap + np ≤ mp ∧ 1 ≤ 1) ∧ (np ≤ 1000 ∧ 1 ≤ 1000) ∧ (S.okG np fun j => tp (j + ap)) = true ∧ (S.okG (1) fun j => S.lit [Int.tdiv (1000000 : Int) (tq (Int.toNat ((↑nq : Int) - 1) + aq) + 1)] (0 : Int) j) = true)) then (bif (decide (List.length (S.grp ((S.val np fun j => tp (j + ap)) * S.val (1) fun j => S.lit [Int.tdiv (1000000 : Int) (tq (Int.toNat ((↑nq : Int) - 1) + aq) + 1)] (0 : Int) j)) + 1 ≤ 1000000)) then (bif (decide (List.length (S.grp ((S.val np fun j => tp (j + ap)) * S.val (1) fun j => S.lit [Int.tdiv (1000000 : Int) (tq (Int.toNat ((↑nq : Int) - 1) + aq) + 1)] (0 : Int) j)) ≤ List.length (S.grp ((S.val np fun j => tp (j + ap)) * S.val (1) fun j => S.lit [Int.tdiv (1000000 : Int) (tq (Int.toNat ((↑nq : Int) - 1) + aq) + 1)] (0 : Int) j)))) then (bif (decide ((aq + nq ≤ mq ∧ 1 ≤ 1) ∧ (nq ≤ 1000 ∧ 1 ≤ 1000) ∧ (S.okG nq fun j => tq (j + aq)) = true ∧ (S.okG (1) fun j => S.lit [Int.tdiv (1000000 : Int) (tq (Int.toNat ((↑nq : Int) - 1) + aq) + 1)] (0 : Int) j) = true)) then (bif (lim .i64 ((↑(List.length (S.grp ((S.val np fun j => tp (j + ap)) * S.val (1) fun j => S.lit [Int.tdiv (1000000 : Int) (tq (Int.toNat ((↑nq : Int) - 1) + aq) + 1)] (0 : Int) j)) + 1) : Int) - (↑(List.length (S.grp ((S.val nq fun j => tq (j + aq)) * S.val (1) fun j => S.lit [Int.tdiv (1000000 : Int) (tq (Int.toNat ((↑nq : Int) - 1) + aq) + 1)] (0 : Int) j))) : Int))) then (bif (decide ((0 : Int) ≤ (↑(List.length (S.grp ((S.val np fun j => tp (j + ap)) * S.val (1) fun j => S.lit [Int.tdiv (1000000 : Int) (tq (Int.toNat ((↑nq : Int) - 1) + aq) + 1)] (0 : Int) j)) + 1) : Int) - (↑(List.length (S.grp ((S.val nq fun j => tq (j + aq)) * S.val (1) fun j => S.lit [Int.tdiv (1000000 : Int) (tq (Int.toNat ((↑nq : Int) - 1) + aq) + 1)] (0 : Int) j))) : Int) ∧ (↑(List.length (S.grp ((S.val np fun j => tp (j + ap)) * S.val (1) fun j => S.lit [Int.tdiv (1000000 : Int) (tq (Int.toNat ((↑nq : Int) - 1) + aq) + 1)] (0 : Int) j)) + 1) : Int) - (↑(List.length (S.grp ((S.val nq fun j => tq (j + aq)) * S.val (1) fun j => S.lit [Int.tdiv (1000000 : Int) (tq (Int.toNat ((↑nq : Int) - 1) + aq) + 1)] (0 : Int) j))) : Int) ≤ (↑(List.length (S.grp ((S.val np fun j => tp (j + ap)) * S.val (1) fun j => S.lit [Int.tdiv (1000000 : Int) (tq (Int.toNat ((↑nq : Int) - 1) + aq) + 1)] (0 : Int) j)) + 1) : Int) - (↑(List.length (S.grp ((S.val nq fun j => tq (j + aq)) * S.val (1) fun j => S.lit [Int.tdiv (1000000 : Int) (tq (Int.toNat ((↑nq : Int) - 1) + aq) + 1)] (0 : Int) j))) : Int) ∧ (↑(List.length (S.grp ((S.val np fun j => tp (j + ap)) * S.val (1) fun j => S.lit [Int.tdiv (1000000 : Int) (tq (Int.toNat ((↑nq : Int) - 1) + aq) + 1)] (0 : Int) j)) + 1) : Int) - (↑(List.length (S.grp ((S.val nq fun j => tq (j + aq)) * S.val (1) fun j => S.lit [Int.tdiv (1000000 : Int) (tq (Int.toNat ((↑nq : Int) - 1) + aq) + 1)] (0 : Int) j))) : Int) ≤ 1000000)) then (bif (lim .i64 ((↑(Int.toNat ((↑(List.length (S.grp ((S.val np fun j => tp (j + ap)) * S.val (1) fun j => S.lit [Int.tdiv (1000000 : Int) (tq (Int.toNat ((↑nq : Int) - 1) + aq) + 1)] (0 : Int) j)) + 1) : Int) - (↑(List.length (S.grp ((S.val nq fun j => tq (j + aq)) * S.val (1) fun j => S.lit [Int.tdiv (1000000 : Int) (tq (Int.toNat ((↑nq : Int) - 1) + aq) + 1)] (0 : Int) j))) : Int))) : Int) - 1)) then (some (.inl (.h0 ((↑(Int.toNat ((↑(List.length (S.grp ((S.val np fun j => tp (j + ap)) * S.val (1) fun j => S.lit [Int.tdiv (1000000 : Int) (tq (Int.toNat ((↑nq : Int) - 1) + aq) + 1)] (0 : Int) j)) + 1) : Int) - (↑(List.length (S.grp ((S.val nq fun j => tq (j + aq)) * S.val (1) fun j => S.lit [Int.tdiv (1000000 : Int) (tq (Int.toNat ((↑nq : Int) - 1) + aq) + 1)] (0 : Int) j))) : Int))) : Int) - 1) ([Int.tdiv (1000000 : Int) (tq (Int.toNat ((↑nq : Int) - 1) + aq) + 1)]) (S.snoc (S.grp ((S.val np fun j => tp (j + ap)) * S.val (1) fun j => S.lit [Int.tdiv (1000000 : Int) (tq (Int.toNat ((↑nq : Int) - 1) + aq) + 1)] (0 : Int) j)) (0 : Int)) (S.grp ((S.val nq fun j => tq (j + aq)) * S.val (1) fun j => S.lit [Int.tdiv (1000000 : Int) (tq (Int.toNat ((↑nq : Int) - 1) + aq) + 1)] (0 : Int) j)) (S.mkl (Int.toNat ((↑(List.length (S.grp ((S.val np fun j => tp (j + ap)) * S.val (1) fun j => S.lit [Int.tdiv (1000000 : Int) (tq (Int.toNat ((↑nq : Int) - 1) + aq) + 1)] (0 : Int) j)) + 1) : Int) - (↑(List.length (S.grp ((S.val nq fun j => tq (j + aq)) * S.val (1) fun j => S.lit [Int.tdiv (1000000 : Int) (tq (Int.toNat ((↑nq : Int) - 1) + aq) + 1)] (0 : Int) j))) : Int))) fun j => 0)))) else (none)) else (none)) else (none)) else (none)) else (none)) else (none)) else (none)) else (none))) else (none)) else (none)) else (none)) else (none)))) else (none)
noncomputable def Te54 (test : TT) (Kst : KS) (Kret : KR) (ap np mp : Nat) (tp : NI) (aq nq mq : Nat) (tq : NI) : Prop := test (decide (ap + np ≤ mp ∧ np ≤ 1000000 ∧ aq + nq ≤ mq ∧ nq ≤ 1000000 ∧ (S.okG np fun j => tp (j + ap)) = true ∧ (S.okG nq fun j => tq (j + aq)) = true)) (test (decide (S.cmpS (S.val np fun j => tp (j + ap)) (S.val nq fun j => tq (j + aq)) < 0)) (test (decide (ap + np ≤ mp ∧ np ≤ 1000000)) (Kret (PV.tup [PV.nils, PV.own (4) (1) np]) ([[(1, false, Blk.cols mq [Col.int .i64 tq]), (0, false, Blk.cols mp [Col.int .i64 tp]), (4, true, Blk.cols np [Col.int .i64 fun j => tp (j + ap)])]]) (5)) (False)) (test ((↑nq : Int) == 1) (test (decide ((0 : Int) ≤ 0 ∧ (0 : Int) < (↑nq : Int))) (test (decide (0 + aq < mq)) (test (decide (ap + np ≤ mp ∧ np ≤ 1000 ∧ (S.okD np fun j => tp (j + ap)) = true ∧ (0 : Int) < tq (0 + aq) ∧ tq (0 + aq) ≤ 1000000)) (test (decide ((0 : Int) ≤ IntKind.wrap .u64 ((S.val np fun j => tp (j + ap)) % tq (0 + aq)) ∧ IntKind.wrap .u64 ((S.val np fun j => tp (j + ap)) % tq (0 + aq)) ≤ 9223372036854775808)) (Kret (PV.tup [PV.own (4) (1) (List.length (S.grp ((S.val np fun j => tp (j + ap)) / tq (0 + aq)))), PV.own (6) (1) (List.length (S.grp (IntKind.wrap .u64 ((S.val np fun j => tp (j + ap)) % tq (0 + aq)))))]) ([[(1, false, Blk.cols mq [Col.int .i64 tq]), (0, false, Blk.cols mp [Col.int .i64 tp]), (6, true, Blk.cols (List.length (S.grp (IntKind.wrap .u64 ((S.val np fun j => tp (j + ap)) % tq (0 + aq))))) [Col.int .i64 fun j => S.at' (S.grp (IntKind.wrap .u64 ((S.val np fun j => tp (j + ap)) % tq (0 + aq)))) j]), (4, true, Blk.cols (List.length (S.grp ((S.val np fun j => tp (j + ap)) / tq (0 + aq)))) [Col.int .i64 fun j => S.at' (S.grp ((S.val np fun j => tp (j + ap)) / tq (0 + aq))) j])]]) (7)) (False)) (False)) (False)) (False)) (test (lim .i64 ((↑nq : Int) - 1)) (test (decide ((0 : Int) ≤ (↑nq : Int) - 1 ∧ (↑nq : Int) - 1 < (↑nq : Int))) (test (decide (Int.toNat ((↑nq : Int) - 1) + aq < mq)) (test (lim .i64 (tq (Int.toNat ((↑nq : Int) - 1) + aq) + 1)) (test (decide (tq (Int.toNat ((↑nq : Int) - 1) + aq) + 1 = 0)) (False) (test (lim .i64 (Int.tdiv (1000000 : Int) (tq (Int.toNat ((↑nq : Int) - 1) + aq) + 1))) (test (decide ((ap + np ≤ mp ∧ 1 ≤ 1) ∧ (np ≤ 1000 ∧ 1 ≤ 1000) ∧ (S.okG np fun j => tp (j + ap)) = true ∧ (S.okG (1) fun j => S.lit [Int.tdiv (1000000 : Int) (tq (Int.toNat ((↑nq : Int) - 1) + aq) + 1)] (0 : Int) j) = true)) (test (decide (List.length (S.grp ((S.val np fun j => tp (j + ap)) * S.val (1) fun j => S.lit [Int.tdiv (1000000 : Int) (tq (Int.toNat ((↑nq : Int) - 1) + aq) + 1)] (0 : Int) j)) + 1 ≤ 1000000)) (test (decide (List.length (S.grp ((S.val np fun j => tp (j + ap)) * S.val (1) fun j => S.lit [Int.tdiv (1000000 : Int) (tq (Int.toNat ((↑nq : Int) - 1) + aq) + 1)] (0 : Int) j)) ≤ List.length (S.grp ((S.val np fun j => tp (j + ap)) * S.val (1) fun j => S.lit [Int.tdiv (1000000 : Int) (tq (Int.toNat ((↑nq : Int) - 1) + aq) + 1)] (0 : Int) j)))) (test (true) (test (decide ((aq + nq ≤ mq ∧ 1 ≤ 1) ∧ (nq ≤ 1000 ∧ 1 ≤ 1000) ∧ (S.okG nq fun j => tq (j + aq)) = true ∧ (S.okG (1) fun j => S.lit [Int.tdiv (1000000 : Int) (tq (Int.toNat ((↑nq : Int) - 1) + aq) + 1)] (0 : Int) j) = true)) (test (lim .i64 ((↑(List.length (S.grp ((S.val np fun j => tp (j + ap)) * S.val (1) fun j => S.lit [Int.tdiv (1000000 : Int) (tq (Int.toNat ((↑nq : Int) - 1) + aq) + 1)] (0 : Int) j)) + 1) : Int) - (↑(List.length (S.grp ((S.val nq fun j => tq (j + aq)) * S.val (1) fun j => S.lit [Int.tdiv (1000000 : Int) (tq (Int.toNat ((↑nq : Int) - 1) + aq) + 1)] (0 : Int) j))) : Int))) (test (decide ((0 : Int) ≤ (↑(List.length (S.grp ((S.val np fun j => tp (j + ap)) * S.val (1) fun j => S.lit [Int.tdiv (1000000 : Int) (tq (Int.toNat ((↑nq : Int) - 1) + aq) + 1)] (0 : Int) j)) + 1) : Int) - (↑(List.length (S.grp ((S.val nq fun j => tq (j + aq)) * S.val (1) fun j => S.lit [Int.tdiv (1000000 : Int) (tq (Int.toNat ((↑nq : Int) - 1) + aq) + 1)] (0 : Int) j))) : Int) ∧ (↑(List.length (S.grp ((S.val np fun j => tp (j + ap)) * S.val (1) fun j => S.lit [Int.tdiv (1000000 : Int) (tq (Int.toNat ((↑nq : Int) - 1) + aq) + 1)] (0 : Int) j)) + 1) : Int) - (↑(List.length (S.grp ((S.val nq fun j => tq (j + aq)) * S.val (1) fun j => S.lit [Int.tdiv (1000000 : Int) (tq (Int.toNat ((↑nq : Int) - 1) + aq) + 1)] (0 : Int) j))) : Int) ≤ (↑(List.length (S.grp ((S.val np fun j => tp (j + ap)) * S.val (1) fun j => S.lit [Int.tdiv (1000000 : Int) (tq (Int.toNat ((↑nq : Int) - 1) + aq) + 1)] (0 : Int) j)) + 1) : Int) - (↑(List.length (S.grp ((S.val nq fun j => tq (j + aq)) * S.val (1) fun j => S.lit [Int.tdiv (1000000 : Int) (tq (Int.toNat ((↑nq : Int) - 1) + aq) + 1)] (0 : Int) j))) : Int) ∧ (↑(List.length (S.grp ((S.val np fun j => tp (j + ap)) * S.val (1) fun j => S.lit [Int.tdiv (1000000 : Int) (tq (Int.toNat ((↑nq : Int) - 1) + aq) + 1)] (0 : Int) j)) + 1) : Int) - (↑(List.length (S.grp ((S.val nq fun j => tq (j + aq)) * S.val (1) fun j => S.lit [Int.tdiv (1000000 : Int) (tq (Int.toNat ((↑nq : Int) - 1) + aq) + 1)] (0 : Int) j))) : Int) ≤ 1000000)) (test (lim .i64 ((↑(Int.toNat ((↑(List.length (S.grp ((S.val np fun j => tp (j + ap)) * S.val (1) fun j => S.lit [Int.tdiv (1000000 : Int) (tq (Int.toNat ((↑nq : Int) - 1) + aq) + 1)] (0 : Int) j)) + 1) : Int) - (↑(List.length (S.grp ((S.val nq fun j => tq (j + aq)) * S.val (1) fun j => S.lit [Int.tdiv (1000000 : Int) (tq (Int.toNat ((↑nq : Int) - 1) + aq) + 1)] (0 : Int) j))) : Int))) : Int) - 1)) (Kst (hd Tryd.f54 0) ([PV.own (3) (1) (1), PV.own (7) (1) (List.length (S.grp ((S.val np fun j => tp (j + ap)) * S.val (1) fun j => S.lit [Int.tdiv (1000000 : Int) (tq (Int.toNat ((↑nq : Int) - 1) + aq) + 1)] (0 : Int) j)) + 1), PV.own (9) (1) (List.length (S.grp ((S.val nq fun j => tq (j + aq)) * S.val (1) fun j => S.lit [Int.tdiv (1000000 : Int) (tq (Int.toNat ((↑nq : Int) - 1) + aq) + 1)] (0 : Int) j))), PV.own (10) (1) (Int.toNat ((↑(List.length (S.grp ((S.val np fun j => tp (j + ap)) * S.val (1) fun j => S.lit [Int.tdiv (1000000 : Int) (tq (Int.toNat ((↑nq : Int) - 1) + aq) + 1)] (0 : Int) j)) + 1) : Int) - (↑(List.length (S.grp ((S.val nq fun j => tq (j + aq)) * S.val (1) fun j => S.lit [Int.tdiv (1000000 : Int) (tq (Int.toNat ((↑nq : Int) - 1) + aq) + 1)] (0 : Int) j))) : Int))), PV.int .i64 ((↑(Int.toNat ((↑(List.length (S.grp ((S.val np fun j => tp (j + ap)) * S.val (1) fun j => S.lit [Int.tdiv (1000000 : Int) (tq (Int.toNat ((↑nq : Int) - 1) + aq) + 1)] (0 : Int) j)) + 1) : Int) - (↑(List.length (S.grp ((S.val nq fun j => tq (j + aq)) * S.val (1) fun j => S.lit [Int.tdiv (1000000 : Int) (tq (Int.toNat ((↑nq : Int) - 1) + aq) + 1)] (0 : Int) j))) : Int))) : Int) - 1)]) ([[(1, false, Blk.cols mq [Col.int .i64 tq]), (0, false, Blk.cols mp [Col.int .i64 tp]), (10, true, Blk.cols (Int.toNat ((↑(List.length (S.grp ((S.val np fun j => tp (j + ap)) * S.val (1) fun j => S.lit [Int.tdiv (1000000 : Int) (tq (Int.toNat ((↑nq : Int) - 1) + aq) + 1)] (0 : Int) j)) + 1) : Int) - (↑(List.length (S.grp ((S.val nq fun j => tq (j + aq)) * S.val (1) fun j => S.lit [Int.tdiv (1000000 : Int) (tq (Int.toNat ((↑nq : Int) - 1) + aq) + 1)] (0 : Int) j))) : Int))) [Col.int .i64 fun (x : Nat) => 0]), (9, true, Blk.cols (List.length (S.grp ((S.val nq fun j => tq (j + aq)) * S.val (1) fun j => S.lit [Int.tdiv (1000000 : Int) (tq (Int.toNat ((↑nq : Int) - 1) + aq) + 1)] (0 : Int) j))) [Col.int .i64 fun j => S.at' (S.grp ((S.val nq fun j => tq (j + aq)) * S.val (1) fun j => S.lit [Int.tdiv (1000000 : Int) (tq (Int.toNat ((↑nq : Int) - 1) + aq) + 1)] (0 : Int) j)) j]), (7, true, Blk.cols (List.length (S.grp ((S.val np fun j => tp (j + ap)) * S.val (1) fun j => S.lit [Int.tdiv (1000000 : Int) (tq (Int.toNat ((↑nq : Int) - 1) + aq) + 1)] (0 : Int) j)) + 1) [Col.int .i64 fun j => bif Nat.blt j (List.length (S.grp ((S.val np fun j => tp (j + ap)) * S.val (1) fun j => S.lit [Int.tdiv (1000000 : Int) (tq (Int.toNat ((↑nq : Int) - 1) + aq) + 1)] (0 : Int) j))) then S.at' (S.grp ((S.val np fun j => tp (j + ap)) * S.val (1) fun j => S.lit [Int.tdiv (1000000 : Int) (tq (Int.toNat ((↑nq : Int) - 1) + aq) + 1)] (0 : Int) j)) j else (0 : Int)]), (3, true, Blk.cells [PV.int .i64 (Int.tdiv (1000000 : Int) (tq (Int.toNat ((↑nq : Int) - 1) + aq) + 1))])]]) (11)) (False)) (False)) (False)) (False)) (False)) (False)) (False)) (False)) (False))) (False)) (False)) (False)) (False)))) (False)
theorem te54 (test : TT) (Kst : KS) (Kret : KR) (ap np mp : Nat) (tp : NI) (aq nq mq : Nat) (tq : NI) : run test Tryd.env true (xF2 test) true 400 ⟨54, [.cd (mkFn Tryd.f54).body], argT 0 [.loose ⟨0, 1, ap, 0⟩ np, .loose ⟨1, 1, aq, 0⟩ nq], [[], [(0, (false, .cols mp [.int .i64 tp])), (1, (false, .cols mq [.int .i64 tq]))]], 2⟩ (proj 2 [8, 9, 10, 11, 12] Kst Kret) =
  Te54 test Kst Kret ap np mp tp aq nq mq tq := by kernel_rfl
noncomputable def T54_0 (test : TT) (Kst : KS) (Kret : KR) (ap np mp : Nat) (tp : NI) (aq nq mq : Nat) (tq : NI) (x0 : Int) (x1 x2 x3 x4 : List Int) : Prop := test (decide (x0 ≥ 0)) (test (lim .i64 (x0 + (↑(List.length x3) : Int))) (test (lim .i64 (x0 + (↑(List.length x3) : Int) + 1)) (test (decide ((0 : Int) ≤ x0 ∧ x0 ≤ x0 + (↑(List.length x3) : Int) + 1 ∧ x0 + (↑(List.length x3) : Int) + 1 ≤ (↑(List.length x2) : Int))) (test (decide (Int.toNat x0 + (Int.toNat (x0 + (↑(List.length x3) : Int) + 1) - Int.toNat x0) ≤ List.length x2 ∧ List.length x2 ≤ 1000000 ∧ Int.toNat (x0 + (↑(List.length x3) : Int) + 1) - Int.toNat x0 = List.length x3 + 1 ∧ 2 ≤ List.length x3 ∧ List.length x3 ≤ 1000 ∧ 0 + List.length x3 ≤ List.length x3 ∧ (S.okD (Int.toNat (x0 + (↑(List.length x3) : Int) + 1) - Int.toNat x0) fun j => S.at' x2 (j + Int.toNat x0)) = true ∧ (S.okG (List.length x3) fun j => S.at' x3 j) = true ∧ (S.val (Int.toNat (x0 + (↑(List.length x3) : Int) + 1) - Int.toNat x0) fun j => S.at' x2 (j + Int.toNat x0)) < 1000000 * S.val (List.length x3) fun j => S.at' x3 j)) (test (decide ((0 : Int) ≤ x0 ∧ x0 < (↑(List.length x4) : Int))) (test (decide (Int.toNat x0 < List.length x4)) (test (lim .i64 (x0 - 1)) (Kst (hd Tryd.f54 0) ([PV.own (2) (1) (List.length x1), PV.own (3) (1) (List.length x2), PV.own (4) (1) (List.length x3), PV.own (5) (1) (List.length x4), PV.int .i64 (x0 - 1)]) ([[(1, false, Blk.cols mq [Col.int .i64 tq]), (0, false, Blk.cols mp [Col.int .i64 tp]), (5, true, Blk.cols (List.length x4) [Col.int .i64 fun j => bif Nat.beq j (Int.toNat x0) then (S.val (Int.toNat (x0 + (↑(List.length x3) : Int) + 1) - Int.toNat x0) fun j => S.at' x2 (j + Int.toNat x0)) / S.val (List.length x3) fun j => S.at' x3 j else S.at' x4 j]), (4, true, Blk.cols (List.length x3) [Col.int .i64 fun j => S.at' x3 j]), (3, true, Blk.cols (List.length (S.mkl (List.length x2) fun j => S.winD (fun j => S.at' x2 j) (Int.toNat x0) (Int.toNat (x0 + (↑(List.length x3) : Int) + 1) - Int.toNat x0) ((S.val (Int.toNat (x0 + (↑(List.length x3) : Int) + 1) - Int.toNat x0) fun j => S.at' x2 (j + Int.toNat x0)) % S.val (List.length x3) fun j => S.at' x3 j) j)) [Col.int .i64 fun j => S.at' (S.mkl (List.length x2) fun j => S.winD (fun j => S.at' x2 j) (Int.toNat x0) (Int.toNat (x0 + (↑(List.length x3) : Int) + 1) - Int.toNat x0) ((S.val (Int.toNat (x0 + (↑(List.length x3) : Int) + 1) - Int.toNat x0) fun j => S.at' x2 (j + Int.toNat x0)) % S.val (List.length x3) fun j => S.at' x3 j) j) j]), (2, true, Blk.cols (List.length x1) [Col.int .i64 fun j => S.at' x1 j])]]) (7)) (False)) (False)) (False)) (False)) (False)) (False)) (False)) (test (decide (List.length x2 ≤ List.length x2)) (test (decide (List.length x2 ≤ 1000000)) (test (decide ((0 : Int) ≤ 0 ∧ (0 : Int) < (↑(List.length x1) : Int))) (test (decide (0 < List.length x1)) (test (decide (0 + List.length (S.trim (S.mkl (List.length x2) fun j => S.at' x2 j)) ≤ List.length (S.trim (S.mkl (List.length x2) fun j => S.at' x2 j)) ∧ List.length (S.trim (S.mkl (List.length x2) fun j => S.at' x2 j)) ≤ 1000 ∧ (S.okD (List.length (S.trim (S.mkl (List.length x2) fun j => S.at' x2 j))) fun j => S.at' (S.trim (S.mkl (List.length x2) fun j => S.at' x2 j)) j) = true ∧ (0 : Int) < S.at' x1 (0) ∧ S.at' x1 (0) ≤ 1000000)) (test (decide (List.length x4 ≤ List.length x4)) (test (decide (List.length x4 ≤ 1000000)) (Kret (PV.tup [PV.own (5) (1) (List.length (S.trim (S.mkl (List.length x4) fun j => S.at' x4 j))), PV.own (8) (1) (List.length (S.grp ((S.val (List.length (S.trim (S.mkl (List.length x2) fun j => S.at' x2 j))) fun j => S.at' (S.trim (S.mkl (List.length x2) fun j => S.at' x2 j)) j) / S.at' x1 (0))))]) ([[(1, false, Blk.cols mq [Col.int .i64 tq]), (0, false, Blk.cols mp [Col.int .i64 tp]), (8, true, Blk.cols (List.length (S.grp ((S.val (List.length (S.trim (S.mkl (List.length x2) fun j => S.at' x2 j))) fun j => S.at' (S.trim (S.mkl (List.length x2) fun j => S.at' x2 j)) j) / S.at' x1 (0)))) [Col.int .i64 fun j => S.at' (S.grp ((S.val (List.length (S.trim (S.mkl (List.length x2) fun j => S.at' x2 j))) fun j => S.at' (S.trim (S.mkl (List.length x2) fun j => S.at' x2 j)) j) / S.at' x1 (0))) j]), (5, true, Blk.cols (List.length (S.trim (S.mkl (List.length x4) fun j => S.at' x4 j))) [Col.int .i64 fun j => S.at' (S.trim (S.mkl (List.length x4) fun j => S.at' x4 j)) j])]]) (10)) (False)) (False)) (False)) (False)) (False)) (False)) (False))
theorem t54_0 (test : TT) (Kst : KS) (Kret : KR) (ap np mp : Nat) (tp : NI) (aq nq mq : Nat) (tq : NI) (x0 : Int) (x1 x2 x3 x4 : List Int) : run test Tryd.env true (xF2 test) true 400 ⟨54, hd Tryd.f54 0, zipT [8, 9, 10, 11, 12] [PV.own (2) (1) (List.length x1), PV.own (3) (1) (List.length x2),
 PV.own (4) (1) (List.length x3), PV.own (5) (1) (List.length x4),
 PV.int .i64 x0], [[(2, (true, Blk.cols (List.length x1) [Col.int .i64 fun j => S.at' x1 j])), (3, (true, Blk.cols (List.length x2) [Col.int .i64 fun j => S.at' x2 j])), (4, (true, Blk.cols (List.length x3) [Col.int .i64 fun j => S.at' x3 j])), (5, (true, Blk.cols (List.length x4) [Col.int .i64 fun j => S.at' x4 j]))], [(0, (false, .cols mp [.int .i64 tp])), (1, (false, .cols mq [.int .i64 tq]))]], 6⟩ (proj 2 [8, 9, 10, 11, 12] Kst Kret) =
  T54_0 test Kst Kret ap np mp tp aq nq mq tq x0 x1 x2 x3 x4 := by kernel_rfl
noncomputable abbrev J54 (ap np mp : Nat) (tp : NI) (aq nq mq : Nat) (tq : NI) : Rt54 → Heap := fun r => [newL (2 + 1) ((N54 ap np mp tp aq nq mq tq) r) ++ [(0, (false, .cols mp [.int .i64 tp])), (1, (false, .cols mq [.int .i64 tq]))]]
attribute [local irreducible] Int.subNatNat in
theorem be54 (ap np mp : Nat) (tp : NI) (aq nq mq : Nat) (tq : NI) (Kst : KS) (Kret : KR) (x : St54 ⊕ Rt54) (hS : HS 2 400 ((I54 ap np mp tp aq nq mq tq)) Kst x) (hR : HR 2 400 ((V54 ap np mp tp aq nq mq tq)) (J54 ap np mp tp aq nq mq tq) Kret x) (h : p54 ap np mp tp aq nq mq tq = some x) : Te54 cond Kst Kret ap np mp tp aq nq mq tq := by
  unfold Te54
  unfold p54 at h
  refine bif_split h (fun c0 h => bif_split h (fun c1 h => bif_split h (fun c2 h => ret_at hR _ h (fun n => bif Nat.beq n 3 then 4 else bif Nat.beq n 4 then 399 else n) rfl rfl rfl (rn_tup ⟨(rn_own_nils rfl), (rn_own (use_own rfl) rfl mkl_len), trivial⟩) rfl (entl_new (use_own rfl) rfl (Nat.le_of_eq mkl_len) (rcs_int (fun _ hj => col_mkl (fun (t : Int) => t) hj) rcs_nil) (entl_fresh (use_own rfl) (fresh_ok rfl) (entl_bor (use_lo rfl) rfl rfl (entl_bor (use_lo rfl) rfl rfl entl_nil))))) (fun c2 h => no_some h)) (fun c1 h => bif_split h (fun c2 h => bif_split h (fun c3 h => bif_split h (fun c4 h => bif_split h (fun c5 h => bif_split h (fun c6 h => ret_at hR _ h (fun n => bif Nat.beq n 3 then 6 else bif Nat.beq n 4 then 4 else n) rfl rfl rfl (rn_tup ⟨(rn_own (use_own rfl) rfl rfl), (rn_own (use_own rfl) rfl rfl), trivial⟩) rfl (entl_new (use_own rfl) rfl (Nat.le_of_eq rfl) (rcs_int (fun _ _ => rfl) rcs_nil) (entl_new (use_own rfl) rfl (Nat.le_of_eq rfl) (rcs_int (fun _ _ => rfl) rcs_nil) (entl_bor (use_lo rfl) rfl rfl (entl_bor (use_lo rfl) rfl rfl entl_nil))))) (fun c6 h => no_some h)) (fun c5 h => no_some h)) (fun c4 h => no_some h)) (fun c3 h => no_some h)) (fun c2 h => bif_split h (fun c3 h => bif_split h (fun c4 h => bif_split h (fun c5 h => bif_split h (fun c6 h => bif_split h (fun c7 h => no_some h) (fun c7 h => bif_split h (fun c8 h => bif_split h (fun c9 h => bif_split h (fun c10 h => bif_split h (fun c11 h => cond_yes rfl (bif_split h (fun c12 h => bif_split h (fun c13 h => bif_split h (fun c14 h => bif_split h (fun c15 h => stop_at hS _ h (fun n => bif Nat.beq n 2 then 3 else bif Nat.beq n 3 then 7 else bif Nat.beq n 4 then 9 else bif Nat.beq n 5 then 10 else n) rfl rfl rfl ⟨(rn_own (use_own rfl) rfl rfl), ⟨(rn_own (use_own rfl) rfl (snoc_len' rfl)), ⟨(rn_own (use_own rfl) rfl rfl), ⟨(rn_own (use_own rfl) rfl mkl_len), ⟨(rn_int rfl), trivial⟩⟩⟩⟩⟩ rfl (entl_b (use_own rfl) rfl (by simp) (rb_lit (fun j hj i hi => (match j, hj with | 0, _ => (match i, hi with | 0, _ => ⟨_, rfl, rn_int rfl⟩ | _ + 1, h => absurd h (by simp [lenc])) | _ + 1, h => absurd h (by simp)))) (entl_new (use_own rfl) rfl (Nat.le_of_eq (snoc_len' rfl)) (rcs_int (col_snoc' (fun (t : Int) => t) rfl (fun _ _ => rfl)) rcs_nil) (entl_new (use_own rfl) rfl (Nat.le_of_eq rfl) (rcs_int (fun _ _ => rfl) rcs_nil) (entl_new (use_own rfl) rfl (Nat.le_of_eq mkl_len) (rcs_int (fun _ hj => col_mkl (fun (t : Int) => t) hj) rcs_nil) (entl_bor (use_lo rfl) rfl rfl (entl_bor (use_lo rfl) rfl rfl entl_nil))))))) (fun c15 h => no_some h)) (fun c14 h => no_some h)) (fun c13 h => no_some h)) (fun c12 h => no_some h))) (fun c11 h => no_some h)) (fun c10 h => no_some h)) (fun c9 h => no_some h)) (fun c8 h => no_some h))) (fun c6 h => no_some h)) (fun c5 h => no_some h)) (fun c4 h => no_some h)) (fun c3 h => no_some h)))) (fun c0 h => no_some h)
attribute [local irreducible] Int.subNatNat in
theorem b54_0 (ap np mp : Nat) (tp : NI) (aq nq mq : Nat) (tq : NI) (Kst : KS) (Kret : KR) (x : St54 ⊕ Rt54) (hS : HS 2 400 ((I54 ap np mp tp aq nq mq tq)) Kst x) (hR : HR 2 400 ((V54 ap np mp tp aq nq mq tq)) (J54 ap np mp tp aq nq mq tq) Kret x) (x0 : Int) (x1 x2 x3 x4 : List Int) (h : q54 ap np mp tp aq nq mq tq (.h0 x0 x1 x2 x3 x4) = some x) : T54_0 cond Kst Kret ap np mp tp aq nq mq tq x0 x1 x2 x3 x4 := by
  unfold T54_0
  rw [q54] at h
  exact bif_split h (fun c0 h => bif_split h (fun c1 h => bif_split h (fun c2 h => bif_split h (fun c3 h => bif_split h (fun c4 h => bif_split h (fun c5 h => bif_split h (fun c6 h => bif_split h (fun c7 h => stop_at hS _ h (fun n => bif Nat.beq n 2 then 2 else bif Nat.beq n 3 then 3 else bif Nat.beq n 4 then 4 else bif Nat.beq n 5 then 5 else n) rfl rfl rfl ⟨(rn_own (use_own rfl) rfl rfl), ⟨(rn_own (use_own rfl) rfl mkl_len), ⟨(rn_own (use_own rfl) rfl rfl), ⟨(rn_own (use_own rfl) rfl mkl_len), ⟨(rn_int rfl), trivial⟩⟩⟩⟩⟩ rfl (entl_new (use_own rfl) rfl (Nat.le_of_eq rfl) (rcs_int (fun _ _ => rfl) rcs_nil) (entl_new (use_own rfl) rfl (by first | exact Nat.le_of_eq mkl_len | (simp only [mkl_len, snoc_len]; omega)) (rcs_int (fun _ hj => col_mkl (fun (t : Int) => t) hj) rcs_nil) (entl_new (use_own rfl) rfl (Nat.le_of_eq rfl) (rcs_int (fun _ _ => rfl) rcs_nil) (entl_new (use_own rfl) rfl (Nat.le_of_eq mkl_len) (rcs_int (fun _ hj => col_mkl (fun (t : Int) => t) hj) rcs_nil) (entl_bor (use_lo rfl) rfl rfl (entl_bor (use_lo rfl) rfl rfl entl_nil))))))) (fun c7 h => no_some h)) (fun c6 h => no_some h)) (fun c5 h => no_some h)) (fun c4 h => no_some h)) (fun c3 h => no_some h)) (fun c2 h => no_some h)) (fun c1 h => no_some h)) (fun c0 h => bif_split h (fun c1 h => bif_split h (fun c2 h => bif_split h (fun c3 h => bif_split h (fun c4 h => bif_split h (fun c5 h => bif_split h (fun c6 h => bif_split h (fun c7 h => ret_at hR _ h (fun n => bif Nat.beq n 3 then 8 else bif Nat.beq n 4 then 5 else n) rfl rfl rfl (rn_tup ⟨(rn_own (use_own rfl) rfl rfl), (rn_own (use_own rfl) rfl rfl), trivial⟩) rfl (entl_new (use_own rfl) rfl (Nat.le_of_eq rfl) (rcs_int (fun _ _ => rfl) rcs_nil) (entl_new (use_own rfl) rfl (Nat.le_of_eq rfl) (rcs_int (fun _ _ => rfl) rcs_nil) (entl_bor (use_lo rfl) rfl rfl (entl_bor (use_lo rfl) rfl rfl entl_nil))))) (fun c7 h => no_some h)) (fun c6 h => no_some h)) (fun c5 h => no_some h)) (fun c4 h => no_some h)) (fun c3 h => no_some h)) (fun c2 h => no_some h)) (fun c1 h => no_some h))
theorem a54 (ap np mp : Nat) (tp : NI) (aq nq mq : Nat) (tq : NI) {r : Rt54} (h : Goes ((q54 ap np mp tp aq nq mq tq)) ((p54 ap np mp tp aq nq mq tq)) r) : CallR Tryd.prog 54 [.loose ⟨0, 1, ap, 0⟩ np, .loose ⟨1, 1, aq, 0⟩ nq] [[(0, (false, .cols mp [.int .i64 tp])), (1, (false, .cols mq [.int .i64 tq]))]] 2 ((V54 ap np mp tp aq nq mq tq) r) ((J54 ap np mp tp aq nq mq tq) r) 400 ∧ ∃ F, Tryd.prog.funcs[54]? = some F ∧ F.body.isSome = true ∧ (F.name == "runtime.NumGoroutine") = false := by
  refine dec_calls (f := 54) (lo := 2) (hi := 400) Tryd.envOk Tryd.mixed xF2_ok ((I54 ap np mp tp aq nq mq tq)) ((V54 ap np mp tp aq nq mq tq)) (J54 ap np mp tp aq nq mq tq) (fn := mkFn Tryd.f54) (ts := [8, 9, 10, 11, 12]) (n := 400) rfl (by decide) (by simp) (names_of rfl) ?_ ?_ ?_ h
  · intro s; cases s <;> exact ⟨hd_ok _ _, by simp [I54], names_of rfl, Nat.le_of_ble_eq_true rfl⟩
  · intro Kst Kret x hS hR h
    exact Holds.eq (te54 cond Kst Kret ap np mp tp aq nq mq tq) (be54 ap np mp tp aq nq mq tq Kst Kret x hS hR h)
  · intro Kst Kret x hS hR s h
    cases s with
    | h0 x0 x1 x2 x3 x4 => exact Holds.eq (t54_0 cond Kst Kret ap np mp tp aq nq mq tq x0 x1 x2 x3 x4) (b54_0 ap np mp tp aq nq mq tq Kst Kret x hS hR x0 x1 x2 x3 x4 h)
noncomputable abbrev w54 {α : Type} (g : Nat → Nat → Nat → (Nat → Int) → Nat → Nat → Nat → (Nat → Int) → α) (x : (Nat × Nat × Nat × (Nat → Int) × Unit) × (Nat × Nat × Nat × (Nat → Int) × Unit) × Unit) : α := g x.1.1 x.1.2.1 x.1.2.2.1 x.1.2.2.2.1 x.2.1.1 x.2.1.2.1 x.2.1.2.2.1 x.2.1.2.2.2.1
noncomputable def k54  : Con := ⟨54, [.one (.list [.int .i64]), .one (.list [.int .i64])], w54 (fun ap np mp tp aq nq mq tq => decide ((ap + np ≤ mp ∧ aq + nq ≤ mq) ∧ (np ≤ 900 ∧ nq ≤ 900) ∧ S.okG np (fun j => tp (j + ap)) = true ∧ S.okG nq (fun j => tq (j + aq)) = true ∧ 0 < nq)), w54 (fun ap np mp tp aq nq mq tq => (V54 ap np mp tp aq nq mq tq) (S.grp ((S.val np (fun j => tp (j + ap))) % (S.val nq (fun j => tq (j + aq)))), S.grp ((S.val np (fun j => tp (j + ap))) / (S.val nq (fun j => tq (j + aq)))))), w54 (fun ap np mp tp aq nq mq tq => (N54 ap np mp tp aq nq mq tq) (S.grp ((S.val np (fun j => tp (j + ap))) % (S.val nq (fun j => tq (j + aq)))), S.grp ((S.val np (fun j => tp (j + ap))) / (S.val nq (fun j => tq (j + aq)))))), fun _ _ => .dead⟩
theorem s54' (ap np mp : Nat) (tp : Nat → Int) (aq nq mq : Nat) (tq : Nat → Int) (hp : (ap + np ≤ mp ∧ aq + nq ≤ mq) ∧ (np ≤ 900 ∧ nq ≤ 900) ∧ S.okG np (fun j => tp (j + ap)) = true ∧ S.okG nq (fun j => tq (j + aq)) = true ∧ 0 < nq) (D : List Int) (hD : (S.okG D.length fun j => S.at' D j) = true) (s : Int) (hs : 0 < s ∧ s ≤ 1000000) (hV : (S.val D.length fun j => S.at' D j) = (S.val nq (fun j => tq (j + aq))) * s) (hn : 2 ≤ D.length ∧ D.length ≤ 901) (m : Nat) (hm : m ≤ 950 ∧ m + D.length ≤ 1000) : ∀ (k : Nat) (R Q : List Int), k ≤ m → R.length = m + D.length → Q.length = m → (∀ j, j < m + D.length → 0 ≤ S.at' R j ∧ S.at' R j < 1000000) → (∀ j, j < m → 0 ≤ S.at' Q j ∧ S.at' Q j < 1000000) → S.valF (fun j => S.at' R j) (k) (m + D.length - k) < (S.val nq (fun j => tq (j + aq))) * s → S.valF (fun j => S.at' R j) (0) (m + D.length) + S.pw k * S.valF (fun j => S.at' Q j) (k) (m - k) * ((S.val nq (fun j => tq (j + aq))) * s) = (S.val np (fun j => tp (j + ap))) * s → Comes (q54 ap np mp tp aq nq mq tq) (.h0 ((k : Int) - 1) [s] R D Q) (S.grp ((S.val np (fun j => tp (j + ap))) % (S.val nq (fun j => tq (j + aq)))), S.grp ((S.val np (fun j => tp (j + ap))) / (S.val nq (fun j => tq (j + aq))))) := by
  obtain ⟨⟨hp1, hp2⟩, ⟨hp3, hp4⟩, g1, g2, hq0⟩ := hp
  have vp := val_pos g2 hq0
  have vV : 0 < (S.val nq (fun j => tq (j + aq))) * s := Int.mul_pos vp hs.1
  intro k
  induction k with
  | zero =>
    intro R Q hk hR hQ hdR hdQ hX hE
    rw [Nat.sub_zero] at hX
    have x0 := valF_nn (t := fun j => S.at' R j) (k := m + D.length) (i := 0) fun j _ h => (hdR j (by omega)).1
    have e0 : S.pw 0 = 1 := rfl
    rw [e0, Int.one_mul, Nat.sub_zero] at hE
    have hXs := end_eq hE
    have eR : S.trim R = S.grp (S.valF (fun j => S.at' R j) (0) (m + D.length)) := trim_val hR hdR
    have eQ : S.trim Q = S.grp (S.valF (fun j => S.at' Q j) (0) (m)) := trim_val hQ hdQ
    generalize S.valF (fun j => S.at' Q j) (0) (m) = W at *
    have rs : S.valF (fun j => S.at' R j) (0) (m + D.length) / s = (S.val np (fun j => tp (j + ap))) - W * (S.val nq (fun j => tq (j + aq))) := by rw [hXs]; exact Int.mul_ediv_cancel _ (by omega)
    have r0 : 0 ≤ (S.val np (fun j => tp (j + ap))) - W * (S.val nq (fun j => tq (j + aq))) := by rw [← rs]; exact Int.ediv_nonneg x0 (by omega)
    have r1 : (S.val np (fun j => tp (j + ap))) - W * (S.val nq (fun j => tq (j + aq))) < (S.val nq (fun j => tq (j + aq))) := by
      rw [hXs] at hX
      exact Int.lt_of_mul_lt_mul_right hX (by omega)
    have qd : (S.val np (fun j => tp (j + ap))) / (S.val nq (fun j => tq (j + aq))) = W := div_uniq vp (by omega) (by rw [Int.add_mul, Int.one_mul]; omega)
    have qm : (S.val np (fun j => tp (j + ap))) % (S.val nq (fun j => tq (j + aq))) = (S.val np (fun j => tp (j + ap))) - W * (S.val nq (fun j => tq (j + aq))) := mod_uniq vp (by omega) (by rw [Int.add_mul, Int.one_mul]; omega)
    rw [qd, qm, ← rs, ← eQ]
    generalize hXX : S.valF (fun j => S.at' R j) (0) (m + D.length) = X at *
    have c1 : 0 + (S.grp X).length ≤ (S.grp X).length ∧ (S.grp X).length ≤ 1000 ∧ (S.okD (S.grp X).length fun j => S.at' (S.grp X) j) = true ∧ 0 < s ∧ s ≤ 1000000 := by
      refine ⟨by omega, ?_, okG_D grp_ok, hs⟩
      have := grp_le (v := X) (n := m + D.length) (by rw [← hXX]; exact valF_lt fun j _ h => hdR j (by omega))
      omega
    have e1 : S.trim (S.mkl R.length fun j => S.at' R j) = S.grp X := by rw [show (S.mkl R.length fun j => S.at' R j) = R from mkl_at R]; exact eR
    have e2 : S.trim (S.mkl Q.length fun j => S.at' Q j) = S.trim Q := by rw [show (S.mkl Q.length fun j => S.at' Q j) = Q from mkl_at Q]
    have e3 : S.at' [s] 0 = s := rfl
    rw [hR] at e1
    rw [hQ] at e2
    have e4 := val_grpL x0
    clear hE hXs rs qd qm hX
    apply Comes.of
    show Goes _ _ _
    rw [q54]
    simp only [e1, e2, e3, e4, decide_eq_true c1, hR, hQ]
    repeat' (first | with_reducible refine goes_if (fun h => ?_) (fun h => ?_) <;> (try simp only [SH, List.length_cons, List.length_nil] at h) | exact goes_none.mpr (by omega))
    all_goals first | (exfalso; omega) | exact goes_inr.mpr rfl
  | succ k ih =>
    intro R Q hk hR hQ hdR hdQ hX hE
    have vlt : (S.val nq (fun j => tq (j + aq))) * s < S.pw D.length := by rw [← hV]; exact val_lt (okG_D hD) (Nat.le_refl _)
    have hi := valF_high (t := fun j => S.at' R j) (m := D.length) (k := m - (k + 1)) (i := k + 1) (fun j h1 h2 => hdR j (by omega)) (by rw [show D.length + (m - (k + 1)) = m + D.length - (k + 1) by omega]; omega)
    have r1 : S.valF (fun j => S.at' R j) (k + 1) (m + D.length - (k + 1)) = S.valF (fun j => S.at' R j) (k + 1) (D.length) := by
      rw [show m + D.length - (k + 1) = D.length + (m - (k + 1)) by omega, valF_add, valF_zeros (i := k + 1 + D.length) fun j h1 h2 => hi j h1 (by omega), Int.mul_zero, Int.add_zero]
    rw [r1] at hX
    have hdk := hdR k (by omega)
    have u1 : (S.val (D.length + 1) fun j => S.at' R (j + k)) = S.at' R k + 1000000 * S.valF (fun j => S.at' R j) (k + 1) (D.length) := by
      unfold S.val
      rw [valF_shift (t := fun j => S.at' R j), Nat.zero_add]
      rfl
    have u0 : 0 ≤ S.val (D.length + 1) fun j => S.at' R (j + k) := val_nn (okD_iff.mpr fun j hj => hdR _ (by omega))
    have u2 : (S.val (D.length + 1) fun j => S.at' R (j + k)) < 1000000 * ((S.val nq (fun j => tq (j + aq))) * s) := by omega
    have dU := Int.emod_add_mul_ediv (S.val (D.length + 1) fun j => S.at' R (j + k)) ((S.val nq (fun j => tq (j + aq))) * s)
    have m0 := Int.emod_nonneg (S.val (D.length + 1) fun j => S.at' R (j + k)) (show (S.val nq (fun j => tq (j + aq))) * s ≠ 0 by omega)
    have m1 := Int.emod_lt_of_pos (S.val (D.length + 1) fun j => S.at' R (j + k)) vV
    have q0 : 0 ≤ (S.val (D.length + 1) fun j => S.at' R (j + k)) / ((S.val nq (fun j => tq (j + aq))) * s) := Int.ediv_nonneg u0 (by omega)
    have q1 : (S.val (D.length + 1) fun j => S.at' R (j + k)) / ((S.val nq (fun j => tq (j + aq))) * s) < 1000000 := (Int.ediv_lt_iff_lt_mul vV).mpr u2
    have hz : ∀ j, k + (D.length + 1) ≤ j → j < m + D.length → S.at' R j = 0 := fun j h1 h2 => hi j (by omega) (by omega)
    have lo : S.valF (fun j => S.at' R j) (0) (m + D.length) = S.valF (fun j => S.at' R j) (0) (k) + S.pw k * S.val (D.length + 1) fun j => S.at' R (j + k) := by
      rw [show m + D.length = k + (D.length + 1 + (m - (k + 1))) by omega, valF_add, Nat.zero_add, valF_add (a := D.length + 1), valF_zeros (i := k + (D.length + 1)) fun j h1 h2 => hz j h1 (by omega), Int.mul_zero, Int.add_zero]
      unfold S.val
      rw [valF_shift (t := fun j => S.at' R j), Nat.zero_add]
    generalize hU : (S.val (D.length + 1) fun j => S.at' R (j + k)) = U at *
    generalize hqq : U / ((S.val nq (fun j => tq (j + aq))) * s) = qd at *
    generalize hrr : U % ((S.val nq (fun j => tq (j + aq))) * s) = rd at *
    have w1 : S.valF (fun j => S.at' (S.mkl (m + D.length) fun j => S.winD (fun j => S.at' R j) k (D.length + 1) rd j) j) k (m + D.length - k) = rd := by
      rw [show m + D.length - k = D.length + 1 + (m - (k + 1)) by omega, valF_add, valF_zeros (i := k + (D.length + 1)) fun j h1 h2 => by rw [win_at (by omega), if_neg (by omega)]; exact hz j h1 (by omega), Int.mul_zero, Int.add_zero]
      have vs := valF_shift (t := fun j => S.at' (S.mkl (m + D.length) fun j => S.winD (fun j => S.at' R j) k (D.length + 1) rd j) j) (a := k) (i := 0) (k := D.length + 1)
      rw [Nat.zero_add] at vs
      rw [← vs]
      rw [valF_congr (u := fun j => S.at' (S.grp rd) j) fun j h1 h2 => by rw [win_at (by omega), if_pos (by omega), show j + k - k = j by omega]]
      exact grp_valF m0 (by have : S.pw (D.length + 1) = 1000000 * S.pw D.length := rfl; omega)
    have w2 : S.valF (fun j => S.at' (S.mkl (m + D.length) fun j => S.winD (fun j => S.at' R j) k (D.length + 1) rd j) j) 0 (m + D.length) = S.valF (fun j => S.at' R j) (0) (k) + S.pw k * rd := by
      have := valF_add (t := fun j => S.at' (S.mkl (m + D.length) fun j => S.winD (fun j => S.at' R j) k (D.length + 1) rd j) j) (a := k) (b := m + D.length - k) (i := 0)
      rw [show k + (m + D.length - k) = m + D.length by omega, Nat.zero_add, w1] at this
      rw [this]
      congr 1
      exact valF_congr fun j h1 h2 => by rw [win_at (by omega), if_neg (by omega)]
    have w3 : S.valF (fun j => S.at' (S.mkl m fun j => bif Nat.beq j k then qd else S.at' Q j) j) k (m - k) = qd + 1000000 * S.valF (fun j => S.at' Q j) (k + 1) (m - (k + 1)) := by
      rw [show m - k = (m - (k + 1)) + 1 by omega]
      simp only [S.valF]
      rw [upd_at (by omega), if_pos rfl, valF_congr (u := fun j => S.at' Q j) fun j h1 h2 => by rw [upd_at (by omega), if_neg (by omega)]]
    have ih := ih (S.mkl (m + D.length) fun j => S.winD (fun j => S.at' R j) k (D.length + 1) rd j) (S.mkl m fun j => bif Nat.beq j k then qd else S.at' Q j) (by omega) mkl_len mkl_len
      (fun j hj => by
        rw [win_at hj]
        split
        · exact grp_at
        · exact hdR j hj)
      (upd_dig hQ hdQ ⟨q0, q1⟩) (by rw [w1]; exact m1) (by
        rw [w2, w3]
        refine step_eq (U := U) (by rw [Int.mul_comm]; omega) ?_
        rw [← lo]
        exact hE)
    have e1 : (((k + 1 : Nat) : Int) - 1) = k := by omega
    have e2 : ((k : Int) + D.length + 1).toNat - k = D.length + 1 := by omega
    have c1 : k + (D.length + 1) ≤ m + D.length ∧ m + D.length ≤ 1000000 ∧ D.length + 1 = D.length + 1 ∧ 2 ≤ D.length ∧ D.length ≤ 1000 ∧ 0 + D.length ≤ D.length ∧ (S.okD (D.length + 1) fun j => S.at' R (j + k)) = true ∧ (S.okG D.length fun j => S.at' D j) = true ∧ U < 1000000 * ((S.val nq (fun j => tq (j + aq))) * s) := ⟨by omega, by omega, rfl, hn.1, by omega, by omega, okD_iff.mpr fun j hj => hdR _ (by omega), hD, u2⟩
    have c1' : k + (((k : Int) + D.length + 1).toNat - k) ≤ m + D.length ∧ m + D.length ≤ 1000000 ∧ ((k : Int) + D.length + 1).toNat - k = D.length + 1 ∧ 2 ≤ D.length ∧ D.length ≤ 1000 ∧ 0 + D.length ≤ D.length ∧ (S.okD (((k : Int) + D.length + 1).toNat - k) fun j => S.at' R (j + k)) = true ∧ (S.okG D.length fun j => S.at' D j) = true ∧ (S.val (((k : Int) + D.length + 1).toNat - k) fun j => S.at' R (j + k)) < 1000000 * S.val D.length fun j => S.at' D j := by
      rw [e2, hU, hV]; exact c1
    rw [e1]
    clear hE w1 w2 w3 lo dU hX r1 u1
    apply Comes.of
    show Goes _ _ _
    rw [q54]
    simp only [Int.toNat_natCast, hR, hQ, decide_eq_true c1', cond_true]
    simp only [e2, hU, hV, hqq, hrr, mkl_mkl]
    repeat' (first | with_reducible refine goes_if (fun h => ?_) (fun h => ?_) <;> (try simp only [SH] at h) | exact goes_none.mpr (by omega))
    all_goals first | (exfalso; omega) | exact ih
theorem at_zero  {L : List Int} {j : Nat} : S.at' (L ++ [0]) j = S.at' L j := by
  unfold S.at'
  by_cases h : j < L.length
  · simp [List.getElem?_append_left h]
  · by_cases h2 : j = L.length
    · subst h2; simp
    · simp [List.getElem?_eq_none (show L.length ≤ j by omega), List.getElem?_eq_none (show (L ++ [(0 : Int)]).length ≤ j by simp; omega)]
theorem at_end  {L : List Int} : S.at' L L.length = 0 := by simp [S.at']
theorem lit_at  {s : Int} {j : Nat} (h : j < 1) : S.lit [s] 0 j = s := by
  obtain rfl : j = 0 := by omega
  rfl
theorem mkl_lit  {n : Nat} {f : Nat → Int} (h : n = 1) : S.val n f = f 0 := by
  subst h
  simp only [S.val, S.valF]
  omega
theorem s54 (ap np mp : Nat) (tp : Nat → Int) (aq nq mq : Nat) (tq : Nat → Int) (hp : (ap + np ≤ mp ∧ aq + nq ≤ mq) ∧ (np ≤ 900 ∧ nq ≤ 900) ∧ S.okG np (fun j => tp (j + ap)) = true ∧ S.okG nq (fun j => tq (j + aq)) = true ∧ 0 < nq) : Goes ((q54 ap np mp tp aq nq mq tq)) ((p54 ap np mp tp aq nq mq tq)) ((S.grp ((S.val np (fun j => tp (j + ap))) % (S.val nq (fun j => tq (j + aq)))), S.grp ((S.val np (fun j => tp (j + ap))) / (S.val nq (fun j => tq (j + aq)))))) := by
  have hp' := hp
  obtain ⟨⟨hp1, hp2⟩, ⟨hp3, hp4⟩, g1, g2, hq0⟩ := hp
  have up := val_nn (okG_D g1)
  have vp := val_pos g2 hq0
  have dP := (okG_iff.mp g1).1
  have dQ := (okG_iff.mp g2).1
  have c1 : ap + np ≤ mp ∧ np ≤ 1000000 ∧ aq + nq ≤ mq ∧ nq ≤ 1000000 ∧ S.okG np (fun j => tp (j + ap)) = true ∧ S.okG nq (fun j => tq (j + aq)) = true := ⟨hp1, by omega, hp2, by omega, g1, g2⟩
  have c2 : ap + np ≤ mp ∧ np ≤ 1000000 := ⟨hp1, by omega⟩
  have hC : S.cmpS (S.val np (fun j => tp (j + ap))) (S.val nq (fun j => tq (j + aq))) < 0 ↔ (S.val np (fun j => tp (j + ap))) < (S.val nq (fun j => tq (j + aq))) := by
    unfold S.cmpS
    (repeat' split) <;> omega
  by_cases h1 : (S.val np (fun j => tp (j + ap))) < (S.val nq (fun j => tq (j + aq)))
  · rw [Int.emod_eq_of_lt up h1, Int.ediv_eq_zero_of_lt up h1, grp_zero, ← ok_grp g1]
    unfold p54
    simp only [decide_eq_true c1, decide_eq_true (hC.mpr h1), decide_eq_true c2, cond_true]
    exact goes_inr.mpr rfl
  · have h1' : ¬ S.cmpS (S.val np (fun j => tp (j + ap))) (S.val nq (fun j => tq (j + aq))) < 0 := fun h => h1 (hC.mp h)
    by_cases hn : nq = 1
    · subst hn
      have hv : S.val 1 (fun j => tq (j + aq)) = tq (0 + aq) := mkl_lit rfl
      have q0 := dQ 0 (by omega)
      (try dsimp only at q0)
      rw [hv] at vp ⊢
      have m0 := Int.emod_nonneg (S.val np (fun j => tp (j + ap))) (show tq (0 + aq) ≠ 0 by omega)
      have m1 := Int.emod_lt_of_pos (S.val np (fun j => tp (j + ap))) vp
      have c3 : ap + np ≤ mp ∧ np ≤ 1000 ∧ S.okD np (fun j => tp (j + ap)) = true ∧ 0 < tq (0 + aq) ∧ tq (0 + aq) ≤ 1000000 := ⟨hp1, by omega, okG_D g1, vp, by omega⟩
      have hw : IntKind.u64.wrap ((S.val np (fun j => tp (j + ap))) % tq (0 + aq)) = (S.val np (fun j => tp (j + ap))) % tq (0 + aq) := by rw [IntKind.wrap_u64]; omega
      unfold p54
      simp only [decide_eq_true c1, decide_eq_false h1', decide_eq_true c2, decide_eq_true c3, hw, cond_true, cond_false]
      repeat' (first | with_reducible refine goes_if (fun h => ?_) (fun h => ?_) <;> (try simp only [SH] at h) | exact goes_none.mpr (by omega))
      all_goals first | (exfalso; omega) | exact goes_inr.mpr rfl
    · have l1 := dQ (nq - 1) (by omega)
      have e1 : ((nq : Int) - 1).toNat = nq - 1 := by omega
      (try dsimp only at l1)
      have ts := tdiv_nn (X := 1000000) (Y := tq (nq - 1 + aq) + 1) (by omega) (by omega)
      have tf : 0 < Int.tdiv 1000000 (tq (nq - 1 + aq) + 1) := by
        rcases Int.lt_or_eq_of_le ts.1 with h | h
        · exact h
        · rw [← h] at ts; omega
      obtain ⟨ts0, -, ts2⟩ := ts
      have l2 : 1 ≤ tq (nq - 1 + aq) := by
        have := (okG_iff.mp g2).2
        rcases this with h | h
        · omega
        · (try dsimp only at h); omega
      have ts5 : Int.tdiv 1000000 (tq (nq - 1 + aq) + 1) ≤ 500000 := by
        rw [Int.tdiv_eq_ediv_of_nonneg (by omega)]
        have := (Int.ediv_lt_iff_lt_mul (a := 1000000) (b := 500001) (c := tq (nq - 1 + aq) + 1) (by omega)).mpr (by omega)
        omega
      generalize hs : Int.tdiv 1000000 (tq (nq - 1 + aq) + 1) = s at *
      have hv1 : (S.val 1 fun j => S.lit [s] 0 j) = s := mkl_lit rfl
      have hkS : (S.okG 1 fun j => S.lit [s] 0 j) = true := okG_iff.mpr ⟨fun j hj => by rw [lit_at hj]; omega, .inr (show s ≠ 0 by omega)⟩
      have vq1 : S.pw (nq - 1) ≤ (S.val nq (fun j => tq (j + aq))) := by
        have h := valF_snoc (t := (fun j => tq (j + aq))) (i := 0) (k := nq - 1)
        rw [show nq - 1 + 1 = nq by omega, Nat.zero_add] at h
        have h' : (S.val nq (fun j => tq (j + aq))) = S.valF (fun j => tq (j + aq)) 0 (nq - 1) + S.pw (nq - 1) * tq (nq - 1 + aq) := h
        have n0 := valF_nn (t := (fun j => tq (j + aq))) (k := nq - 1) (i := 0) fun j _ h => (dQ j (by omega)).1
        have : S.pw (nq - 1) * 1 ≤ S.pw (nq - 1) * tq (nq - 1 + aq) := Int.mul_le_mul_of_nonneg_left (by omega) (by have := pw_pos (k := nq - 1); omega)
        omega
      have vs1 : (S.val nq (fun j => tq (j + aq))) * 1 ≤ (S.val nq (fun j => tq (j + aq))) * s := Int.mul_le_mul_of_nonneg_left (by omega) (by omega)
      have us1 : (S.val nq (fun j => tq (j + aq))) * s ≤ (S.val np (fun j => tp (j + ap))) * s := Int.mul_le_mul_of_nonneg_right (by omega) (by omega)
      have pw1 : S.pw 1 = 1000000 := rfl
      have uB := (mul_lt (a := np) (b := 1) ⟨up, val_lt (okG_D g1) (Nat.le_refl np)⟩ ⟨show 0 ≤ s by omega, by omega⟩).2
      have vB := (mul_lt (a := nq) (b := 1) ⟨by omega, val_lt (okG_D g2) (Nat.le_refl nq)⟩ ⟨show 0 ≤ s by omega, by omega⟩).2
      have lu := grp_le uB
      have lv := grp_le vB
      have lv2 := len_ge (k := nq - 1) (v := (S.val nq (fun j => tq (j + aq))) * s) (by omega)
      have hV := val_grpL (v := (S.val nq (fun j => tq (j + aq))) * s) (by omega)
      have hU : S.valL (S.grp ((S.val np (fun j => tp (j + ap))) * s)) = (S.val np (fun j => tp (j + ap))) * s := val_grp (by omega)
      have lm : (S.grp ((S.val nq (fun j => tq (j + aq))) * s)).length ≤ (S.grp ((S.val np (fun j => tp (j + ap))) * s)).length := by
        refine grp_le (Int.lt_of_le_of_lt us1 ?_)
        have := val_lt (okG_D (grp_ok (v := (S.val np (fun j => tp (j + ap))) * s))) (Nat.le_refl _)
        rw [val_at, hU] at this
        exact this
      have lp : S.pw ((S.grp ((S.val nq (fun j => tq (j + aq))) * s)).length - 1) ≤ (S.val nq (fun j => tq (j + aq))) * s := by
        refine Int.not_lt.mp fun h => ?_
        have := grp_le h
        omega
      have hDk : (S.okG (S.grp ((S.val nq (fun j => tq (j + aq))) * s)).length fun j => S.at' (S.grp ((S.val nq (fun j => tq (j + aq))) * s)) j) = true := grp_ok
      obtain ⟨m, hmm⟩ : ∃ m, m = (S.grp ((S.val np (fun j => tp (j + ap))) * s)).length + 1 - (S.grp ((S.val nq (fun j => tq (j + aq))) * s)).length := ⟨_, rfl⟩
      have hRl : (S.snoc (S.grp ((S.val np (fun j => tp (j + ap))) * s)) 0).length = m + (S.grp ((S.val nq (fun j => tq (j + aq))) * s)).length := by rw [snoc_len]; omega
      have hRa : ∀ j, S.at' (S.snoc (S.grp ((S.val np (fun j => tp (j + ap))) * s)) 0) j = S.at' (S.grp ((S.val np (fun j => tp (j + ap))) * s)) j := fun j => by rw [snoc_eq]; exact at_zero
      have hdR : ∀ j, j < m + (S.grp ((S.val nq (fun j => tq (j + aq))) * s)).length → 0 ≤ S.at' (S.snoc (S.grp ((S.val np (fun j => tp (j + ap))) * s)) 0) j ∧ S.at' (S.snoc (S.grp ((S.val np (fun j => tp (j + ap))) * s)) 0) j < 1000000 := fun j _ => by rw [hRa]; exact grp_at
      have hRv : S.valF (fun j => S.at' (S.snoc (S.grp ((S.val np (fun j => tp (j + ap))) * s)) 0) j) 0 (m + (S.grp ((S.val nq (fun j => tq (j + aq))) * s)).length) = (S.val np (fun j => tp (j + ap))) * s := by
        rw [show (fun j => S.at' (S.snoc (S.grp ((S.val np (fun j => tp (j + ap))) * s)) 0) j) = fun j => S.at' (S.grp ((S.val np (fun j => tp (j + ap))) * s)) j from funext hRa]
        exact grp_valF (by omega) (by have := val_lt (okG_D (grp_ok (v := (S.val np (fun j => tp (j + ap))) * s))) (show (S.grp ((S.val np (fun j => tp (j + ap))) * s)).length ≤ m + (S.grp ((S.val nq (fun j => tq (j + aq))) * s)).length by omega); rw [val_at, hU] at this; exact this)
      have hRt : S.valF (fun j => S.at' (S.snoc (S.grp ((S.val np (fun j => tp (j + ap))) * s)) 0) j) m (m + (S.grp ((S.val nq (fun j => tq (j + aq))) * s)).length - m) < (S.val nq (fun j => tq (j + aq))) * s := by
        rw [show (fun j => S.at' (S.snoc (S.grp ((S.val np (fun j => tp (j + ap))) * s)) 0) j) = fun j => S.at' (S.grp ((S.val np (fun j => tp (j + ap))) * s)) j from funext hRa]
        rw [show m + (S.grp ((S.val nq (fun j => tq (j + aq))) * s)).length - m = (S.grp ((S.val nq (fun j => tq (j + aq))) * s)).length - 1 + 1 by omega, valF_snoc, show m + ((S.grp ((S.val nq (fun j => tq (j + aq))) * s)).length - 1) = (S.grp ((S.val np (fun j => tp (j + ap))) * s)).length by omega, at_end, Int.mul_zero, Int.add_zero]
        exact Int.lt_of_lt_of_le (valF_lt fun j _ _ => grp_at) lp
      have hz : ∀ j, S.at' (S.mkl m fun _ => (0 : Int)) j = 0 := fun j => by
        by_cases h : j < m
        · exact at_mkl h
        · simp [S.at', List.getElem?_eq_none (show (S.mkl m fun _ => (0 : Int)).length ≤ j by rw [mkl_len]; omega)]
      have hm := s54' ap np mp tp aq nq mq tq hp' (S.grp ((S.val nq (fun j => tq (j + aq))) * s)) hDk s ⟨tf, by omega⟩ hV ⟨by omega, by omega⟩ m ⟨by omega, by omega⟩ m (S.snoc (S.grp ((S.val np (fun j => tp (j + ap))) * s)) 0) (S.mkl m fun _ => 0) (Nat.le_refl _) hRl mkl_len hdR (fun j _ => by rw [hz]; omega) hRt (by rw [hRv, Nat.sub_self]; simp only [S.valF]; rw [Int.mul_zero, Int.zero_mul, Int.add_zero])
      have c4 : (ap + np ≤ mp ∧ 1 ≤ 1) ∧ (np ≤ 1000 ∧ 1 ≤ 1000) ∧ S.okG np (fun j => tp (j + ap)) = true ∧ (S.okG 1 fun j => S.lit [s] 0 j) = true := ⟨⟨hp1, by omega⟩, ⟨by omega, by omega⟩, g1, hkS⟩
      have c5 : (aq + nq ≤ mq ∧ 1 ≤ 1) ∧ (nq ≤ 1000 ∧ 1 ≤ 1000) ∧ S.okG nq (fun j => tq (j + aq)) = true ∧ (S.okG 1 fun j => S.lit [s] 0 j) = true := ⟨⟨hp2, by omega⟩, ⟨by omega, by omega⟩, g2, hkS⟩
      have e5 : (((S.grp ((S.val np (fun j => tp (j + ap))) * s)).length + 1 : Nat) : Int) - ((S.grp ((S.val nq (fun j => tq (j + aq))) * s)).length : Int) = (m : Int) := by omega
      clear uB vB hRl hRa hdR hRv hRt hU hV lp lm
      unfold p54
      simp only [decide_eq_true c1, decide_eq_false h1', cond_true, cond_false, e1, hs, hv1, decide_eq_true c4, decide_eq_true c5, e5, Int.toNat_natCast]
      repeat' (first | with_reducible refine goes_if (fun h => ?_) (fun h => ?_) <;> (try simp only [SH] at h) | exact goes_none.mpr (by omega))
      all_goals first | (exfalso; omega) | exact hm
theorem k54_ok  : k54.ok Tryd.prog := by
  intro x hx
  obtain ⟨⟨ap, np, mp, tp, _⟩, ⟨aq, nq, mq, tq, _⟩, _⟩ := x
  obtain ⟨h1, h2⟩ := a54 ap np mp tp aq nq mq tq (s54 ap np mp tp aq nq mq tq (of_dec hx rfl))
  exact ⟨⟨400, (by decide : 2 + 1 + 2 ≤ 400), h1⟩, h2⟩
theorem cons_trim  {L : List Int} {x : Int} (hx : 0 ≤ x ∧ x < 1000000) (h : ∀ y ∈ L, 0 ≤ y ∧ y < 1000000) : (S.trim (S.mkl (1 + L.length) fun j => bif Nat.blt j 1 then x else S.at' L (j - 1 + 0))) = S.grp (x + 1000000 * S.valL L) := by
  have e : (S.mkl (1 + L.length) fun j => bif Nat.blt j 1 then x else S.at' L (j - 1 + 0)) = x :: L := by
    refine mkl_eq (by simp; omega) fun j hj => ?_
    cases j with
    | zero => rfl
    | succ j =>
      rw [show Nat.blt (j + 1) 1 = false from rfl, cond_false]
      simp [S.at']
  rw [e, trim_grp (dig_cons hx h)]
  rfl
theorem guess  {X V P v t : Int} (hP : 0 < P) (hv : 0 < v) (h1 : v * P ≤ V) (h2 : V < (v + 1) * P) (h3 : t * P ≤ X) (h4 : X < (t + 1) * P) (t0 : 0 ≤ t) : 0 ≤ Int.tdiv t (v + 1) ∧ Int.tdiv t (v + 1) ≤ X / V ∧ X / V ≤ Int.tdiv (t + 1) v ∧ Int.tdiv (t + 1) v ≤ t + 1 := by
  rw [Int.tdiv_eq_ediv_of_nonneg t0, Int.tdiv_eq_ediv_of_nonneg (by omega : 0 ≤ t + 1)]
  have hV : 0 < V := by
    have := Int.mul_pos hv hP
    omega
  have c0 : 0 ≤ t / (v + 1) := Int.ediv_nonneg t0 (by omega)
  have x0 : 0 ≤ X := by have := Int.mul_nonneg t0 (show 0 ≤ P by omega); omega
  refine ⟨c0, (Int.le_ediv_iff_mul_le hV).mpr ?_, (Int.le_ediv_iff_mul_le hv).mpr ?_, Int.ediv_le_self _ (by omega)⟩
  · have a1 : t / (v + 1) * (v + 1) ≤ t := Int.ediv_mul_le _ (by omega)
    have a2 : t / (v + 1) * V ≤ t / (v + 1) * ((v + 1) * P) := Int.mul_le_mul_of_nonneg_left (by omega) c0
    have a3 : t / (v + 1) * (v + 1) * P ≤ t * P := Int.mul_le_mul_of_nonneg_right a1 (by omega)
    rw [Int.mul_assoc] at a3
    omega
  · have d0 : 0 ≤ X / V := Int.ediv_nonneg x0 (by omega)
    have a1 : X / V * V ≤ X := Int.ediv_mul_le _ (by omega)
    have a2 : X / V * (v * P) ≤ X / V * V := Int.mul_le_mul_of_nonneg_left h1 d0
    rw [← Int.mul_assoc] at a2
    have hh : X / V * v * P < (t + 1) * P := by omega
    have := Int.lt_of_mul_lt_mul_right hh (by omega)
    omega
theorem ext_at  {L : List Int} {j : Nat} : S.ext L.length (fun j => S.at' L j) j = S.at' L j := by
  unfold S.ext
  split
  · rfl
  · simp [S.at', List.getElem?_eq_none (by omega : L.length ≤ j)]
noncomputable abbrev c57_0_0 (ap : Nat) (tp : NI) (x0 x1 : Nat) (x2 : Int) (x4 : List Int) := S.trim (S.mkl (1 + x1) fun j => bif Nat.blt j (1) then tp (Int.toNat x2 + ap) else S.at' x4 (j - 1 + x0))
noncomputable abbrev c57_0_1 (ap : Nat) (tp : NI) (nq x0 x1 : Nat) (x2 : Int) (x4 : List Int) := S.ext (List.length (c57_0_0 ap tp x0 x1 x2 x4)) (fun j => S.at' (c57_0_0 ap tp x0 x1 x2 x4) j) nq * 1000000 + S.ext (List.length (c57_0_0 ap tp x0 x1 x2 x4)) (fun j => S.at' (c57_0_0 ap tp x0 x1 x2 x4) j) (Int.toNat ((↑nq : Int) - 1))
noncomputable abbrev c57_0_2 (ap : Nat) (tp : NI) (nq x0 x1 : Nat) (x2 : Int) (x4 : List Int) := S.ext (List.length (c57_0_0 ap tp x0 x1 x2 x4)) (fun j => S.at' (c57_0_0 ap tp x0 x1 x2 x4) j) nq * 1000000 + S.ext (List.length (c57_0_0 ap tp x0 x1 x2 x4)) (fun j => S.at' (c57_0_0 ap tp x0 x1 x2 x4) j) (Int.toNat ((↑nq : Int) - 1)) + 1
noncomputable abbrev c57_0_3 (ap : Nat) (tp : NI) (aq nq : Nat) (tq : NI) (x0 x1 : Nat) (x2 : Int) (x4 : List Int) := Int.tdiv ((c57_0_1 ap tp nq x0 x1 x2 x4) * 1000000 + S.ext (List.length (c57_0_0 ap tp x0 x1 x2 x4)) (fun j => S.at' (c57_0_0 ap tp x0 x1 x2 x4) j) (Int.toNat ((↑nq : Int) - 2))) (tq (Int.toNat ((↑nq : Int) - 1) + aq) * 1000000 + tq (Int.toNat ((↑nq : Int) - 2) + aq) + 1)
noncomputable abbrev c57_0_4 (ap : Nat) (tp : NI) (nq x0 x1 : Nat) (x2 : Int) (x4 : List Int) := (c57_0_1 ap tp nq x0 x1 x2 x4) * 1000000 + S.ext (List.length (c57_0_0 ap tp x0 x1 x2 x4)) (fun j => S.at' (c57_0_0 ap tp x0 x1 x2 x4) j) (Int.toNat ((↑nq : Int) - 2)) + 1
noncomputable abbrev c57_0_5 (ap mp : Nat) (tp : NI) (mq : Nat) (tq : NI) (x0 x1 : Nat) (x2 : Int) (x3 x4 : List Int) := ([[(1, false, Blk.cols mq [Col.int .i64 tq]), (0, false, Blk.cols mp [Col.int .i64 tp]), (5, true, Blk.cols (List.length (c57_0_0 ap tp x0 x1 x2 x4)) [Col.int .i64 fun j => S.at' (c57_0_0 ap tp x0 x1 x2 x4) j]), (2, true, Blk.cols (List.length x3) [Col.int .i64 fun j => S.at' x3 j])]])
noncomputable abbrev c57_1_0 (aq nq : Nat) (tq : NI) (x2 : Int) := S.grp ((S.val nq fun j => tq (j + aq)) * S.val (1) fun j => S.lit [x2] (0 : Int) j)
noncomputable abbrev c57_1_1 (aq nq : Nat) (tq : NI) (x2 x3 : Int) := S.grp ((S.val nq fun j => tq (j + aq)) * S.val (1) fun j => S.lit [Int.tdiv (x2 + x3 + 1) (2 : Int)] (0 : Int) j)
inductive St57 where
  | h0 (x0 : Nat) (x1 : Nat) (x2 : Int) (x3 : List Int) (x4 : List Int)
  | h1 (x0 : Nat) (x1 : Int) (x2 : Int) (x3 : Int) (x4 : List Int) (x5 : List Int)
abbrev Rt57  := Nat × Nat × List Int × List Int
noncomputable def V57 (ap np mp : Nat) (tp : NI) (aq nq mq : Nat) (tq : NI) (r : Rt57) : PV := PV.tup [PV.own (3) (1) (List.length r.2.2.1), PV.loose (PA.mk (4) (1) r.1 (0)) r.2.1]
noncomputable def N57 (ap np mp : Nat) (tp : NI) (aq nq mq : Nat) (tq : NI) (r : Rt57) : List Blk := [Blk.cols (List.length r.2.2.1) [Col.int .i64 fun j => S.at' r.2.2.1 j], Blk.cols (List.length r.2.2.2) [Col.int .i64 fun j => S.at' r.2.2.2 j]]
noncomputable def I57 (ap np mp : Nat) (tp : NI) (aq nq mq : Nat) (tq : NI) : St57 → Hd
  | .h0 x0 x1 x2 x3 x4 => ⟨hd Tryd.f57 0, [PV.loose (PA.mk (0) (1) ap (0)) np,
 PV.loose (PA.mk (1) (1) aq (0)) nq,
 PV.own (2) (1) (List.length x3),
 PV.loose (PA.mk (3) (1) x0 (0)) x1, PV.int .i64 (↑nq : Int),
 PV.int .i64 x2, PV.unk, PV.unk], [[(2, (true, Blk.cols (List.length x3) [Col.int .i64 fun j => S.at' x3 j])), (3, (true, Blk.cols (List.length x4) [Col.int .i64 fun j => S.at' x4 j]))], [(0, (false, .cols mp [.int .i64 tp])), (1, (false, .cols mq [.int .i64 tq]))]], 4⟩
  | .h1 x0 x1 x2 x3 x4 x5 => ⟨hd Tryd.f57 1, [PV.loose (PA.mk (0) (1) ap (0)) np,
 PV.loose (PA.mk (1) (1) aq (0)) nq,
 PV.own (2) (1) (List.length x4),
 PV.loose (PA.mk (3) (1) (0) (0)) x0,
 PV.int .i64 (↑nq : Int), PV.int .i64 x1, PV.int .i64 x2,
 PV.int .i64 x3], [[(2, (true, Blk.cols (List.length x4) [Col.int .i64 fun j => S.at' x4 j])), (3, (true, Blk.cols (List.length x5) [Col.int .i64 fun j => S.at' x5 j]))], [(0, (false, .cols mp [.int .i64 tp])), (1, (false, .cols mq [.int .i64 tq]))]], 4⟩
noncomputable def q57 (ap np mp : Nat) (tp : NI) (aq nq mq : Nat) (tq : NI) : St57 → Option (St57 ⊕ Rt57) | .h0 x0 x1 x2 x3 x4 => bif (decide (x2 ≥ 0)) then (bif (decide ((0 : Int) ≤ x2 ∧ x2 < (↑np : Int))) then (bif (decide (Int.toNat x2 + ap < mp)) then (bif (decide (1 + x1 ≤ 1000000)) then (bif (decide (x0 + x1 ≤ List.length x4)) then (bif (decide (1 + x1 ≤ 1 + x1)) then (bif (decide ((↑(List.length (c57_0_0 ap tp x0 x1 x2 x4)) : Int) < (↑nq : Int))) then (bif (lim .i64 (x2 - 1)) then (some (.inl (.h0 (0) (List.length (c57_0_0 ap tp x0 x1 x2 x4)) (x2 - 1) (x3) (c57_0_0 ap tp x0 x1 x2 x4)))) else (none)) else (bif (lim .i64 ((↑nq : Int) - 1)) then (bif (decide ((0 : Int) ≤ (↑nq : Int) - 1 ∧ (↑nq : Int) - 1 < (↑nq : Int))) then (bif (decide (Int.toNat ((↑nq : Int) - 1) + aq < mq)) then (bif (decide (0 + List.length (c57_0_0 ap tp x0 x1 x2 x4) ≤ List.length (c57_0_0 ap tp x0 x1 x2 x4) ∧ (0 : Int) ≤ (↑nq : Int))) then (bif (lim .i64 (S.ext (List.length (c57_0_0 ap tp x0 x1 x2 x4)) (fun j => S.at' (c57_0_0 ap tp x0 x1 x2 x4) j) nq * 1000000)) then (bif (decide (0 + List.length (c57_0_0 ap tp x0 x1 x2 x4) ≤ List.length (c57_0_0 ap tp x0 x1 x2 x4) ∧ (0 : Int) ≤ (↑nq : Int) - 1)) then (bif (lim .i64 (c57_0_1 ap tp nq x0 x1 x2 x4)) then (bif (decide ((↑nq : Int) > 1)) then (bif (lim .i64 (tq (Int.toNat ((↑nq : Int) - 1) + aq) * 1000000)) then (bif (lim .i64 ((↑nq : Int) - 2)) then (bif (decide ((0 : Int) ≤ (↑nq : Int) - 2 ∧ (↑nq : Int) - 2 < (↑nq : Int))) then (bif (decide (Int.toNat ((↑nq : Int) - 2) + aq < mq)) then (bif (lim .i64 (tq (Int.toNat ((↑nq : Int) - 1) + aq) * 1000000 + tq (Int.toNat ((↑nq : Int) - 2) + aq))) then (bif (lim .i64 ((c57_0_1 ap tp nq x0 x1 x2 x4) * 1000000)) then (bif (decide (0 + List.length (c57_0_0 ap tp x0 x1 x2 x4) ≤ List.length (c57_0_0 ap tp x0 x1 x2 x4) ∧ (0 : Int) ≤ (↑nq : Int) - 2)) then (bif (lim .i64 ((c57_0_1 ap tp nq x0 x1 x2 x4) * 1000000 + S.ext (List.length (c57_0_0 ap tp x0 x1 x2 x4)) (fun j => S.at' (c57_0_0 ap tp x0 x1 x2 x4) j) (Int.toNat ((↑nq : Int) - 2)))) then (bif (lim .i64 (tq (Int.toNat ((↑nq : Int) - 1) + aq) * 1000000 + tq (Int.toNat ((↑nq : Int) - 2) + aq) + 1)) then (bif (decide (tq (Int.toNat ((↑nq : Int) - 1) + aq) * 1000000 + tq (Int.toNat ((↑nq : Int) - 2) + aq) + 1 = 0)) then (none) else (bif (lim .i64 (c57_0_3 ap tp aq nq tq x0 x1 x2 x4)) then (bif (lim .i64 (c57_0_4 ap tp nq x0 x1 x2 x4)) then (bif (decide (tq (Int.toNat ((↑nq : Int) - 1) + aq) * 1000000 + tq (Int.toNat ((↑nq : Int) - 2) + aq) = 0)) then (none) else (bif (lim .i64 (Int.tdiv (c57_0_4 ap tp nq x0 x1 x2 x4) (tq (Int.toNat ((↑nq : Int) - 1) + aq) * 1000000 + tq (Int.toNat ((↑nq : Int) - 2) + aq)))) then (some (.inl (.h1 (List.length (c57_0_0 ap tp x0 x1 x2 x4)) (x2) (c57_0_3 ap tp aq nq tq x0 x1 x2 x4) (Min.min (Int.tdiv (c57_0_4 ap tp nq x0 x1 x2 x4) (tq (Int.toNat ((↑nq : Int) - 1) + aq) * 1000000 + tq (Int.toNat ((↑nq : Int) - 2) + aq))) (999999 : Int)) (x3) (c57_0_0 ap tp x0 x1 x2 x4)))) else (none))) else (none)) else (none))) else (none)) else (none)) else (none)) else (none)) else (none)) else (none)) else (none)) else (none)) else (none)) else (bif (lim .i64 (tq (Int.toNat ((↑nq : Int) - 1) + aq) + 1)) then (bif (decide (tq (Int.toNat ((↑nq : Int) - 1) + aq) + 1 = 0)) then (none) else (bif (lim .i64 (Int.tdiv (c57_0_1 ap tp nq x0 x1 x2 x4) (tq (Int.toNat ((↑nq : Int) - 1) + aq) + 1))) then (bif (lim .i64 (c57_0_2 ap tp nq x0 x1 x2 x4)) then (bif (decide (tq (Int.toNat ((↑nq : Int) - 1) + aq) = 0)) then (none) else (bif (lim .i64 (Int.tdiv (c57_0_2 ap tp nq x0 x1 x2 x4) (tq (Int.toNat ((↑nq : Int) - 1) + aq)))) then (some (.inl (.h1 (List.length (c57_0_0 ap tp x0 x1 x2 x4)) (x2) (Int.tdiv (c57_0_1 ap tp nq x0 x1 x2 x4) (tq (Int.toNat ((↑nq : Int) - 1) + aq) + 1)) (Min.min (Int.tdiv (c57_0_2 ap tp nq x0 x1 x2 x4) (tq (Int.toNat ((↑nq : Int) - 1) + aq))) (999999 : Int)) (x3) (c57_0_0 ap tp x0 x1 x2 x4)))) else (none))) else (none)) else (none))) else (none))) else (none)) else (none)) else (none)) else (none)) else (none)) else (none)) else (none))) else (none)) else (none)) else (none)) else (none)) else (none)) else (bif (decide (List.length x3 ≤ List.length x3)) then (bif (decide (List.length x3 ≤ 1000000)) then (some (.inr (x0, x1, S.trim (S.mkl (List.length x3) fun j => S.at' x3 j), x4))) else (none)) else (none)) | .h1 x0 x1 x2 x3 x4 x5 => bif (decide (x2 < x3)) then (bif (lim .i64 (x2 + x3)) then (bif (lim .i64 (x2 + x3 + 1)) then (bif (lim .i64 (Int.tdiv (x2 + x3 + 1) (2 : Int))) then (bif (decide ((aq + nq ≤ mq ∧ 1 ≤ 1) ∧ (nq ≤ 1000 ∧ 1 ≤ 1000) ∧ (S.okD nq fun j => tq (j + aq)) = true ∧ (S.okD (1) fun j => S.lit [Int.tdiv (x2 + x3 + 1) (2 : Int)] (0 : Int) j) = true)) then (bif (decide (0 + List.length (c57_1_1 aq nq tq x2 x3) ≤ List.length (c57_1_1 aq nq tq x2 x3) ∧ List.length (c57_1_1 aq nq tq x2 x3) ≤ 1000000 ∧ 0 + x0 ≤ List.length x5 ∧ x0 ≤ 1000000 ∧ (S.okG (List.length (c57_1_1 aq nq tq x2 x3)) fun j => S.at' (c57_1_1 aq nq tq x2 x3) j) = true ∧ (S.okG x0 fun j => S.at' x5 j) = true)) then (bif (decide (S.cmpS (S.val (List.length (c57_1_1 aq nq tq x2 x3)) fun j => S.at' (c57_1_1 aq nq tq x2 x3) j) (S.val x0 fun j => S.at' x5 j) ≤ 0)) then (some (.inl (.h1 (x0) (x1) (Int.tdiv (x2 + x3 + 1) (2 : Int)) (x3) (x4) (x5)))) else (bif (lim .i64 (Int.tdiv (x2 + x3 + 1) (2 : Int) - 1)) then (some (.inl (.h1 (x0) (x1) (x2) (Int.tdiv (x2 + x3 + 1) (2 : Int) - 1) (x4) (x5)))) else (none))) else (none)) else (none)) else (none)) else (none)) else (none)) else (bif (decide ((0 : Int) ≤ x1 ∧ x1 < (↑(List.length x4) : Int))) then (bif (decide (Int.toNat x1 < List.length x4)) then (bif (decide ((aq + nq ≤ mq ∧ 1 ≤ 1) ∧ (nq ≤ 1000 ∧ 1 ≤ 1000) ∧ (S.okD nq fun j => tq (j + aq)) = true ∧ (S.okD (1) fun j => S.lit [x2] (0 : Int) j) = true)) then (bif (decide ((0 + x0 ≤ List.length x5 ∧ 0 + List.length (c57_1_0 aq nq tq x2) ≤ List.length (c57_1_0 aq nq tq x2)) ∧ (x0 ≤ 1000 ∧ List.length (c57_1_0 aq nq tq x2) ≤ 1000) ∧ (S.okG x0 fun j => S.at' x5 j) = true ∧ (S.okG (List.length (c57_1_0 aq nq tq x2)) fun j => S.at' (c57_1_0 aq nq tq x2) j) = true ∧ (S.val (List.length (c57_1_0 aq nq tq x2)) fun j => S.at' (c57_1_0 aq nq tq x2) j) ≤ S.val x0 fun j => S.at' x5 j)) then (bif (lim .i64 (x1 - 1)) then (some (.inl (.h0 (0) (List.length (S.grp ((S.val x0 fun j => S.at' x5 j) - S.val (List.length (c57_1_0 aq nq tq x2)) fun j => S.at' (c57_1_0 aq nq tq x2) j))) (x1 - 1) (S.mkl (List.length x4) fun j => bif Nat.beq j (Int.toNat x1) then x2 else S.at' x4 j) (S.grp ((S.val x0 fun j => S.at' x5 j) - S.val (List.length (c57_1_0 aq nq tq x2)) fun j => S.at' (c57_1_0 aq nq tq x2) j))))) else (none)) else (none)) else (none)) else (none)) else (none))
noncomputable def p57 (ap np mp : Nat) (tp : NI) (aq nq mq : Nat) (tq : NI) : Option (St57 ⊕ Rt57) := bif (decide ((↑np : Int) ≤ 3)) then (bif (decide ((↑nq : Int) ≤ 3)) then (bif (decide (ap + np ≤ mp ∧ np ≤ 3 ∧ (S.okD np fun j => tp (j + ap)) = true)) then (bif (decide (aq + nq ≤ mq ∧ nq ≤ 3 ∧ (S.okD nq fun j => tq (j + aq)) = true)) then (bif (decide ((S.val nq fun j => tq (j + aq)) = 0)) then (none) else (bif (lim .i64 (Int.tdiv (S.val np fun j => tp (j + ap)) (S.val nq fun j => tq (j + aq)))) then (bif (decide ((0 : Int) ≤ Int.tdiv (S.val np fun j => tp (j + ap)) (S.val nq fun j => tq (j + aq)) ∧ Int.tdiv (S.val np fun j => tp (j + ap)) (S.val nq fun j => tq (j + aq)) ≤ 9223372036854775807)) then (bif (decide ((0 : Int) ≤ Int.tmod (S.val np fun j => tp (j + ap)) (S.val nq fun j => tq (j + aq)) ∧ Int.tmod (S.val np fun j => tp (j + ap)) (S.val nq fun j => tq (j + aq)) ≤ 9223372036854775807)) then (some (.inr (0, List.length (S.grp (Int.tmod (S.val np fun j => tp (j + ap)) (S.val nq fun j => tq (j + aq)))), S.grp (Int.tdiv (S.val np fun j => tp (j + ap)) (S.val nq fun j => tq (j + aq))), S.grp (Int.tmod (S.val np fun j => tp (j + ap)) (S.val nq fun j => tq (j + aq)))))) else (none)) else (none)) else (none))) else (none)) else (none)) else (bif (decide ((0 : Int) ≤ (↑np : Int) ∧ (↑np : Int) ≤ (↑np : Int) ∧ (↑np : Int) ≤ 1000000)) then (bif (lim .i64 ((↑np : Int) - 1)) then (some (.inl (.h0 (0) (0) ((↑np : Int) - 1) (S.mkl np fun j => 0) ([])))) else (none)) else (none))) else (bif (decide ((0 : Int) ≤ (↑np : Int) ∧ (↑np : Int) ≤ (↑np : Int) ∧ (↑np : Int) ≤ 1000000)) then (bif (lim .i64 ((↑np : Int) - 1)) then (some (.inl (.h0 (0) (0) ((↑np : Int) - 1) (S.mkl np fun j => 0) ([])))) else (none)) else (none))
noncomputable def Te57 (test : TT) (Kst : KS) (Kret : KR) (ap np mp : Nat) (tp : NI) (aq nq mq : Nat) (tq : NI) : Prop := test (decide ((↑np : Int) ≤ 3)) (test (decide ((↑nq : Int) ≤ 3)) (test (decide (ap + np ≤ mp ∧ np ≤ 3 ∧ (S.okD np fun j => tp (j + ap)) = true)) (test (decide (aq + nq ≤ mq ∧ nq ≤ 3 ∧ (S.okD nq fun j => tq (j + aq)) = true)) (test (decide ((S.val nq fun j => tq (j + aq)) = 0)) (False) (test (lim .i64 (Int.tdiv (S.val np fun j => tp (j + ap)) (S.val nq fun j => tq (j + aq)))) (test (decide ((0 : Int) ≤ Int.tdiv (S.val np fun j => tp (j + ap)) (S.val nq fun j => tq (j + aq)) ∧ Int.tdiv (S.val np fun j => tp (j + ap)) (S.val nq fun j => tq (j + aq)) ≤ 9223372036854775807)) (test (decide (ap + np ≤ mp ∧ np ≤ 3 ∧ (S.okD np fun j => tp (j + ap)) = true)) (test (decide (aq + nq ≤ mq ∧ nq ≤ 3 ∧ (S.okD nq fun j => tq (j + aq)) = true)) (test (decide ((S.val nq fun j => tq (j + aq)) = 0)) (False) (test (decide ((0 : Int) ≤ Int.tmod (S.val np fun j => tp (j + ap)) (S.val nq fun j => tq (j + aq)) ∧ Int.tmod (S.val np fun j => tp (j + ap)) (S.val nq fun j => tq (j + aq)) ≤ 9223372036854775807)) (Kret (PV.tup [PV.own (5) (1) (List.length (S.grp (Int.tdiv (S.val np fun j => tp (j + ap)) (S.val nq fun j => tq (j + aq))))), PV.own (9) (1) (List.length (S.grp (Int.tmod (S.val np fun j => tp (j + ap)) (S.val nq fun j => tq (j + aq)))))]) ([[(1, false, Blk.cols mq [Col.int .i64 tq]), (0, false, Blk.cols mp [Col.int .i64 tp]), (9, true, Blk.cols (List.length (S.grp (Int.tmod (S.val np fun j => tp (j + ap)) (S.val nq fun j => tq (j + aq))))) [Col.int .i64 fun j => S.at' (S.grp (Int.tmod (S.val np fun j => tp (j + ap)) (S.val nq fun j => tq (j + aq)))) j]), (5, true, Blk.cols (List.length (S.grp (Int.tdiv (S.val np fun j => tp (j + ap)) (S.val nq fun j => tq (j + aq))))) [Col.int .i64 fun j => S.at' (S.grp (Int.tdiv (S.val np fun j => tp (j + ap)) (S.val nq fun j => tq (j + aq)))) j])]]) (10)) (False))) (False)) (False)) (False)) (False))) (False)) (False)) (test (decide ((0 : Int) ≤ (↑np : Int) ∧ (↑np : Int) ≤ (↑np : Int) ∧ (↑np : Int) ≤ 1000000)) (test (lim .i64 ((↑np : Int) - 1)) (Kst (hd Tryd.f57 0) ([PV.loose (PA.mk (0) (1) ap (0)) np, PV.loose (PA.mk (1) (1) aq (0)) nq, PV.own (2) (1) np, PV.nils, PV.int .i64 (↑nq : Int), PV.int .i64 ((↑np : Int) - 1), PV.unk, PV.unk]) ([[(1, false, Blk.cols mq [Col.int .i64 tq]), (0, false, Blk.cols mp [Col.int .i64 tp]), (2, true, Blk.cols np [Col.int .i64 fun (x : Nat) => 0])]]) (3)) (False)) (False))) (test (decide ((0 : Int) ≤ (↑np : Int) ∧ (↑np : Int) ≤ (↑np : Int) ∧ (↑np : Int) ≤ 1000000)) (test (lim .i64 ((↑np : Int) - 1)) (Kst (hd Tryd.f57 0) ([PV.loose (PA.mk (0) (1) ap (0)) np, PV.loose (PA.mk (1) (1) aq (0)) nq, PV.own (2) (1) np, PV.nils, PV.int .i64 (↑nq : Int), PV.int .i64 ((↑np : Int) - 1), PV.unk, PV.unk]) ([[(1, false, Blk.cols mq [Col.int .i64 tq]), (0, false, Blk.cols mp [Col.int .i64 tp]), (2, true, Blk.cols np [Col.int .i64 fun (x : Nat) => 0])]]) (3)) (False)) (False))
theorem te57 (test : TT) (Kst : KS) (Kret : KR) (ap np mp : Nat) (tp : NI) (aq nq mq : Nat) (tq : NI) : run test Tryd.env true (xG1 test) true 400 ⟨57, [.cd (mkFn Tryd.f57).body], argT 0 [.loose ⟨0, 1, ap, 0⟩ np, .loose ⟨1, 1, aq, 0⟩ nq], [[], [(0, (false, .cols mp [.int .i64 tp])), (1, (false, .cols mq [.int .i64 tq]))]], 2⟩ (proj 2 [0, 1, 6, 7, 8, 9, 12, 13] Kst Kret) =
  Te57 test Kst Kret ap np mp tp aq nq mq tq := by kernel_rfl
noncomputable def T57_0 (test : TT) (Kst : KS) (Kret : KR) (ap np mp : Nat) (tp : NI) (aq nq mq : Nat) (tq : NI) (x0 x1 : Nat) (x2 : Int) (x3 x4 : List Int) : Prop := test (decide (x2 ≥ 0)) (test (decide ((0 : Int) ≤ x2 ∧ x2 < (↑np : Int))) (test (decide (Int.toNat x2 + ap < mp)) (test (decide (1 + x1 ≤ 1000000)) (test (true) (test (decide (x0 + x1 ≤ List.length x4)) (test (decide (1 + x1 ≤ 1 + x1)) (test (decide (1 + x1 ≤ 1000000)) (test (decide ((↑(List.length (c57_0_0 ap tp x0 x1 x2 x4)) : Int) < (↑nq : Int))) (test (lim .i64 (x2 - 1)) (Kst (hd Tryd.f57 0) ([PV.loose (PA.mk (0) (1) ap (0)) np, PV.loose (PA.mk (1) (1) aq (0)) nq, PV.own (2) (1) (List.length x3), PV.own (5) (1) (List.length (c57_0_0 ap tp x0 x1 x2 x4)), PV.int .i64 (↑nq : Int), PV.int .i64 (x2 - 1), PV.unk, PV.unk]) (c57_0_5 ap mp tp mq tq x0 x1 x2 x3 x4) (7)) (False)) (test (lim .i64 ((↑nq : Int) - 1)) (test (decide ((0 : Int) ≤ (↑nq : Int) - 1 ∧ (↑nq : Int) - 1 < (↑nq : Int))) (test (decide (Int.toNat ((↑nq : Int) - 1) + aq < mq)) (test (decide (0 + List.length (c57_0_0 ap tp x0 x1 x2 x4) ≤ List.length (c57_0_0 ap tp x0 x1 x2 x4) ∧ (0 : Int) ≤ (↑nq : Int))) (test (lim .i64 (S.ext (List.length (c57_0_0 ap tp x0 x1 x2 x4)) (fun j => S.at' (c57_0_0 ap tp x0 x1 x2 x4) j) nq * 1000000)) (test (lim .i64 ((↑nq : Int) - 1)) (test (decide (0 + List.length (c57_0_0 ap tp x0 x1 x2 x4) ≤ List.length (c57_0_0 ap tp x0 x1 x2 x4) ∧ (0 : Int) ≤ (↑nq : Int) - 1)) (test (lim .i64 (c57_0_1 ap tp nq x0 x1 x2 x4)) (test (decide ((↑nq : Int) > 1)) (test (lim .i64 (tq (Int.toNat ((↑nq : Int) - 1) + aq) * 1000000)) (test (lim .i64 ((↑nq : Int) - 2)) (test (decide ((0 : Int) ≤ (↑nq : Int) - 2 ∧ (↑nq : Int) - 2 < (↑nq : Int))) (test (decide (Int.toNat ((↑nq : Int) - 2) + aq < mq)) (test (lim .i64 (tq (Int.toNat ((↑nq : Int) - 1) + aq) * 1000000 + tq (Int.toNat ((↑nq : Int) - 2) + aq))) (test (lim .i64 ((c57_0_1 ap tp nq x0 x1 x2 x4) * 1000000)) (test (lim .i64 ((↑nq : Int) - 2)) (test (decide (0 + List.length (c57_0_0 ap tp x0 x1 x2 x4) ≤ List.length (c57_0_0 ap tp x0 x1 x2 x4) ∧ (0 : Int) ≤ (↑nq : Int) - 2)) (test (lim .i64 ((c57_0_1 ap tp nq x0 x1 x2 x4) * 1000000 + S.ext (List.length (c57_0_0 ap tp x0 x1 x2 x4)) (fun j => S.at' (c57_0_0 ap tp x0 x1 x2 x4) j) (Int.toNat ((↑nq : Int) - 2)))) (test (lim .i64 (tq (Int.toNat ((↑nq : Int) - 1) + aq) * 1000000 + tq (Int.toNat ((↑nq : Int) - 2) + aq) + 1)) (test (decide (tq (Int.toNat ((↑nq : Int) - 1) + aq) * 1000000 + tq (Int.toNat ((↑nq : Int) - 2) + aq) + 1 = 0)) (False) (test (lim .i64 (c57_0_3 ap tp aq nq tq x0 x1 x2 x4)) (test (lim .i64 (c57_0_4 ap tp nq x0 x1 x2 x4)) (test (decide (tq (Int.toNat ((↑nq : Int) - 1) + aq) * 1000000 + tq (Int.toNat ((↑nq : Int) - 2) + aq) = 0)) (False) (test (lim .i64 (Int.tdiv (c57_0_4 ap tp nq x0 x1 x2 x4) (tq (Int.toNat ((↑nq : Int) - 1) + aq) * 1000000 + tq (Int.toNat ((↑nq : Int) - 2) + aq)))) (Kst (hd Tryd.f57 1) ([PV.loose (PA.mk (0) (1) ap (0)) np, PV.loose (PA.mk (1) (1) aq (0)) nq, PV.own (2) (1) (List.length x3), PV.own (5) (1) (List.length (c57_0_0 ap tp x0 x1 x2 x4)), PV.int .i64 (↑nq : Int), PV.int .i64 x2, PV.int .i64 (c57_0_3 ap tp aq nq tq x0 x1 x2 x4), PV.int .i64 (Min.min (Int.tdiv ((S.ext (List.length (S.trim (S.mkl (1 + x1) fun j => bif Nat.blt j (1) then tp (Int.toNat x2 + ap) else S.at' x4 (j - 1 + x0)))) (fun j => S.at' (S.trim (S.mkl (1 + x1) fun j => bif Nat.blt j (1) then tp (Int.toNat x2 + ap) else S.at' x4 (j - 1 + x0))) j) nq * 1000000 + S.ext (List.length (S.trim (S.mkl (1 + x1) fun j => bif Nat.blt j (1) then tp (Int.toNat x2 + ap) else S.at' x4 (j - 1 + x0)))) (fun j => S.at' (S.trim (S.mkl (1 + x1) fun j => bif Nat.blt j (1) then tp (Int.toNat x2 + ap) else S.at' x4 (j - 1 + x0))) j) (Int.toNat ((↑nq : Int) - 1))) * 1000000 + S.ext (List.length (c57_0_0 ap tp x0 x1 x2 x4)) (fun j => S.at' (c57_0_0 ap tp x0 x1 x2 x4) j) (Int.toNat ((↑nq : Int) - 2)) + 1) (tq (Int.toNat ((↑nq : Int) - 1) + aq) * 1000000 + tq (Int.toNat ((↑nq : Int) - 2) + aq))) (999999 : Int))]) (c57_0_5 ap mp tp mq tq x0 x1 x2 x3 x4) (10)) (False))) (False)) (False))) (False)) (False)) (False)) (False)) (False)) (False)) (False)) (False)) (False)) (False)) (test (lim .i64 (tq (Int.toNat ((↑nq : Int) - 1) + aq) + 1)) (test (decide (tq (Int.toNat ((↑nq : Int) - 1) + aq) + 1 = 0)) (False) (test (lim .i64 (Int.tdiv (c57_0_1 ap tp nq x0 x1 x2 x4) (tq (Int.toNat ((↑nq : Int) - 1) + aq) + 1))) (test (lim .i64 (c57_0_2 ap tp nq x0 x1 x2 x4)) (test (decide (tq (Int.toNat ((↑nq : Int) - 1) + aq) = 0)) (False) (test (lim .i64 (Int.tdiv (c57_0_2 ap tp nq x0 x1 x2 x4) (tq (Int.toNat ((↑nq : Int) - 1) + aq)))) (Kst (hd Tryd.f57 1) ([PV.loose (PA.mk (0) (1) ap (0)) np, PV.loose (PA.mk (1) (1) aq (0)) nq, PV.own (2) (1) (List.length x3), PV.own (5) (1) (List.length (c57_0_0 ap tp x0 x1 x2 x4)), PV.int .i64 (↑nq : Int), PV.int .i64 x2, PV.int .i64 (Int.tdiv (c57_0_1 ap tp nq x0 x1 x2 x4) (tq (Int.toNat ((↑nq : Int) - 1) + aq) + 1)), PV.int .i64 (Min.min (Int.tdiv (c57_0_2 ap tp nq x0 x1 x2 x4) (tq (Int.toNat ((↑nq : Int) - 1) + aq))) (999999 : Int))]) (c57_0_5 ap mp tp mq tq x0 x1 x2 x3 x4) (9)) (False))) (False)) (False))) (False))) (False)) (False)) (False)) (False)) (False)) (False)) (False)) (False))) (False)) (False)) (False)) (False)) (False)) (False)) (False)) (test (decide (List.length x3 ≤ List.length x3)) (test (decide (List.length x3 ≤ 1000000)) (Kret (PV.tup [PV.own (2) (1) (List.length (S.trim (S.mkl (List.length x3) fun j => S.at' x3 j))), PV.loose (PA.mk (3) (1) x0 (0)) x1]) ([[(1, false, Blk.cols mq [Col.int .i64 tq]), (0, false, Blk.cols mp [Col.int .i64 tp]), (3, true, Blk.cols (List.length x4) [Col.int .i64 fun j => S.at' x4 j]), (2, true, Blk.cols (List.length (S.trim (S.mkl (List.length x3) fun j => S.at' x3 j))) [Col.int .i64 fun j => S.at' (S.trim (S.mkl (List.length x3) fun j => S.at' x3 j)) j])]]) (5)) (False)) (False))
theorem t57_0 (test : TT) (Kst : KS) (Kret : KR) (ap np mp : Nat) (tp : NI) (aq nq mq : Nat) (tq : NI) (x0 x1 : Nat) (x2 : Int) (x3 x4 : List Int) : run test Tryd.env true (xG1 test) true 400 ⟨57, hd Tryd.f57 0, zipT [0, 1, 6, 7, 8, 9, 12, 13] [PV.loose (PA.mk (0) (1) ap (0)) np,
 PV.loose (PA.mk (1) (1) aq (0)) nq,
 PV.own (2) (1) (List.length x3),
 PV.loose (PA.mk (3) (1) x0 (0)) x1, PV.int .i64 (↑nq : Int),
 PV.int .i64 x2, PV.unk, PV.unk], [[(2, (true, Blk.cols (List.length x3) [Col.int .i64 fun j => S.at' x3 j])), (3, (true, Blk.cols (List.length x4) [Col.int .i64 fun j => S.at' x4 j]))], [(0, (false, .cols mp [.int .i64 tp])), (1, (false, .cols mq [.int .i64 tq]))]], 4⟩ (proj 2 [0, 1, 6, 7, 8, 9, 12, 13] Kst Kret) =
  T57_0 test Kst Kret ap np mp tp aq nq mq tq x0 x1 x2 x3 x4 := by kernel_rfl
noncomputable def T57_1 (test : TT) (Kst : KS) (Kret : KR) (ap np mp : Nat) (tp : NI) (aq nq mq : Nat) (tq : NI) (x0 : Nat) (x1 x2 x3 : Int) (x4 x5 : List Int) : Prop := test (decide (x2 < x3)) (test (lim .i64 (x2 + x3)) (test (lim .i64 (x2 + x3 + 1)) (test (false) (False) (test (lim .i64 (Int.tdiv (x2 + x3 + 1) (2 : Int))) (test (decide ((aq + nq ≤ mq ∧ 1 ≤ 1) ∧ (nq ≤ 1000 ∧ 1 ≤ 1000) ∧ (S.okD nq fun j => tq (j + aq)) = true ∧ (S.okD (1) fun j => S.lit [Int.tdiv (x2 + x3 + 1) (2 : Int)] (0 : Int) j) = true)) (test (decide (0 + List.length (c57_1_1 aq nq tq x2 x3) ≤ List.length (c57_1_1 aq nq tq x2 x3) ∧ List.length (c57_1_1 aq nq tq x2 x3) ≤ 1000000 ∧ 0 + x0 ≤ List.length x5 ∧ x0 ≤ 1000000 ∧ (S.okG (List.length (c57_1_1 aq nq tq x2 x3)) fun j => S.at' (c57_1_1 aq nq tq x2 x3) j) = true ∧ (S.okG x0 fun j => S.at' x5 j) = true)) (test (decide (S.cmpS (S.val (List.length (c57_1_1 aq nq tq x2 x3)) fun j => S.at' (c57_1_1 aq nq tq x2 x3) j) (S.val x0 fun j => S.at' x5 j) ≤ 0)) (Kst (hd Tryd.f57 1) ([PV.loose (PA.mk (0) (1) ap (0)) np, PV.loose (PA.mk (1) (1) aq (0)) nq, PV.own (2) (1) (List.length x4), PV.loose (PA.mk (3) (1) (0) (0)) x0, PV.int .i64 (↑nq : Int), PV.int .i64 x1, PV.int .i64 (Int.tdiv (x2 + x3 + 1) (2 : Int)), PV.int .i64 x3]) ([[(1, false, Blk.cols mq [Col.int .i64 tq]), (0, false, Blk.cols mp [Col.int .i64 tp]), (3, true, Blk.cols (List.length x5) [Col.int .i64 fun j => S.at' x5 j]), (2, true, Blk.cols (List.length x4) [Col.int .i64 fun j => S.at' x4 j])]]) (8)) (test (lim .i64 (Int.tdiv (x2 + x3 + 1) (2 : Int) - 1)) (Kst (hd Tryd.f57 1) ([PV.loose (PA.mk (0) (1) ap (0)) np, PV.loose (PA.mk (1) (1) aq (0)) nq, PV.own (2) (1) (List.length x4), PV.loose (PA.mk (3) (1) (0) (0)) x0, PV.int .i64 (↑nq : Int), PV.int .i64 x1, PV.int .i64 x2, PV.int .i64 (Int.tdiv (x2 + x3 + 1) (2 : Int) - 1)]) ([[(1, false, Blk.cols mq [Col.int .i64 tq]), (0, false, Blk.cols mp [Col.int .i64 tp]), (3, true, Blk.cols (List.length x5) [Col.int .i64 fun j => S.at' x5 j]), (2, true, Blk.cols (List.length x4) [Col.int .i64 fun j => S.at' x4 j])]]) (8)) (False))) (False)) (False)) (False))) (False)) (False)) (test (decide ((0 : Int) ≤ x1 ∧ x1 < (↑(List.length x4) : Int))) (test (decide (Int.toNat x1 < List.length x4)) (test (decide ((aq + nq ≤ mq ∧ 1 ≤ 1) ∧ (nq ≤ 1000 ∧ 1 ≤ 1000) ∧ (S.okD nq fun j => tq (j + aq)) = true ∧ (S.okD (1) fun j => S.lit [x2] (0 : Int) j) = true)) (test (decide ((0 + x0 ≤ List.length x5 ∧ 0 + List.length (c57_1_0 aq nq tq x2) ≤ List.length (c57_1_0 aq nq tq x2)) ∧ (x0 ≤ 1000 ∧ List.length (c57_1_0 aq nq tq x2) ≤ 1000) ∧ (S.okG x0 fun j => S.at' x5 j) = true ∧ (S.okG (List.length (c57_1_0 aq nq tq x2)) fun j => S.at' (c57_1_0 aq nq tq x2) j) = true ∧ (S.val (List.length (c57_1_0 aq nq tq x2)) fun j => S.at' (c57_1_0 aq nq tq x2) j) ≤ S.val x0 fun j => S.at' x5 j)) (test (lim .i64 (x1 - 1)) (Kst (hd Tryd.f57 0) ([PV.loose (PA.mk (0) (1) ap (0)) np, PV.loose (PA.mk (1) (1) aq (0)) nq, PV.own (2) (1) (List.length x4), PV.own (8) (1) (List.length (S.grp ((S.val x0 fun j => S.at' x5 j) - S.val (List.length (c57_1_0 aq nq tq x2)) fun j => S.at' (c57_1_0 aq nq tq x2) j))), PV.int .i64 (↑nq : Int), PV.int .i64 (x1 - 1), PV.int .i64 x2, PV.int .i64 x3]) ([[(1, false, Blk.cols mq [Col.int .i64 tq]), (0, false, Blk.cols mp [Col.int .i64 tp]), (8, true, Blk.cols (List.length (S.grp ((S.val x0 fun j => S.at' x5 j) - S.val (List.length (c57_1_0 aq nq tq x2)) fun j => S.at' (c57_1_0 aq nq tq x2) j))) [Col.int .i64 fun j => S.at' (S.grp ((S.val x0 fun j => S.at' x5 j) - S.val (List.length (c57_1_0 aq nq tq x2)) fun j => S.at' (c57_1_0 aq nq tq x2) j)) j]), (2, true, Blk.cols (List.length x4) [Col.int .i64 fun j => bif Nat.beq j (Int.toNat x1) then x2 else S.at' x4 j])]]) (9)) (False)) (False)) (False)) (False)) (False))
theorem t57_1 (test : TT) (Kst : KS) (Kret : KR) (ap np mp : Nat) (tp : NI) (aq nq mq : Nat) (tq : NI) (x0 : Nat) (x1 x2 x3 : Int) (x4 x5 : List Int) : run test Tryd.env true (xG1 test) true 400 ⟨57, hd Tryd.f57 1, zipT [0, 1, 6, 7, 8, 9, 12, 13] [PV.loose (PA.mk (0) (1) ap (0)) np,
 PV.loose (PA.mk (1) (1) aq (0)) nq,
 PV.own (2) (1) (List.length x4),
 PV.loose (PA.mk (3) (1) (0) (0)) x0,
 PV.int .i64 (↑nq : Int), PV.int .i64 x1, PV.int .i64 x2,
 PV.int .i64 x3], [[(2, (true, Blk.cols (List.length x4) [Col.int .i64 fun j => S.at' x4 j])), (3, (true, Blk.cols (List.length x5) [Col.int .i64 fun j => S.at' x5 j]))], [(0, (false, .cols mp [.int .i64 tp])), (1, (false, .cols mq [.int .i64 tq]))]], 4⟩ (proj 2 [0, 1, 6, 7, 8, 9, 12, 13] Kst Kret) =
  T57_1 test Kst Kret ap np mp tp aq nq mq tq x0 x1 x2 x3 x4 x5 := by kernel_rfl
noncomputable abbrev J57 (ap np mp : Nat) (tp : NI) (aq nq mq : Nat) (tq : NI) : Rt57 → Heap := fun r => [newL (2 + 1) ((N57 ap np mp tp aq nq mq tq) r) ++ [(0, (false, .cols mp [.int .i64 tp])), (1, (false, .cols mq [.int .i64 tq]))]]
attribute [local irreducible] Int.subNatNat in
theorem be57 (ap np mp : Nat) (tp : NI) (aq nq mq : Nat) (tq : NI) (Kst : KS) (Kret : KR) (x : St57 ⊕ Rt57) (hS : HS 2 400 ((I57 ap np mp tp aq nq mq tq)) Kst x) (hR : HR 2 400 ((V57 ap np mp tp aq nq mq tq)) (J57 ap np mp tp aq nq mq tq) Kret x) (h : p57 ap np mp tp aq nq mq tq = some x) : Te57 cond Kst Kret ap np mp tp aq nq mq tq := by
  unfold Te57
  unfold p57 at h
  refine bif_split h (fun c0 h => bif_split h (fun c1 h => bif_split h (fun c2 h => bif_split h (fun c3 h => bif_split h (fun c4 h => ?_) (fun c4 h => bif_split h (fun c5 h => bif_split h (fun c6 h => cond_yes c2 (cond_yes c3 (cond_no c4 (bif_split h (fun c7 h => ret_at hR _ h (fun n => bif Nat.beq n 3 then 5 else bif Nat.beq n 4 then 9 else n) rfl rfl rfl (rn_tup ⟨(rn_own (use_own rfl) rfl rfl), (rn_own_loose (use_own rfl) rfl rfl rfl), trivial⟩) rfl (entl_new (use_own rfl) rfl (Nat.le_of_eq rfl) (rcs_int (fun _ _ => rfl) rcs_nil) (entl_new (use_own rfl) rfl (Nat.le_of_eq rfl) (rcs_int (fun _ _ => rfl) rcs_nil) (entl_bor (use_lo rfl) rfl rfl (entl_bor (use_lo rfl) rfl rfl entl_nil))))) (fun c7 h => ?_))))) (fun c6 h => ?_)) (fun c5 h => ?_))) (fun c3 h => ?_)) (fun c2 h => ?_)) (fun c1 h => bif_split h (fun c2 h => bif_split h (fun c3 h => ?_) (fun c3 h => ?_)) (fun c2 h => ?_))) (fun c0 h => bif_split h (fun c1 h => bif_split h (fun c2 h => ?_) (fun c2 h => ?_)) (fun c1 h => ?_))
  all_goals first
    | exact no_some h
    | exact stop_at hS _ h (fun n => bif Nat.beq n 2 then 2 else bif Nat.beq n 3 then 399 else n) rfl rfl rfl ⟨(rn_loose (use_lo rfl) rfl rfl rfl), ⟨(rn_loose (use_lo rfl) rfl rfl rfl), ⟨(rn_own (use_own rfl) rfl mkl_len), ⟨(rn_loose_nils rfl), ⟨(rn_int rfl), ⟨(rn_int rfl), ⟨(rn_unk _), ⟨(rn_unk _), trivial⟩⟩⟩⟩⟩⟩⟩⟩ rfl (entl_new (use_own rfl) rfl (Nat.le_of_eq mkl_len) (rcs_int (fun _ hj => col_mkl (fun (t : Int) => t) hj) rcs_nil) (entl_fresh (use_own rfl) (fresh_ok rfl) (entl_bor (use_lo rfl) rfl rfl (entl_bor (use_lo rfl) rfl rfl entl_nil))))
attribute [local irreducible] Int.subNatNat in
theorem b57_0 (ap np mp : Nat) (tp : NI) (aq nq mq : Nat) (tq : NI) (Kst : KS) (Kret : KR) (x : St57 ⊕ Rt57) (hS : HS 2 400 ((I57 ap np mp tp aq nq mq tq)) Kst x) (hR : HR 2 400 ((V57 ap np mp tp aq nq mq tq)) (J57 ap np mp tp aq nq mq tq) Kret x) (x0 x1 : Nat) (x2 : Int) (x3 x4 : List Int) (h : q57 ap np mp tp aq nq mq tq (.h0 x0 x1 x2 x3 x4) = some x) : T57_0 cond Kst Kret ap np mp tp aq nq mq tq x0 x1 x2 x3 x4 := by
  unfold T57_0
  rw [q57] at h
  refine bif_split h (fun c0 h => bif_split h (fun c1 h => bif_split h (fun c2 h => bif_split h (fun c3 h => cond_yes rfl (bif_split h (fun c4 h => bif_split h (fun c5 h => cond_yes c3 (bif_split h (fun c6 h => bif_split h (fun c7 h => stop_at hS _ h (fun n => bif Nat.beq n 2 then 2 else bif Nat.beq n 3 then 5 else n) rfl rfl rfl ⟨(rn_loose (use_lo rfl) rfl rfl rfl), ⟨(rn_loose (use_lo rfl) rfl rfl rfl), ⟨(rn_own (use_own rfl) rfl rfl), ⟨(rn_own_loose (use_own rfl) rfl rfl rfl), ⟨(rn_int rfl), ⟨(rn_int rfl), ⟨(rn_unk _), ⟨(rn_unk _), trivial⟩⟩⟩⟩⟩⟩⟩⟩ rfl (entl_new (use_own rfl) rfl (Nat.le_of_eq rfl) (rcs_int (fun _ _ => rfl) rcs_nil) (entl_new (use_own rfl) rfl (Nat.le_of_eq rfl) (rcs_int (fun _ _ => rfl) rcs_nil) (entl_bor (use_lo rfl) rfl rfl (entl_bor (use_lo rfl) rfl rfl entl_nil))))) (fun c7 h => ?_)) (fun c6 h => bif_split h (fun c7 h => bif_split h (fun c8 h => bif_split h (fun c9 h => bif_split h (fun c10 h => bif_split h (fun c11 h => cond_yes c7 (bif_split h (fun c12 h => bif_split h (fun c13 h => bif_split h (fun c14 h => bif_split h (fun c15 h => bif_split h (fun c16 h => bif_split h (fun c17 h => bif_split h (fun c18 h => bif_split h (fun c19 h => bif_split h (fun c20 h => cond_yes c16 (bif_split h (fun c21 h => bif_split h (fun c22 h => bif_split h (fun c23 h => bif_split h (fun c24 h => ?_) (fun c24 h => bif_split h (fun c25 h => bif_split h (fun c26 h => bif_split h (fun c27 h => ?_) (fun c27 h => bif_split h (fun c28 h => ?_) (fun c28 h => ?_))) (fun c26 h => ?_)) (fun c25 h => ?_))) (fun c23 h => ?_)) (fun c22 h => ?_)) (fun c21 h => ?_))) (fun c20 h => ?_)) (fun c19 h => ?_)) (fun c18 h => ?_)) (fun c17 h => ?_)) (fun c16 h => ?_)) (fun c15 h => ?_)) (fun c14 h => bif_split h (fun c15 h => bif_split h (fun c16 h => ?_) (fun c16 h => bif_split h (fun c17 h => bif_split h (fun c18 h => bif_split h (fun c19 h => ?_) (fun c19 h => bif_split h (fun c20 h => ?_) (fun c20 h => ?_))) (fun c18 h => ?_)) (fun c17 h => ?_))) (fun c15 h => ?_))) (fun c13 h => ?_)) (fun c12 h => ?_))) (fun c11 h => ?_)) (fun c10 h => ?_)) (fun c9 h => ?_)) (fun c8 h => ?_)) (fun c7 h => ?_)))) (fun c5 h => ?_)) (fun c4 h => ?_))) (fun c3 h => ?_)) (fun c2 h => ?_)) (fun c1 h => ?_)) (fun c0 h => bif_split h (fun c1 h => bif_split h (fun c2 h => ret_at hR _ h (fun n => bif Nat.beq n 3 then 2 else bif Nat.beq n 4 then 3 else n) rfl rfl rfl (rn_tup ⟨(rn_own (use_own rfl) rfl rfl), (rn_loose (use_own rfl) rfl rfl rfl), trivial⟩) rfl (entl_new (use_own rfl) rfl (Nat.le_of_eq rfl) (rcs_int (fun _ _ => rfl) rcs_nil) (entl_new (use_own rfl) rfl (Nat.le_of_eq rfl) (rcs_int (fun _ _ => rfl) rcs_nil) (entl_bor (use_lo rfl) rfl rfl (entl_bor (use_lo rfl) rfl rfl entl_nil))))) (fun c2 h => ?_)) (fun c1 h => ?_))
  all_goals first
    | exact no_some h
    | exact stop_at hS _ h (fun n => bif Nat.beq n 2 then 2 else bif Nat.beq n 3 then 5 else n) rfl rfl rfl ⟨(rn_loose (use_lo rfl) rfl rfl rfl), ⟨(rn_loose (use_lo rfl) rfl rfl rfl), ⟨(rn_own (use_own rfl) rfl rfl), ⟨(rn_own_loose (use_own rfl) rfl rfl rfl), ⟨(rn_int rfl), ⟨(rn_int rfl), ⟨(rn_int rfl), ⟨(rn_int rfl), trivial⟩⟩⟩⟩⟩⟩⟩⟩ rfl (entl_new (use_own rfl) rfl (Nat.le_of_eq rfl) (rcs_int (fun _ _ => rfl) rcs_nil) (entl_new (use_own rfl) rfl (Nat.le_of_eq rfl) (rcs_int (fun _ _ => rfl) rcs_nil) (entl_bor (use_lo rfl) rfl rfl (entl_bor (use_lo rfl) rfl rfl entl_nil))))
attribute [local irreducible] Int.subNatNat in
theorem b57_1 (ap np mp : Nat) (tp : NI) (aq nq mq : Nat) (tq : NI) (Kst : KS) (Kret : KR) (x : St57 ⊕ Rt57) (hS : HS 2 400 ((I57 ap np mp tp aq nq mq tq)) Kst x) (hR : HR 2 400 ((V57 ap np mp tp aq nq mq tq)) (J57 ap np mp tp aq nq mq tq) Kret x) (x0 : Nat) (x1 x2 x3 : Int) (x4 x5 : List Int) (h : q57 ap np mp tp aq nq mq tq (.h1 x0 x1 x2 x3 x4 x5) = some x) : T57_1 cond Kst Kret ap np mp tp aq nq mq tq x0 x1 x2 x3 x4 x5 := by
  unfold T57_1
  rw [q57] at h
  refine bif_split h (fun c0 h => bif_split h (fun c1 h => bif_split h (fun c2 h => cond_no rfl (bif_split h (fun c3 h => bif_split h (fun c4 h => bif_split h (fun c5 h => bif_split h (fun c6 h => ?_) (fun c6 h => bif_split h (fun c7 h => ?_) (fun c7 h => ?_))) (fun c5 h => ?_)) (fun c4 h => ?_)) (fun c3 h => ?_))) (fun c2 h => ?_)) (fun c1 h => ?_)) (fun c0 h => bif_split h (fun c1 h => bif_split h (fun c2 h => bif_split h (fun c3 h => bif_split h (fun c4 h => bif_split h (fun c5 h => stop_at hS _ h (fun n => bif Nat.beq n 2 then 2 else bif Nat.beq n 3 then 8 else n) rfl rfl rfl ⟨(rn_loose (use_lo rfl) rfl rfl rfl), ⟨(rn_loose (use_lo rfl) rfl rfl rfl), ⟨(rn_own (use_own rfl) rfl mkl_len), ⟨(rn_own_loose (use_own rfl) rfl rfl rfl), ⟨(rn_int rfl), ⟨(rn_int rfl), ⟨(rn_unk _), ⟨(rn_unk _), trivial⟩⟩⟩⟩⟩⟩⟩⟩ rfl (entl_new (use_own rfl) rfl (Nat.le_of_eq mkl_len) (rcs_int (fun _ hj => col_mkl (fun (t : Int) => t) hj) rcs_nil) (entl_new (use_own rfl) rfl (Nat.le_of_eq rfl) (rcs_int (fun _ _ => rfl) rcs_nil) (entl_bor (use_lo rfl) rfl rfl (entl_bor (use_lo rfl) rfl rfl entl_nil))))) (fun c5 h => ?_)) (fun c4 h => ?_)) (fun c3 h => ?_)) (fun c2 h => ?_)) (fun c1 h => ?_))
  all_goals first
    | exact no_some h
    | exact stop_at hS _ h (fun n => bif Nat.beq n 2 then 2 else bif Nat.beq n 3 then 3 else n) rfl rfl rfl ⟨(rn_loose (use_lo rfl) rfl rfl rfl), ⟨(rn_loose (use_lo rfl) rfl rfl rfl), ⟨(rn_own (use_own rfl) rfl rfl), ⟨(rn_loose (use_own rfl) rfl rfl rfl), ⟨(rn_int rfl), ⟨(rn_int rfl), ⟨(rn_int rfl), ⟨(rn_int rfl), trivial⟩⟩⟩⟩⟩⟩⟩⟩ rfl (entl_new (use_own rfl) rfl (Nat.le_of_eq rfl) (rcs_int (fun _ _ => rfl) rcs_nil) (entl_new (use_own rfl) rfl (Nat.le_of_eq rfl) (rcs_int (fun _ _ => rfl) rcs_nil) (entl_bor (use_lo rfl) rfl rfl (entl_bor (use_lo rfl) rfl rfl entl_nil))))
theorem a57 (ap np mp : Nat) (tp : NI) (aq nq mq : Nat) (tq : NI) {r : Rt57} (h : Goes ((q57 ap np mp tp aq nq mq tq)) ((p57 ap np mp tp aq nq mq tq)) r) : CallR Tryd.prog 57 [.loose ⟨0, 1, ap, 0⟩ np, .loose ⟨1, 1, aq, 0⟩ nq] [[(0, (false, .cols mp [.int .i64 tp])), (1, (false, .cols mq [.int .i64 tq]))]] 2 ((V57 ap np mp tp aq nq mq tq) r) ((J57 ap np mp tp aq nq mq tq) r) 400 ∧ ∃ F, Tryd.prog.funcs[57]? = some F ∧ F.body.isSome = true ∧ (F.name == "runtime.NumGoroutine") = false := by
  refine dec_calls (f := 57) (lo := 2) (hi := 400) Tryd.envOk Tryd.mixed xG1_ok ((I57 ap np mp tp aq nq mq tq)) ((V57 ap np mp tp aq nq mq tq)) (J57 ap np mp tp aq nq mq tq) (fn := mkFn Tryd.f57) (ts := [0, 1, 6, 7, 8, 9, 12, 13]) (n := 400) rfl (by decide) (by simp) (names_of rfl) ?_ ?_ ?_ h
  · intro s; cases s <;> exact ⟨hd_ok _ _, by simp [I57], names_of rfl, Nat.le_of_ble_eq_true rfl⟩
  · intro Kst Kret x hS hR h
    exact Holds.eq (te57 cond Kst Kret ap np mp tp aq nq mq tq) (be57 ap np mp tp aq nq mq tq Kst Kret x hS hR h)
  · intro Kst Kret x hS hR s h
    cases s with
    | h0 x0 x1 x2 x3 x4 => exact Holds.eq (t57_0 cond Kst Kret ap np mp tp aq nq mq tq x0 x1 x2 x3 x4) (b57_0 ap np mp tp aq nq mq tq Kst Kret x hS hR x0 x1 x2 x3 x4 h)
    | h1 x0 x1 x2 x3 x4 x5 => exact Holds.eq (t57_1 cond Kst Kret ap np mp tp aq nq mq tq x0 x1 x2 x3 x4 x5) (b57_1 ap np mp tp aq nq mq tq Kst Kret x hS hR x0 x1 x2 x3 x4 x5 h)
noncomputable abbrev w57 {α : Type} (g : Nat → Nat → Nat → (Nat → Int) → Nat → Nat → Nat → (Nat → Int) → α) (x : (Nat × Nat × Nat × (Nat → Int) × Unit) × (Nat × Nat × Nat × (Nat → Int) × Unit) × Unit) : α := g x.1.1 x.1.2.1 x.1.2.2.1 x.1.2.2.2.1 x.2.1.1 x.2.1.2.1 x.2.1.2.2.1 x.2.1.2.2.2.1
noncomputable def k57  : Con := ⟨57, [.one (.list [.int .i64]), .one (.list [.int .i64])], w57 (fun ap np mp tp aq nq mq tq => decide ((ap + np ≤ mp ∧ aq + nq ≤ mq) ∧ (np ≤ 900 ∧ nq ≤ 900) ∧ S.okG np (fun j => tp (j + ap)) = true ∧ S.okG nq (fun j => tq (j + aq)) = true ∧ 0 < nq)), w57 (fun ap np mp tp aq nq mq tq => (V57 ap np mp tp aq nq mq tq) (0, (S.grp ((S.val np (fun j => tp (j + ap))) % (S.val nq (fun j => tq (j + aq))))).length, S.grp ((S.val np (fun j => tp (j + ap))) / (S.val nq (fun j => tq (j + aq)))), S.grp ((S.val np (fun j => tp (j + ap))) % (S.val nq (fun j => tq (j + aq)))))), w57 (fun ap np mp tp aq nq mq tq => (N57 ap np mp tp aq nq mq tq) (0, (S.grp ((S.val np (fun j => tp (j + ap))) % (S.val nq (fun j => tq (j + aq))))).length, S.grp ((S.val np (fun j => tp (j + ap))) / (S.val nq (fun j => tq (j + aq)))), S.grp ((S.val np (fun j => tp (j + ap))) % (S.val nq (fun j => tq (j + aq)))))), fun _ _ => .dead⟩
theorem s57i (ap np mp : Nat) (tp : Nat → Int) (aq nq mq : Nat) (tq : Nat → Int) (hp : (ap + np ≤ mp ∧ aq + nq ≤ mq) ∧ (np ≤ 900 ∧ nq ≤ 900) ∧ S.okG np (fun j => tp (j + ap)) = true ∧ S.okG nq (fun j => tq (j + aq)) = true ∧ 0 < nq) (X : Int) (hX : 0 ≤ X ∧ X < 1000000 * (S.val nq (fun j => tq (j + aq)))) (i : Int) (Q : List Int) (res : Rt57) (hC : Comes (q57 ap np mp tp aq nq mq tq) (.h1 (S.grp X).length i (X / (S.val nq (fun j => tq (j + aq)))) (X / (S.val nq (fun j => tq (j + aq)))) Q (S.grp X)) res) : ∀ (n : Nat) (a c : Int), (c - a).toNat ≤ n → 0 ≤ a → a ≤ X / (S.val nq (fun j => tq (j + aq))) → X / (S.val nq (fun j => tq (j + aq))) ≤ c → c ≤ 999999 → Comes (q57 ap np mp tp aq nq mq tq) (.h1 (S.grp X).length i a c Q (S.grp X)) res := by
  obtain ⟨⟨hp1, hp2⟩, ⟨hp3, hp4⟩, g1, g2, hq0⟩ := hp
  have vp := val_pos g2 hq0
  have vl := val_lt (okG_D g2) (Nat.le_refl nq)
  intro n
  induction n with
  | zero =>
    intro a c hn h0 ha hc h9
    obtain rfl : a = X / (S.val nq (fun j => tq (j + aq))) := by omega
    obtain rfl : c = X / (S.val nq (fun j => tq (j + aq))) := by omega
    exact hC
  | succ n ih =>
    intro a c hn h0 ha hc h9
    by_cases hac : a < c
    · have n1 : Int.tdiv (a + c + 1) 2 = (a + c + 1) / 2 := Int.tdiv_eq_ediv_of_nonneg (by omega)
      obtain ⟨m, hm⟩ : ∃ m, m = (a + c + 1) / 2 := ⟨_, rfl⟩
      have i1 := ih m c (by omega) (by omega)
      have i2 := ih a (m - 1) (by omega) (by omega)
      have hlit : (S.val 1 fun j => S.lit [m] 0 j) = m := mkl_lit rfl
      have hkD : (S.okD 1 fun j => S.lit [m] 0 j) = true := okD_iff.mpr fun j hj => by rw [lit_at hj]; omega
      have c1 : (aq + nq ≤ mq ∧ 1 ≤ 1) ∧ (nq ≤ 1000 ∧ 1 ≤ 1000) ∧ (S.okD nq fun j => tq (j + aq)) = true ∧ (S.okD 1 fun j => S.lit [m] 0 j) = true := ⟨⟨hp2, Nat.le_refl _⟩, ⟨by omega, by decide⟩, okG_D g2, hkD⟩
      have w0 : 0 ≤ (S.val nq (fun j => tq (j + aq))) * m := Int.mul_nonneg (by omega) (by omega)
      have hv := val_grpL w0
      have hv2 := val_grpL hX.1
      have l1 := grp_le (v := (S.val nq (fun j => tq (j + aq))) * m) (n := nq + 1) (by
        have h1 := (mul_lt (a := nq) (b := 1) ⟨by omega, vl⟩ (show 0 ≤ m ∧ m < S.pw 1 from ⟨by omega, by show m < 1000000; omega⟩)).2
        exact h1)
      have l2 := grp_le (v := X) (n := nq + 1) (by have : S.pw (nq + 1) = 1000000 * S.pw nq := rfl; omega)
      have c2 : 0 + (S.grp ((S.val nq (fun j => tq (j + aq))) * m)).length ≤ (S.grp ((S.val nq (fun j => tq (j + aq))) * m)).length ∧ (S.grp ((S.val nq (fun j => tq (j + aq))) * m)).length ≤ 1000000 ∧ 0 + (S.grp X).length ≤ (S.grp X).length ∧ (S.grp X).length ≤ 1000000 ∧ (S.okG (S.grp ((S.val nq (fun j => tq (j + aq))) * m)).length fun j => S.at' (S.grp ((S.val nq (fun j => tq (j + aq))) * m)) j) = true ∧ (S.okG (S.grp X).length fun j => S.at' (S.grp X) j) = true := ⟨by omega, by omega, by omega, by omega, grp_ok, grp_ok⟩
      have hle : S.cmpS ((S.val nq (fun j => tq (j + aq))) * m) X ≤ 0 ↔ m ≤ X / (S.val nq (fun j => tq (j + aq))) := by
        rw [Int.le_ediv_iff_mul_le vp, Int.mul_comm m]
        unfold S.cmpS
        (repeat' split) <;> omega
      apply Comes.of
      show Goes _ _ _
      rw [q57]
      simp only [c57_1_0, c57_1_1, n1, ← hm, hlit, decide_eq_true c1, cond_true, decide_eq_true c2, hv, hv2]
      by_cases hd : m ≤ X / (S.val nq (fun j => tq (j + aq)))
      · have i1 := i1 hd hc h9
        simp only [decide_eq_true (hle.mpr hd), cond_true]
        repeat' (first | with_reducible refine goes_if (fun h => ?_) (fun h => ?_) <;> (try simp only [SH] at h) | exact goes_none.mpr (by omega))
        all_goals first | (exfalso; omega) | exact i1
      · have i2 := i2 ha (by omega) (by omega)
        simp only [decide_eq_false (fun h => hd (hle.mp h)), cond_false]
        repeat' (first | with_reducible refine goes_if (fun h => ?_) (fun h => ?_) <;> (try simp only [SH] at h) | exact goes_none.mpr (by omega))
        all_goals first | (exfalso; omega) | exact i2
    · obtain rfl : a = X / (S.val nq (fun j => tq (j + aq))) := by omega
      obtain rfl : c = X / (S.val nq (fun j => tq (j + aq))) := by omega
      exact hC
theorem s57' (ap np mp : Nat) (tp : Nat → Int) (aq nq mq : Nat) (tq : Nat → Int) (hp : (ap + np ≤ mp ∧ aq + nq ≤ mq) ∧ (np ≤ 900 ∧ nq ≤ 900) ∧ S.okG np (fun j => tp (j + ap)) = true ∧ S.okG nq (fun j => tq (j + aq)) = true ∧ 0 < nq) : ∀ (k : Nat) (R : Int) (Q : List Int), k ≤ np → R = S.valF (fun j => tp (j + ap)) k (np - k) % (S.val nq (fun j => tq (j + aq))) → Q.length = np → (∀ j, j < np → 0 ≤ S.at' Q j ∧ S.at' Q j < 1000000) → (∀ j, j < k → S.at' Q j = 0) → S.valF (S.at' Q) k (np - k) = S.valF (fun j => tp (j + ap)) k (np - k) / (S.val nq (fun j => tq (j + aq))) → Comes (q57 ap np mp tp aq nq mq tq) (.h0 0 (S.grp R).length ((k : Int) - 1) Q (S.grp R)) (0, (S.grp ((S.val np (fun j => tp (j + ap))) % (S.val nq (fun j => tq (j + aq))))).length, S.grp ((S.val np (fun j => tp (j + ap))) / (S.val nq (fun j => tq (j + aq)))), S.grp ((S.val np (fun j => tp (j + ap))) % (S.val nq (fun j => tq (j + aq))))) := by
  have hp' := hp
  obtain ⟨⟨hp1, hp2⟩, ⟨hp3, hp4⟩, g1, g2, hq0⟩ := hp
  have vp := val_pos g2 hq0
  have vl := val_lt (okG_D g2) (Nat.le_refl nq)
  have dP := (okG_iff.mp g1).1
  have dQ := (okG_iff.mp g2).1
  intro k
  induction k with
  | zero =>
    intro R Q hk hR hQ hd hz hv
    rw [Nat.sub_zero] at hR hv
    have e : S.trim (S.mkl Q.length fun j => S.at' Q j) = S.grp ((S.val np (fun j => tp (j + ap))) / (S.val nq (fun j => tq (j + aq)))) := by
      rw [mkl1_at, trim_val hQ hd]
      exact congrArg S.grp hv
    have hR : R = (S.val np (fun j => tp (j + ap))) % (S.val nq (fun j => tq (j + aq))) := hR
    rw [← hR]
    apply Comes.of
    show Goes _ _ _
    rw [q57]
    rw [hQ] at e
    simp only [hQ, e]
    repeat' (first | with_reducible refine goes_if (fun h => ?_) (fun h => ?_) <;> (try simp only [SH] at h) | exact goes_none.mpr (by omega))
    all_goals first | (exfalso; omega) | exact goes_inr.mpr rfl
  | succ k ih =>
    intro R Q hk hR hQ hd hz hv
    have hx := dP k (by omega)
    have st := div_step (V := (S.val nq (fun j => tq (j + aq)))) (X := S.valF (fun j => tp (j + ap)) (k + 1) (np - (k + 1))) (x := tp (k + ap)) vp hx (suf_nn dP)
    have s1 := suf_step (t := (fun j => tp (j + ap))) (n := np) (i := k) (by omega)
    (try dsimp only at s1 hx)
    rw [← s1, ← hR] at st
    have r0 : 0 ≤ R := by rw [hR]; exact Int.emod_nonneg _ (by omega)
    have r1 : R < (S.val nq (fun j => tq (j + aq))) := by rw [hR]; exact Int.emod_lt_of_pos _ vp
    obtain ⟨X, hX⟩ : ∃ X, X = tp (k + ap) + 1000000 * R := ⟨_, rfl⟩
    rw [← hX] at st
    obtain ⟨st1, st2, st3, st4⟩ := st
    have x0 : 0 ≤ X := by omega
    have x1 : X < 1000000 * (S.val nq (fun j => tq (j + aq))) := by omega
    have eT : S.trim (S.mkl (1 + (S.grp R).length) fun j => bif Nat.blt j 1 then tp (k + ap) else S.at' (S.grp R) (j - 1 + 0)) = S.grp X := by
      rw [cons_trim hx fun y hy => grp_dig y hy, val_grp r0, hX]
    have l2 := grp_le (v := X) (n := nq + 1) (by have : S.pw (nq + 1) = 1000000 * S.pw nq := rfl; omega)
    have lR := grp_le (v := R) (n := nq) (by omega)
    have e1 : (((k + 1 : Nat) : Int) - 1) = k := by omega
    rw [e1]
    have sv : S.valF (S.at' Q) (k + 1) (np - (k + 1)) = S.valF (fun j => tp (j + ap)) (k + 1) (np - (k + 1)) / (S.val nq (fun j => tq (j + aq))) := hv
    by_cases hl : (S.grp X).length < nq
    · have xs : X < (S.val nq (fun j => tq (j + aq))) := by
        refine Int.not_le.mp fun h => ?_
        have := len_ge (v := X) (k := nq - 1) (Int.le_trans ?_ h)
        · omega
        · have h := valF_snoc (t := (fun j => tq (j + aq))) (i := 0) (k := nq - 1)
          rw [show nq - 1 + 1 = nq by omega, Nat.zero_add] at h
          have h' : (S.val nq (fun j => tq (j + aq))) = S.valF (fun j => tq (j + aq)) 0 (nq - 1) + S.pw (nq - 1) * tq (nq - 1 + aq) := h
          have n0 := valF_nn (t := (fun j => tq (j + aq))) (k := nq - 1) (i := 0) fun j _ h => (dQ j (by omega)).1
          have l2 : 1 ≤ tq (nq - 1 + aq) := by
            have := (okG_iff.mp g2).2
            have h0 := dQ (nq - 1) (by omega)
            (try dsimp only at h0)
            rcases this with h | h
            · omega
            · (try dsimp only at h); omega
          have : S.pw (nq - 1) * 1 ≤ S.pw (nq - 1) * tq (nq - 1 + aq) := Int.mul_le_mul_of_nonneg_left l2 (by have := pw_pos (k := nq - 1); omega)
          omega
      have d0 : X / (S.val nq (fun j => tq (j + aq))) = 0 := Int.ediv_eq_zero_of_lt x0 xs
      have d1 : X % (S.val nq (fun j => tq (j + aq))) = X := Int.emod_eq_of_lt x0 xs
      have ih := ih X Q (by omega) (by rw [st2, d1]) hQ hd (fun j hj => hz j (by omega)) (by
        rw [st1, d0, show np - k = (np - (k + 1)) + 1 by omega]
        simp only [S.valF]
        rw [hz k (by omega), ← sv])
      apply Comes.of
      show Goes _ _ _
      rw [q57]
      simp only [c57_0_0, c57_0_1, c57_0_2, c57_0_3, c57_0_4, c57_0_5, Int.toNat_natCast, eT]
      generalize (S.grp X) = G at *
      repeat' (first | with_reducible refine goes_if (fun h => ?_) (fun h => ?_) <;> (try simp only [SH] at h) | exact goes_none.mpr (by omega))
      all_goals first | (exfalso; omega) | exact ih
    · obtain ⟨d, hdd⟩ : ∃ d, d = X / (S.val nq (fun j => tq (j + aq))) := ⟨_, rfl⟩
      have hqd : (S.val nq (fun j => tq (j + aq))) * d ≤ X ∧ X % (S.val nq (fun j => tq (j + aq))) = X - (S.val nq (fun j => tq (j + aq))) * d := by
        have h3 := Int.emod_add_mul_ediv X (S.val nq (fun j => tq (j + aq)))
        have h4 := Int.emod_nonneg X (show (S.val nq (fun j => tq (j + aq))) ≠ 0 by omega)
        rw [← hdd] at h3
        omega
      rw [← hdd] at st1 st3 st4
      have ih := ih (X % (S.val nq (fun j => tq (j + aq)))) (S.mkl np fun j => bif Nat.beq j k then d else S.at' Q j) (by omega) st2.symm mkl_len (upd_dig hQ hd ⟨st3, st4⟩) (fun j hj => by rw [upd_at (by omega), if_neg (by omega)]; exact hz j (by omega)) (by
        rw [st1, show np - k = (np - (k + 1)) + 1 by omega]
        simp only [S.valF]
        rw [upd_at (by omega), if_pos rfl, ← sv, valF_congr (u := S.at' Q) fun j h1 h2 => by rw [upd_at (by omega), if_neg (by omega)]])
      have hlit : (S.val 1 fun j => S.lit [d] 0 j) = d := mkl_lit rfl
      have hkD : (S.okD 1 fun j => S.lit [d] 0 j) = true := okD_iff.mpr fun j hj => by rw [lit_at hj]; omega
      have c1 : (aq + nq ≤ mq ∧ 1 ≤ 1) ∧ (nq ≤ 1000 ∧ 1 ≤ 1000) ∧ (S.okD nq fun j => tq (j + aq)) = true ∧ (S.okD 1 fun j => S.lit [d] 0 j) = true := ⟨⟨hp2, Nat.le_refl _⟩, ⟨by omega, by decide⟩, okG_D g2, hkD⟩
      have w0 : 0 ≤ (S.val nq (fun j => tq (j + aq))) * d := Int.mul_nonneg (by omega) st3
      have hv1 := val_grpL w0
      have hv2 := val_grpL x0
      have l1 := grp_le (v := (S.val nq (fun j => tq (j + aq))) * d) (n := nq + 1) (by have : S.pw (nq + 1) = 1000000 * S.pw nq := rfl; omega)
      have c2 : (0 + (S.grp X).length ≤ (S.grp X).length ∧ 0 + (S.grp ((S.val nq (fun j => tq (j + aq))) * d)).length ≤ (S.grp ((S.val nq (fun j => tq (j + aq))) * d)).length) ∧ ((S.grp X).length ≤ 1000 ∧ (S.grp ((S.val nq (fun j => tq (j + aq))) * d)).length ≤ 1000) ∧ (S.okG (S.grp X).length fun j => S.at' (S.grp X) j) = true ∧ (S.okG (S.grp ((S.val nq (fun j => tq (j + aq))) * d)).length fun j => S.at' (S.grp ((S.val nq (fun j => tq (j + aq))) * d)) j) = true ∧ (S.val nq (fun j => tq (j + aq))) * d ≤ X := ⟨⟨by omega, by omega⟩, ⟨by omega, by omega⟩, grp_ok, grp_ok, hqd.1⟩
      have hE : Comes (q57 ap np mp tp aq nq mq tq) (.h1 (S.grp X).length (k : Int) d d Q (S.grp X)) (0, (S.grp ((S.val np (fun j => tp (j + ap))) % (S.val nq (fun j => tq (j + aq))))).length, S.grp ((S.val np (fun j => tp (j + ap))) / (S.val nq (fun j => tq (j + aq)))), S.grp ((S.val np (fun j => tp (j + ap))) % (S.val nq (fun j => tq (j + aq))))) := by
        rw [hqd.2] at ih
        apply Comes.of
        show Goes _ _ _
        rw [q57]
        simp only [c57_1_0, c57_1_1, hlit, decide_eq_true c1, cond_true, hv1, hv2, decide_eq_true c2, Int.toNat_natCast, hQ]
        generalize S.grp (X - _) = G at *
        repeat' (first | with_reducible refine goes_if (fun h => ?_) (fun h => ?_) <;> (try simp only [SH] at h) | exact goes_none.mpr (by omega))
        all_goals first | (exfalso; omega) | exact ih
      have hI := fun a c h0 h1 h2 h3 => s57i ap np mp tp aq nq mq tq hp' X ⟨x0, x1⟩ (k : Int) Q (0, (S.grp ((S.val np (fun j => tp (j + ap))) % (S.val nq (fun j => tq (j + aq))))).length, S.grp ((S.val np (fun j => tp (j + ap))) / (S.val nq (fun j => tq (j + aq)))), S.grp ((S.val np (fun j => tp (j + ap))) % (S.val nq (fun j => tq (j + aq))))) (by rw [← hdd]; exact hE) (c - a).toNat a c (Nat.le_refl _) h0 h1 h2 h3
      rw [← hdd] at hI
      have gd : ∀ j, 0 ≤ S.at' (S.grp X) j ∧ S.at' (S.grp X) j < 1000000 := fun j => grp_at
      have xv := grp_valF (k := nq + 1) x0 (by have : S.pw (nq + 1) = 1000000 * S.pw nq := rfl; omega)
      have topp : 1 ≤ tq (nq - 1 + aq) := by
        have := (okG_iff.mp g2).2
        have h0 := dQ (nq - 1) (by omega)
        (try dsimp only at h0)
        rcases this with h | h
        · omega
        · (try dsimp only at h); omega
      have e2 : ((nq : Int) - 1).toNat = nq - 1 := by omega
      have e3 : ((nq : Int) - 2).toNat = nq - 2 := by omega
      have tq1 := dQ (nq - 1) (by omega)
      (try dsimp only at tq1)
      have g0 := gd (nq - 2)
      have g1' := gd (nq - 1)
      have g2' := gd nq
      have c3 : 0 + (S.grp X).length ≤ (S.grp X).length ∧ 0 ≤ (nq : Int) := by omega
      have c4 : 0 + (S.grp X).length ≤ (S.grp X).length ∧ 0 ≤ (nq : Int) - 1 := by omega
      clear ih hE hv st1 st2 sv hv1 hv2 c1 c2 hlit hkD s1 l1 hd hz
      by_cases hn : nq = 1
      · have hvq : (S.val nq (fun j => tq (j + aq))) = tq (nq - 1 + aq) := by subst hn; exact mkl_lit rfl
        have xv : S.at' (S.grp X) (nq - 1) + 1000000 * S.at' (S.grp X) nq = X := by
          subst hn
          simp only [S.valF, Nat.zero_add, Nat.sub_self] at xv ⊢
          omega
        have gs := guess (X := X) (V := (S.val nq (fun j => tq (j + aq)))) (P := 1) (v := tq (nq - 1 + aq)) (t := S.at' (S.grp X) nq * 1000000 + S.at' (S.grp X) (nq - 1)) (by decide) (by omega) (by rw [hvq]; omega) (by rw [hvq]; omega) (by omega) (by omega) (by omega)
        rw [← hdd] at gs
        have hI := hI (Int.tdiv (S.at' (S.grp X) nq * 1000000 + S.at' (S.grp X) (nq - 1)) (tq (nq - 1 + aq) + 1)) (min (Int.tdiv (S.at' (S.grp X) nq * 1000000 + S.at' (S.grp X) (nq - 1) + 1) (tq (nq - 1 + aq))) 999999) gs.1 gs.2.1 (by omega) (by omega)
        apply Comes.of
        show Goes _ _ _
        rw [q57]
        simp only [c57_0_0, c57_0_1, c57_0_2, c57_0_3, c57_0_4, c57_0_5, Int.toNat_natCast, eT, ext_at, e2, decide_eq_true c3, decide_eq_true c4, cond_true]
        generalize Int.tdiv (S.at' (S.grp X) nq * 1000000 + S.at' (S.grp X) (nq - 1)) (tq (nq - 1 + aq) + 1) = t1 at *
        generalize Int.tdiv (S.at' (S.grp X) nq * 1000000 + S.at' (S.grp X) (nq - 1) + 1) (tq (nq - 1 + aq)) = t2 at *
        clear eT
        repeat' (first | with_reducible refine goes_if (fun h => ?_) (fun h => ?_) <;> (try simp only [SH] at h) | exact goes_none.mpr (by omega))
        all_goals first | (exfalso; omega) | exact hI
      · have hw := pw_pos (k := nq - 2)
        have tq2 := dQ (nq - 2) (by omega)
        (try dsimp only at tq2)
        have xv : S.valF (fun j => S.at' (S.grp X) j) 0 (nq - 2) + S.pw (nq - 2) * ((S.at' (S.grp X) nq * 1000000 + S.at' (S.grp X) (nq - 1)) * 1000000 + S.at' (S.grp X) (nq - 2)) = X := by
          rw [show nq + 1 = nq - 2 + 3 by omega, valF_add, Nat.zero_add] at xv
          simp only [S.valF] at xv
          rw [show nq - 2 + 1 = nq - 1 by omega, show nq - 1 + 1 = nq by omega] at xv
          refine Eq.trans ?_ xv
          congr 2
          omega
        have vv : S.valF (fun j => tq (j + aq)) 0 (nq - 2) + S.pw (nq - 2) * (tq (nq - 1 + aq) * 1000000 + tq (nq - 2 + aq)) = (S.val nq (fun j => tq (j + aq))) := by
          have h : (S.val nq (fun j => tq (j + aq))) = S.valF (fun j => tq (j + aq)) 0 (nq - 2 + 2) := by rw [show nq - 2 + 2 = nq by omega]; rfl
          rw [h, valF_add, Nat.zero_add]
          simp only [S.valF]
          rw [show nq - 2 + 1 = nq - 1 by omega]
          congr 2
          omega
        have lv0 := valF_nn (t := (fun j => tq (j + aq))) (k := nq - 2) (i := 0) fun j _ h => (dQ j (by omega)).1
        have lv1 := valF_lt (t := (fun j => tq (j + aq))) (k := nq - 2) (i := 0) fun j _ h => dQ j (by omega)
        have lu0 := valF_nn (t := fun j => S.at' (S.grp X) j) (k := nq - 2) (i := 0) fun j _ h => (gd j).1
        have lu1 := valF_lt (t := fun j => S.at' (S.grp X) j) (k := nq - 2) (i := 0) fun j _ h => gd j
        obtain ⟨v, hvv⟩ : ∃ v, v = tq (nq - 1 + aq) * 1000000 + tq (nq - 2 + aq) := ⟨_, rfl⟩
        obtain ⟨t, htt⟩ : ∃ t, t = (S.at' (S.grp X) nq * 1000000 + S.at' (S.grp X) (nq - 1)) * 1000000 + S.at' (S.grp X) (nq - 2) := ⟨_, rfl⟩
        rw [← hvv, Int.mul_comm _ v] at vv
        rw [← htt, Int.mul_comm _ t] at xv
        have gs := guess (X := X) (V := (S.val nq (fun j => tq (j + aq)))) (P := S.pw (nq - 2)) (v := v) (t := t) hw (by omega) (by omega) (by rw [Int.add_mul]; omega) (by omega) (by rw [Int.add_mul]; omega) (by omega)
        rw [← hdd] at gs
        have hI := hI (Int.tdiv t (v + 1)) (min (Int.tdiv (t + 1) v) 999999) gs.1 gs.2.1 (by omega) (by omega)
        have c5 : 0 + (S.grp X).length ≤ (S.grp X).length ∧ 0 ≤ (nq : Int) - 2 := by omega
        clear xv vv lv0 lv1 lu0 lu1 hw
        apply Comes.of
        show Goes _ _ _
        rw [q57]
        simp only [c57_0_0, c57_0_1, c57_0_2, c57_0_3, c57_0_4, c57_0_5, Int.toNat_natCast, eT, ext_at, e2, e3, decide_eq_true c3, decide_eq_true c4, decide_eq_true c5, cond_true, ← hvv, ← htt]
        generalize Int.tdiv t (v + 1) = t1 at *
        generalize Int.tdiv (t + 1) v = t2 at *
        clear eT
        repeat' (first | with_reducible refine goes_if (fun h => ?_) (fun h => ?_) <;> (try simp only [SH] at h) | exact goes_none.mpr (by omega))
        all_goals first | (exfalso; omega) | exact hI
theorem s57 (ap np mp : Nat) (tp : Nat → Int) (aq nq mq : Nat) (tq : Nat → Int) (hp : (ap + np ≤ mp ∧ aq + nq ≤ mq) ∧ (np ≤ 900 ∧ nq ≤ 900) ∧ S.okG np (fun j => tp (j + ap)) = true ∧ S.okG nq (fun j => tq (j + aq)) = true ∧ 0 < nq) : Goes ((q57 ap np mp tp aq nq mq tq)) ((p57 ap np mp tp aq nq mq tq)) ((0, (S.grp ((S.val np (fun j => tp (j + ap))) % (S.val nq (fun j => tq (j + aq))))).length, S.grp ((S.val np (fun j => tp (j + ap))) / (S.val nq (fun j => tq (j + aq)))), S.grp ((S.val np (fun j => tp (j + ap))) % (S.val nq (fun j => tq (j + aq)))))) := by
  have hp' := hp
  obtain ⟨⟨hp1, hp2⟩, ⟨hp3, hp4⟩, g1, g2, hq0⟩ := hp
  have vp := val_pos g2 hq0
  have up := val_nn (okG_D g1)
  have z : ∀ j, S.at' (S.mkl np fun _ => (0 : Int)) j = 0 := fun j => by
    by_cases h : j < np
    · exact at_mkl h
    · simp [S.at', List.getElem?_eq_none (show (S.mkl np fun _ => (0 : Int)).length ≤ j by rw [mkl_len]; omega)]
  have hm := s57' ap np mp tp aq nq mq tq hp' np 0 (S.mkl np fun _ => 0) (Nat.le_refl _) (by rw [Nat.sub_self]; exact (Int.zero_emod _).symm) mkl_len (fun j _ => by rw [z]; omega) (fun j _ => z j) (by rw [Nat.sub_self]; exact (Int.zero_ediv _).symm)
  rw [grp_zero] at hm
  by_cases h3 : np ≤ 3 ∧ nq ≤ 3
  · have c1 : ap + np ≤ mp ∧ np ≤ 3 ∧ S.okD np (fun j => tp (j + ap)) = true := ⟨hp1, h3.1, okG_D g1⟩
    have c2 : aq + nq ≤ mq ∧ nq ≤ 3 ∧ S.okD nq (fun j => tq (j + aq)) = true := ⟨hp2, h3.2, okG_D g2⟩
    have ul := val_lt (okG_D g1) h3.1
    have vl := val_lt (okG_D g2) h3.2
    have w3 : S.pw 3 = 1000000000000000000 := rfl
    rw [← Int.tdiv_eq_ediv_of_nonneg up, ← Int.tmod_eq_emod_of_nonneg up]
    have d0 : 0 ≤ Int.tdiv (S.val np (fun j => tp (j + ap))) (S.val nq (fun j => tq (j + aq))) ∧ Int.tdiv (S.val np (fun j => tp (j + ap))) (S.val nq (fun j => tq (j + aq))) ≤ (S.val np (fun j => tp (j + ap))) := by rw [Int.tdiv_eq_ediv_of_nonneg up]; exact ⟨Int.ediv_nonneg up (by omega), Int.ediv_le_self _ up⟩
    have m0 : 0 ≤ Int.tmod (S.val np (fun j => tp (j + ap))) (S.val nq (fun j => tq (j + aq))) ∧ Int.tmod (S.val np (fun j => tp (j + ap))) (S.val nq (fun j => tq (j + aq))) < (S.val nq (fun j => tq (j + aq))) := by rw [Int.tmod_eq_emod_of_nonneg up]; exact ⟨Int.emod_nonneg _ (by omega), Int.emod_lt_of_pos _ vp⟩
    unfold p57
    simp only [decide_eq_true c1, decide_eq_true c2, cond_true]
    generalize Int.tdiv (S.val np (fun j => tp (j + ap))) (S.val nq (fun j => tq (j + aq))) = D at *
    generalize Int.tmod (S.val np (fun j => tp (j + ap))) (S.val nq (fun j => tq (j + aq))) = M at *
    generalize (S.val np (fun j => tp (j + ap))) = U at *
    generalize (S.val nq (fun j => tq (j + aq))) = V at *
    repeat' (first | with_reducible refine goes_if (fun h => ?_) (fun h => ?_) <;> (try simp only [SH] at h) | exact goes_none.mpr (by omega))
    all_goals first | (exfalso; omega) | exact goes_inr.mpr rfl
  · unfold p57
    repeat' (first | with_reducible refine goes_if (fun h => ?_) (fun h => ?_) <;> (try simp only [SH] at h) | exact goes_none.mpr (by omega))
    all_goals first | (exfalso; omega) | exact hm
theorem k57_ok  : k57.ok Tryd.prog := by
  intro x hx
  obtain ⟨⟨ap, np, mp, tp, _⟩, ⟨aq, nq, mq, tq, _⟩, _⟩ := x
  obtain ⟨h1, h2⟩ := a57 ap np mp tp aq nq mq tq (s57 ap np mp tp aq nq mq tq (of_dec hx rfl))
  exact ⟨⟨400, (by decide : 2 + 1 + 2 ≤ 400), h1⟩, h2⟩
noncomputable def xG2 (test : Bool → Prop → Prop → Prop) : Ext := consX test [k69, k65, k69v, k65v, k60, k61, k44, k73, k55, k45, k58, k56, k59, k46, k18, k19, k54, k57]
theorem xG2_ok  : ExtOk Tryd.prog (xG2 cond) := consX_ok ⟨k69_ok, k65_ok, k69v_ok, k65v_ok, k60_ok, k61_ok, k44_ok, k73_ok, k55_ok, k45_ok, k58_ok, k56_ok, k59_ok, k46_ok, k18_ok, k19_ok, k54_ok, k57_ok, trivial⟩
namespace S
noncomputable def divV (v w : Int) : Bool × Int × List Int × List Int := if (grp ((v / w).natAbs : Int)).length > 80 then (false, 3, [], []) else (decide (v / w < 0), 0, grp (v % w), grp ((v / w).natAbs : Int))
noncomputable def divI (n1 : Bool) (n : Nat) (t : Nat → Int) (n2 : Bool) (m : Nat) (u : Nat → Int) : Bool × Int × List Int × List Int := if okI n1 n t = true ∧ okI n2 m u = true then (if m = 0 then (false, 13, [], []) else divV (sv n1 (val n t)) (sv n2 (val m u))) else (false, 1, [], [])
def dq (n1 : Bool) (V W : Int) : Int := if n1 = true ∧ V % W > 0 then V / W + 1 else V / W
def dr (n1 : Bool) (V W : Int) : Int := if n1 = true ∧ V % W > 0 then W - V % W else V % W
end S
theorem ediv_at  {p q c m : Int} (h0 : 0 ≤ m) (h1 : m < q) (h : p = q * c + m) : p / q = c ∧ p % q = m := by
  have e : p / q = c := by rw [h, Int.add_comm, Int.add_mul_ediv_left _ _ (by omega), Int.ediv_eq_zero_of_lt h0 h1, Int.zero_add]
  refine ⟨e, ?_⟩
  rw [Int.emod_def, e]; omega
theorem div_sv  {n1 n2 : Bool} {V W : Int} (hV : 0 ≤ V) (hW : 0 < W) : S.sv n1 V / S.sv n2 W = S.sv (n1 != n2) (S.dq n1 V W) ∧ S.sv n1 V % S.sv n2 W = S.dr n1 V W ∧ 0 ≤ S.dq n1 V W ∧ S.dq n1 V W ≤ V / W + 1 ∧ 0 ≤ S.dr n1 V W ∧ S.dr n1 V W < W := by
  have h1 := Int.emod_nonneg V (show W ≠ 0 by omega)
  have h2 := Int.emod_lt_of_pos V hW
  have h3 := Int.mul_ediv_add_emod V W
  have h4 := Int.ediv_nonneg hV (show 0 ≤ W by omega)
  have key : S.sv n1 V / W = S.sv n1 (S.dq n1 V W) ∧ S.sv n1 V % W = S.dr n1 V W ∧ 0 ≤ S.dq n1 V W ∧ S.dq n1 V W ≤ V / W + 1 ∧ 0 ≤ S.dr n1 V W ∧ S.dr n1 V W < W := by
    unfold S.dq S.dr S.sv
    cases n1
    · simp only [cond_false, Bool.false_eq_true, false_and, if_false]
      exact ⟨trivial, trivial, h4, by omega, h1, h2⟩
    · simp only [cond_true, true_and]
      by_cases hR : V % W > 0
      · rw [if_pos hR, if_pos hR]
        obtain ⟨e1, e2⟩ := ediv_at (p := -V) (q := W) (c := -(V / W + 1)) (m := W - V % W) (by omega) (by omega) (by
          rw [Int.mul_neg, Int.mul_add]; omega)
        rw [e1, e2]
        exact ⟨rfl, rfl, by omega, by omega, by omega, by omega⟩
      · rw [if_neg hR, if_neg hR]
        obtain ⟨e1, e2⟩ := ediv_at (p := -V) (q := W) (c := -(V / W)) (m := 0) (by omega) (by omega) (by
          rw [Int.mul_neg]; omega)
        rw [e1, e2]
        exact ⟨rfl, by omega, by omega, by omega, by omega, by omega⟩
  obtain ⟨k1, k2, k3⟩ := key
  refine ⟨?_, ?_, k3⟩
  · cases n2
    · show S.sv n1 V / W = _
      rw [k1]; cases n1 <;> rfl
    · show S.sv n1 V / (-W) = _
      rw [Int.ediv_neg, k1]; cases n1 <;> simp [S.sv]
  · cases n2
    · exact k2
    · show S.sv n1 V % (-W) = _
      rw [Int.emod_neg, k2]
theorem divV_sv  {n1 n2 : Bool} {V W : Int} (hV : 0 ≤ V) (hW : 0 < W) : S.divV (S.sv n1 V) (S.sv n2 W) = if (S.grp (S.dq n1 V W)).length > 80 then (false, 3, [], []) else (S.sgB (n1 != n2) (S.dq n1 V W), 0, S.grp (S.dr n1 V W), S.grp (S.dq n1 V W)) := by
  obtain ⟨h1, h2, h3, -⟩ := div_sv (n1 := n1) (n2 := n2) hV hW
  unfold S.divV
  rw [h1, h2]
  have e := big_of (neg := (n1 != n2)) h3
  unfold S.bigI at e
  simp only [Prod.mk.injEq] at e
  rw [e.1, e.2]
  rfl
theorem fin_q  {c : Bool} {q : Int} (hq : 0 ≤ q) (h : ((S.grp q).length : Int) = 0) : S.sgB c q = false ∧ S.grp q = [] := by
  have : q ≤ 0 := len_zero.mp (by omega)
  refine ⟨?_, grp_neg this⟩
  unfold S.sgB
  rw [decide_eq_false (by omega), Bool.and_false]
theorem fin_q2  {c : Bool} {q : Int} (h : ¬ ((S.grp q).length : Int) = 0) : S.sgB c q = c := by
  have : ¬ q ≤ 0 := fun h2 => h (by have := len_zero.mpr h2; omega)
  unfold S.sgB
  rw [decide_eq_true (by omega), Bool.and_true]
theorem fin_r  {r : Int} (h : ((S.grp r).length : Int) = 0) : S.grp r = [] := List.length_eq_zero_iff.mp (by omega)
section
variable {c : Bool} {q r : Int}
abbrev G9  : Bool × Int × List Int × List Int → Bool × Int × List Int × List Int := fun e => (e.1, e.2.1, e.2.2.1, e.2.2.2)
abbrev G0  : Bool × Int × List Int × List Int → Bool × Bool × Int × List Int × List Int := fun e => (e.1, false, e.2.1, e.2.2.1, e.2.2.2)
theorem finA (hq : 0 ≤ q) (h : ((S.grp q).length : Int) = 0) (h2 : ((S.grp r).length : Int) = 0) : (S.sgB c q, (0 : Int), S.grp r, S.grp q) = (false, 0, [], []) := by rw [(fin_q hq h).1, (fin_q (c := c) hq h).2, fin_r h2]
theorem finB (hq : 0 ≤ q) (h : ((S.grp q).length : Int) = 0) : (S.sgB c q, (0 : Int), S.grp r, S.grp q) = (false, 0, S.grp r, []) := by rw [(fin_q hq h).1, (fin_q (c := c) hq h).2]
theorem finC (h : ¬ ((S.grp q).length : Int) = 0) (h2 : ((S.grp r).length : Int) = 0) : (S.sgB c q, (0 : Int), S.grp r, S.grp q) = (c, 0, [], S.grp q) := by rw [fin_q2 h, fin_r h2]
theorem finD (h : ¬ ((S.grp q).length : Int) = 0) : (S.sgB c q, (0 : Int), S.grp r, S.grp q) = (c, 0, S.grp r, S.grp q) := by rw [fin_q2 h]
end
noncomputable abbrev c29_e_0 (ap np : Nat) (tp : NI) (aq nq : Nat) (tq : NI) := S.grp ((S.val nq fun j => tq (j + aq)) - S.val (List.length (S.grp ((S.val np fun j => tp (j + ap)) % S.val nq fun j => tq (j + aq)))) fun j => S.at' (S.grp ((S.val np fun j => tp (j + ap)) % S.val nq fun j => tq (j + aq))) j)
noncomputable abbrev c29_e_1 (ap np mp : Nat) (tp : NI) (aq nq mq : Nat) (tq : NI) := ([[(1, false, Blk.cols mq [Col.int .i64 tq]), (0, false, Blk.cols mp [Col.int .i64 tp]), (9, true, Blk.cols (List.length (S.grp ((S.val np fun j => tp (j + ap)) % S.val nq fun j => tq (j + aq)))) [Col.int .i64 fun j => S.at' (S.grp ((S.val np fun j => tp (j + ap)) % S.val nq fun j => tq (j + aq))) j])]])
noncomputable abbrev c29_e_2 (ap np : Nat) (tp : NI) (aq nq : Nat) (tq : NI) := S.grp ((S.val (List.length (S.grp ((S.val np fun j => tp (j + ap)) / S.val nq fun j => tq (j + aq)))) fun j => S.at' (S.grp ((S.val np fun j => tp (j + ap)) / S.val nq fun j => tq (j + aq))) j) + 1)
noncomputable abbrev c29_e_3 (mp : Nat) (tp : NI) (mq : Nat) (tq : NI) := ([[(1, false, Blk.cols mq [Col.int .i64 tq]), (0, false, Blk.cols mp [Col.int .i64 tp])]])
noncomputable abbrev c29_e_4 (ap np mp : Nat) (tp : NI) (aq nq mq : Nat) (tq : NI) := ([[(1, false, Blk.cols mq [Col.int .i64 tq]), (0, false, Blk.cols mp [Col.int .i64 tp]), (9, true, Blk.cols (List.length (S.grp ((S.val np fun j => tp (j + ap)) % S.val nq fun j => tq (j + aq)))) [Col.int .i64 fun j => S.at' (S.grp ((S.val np fun j => tp (j + ap)) % S.val nq fun j => tq (j + aq))) j]), (10, true, Blk.cols (List.length (S.grp ((S.val np fun j => tp (j + ap)) / S.val nq fun j => tq (j + aq)))) [Col.int .i64 fun j => S.at' (S.grp ((S.val np fun j => tp (j + ap)) / S.val nq fun j => tq (j + aq))) j])]])
noncomputable abbrev c29_e_5 (ap np : Nat) (tp : NI) (aq nq : Nat) (tq : NI) := (PV.tup [PV.agg [PV.tf false, PV.nils], PV.agg [PV.tf false, PV.own (9) (1) (List.length (S.grp ((S.val np fun j => tp (j + ap)) % S.val nq fun j => tq (j + aq))))], PV.int .i64 (0 : Int)])
noncomputable abbrev c29_e_6  := (PV.tup [PV.agg [PV.tf false, PV.nils], PV.agg [PV.tf false, PV.nils], PV.int .i64 (0 : Int)])
noncomputable abbrev c29_e_7 (ap np : Nat) (tp : NI) (aq nq : Nat) (tq : NI) := (↑(List.length (S.grp ((S.val np fun j => tp (j + ap)) % S.val nq fun j => tq (j + aq)))) : Int) == 0
noncomputable abbrev c29_e_8 (ap np mp : Nat) (tp : NI) (aq nq mq : Nat) (tq : NI) := ([[(1, false, Blk.cols mq [Col.int .i64 tq]), (0, false, Blk.cols mp [Col.int .i64 tp]), (10, true, Blk.cols (List.length (S.grp ((S.val np fun j => tp (j + ap)) / S.val nq fun j => tq (j + aq)))) [Col.int .i64 fun j => S.at' (S.grp ((S.val np fun j => tp (j + ap)) / S.val nq fun j => tq (j + aq))) j])]])
noncomputable abbrev c29_e_9 (ap np mp : Nat) (tp : NI) (aq nq mq : Nat) (tq : NI) := ([[(1, false, Blk.cols mq [Col.int .i64 tq]), (0, false, Blk.cols mp [Col.int .i64 tp]), (15, true, Blk.cols (List.length (c29_e_0 ap np tp aq nq tq)) [Col.int .i64 fun j => S.at' (c29_e_0 ap np tp aq nq tq) j])]])
noncomputable abbrev c29_e_10 (ap np : Nat) (tp : NI) (aq nq : Nat) (tq : NI) := List.length (S.grp ((S.val np fun j => tp (j + ap)) / S.val nq fun j => tq (j + aq)))
noncomputable abbrev c29_e_11  := (PV.tup [PV.agg [PV.tf false, PV.nils], PV.agg [PV.tf false, PV.nils], PV.int .i64 (3 : Int)])
noncomputable abbrev c29_e_12 (ap np : Nat) (tp : NI) (aq nq : Nat) (tq : NI) := (PV.tup [PV.agg [PV.tf false, PV.nils], PV.agg [PV.tf false, PV.own (15) (1) (List.length (c29_e_0 ap np tp aq nq tq))], PV.int .i64 (0 : Int)])
noncomputable abbrev c29_e_13 (ap np : Nat) (tp : NI) (aq nq : Nat) (tq : NI) := S.grp ((S.val np fun j => tp (j + ap)) / S.val nq fun j => tq (j + aq))
noncomputable abbrev c29_e_14 (ap np mp : Nat) (tp : NI) (aq nq mq : Nat) (tq : NI) := ([[(1, false, Blk.cols mq [Col.int .i64 tq]), (0, false, Blk.cols mp [Col.int .i64 tp]), (15, true, Blk.cols (List.length (c29_e_0 ap np tp aq nq tq)) [Col.int .i64 fun j => S.at' (c29_e_0 ap np tp aq nq tq) j]), (13, true, Blk.cols (List.length (c29_e_2 ap np tp aq nq tq)) [Col.int .i64 fun j => S.at' (c29_e_2 ap np tp aq nq tq) j])]])
noncomputable abbrev c29_e_15 (ap np : Nat) (tp : NI) (aq nq : Nat) (tq : NI) := S.grp ((S.val np fun j => tp (j + ap)) % S.val nq fun j => tq (j + aq))
noncomputable abbrev c29_e_16 (ap np : Nat) (tp : NI) (aq nq : Nat) (tq : NI) := (S.val nq fun j => tq (j + aq)) - S.val (List.length (S.grp ((S.val np fun j => tp (j + ap)) % S.val nq fun j => tq (j + aq)))) fun j => S.at' (S.grp ((S.val np fun j => tp (j + ap)) % S.val nq fun j => tq (j + aq))) j
noncomputable abbrev c29_e_17 (ap np mp : Nat) (tp : NI) (aq nq mq : Nat) (tq : NI) := ([[(1, false, Blk.cols mq [Col.int .i64 tq]), (0, false, Blk.cols mp [Col.int .i64 tp]), (13, true, Blk.cols (List.length (c29_e_2 ap np tp aq nq tq)) [Col.int .i64 fun j => S.at' (c29_e_2 ap np tp aq nq tq) j])]])
abbrev St29  := Empty
abbrev Rt29  := Bool × Int × List Int × List Int
noncomputable def V29 (n1 : Bool) (ap np mp : Nat) (tp : NI) (n2 : Bool) (aq nq mq : Nat) (tq : NI) (r : Rt29) : PV := PV.tup [PV.agg [PV.bool r.1, PV.own (4) (1) (List.length r.2.2.2)], PV.agg [PV.tf false, PV.own (3) (1) (List.length r.2.2.1)], PV.int .i64 r.2.1]
noncomputable def N29 (n1 : Bool) (ap np mp : Nat) (tp : NI) (n2 : Bool) (aq nq mq : Nat) (tq : NI) (r : Rt29) : List Blk := [Blk.cols (List.length r.2.2.1) [Col.int .i64 fun j => S.at' r.2.2.1 j], Blk.cols (List.length r.2.2.2) [Col.int .i64 fun j => S.at' r.2.2.2 j]]
noncomputable def I29 (n1 : Bool) (ap np mp : Nat) (tp : NI) (n2 : Bool) (aq nq mq : Nat) (tq : NI) : St29 → Hd := fun s => s.elim
noncomputable def q29 (n1 : Bool) (ap np mp : Nat) (tp : NI) (n2 : Bool) (aq nq mq : Nat) (tq : NI) : St29 → Option (St29 ⊕ Rt29) := fun s => s.elim
noncomputable abbrev d29_0 (n1 : Bool) (ap np mp : Nat) (tp : NI) (n2 : Bool) (aq nq mq : Nat) (tq : NI) : Option (St29 ⊕ Rt29) := (bif ((↑(c29_e_10 ap np tp aq nq tq) : Int) == 0) then (bif (c29_e_7 ap np tp aq nq tq) then (some (.inr (false, (0 : Int), [], []))) else (some (.inr (false, (0 : Int), S.grp ((S.val np fun j => tp (j + ap)) % S.val nq fun j => tq (j + aq)), [])))) else (bif (decide ((↑(c29_e_10 ap np tp aq nq tq) : Int) > 80)) then (some (.inr (false, (3 : Int), [], []))) else (bif (c29_e_7 ap np tp aq nq tq) then (some (.inr (false, (0 : Int), [], S.grp ((S.val np fun j => tp (j + ap)) / S.val nq fun j => tq (j + aq))))) else (some (.inr (false, (0 : Int), S.grp ((S.val np fun j => tp (j + ap)) % S.val nq fun j => tq (j + aq)), S.grp ((S.val np fun j => tp (j + ap)) / S.val nq fun j => tq (j + aq))))))))
noncomputable abbrev d29_1 (n1 : Bool) (ap np mp : Nat) (tp : NI) (n2 : Bool) (aq nq mq : Nat) (tq : NI) : Option (St29 ⊕ Rt29) := (bif ((↑(c29_e_10 ap np tp aq nq tq) : Int) == 0) then (bif (c29_e_7 ap np tp aq nq tq) then (some (.inr (false, (0 : Int), [], []))) else (some (.inr (false, (0 : Int), S.grp ((S.val np fun j => tp (j + ap)) % S.val nq fun j => tq (j + aq)), [])))) else (bif (decide ((↑(c29_e_10 ap np tp aq nq tq) : Int) > 80)) then (some (.inr (false, (3 : Int), [], []))) else (bif (c29_e_7 ap np tp aq nq tq) then (some (.inr (true, (0 : Int), [], S.grp ((S.val np fun j => tp (j + ap)) / S.val nq fun j => tq (j + aq))))) else (some (.inr (true, (0 : Int), S.grp ((S.val np fun j => tp (j + ap)) % S.val nq fun j => tq (j + aq)), S.grp ((S.val np fun j => tp (j + ap)) / S.val nq fun j => tq (j + aq))))))))
noncomputable def p29 (n1 : Bool) (ap np mp : Nat) (tp : NI) (n2 : Bool) (aq nq mq : Nat) (tq : NI) : Option (St29 ⊕ Rt29) := bif (decide (ap + np ≤ mp ∧ np ≤ 1000000)) then (bif (S.okI n1 np fun j => tp (j + ap)) then (bif (decide (aq + nq ≤ mq ∧ nq ≤ 1000000)) then (bif (S.okI n2 nq fun j => tq (j + aq)) then (bif ((↑nq : Int) == 0) then (some (.inr (false, (13 : Int), [], []))) else (bif (decide ((ap + np ≤ mp ∧ aq + nq ≤ mq) ∧ (np ≤ 900 ∧ nq ≤ 900) ∧ (S.okG np fun j => tp (j + ap)) = true ∧ (S.okG nq fun j => tq (j + aq)) = true ∧ 0 < nq)) then (bif (n1) then (bif (decide ((↑(List.length (S.grp ((S.val np fun j => tp (j + ap)) % S.val nq fun j => tq (j + aq)))) : Int) > 0)) then (bif (decide ((0 + List.length (c29_e_13 ap np tp aq nq tq) ≤ List.length (S.grp ((S.val np fun j => tp (j + ap)) / S.val nq fun j => tq (j + aq))) ∧ 1 ≤ 1) ∧ (List.length (c29_e_13 ap np tp aq nq tq) ≤ 1000 ∧ 1 ≤ 1000) ∧ (S.okG (List.length (c29_e_13 ap np tp aq nq tq)) fun j => S.at' (c29_e_13 ap np tp aq nq tq) j) = true ∧ true = true)) then (bif (decide ((aq + nq ≤ mq ∧ 0 + List.length (c29_e_15 ap np tp aq nq tq) ≤ List.length (S.grp ((S.val np fun j => tp (j + ap)) % S.val nq fun j => tq (j + aq)))) ∧ (nq ≤ 1000 ∧ List.length (c29_e_15 ap np tp aq nq tq) ≤ 1000) ∧ (S.okG nq fun j => tq (j + aq)) = true ∧ (S.okG (List.length (c29_e_15 ap np tp aq nq tq)) fun j => S.at' (c29_e_15 ap np tp aq nq tq) j) = true ∧ (S.val (List.length (c29_e_15 ap np tp aq nq tq)) fun j => S.at' (c29_e_15 ap np tp aq nq tq) j) ≤ S.val nq fun j => tq (j + aq))) then (bif (n2) then (bif ((↑(List.length (c29_e_2 ap np tp aq nq tq)) : Int) == 0) then (bif ((↑(List.length (c29_e_0 ap np tp aq nq tq)) : Int) == 0) then (some (.inr (false, (0 : Int), [], []))) else (some (.inr (false, (0 : Int), S.grp (c29_e_16 ap np tp aq nq tq), [])))) else (bif (decide ((↑(List.length (c29_e_2 ap np tp aq nq tq)) : Int) > 80)) then (some (.inr (false, (3 : Int), [], []))) else (bif ((↑(List.length (c29_e_0 ap np tp aq nq tq)) : Int) == 0) then (some (.inr (false, (0 : Int), [], S.grp ((S.val (c29_e_10 ap np tp aq nq tq) fun j => S.at' (S.grp ((S.val np fun j => tp (j + ap)) / S.val nq fun j => tq (j + aq))) j) + 1)))) else (some (.inr (false, (0 : Int), S.grp (c29_e_16 ap np tp aq nq tq), S.grp ((S.val (c29_e_10 ap np tp aq nq tq) fun j => S.at' (S.grp ((S.val np fun j => tp (j + ap)) / S.val nq fun j => tq (j + aq))) j) + 1))))))) else (bif ((↑(List.length (c29_e_2 ap np tp aq nq tq)) : Int) == 0) then (bif ((↑(List.length (c29_e_0 ap np tp aq nq tq)) : Int) == 0) then (some (.inr (false, (0 : Int), [], []))) else (some (.inr (false, (0 : Int), S.grp (c29_e_16 ap np tp aq nq tq), [])))) else (bif (decide ((↑(List.length (c29_e_2 ap np tp aq nq tq)) : Int) > 80)) then (some (.inr (false, (3 : Int), [], []))) else (bif ((↑(List.length (c29_e_0 ap np tp aq nq tq)) : Int) == 0) then (some (.inr (true, (0 : Int), [], S.grp ((S.val (c29_e_10 ap np tp aq nq tq) fun j => S.at' (S.grp ((S.val np fun j => tp (j + ap)) / S.val nq fun j => tq (j + aq))) j) + 1)))) else (some (.inr (true, (0 : Int), S.grp (c29_e_16 ap np tp aq nq tq), S.grp ((S.val (c29_e_10 ap np tp aq nq tq) fun j => S.at' (S.grp ((S.val np fun j => tp (j + ap)) / S.val nq fun j => tq (j + aq))) j) + 1)))))))) else (none)) else (none)) else (bif (n2) then (d29_0 n1 ap np mp tp n2 aq nq mq tq) else (d29_1 n1 ap np mp tp n2 aq nq mq tq))) else (bif (n2) then (d29_1 n1 ap np mp tp n2 aq nq mq tq) else (d29_0 n1 ap np mp tp n2 aq nq mq tq))) else (none))) else (some (.inr (false, (1 : Int), [], [])))) else (none)) else (some (.inr (false, (1 : Int), [], [])))) else (none)
noncomputable abbrev g29_2 (test : TT) (Kst : KS) (Kret : KR) (n1 : Bool) (ap np mp : Nat) (tp : NI) (n2 : Bool) (aq nq mq : Nat) (tq : NI) : Prop := (test ((↑(c29_e_10 ap np tp aq nq tq) : Int) == 0) (test (false) (test (true) (Kret (c29_e_11) (c29_e_3 mp tp mq tq) (15)) (test (c29_e_7 ap np tp aq nq tq) (Kret (c29_e_6) (c29_e_3 mp tp mq tq) (16)) (Kret (c29_e_5 ap np tp aq nq tq) (c29_e_1 ap np mp tp aq nq mq tq) (16)))) (test (false) (Kret (c29_e_6) (c29_e_3 mp tp mq tq) (15)) (test (c29_e_7 ap np tp aq nq tq) (Kret (c29_e_6) (c29_e_3 mp tp mq tq) (16)) (Kret (c29_e_5 ap np tp aq nq tq) (c29_e_1 ap np mp tp aq nq mq tq) (16))))) (test (decide ((↑(c29_e_10 ap np tp aq nq tq) : Int) > 80)) (test (true) (Kret (c29_e_11) (c29_e_3 mp tp mq tq) (15)) (test (c29_e_7 ap np tp aq nq tq) (Kret (c29_e_6) (c29_e_3 mp tp mq tq) (16)) (Kret (c29_e_5 ap np tp aq nq tq) (c29_e_1 ap np mp tp aq nq mq tq) (16)))) (test (false) (Kret (c29_e_6) (c29_e_3 mp tp mq tq) (15)) (test (c29_e_7 ap np tp aq nq tq) (Kret (PV.tup [PV.agg [PV.tf false, PV.own (10) (1) (List.length (c29_e_13 ap np tp aq nq tq))], PV.agg [PV.tf false, PV.nils], PV.int .i64 (0 : Int)]) (c29_e_8 ap np mp tp aq nq mq tq) (16)) (Kret (PV.tup [PV.agg [PV.tf false, PV.own (10) (1) (List.length (c29_e_13 ap np tp aq nq tq))], PV.agg [PV.tf false, PV.own (9) (1) (List.length (c29_e_15 ap np tp aq nq tq))], PV.int .i64 (0 : Int)]) (c29_e_4 ap np mp tp aq nq mq tq) (16))))))
noncomputable abbrev g29_3 (test : TT) (Kst : KS) (Kret : KR) (n1 : Bool) (ap np mp : Nat) (tp : NI) (n2 : Bool) (aq nq mq : Nat) (tq : NI) : Prop := (test ((↑(c29_e_10 ap np tp aq nq tq) : Int) == 0) (test (false) (test (true) (Kret (c29_e_11) (c29_e_3 mp tp mq tq) (15)) (test (c29_e_7 ap np tp aq nq tq) (Kret (c29_e_6) (c29_e_3 mp tp mq tq) (16)) (Kret (c29_e_5 ap np tp aq nq tq) (c29_e_1 ap np mp tp aq nq mq tq) (16)))) (test (false) (Kret (c29_e_6) (c29_e_3 mp tp mq tq) (15)) (test (c29_e_7 ap np tp aq nq tq) (Kret (c29_e_6) (c29_e_3 mp tp mq tq) (16)) (Kret (c29_e_5 ap np tp aq nq tq) (c29_e_1 ap np mp tp aq nq mq tq) (16))))) (test (decide ((↑(c29_e_10 ap np tp aq nq tq) : Int) > 80)) (test (true) (Kret (c29_e_11) (c29_e_3 mp tp mq tq) (15)) (test (c29_e_7 ap np tp aq nq tq) (Kret (c29_e_6) (c29_e_3 mp tp mq tq) (16)) (Kret (c29_e_5 ap np tp aq nq tq) (c29_e_1 ap np mp tp aq nq mq tq) (16)))) (test (false) (Kret (c29_e_6) (c29_e_3 mp tp mq tq) (15)) (test (c29_e_7 ap np tp aq nq tq) (Kret (PV.tup [PV.agg [PV.tf true, PV.own (10) (1) (List.length (c29_e_13 ap np tp aq nq tq))], PV.agg [PV.tf false, PV.nils], PV.int .i64 (0 : Int)]) (c29_e_8 ap np mp tp aq nq mq tq) (16)) (Kret (PV.tup [PV.agg [PV.tf true, PV.own (10) (1) (List.length (c29_e_13 ap np tp aq nq tq))], PV.agg [PV.tf false, PV.own (9) (1) (List.length (c29_e_15 ap np tp aq nq tq))], PV.int .i64 (0 : Int)]) (c29_e_4 ap np mp tp aq nq mq tq) (16))))))
noncomputable abbrev g29_0 (test : TT) (Kst : KS) (Kret : KR) (n1 : Bool) (ap np mp : Nat) (tp : NI) (n2 : Bool) (aq nq mq : Nat) (tq : NI) : Prop := (test (n1) (test (n2) (g29_2 test Kst Kret n1 ap np mp tp n2 aq nq mq tq) (g29_3 test Kst Kret n1 ap np mp tp n2 aq nq mq tq)) (test (n2) (g29_3 test Kst Kret n1 ap np mp tp n2 aq nq mq tq) (g29_2 test Kst Kret n1 ap np mp tp n2 aq nq mq tq)))
noncomputable abbrev g29_1 (test : TT) (Kst : KS) (Kret : KR) (n1 : Bool) (ap np mp : Nat) (tp : NI) (n2 : Bool) (aq nq mq : Nat) (tq : NI) : Prop := (test (false) (test (true) (Kret (c29_e_11) (c29_e_3 mp tp mq tq) (20)) (test ((↑(List.length (c29_e_0 ap np tp aq nq tq)) : Int) == 0) (Kret (c29_e_6) (c29_e_3 mp tp mq tq) (21)) (Kret (c29_e_12 ap np tp aq nq tq) (c29_e_9 ap np mp tp aq nq mq tq) (21)))) (test (false) (Kret (c29_e_6) (c29_e_3 mp tp mq tq) (20)) (test ((↑(List.length (c29_e_0 ap np tp aq nq tq)) : Int) == 0) (Kret (c29_e_6) (c29_e_3 mp tp mq tq) (21)) (Kret (c29_e_12 ap np tp aq nq tq) (c29_e_9 ap np mp tp aq nq mq tq) (21)))))
noncomputable abbrev g29_4 (test : TT) (Kst : KS) (Kret : KR) (n1 : Bool) (ap np mp : Nat) (tp : NI) (n2 : Bool) (aq nq mq : Nat) (tq : NI) : Prop := (test ((↑(List.length (c29_e_2 ap np tp aq nq tq)) : Int) == 0) (g29_1 test Kst Kret n1 ap np mp tp n2 aq nq mq tq) (test (decide ((↑(List.length (c29_e_2 ap np tp aq nq tq)) : Int) > 80)) (test (true) (Kret (c29_e_11) (c29_e_3 mp tp mq tq) (20)) (test ((↑(List.length (c29_e_0 ap np tp aq nq tq)) : Int) == 0) (Kret (c29_e_6) (c29_e_3 mp tp mq tq) (21)) (Kret (c29_e_12 ap np tp aq nq tq) (c29_e_9 ap np mp tp aq nq mq tq) (21)))) (test (false) (Kret (c29_e_6) (c29_e_3 mp tp mq tq) (20)) (test ((↑(List.length (c29_e_0 ap np tp aq nq tq)) : Int) == 0) (Kret (PV.tup [PV.agg [PV.tf false, PV.own (13) (1) (List.length (c29_e_2 ap np tp aq nq tq))], PV.agg [PV.tf false, PV.nils], PV.int .i64 (0 : Int)]) (c29_e_17 ap np mp tp aq nq mq tq) (21)) (Kret (PV.tup [PV.agg [PV.tf false, PV.own (13) (1) (List.length (c29_e_2 ap np tp aq nq tq))], PV.agg [PV.tf false, PV.own (15) (1) (List.length (c29_e_0 ap np tp aq nq tq))], PV.int .i64 (0 : Int)]) (c29_e_14 ap np mp tp aq nq mq tq) (21))))))
noncomputable abbrev g29_5 (test : TT) (Kst : KS) (Kret : KR) (n1 : Bool) (ap np mp : Nat) (tp : NI) (n2 : Bool) (aq nq mq : Nat) (tq : NI) : Prop := (test ((↑(List.length (c29_e_2 ap np tp aq nq tq)) : Int) == 0) (g29_1 test Kst Kret n1 ap np mp tp n2 aq nq mq tq) (test (decide ((↑(List.length (c29_e_2 ap np tp aq nq tq)) : Int) > 80)) (test (true) (Kret (c29_e_11) (c29_e_3 mp tp mq tq) (20)) (test ((↑(List.length (c29_e_0 ap np tp aq nq tq)) : Int) == 0) (Kret (c29_e_6) (c29_e_3 mp tp mq tq) (21)) (Kret (c29_e_12 ap np tp aq nq tq) (c29_e_9 ap np mp tp aq nq mq tq) (21)))) (test (false) (Kret (c29_e_6) (c29_e_3 mp tp mq tq) (20)) (test ((↑(List.length (c29_e_0 ap np tp aq nq tq)) : Int) == 0) (Kret (PV.tup [PV.agg [PV.tf true, PV.own (13) (1) (List.length (c29_e_2 ap np tp aq nq tq))], PV.agg [PV.tf false, PV.nils], PV.int .i64 (0 : Int)]) (c29_e_17 ap np mp tp aq nq mq tq) (21)) (Kret (PV.tup [PV.agg [PV.tf true, PV.own (13) (1) (List.length (c29_e_2 ap np tp aq nq tq))], PV.agg [PV.tf false, PV.own (15) (1) (List.length (c29_e_0 ap np tp aq nq tq))], PV.int .i64 (0 : Int)]) (c29_e_14 ap np mp tp aq nq mq tq) (21))))))
noncomputable def Te29 (test : TT) (Kst : KS) (Kret : KR) (n1 : Bool) (ap np mp : Nat) (tp : NI) (n2 : Bool) (aq nq mq : Nat) (tq : NI) : Prop := test (decide (ap + np ≤ mp ∧ np ≤ 1000000)) (test (S.okI n1 np fun j => tp (j + ap)) (test (decide (aq + nq ≤ mq ∧ nq ≤ 1000000)) (test (S.okI n2 nq fun j => tq (j + aq)) (test ((↑nq : Int) == 0) (Kret (PV.tup [PV.agg [PV.tf false, PV.nils], PV.agg [PV.tf false, PV.nils], PV.int .i64 (13 : Int)]) (c29_e_3 mp tp mq tq) (8)) (test (decide ((ap + np ≤ mp ∧ aq + nq ≤ mq) ∧ (np ≤ 900 ∧ nq ≤ 900) ∧ (S.okG np fun j => tp (j + ap)) = true ∧ (S.okG nq fun j => tq (j + aq)) = true ∧ 0 < nq)) (test (n1) (test (decide ((↑(List.length (S.grp ((S.val np fun j => tp (j + ap)) % S.val nq fun j => tq (j + aq)))) : Int) > 0)) (test (decide ((0 + List.length (c29_e_13 ap np tp aq nq tq) ≤ List.length (S.grp ((S.val np fun j => tp (j + ap)) / S.val nq fun j => tq (j + aq))) ∧ 1 ≤ 1) ∧ (List.length (c29_e_13 ap np tp aq nq tq) ≤ 1000 ∧ 1 ≤ 1000) ∧ (S.okG (List.length (c29_e_13 ap np tp aq nq tq)) fun j => S.at' (c29_e_13 ap np tp aq nq tq) j) = true ∧ true = true)) (test (decide ((aq + nq ≤ mq ∧ 0 + List.length (c29_e_15 ap np tp aq nq tq) ≤ List.length (S.grp ((S.val np fun j => tp (j + ap)) % S.val nq fun j => tq (j + aq)))) ∧ (nq ≤ 1000 ∧ List.length (c29_e_15 ap np tp aq nq tq) ≤ 1000) ∧ (S.okG nq fun j => tq (j + aq)) = true ∧ (S.okG (List.length (c29_e_15 ap np tp aq nq tq)) fun j => S.at' (c29_e_15 ap np tp aq nq tq) j) = true ∧ (S.val (List.length (c29_e_15 ap np tp aq nq tq)) fun j => S.at' (c29_e_15 ap np tp aq nq tq) j) ≤ S.val nq fun j => tq (j + aq))) (test (n1) (test (n2) (g29_4 test Kst Kret n1 ap np mp tp n2 aq nq mq tq) (g29_5 test Kst Kret n1 ap np mp tp n2 aq nq mq tq)) (test (n2) (g29_5 test Kst Kret n1 ap np mp tp n2 aq nq mq tq) (g29_4 test Kst Kret n1 ap np mp tp n2 aq nq mq tq))) (False)) (False)) (g29_0 test Kst Kret n1 ap np mp tp n2 aq nq mq tq)) (g29_0 test Kst Kret n1 ap np mp tp n2 aq nq mq tq)) (False))) (Kret (PV.tup [PV.agg [PV.tf false, PV.nils], PV.agg [PV.tf false, PV.nils], PV.int .i64 (1 : Int)]) (c29_e_3 mp tp mq tq) (8))) (False)) (Kret (PV.tup [PV.agg [PV.tf false, PV.nils], PV.agg [PV.tf false, PV.nils], PV.int .i64 (1 : Int)]) (c29_e_3 mp tp mq tq) (7))) (False)
theorem te29 (test : TT) (Kst : KS) (Kret : KR) (n1 : Bool) (ap np mp : Nat) (tp : NI) (n2 : Bool) (aq nq mq : Nat) (tq : NI) : run test Tryd.env true (xG2 test) true 400 ⟨29, [.cd (mkFn Tryd.f29).body], argT 0 [.agg [.bool n1, .loose ⟨0, 1, ap, 0⟩ np], .agg [.bool n2, .loose ⟨1, 1, aq, 0⟩ nq]], [[], [(0, (false, .cols mp [.int .i64 tp])), (1, (false, .cols mq [.int .i64 tq]))]], 2⟩ (proj 2 [] Kst Kret) =
  Te29 test Kst Kret n1 ap np mp tp n2 aq nq mq tq := by kernel_rfl
noncomputable abbrev J29 (n1 : Bool) (ap np mp : Nat) (tp : NI) (n2 : Bool) (aq nq mq : Nat) (tq : NI) : Rt29 → Heap := fun r => [newL (2 + 1) ((N29 n1 ap np mp tp n2 aq nq mq tq) r) ++ [(0, (false, .cols mp [.int .i64 tp])), (1, (false, .cols mq [.int .i64 tq]))]]
attribute [local irreducible] Int.subNatNat in
theorem be29 (n1 : Bool) (ap np mp : Nat) (tp : NI) (n2 : Bool) (aq nq mq : Nat) (tq : NI) (Kst : KS) (Kret : KR) (x : St29 ⊕ Rt29) (hS : HS 2 400 ((I29 n1 ap np mp tp n2 aq nq mq tq)) Kst x) (hR : HR 2 400 ((V29 n1 ap np mp tp n2 aq nq mq tq)) (J29 n1 ap np mp tp n2 aq nq mq tq) Kret x) (h : p29 n1 ap np mp tp n2 aq nq mq tq = some x) : Te29 cond Kst Kret n1 ap np mp tp n2 aq nq mq tq := by
  unfold Te29
  unfold p29 at h
  refine bif_split h (fun c0 h => bif_split h (fun c1 h => bif_split h (fun c2 h => bif_split h (fun c3 h => bif_split h (fun c4 h => ?_) (fun c4 h => bif_split h (fun c5 h => bif_split h (fun c6 h => bif_split h (fun c7 h => bif_split h (fun c8 h => bif_split h (fun c9 h => cond_yes c6 (bif_split h (fun c10 h => bif_split h (fun c11 h => cond_no rfl (cond_no rfl (bif_split h (fun c12 h => ?_) (fun c12 h => ?_)))) (fun c11 h => bif_split h (fun c12 h => cond_yes rfl (ret_at hR _ h (fun n => bif Nat.beq n 3 then 399 else bif Nat.beq n 4 then 398 else n) rfl rfl rfl (rn_tup ⟨(rn_agg ⟨(rn_bool_tf rfl), (rn_own_nils rfl), trivial⟩), (rn_agg ⟨(rn_tf rfl), (rn_own_nils rfl), trivial⟩), (rn_int rfl), trivial⟩) rfl (entl_fresh (use_own rfl) (fresh_ok rfl) (entl_fresh (use_own rfl) (fresh_ok rfl) (entl_bor (use_lo rfl) rfl rfl (entl_bor (use_lo rfl) rfl rfl entl_nil)))))) (fun c12 h => cond_no rfl (bif_split h (fun c13 h => ?_) (fun c13 h => ?_))))) (fun c10 h => bif_split h (fun c11 h => cond_no rfl (cond_no rfl (bif_split h (fun c12 h => ?_) (fun c12 h => ?_)))) (fun c11 h => bif_split h (fun c12 h => cond_yes rfl (ret_at hR _ h (fun n => bif Nat.beq n 3 then 399 else bif Nat.beq n 4 then 398 else n) rfl rfl rfl (rn_tup ⟨(rn_agg ⟨(rn_bool_tf rfl), (rn_own_nils rfl), trivial⟩), (rn_agg ⟨(rn_tf rfl), (rn_own_nils rfl), trivial⟩), (rn_int rfl), trivial⟩) rfl (entl_fresh (use_own rfl) (fresh_ok rfl) (entl_fresh (use_own rfl) (fresh_ok rfl) (entl_bor (use_lo rfl) rfl rfl (entl_bor (use_lo rfl) rfl rfl entl_nil)))))) (fun c12 h => cond_no rfl (bif_split h (fun c13 h => ?_) (fun c13 h => ?_))))))) (fun c9 h => ?_)) (fun c8 h => ?_)) (fun c7 h => cond_yes c6 (bif_split h (fun c8 h => bif_split h (fun c9 h => cond_no rfl (cond_no rfl (bif_split h (fun c10 h => ?_) (fun c10 h => ?_)))) (fun c9 h => bif_split h (fun c10 h => cond_yes rfl (ret_at hR _ h (fun n => bif Nat.beq n 3 then 399 else bif Nat.beq n 4 then 398 else n) rfl rfl rfl (rn_tup ⟨(rn_agg ⟨(rn_bool_tf rfl), (rn_own_nils rfl), trivial⟩), (rn_agg ⟨(rn_tf rfl), (rn_own_nils rfl), trivial⟩), (rn_int rfl), trivial⟩) rfl (entl_fresh (use_own rfl) (fresh_ok rfl) (entl_fresh (use_own rfl) (fresh_ok rfl) (entl_bor (use_lo rfl) rfl rfl (entl_bor (use_lo rfl) rfl rfl entl_nil)))))) (fun c10 h => cond_no rfl (bif_split h (fun c11 h => ?_) (fun c11 h => ?_))))) (fun c8 h => bif_split h (fun c9 h => cond_no rfl (cond_no rfl (bif_split h (fun c10 h => ?_) (fun c10 h => ?_)))) (fun c9 h => bif_split h (fun c10 h => cond_yes rfl (ret_at hR _ h (fun n => bif Nat.beq n 3 then 399 else bif Nat.beq n 4 then 398 else n) rfl rfl rfl (rn_tup ⟨(rn_agg ⟨(rn_bool_tf rfl), (rn_own_nils rfl), trivial⟩), (rn_agg ⟨(rn_tf rfl), (rn_own_nils rfl), trivial⟩), (rn_int rfl), trivial⟩) rfl (entl_fresh (use_own rfl) (fresh_ok rfl) (entl_fresh (use_own rfl) (fresh_ok rfl) (entl_bor (use_lo rfl) rfl rfl (entl_bor (use_lo rfl) rfl rfl entl_nil)))))) (fun c10 h => cond_no rfl (bif_split h (fun c11 h => ?_) (fun c11 h => ?_)))))))) (fun c6 h => cond_no c6 (bif_split h (fun c7 h => bif_split h (fun c8 h => cond_no rfl (cond_no rfl (bif_split h (fun c9 h => ?_) (fun c9 h => ?_)))) (fun c8 h => bif_split h (fun c9 h => cond_yes rfl (ret_at hR _ h (fun n => bif Nat.beq n 3 then 399 else bif Nat.beq n 4 then 398 else n) rfl rfl rfl (rn_tup ⟨(rn_agg ⟨(rn_bool_tf rfl), (rn_own_nils rfl), trivial⟩), (rn_agg ⟨(rn_tf rfl), (rn_own_nils rfl), trivial⟩), (rn_int rfl), trivial⟩) rfl (entl_fresh (use_own rfl) (fresh_ok rfl) (entl_fresh (use_own rfl) (fresh_ok rfl) (entl_bor (use_lo rfl) rfl rfl (entl_bor (use_lo rfl) rfl rfl entl_nil)))))) (fun c9 h => cond_no rfl (bif_split h (fun c10 h => ?_) (fun c10 h => ?_))))) (fun c7 h => bif_split h (fun c8 h => cond_no rfl (cond_no rfl (bif_split h (fun c9 h => ?_) (fun c9 h => ?_)))) (fun c8 h => bif_split h (fun c9 h => cond_yes rfl (ret_at hR _ h (fun n => bif Nat.beq n 3 then 399 else bif Nat.beq n 4 then 398 else n) rfl rfl rfl (rn_tup ⟨(rn_agg ⟨(rn_bool_tf rfl), (rn_own_nils rfl), trivial⟩), (rn_agg ⟨(rn_tf rfl), (rn_own_nils rfl), trivial⟩), (rn_int rfl), trivial⟩) rfl (entl_fresh (use_own rfl) (fresh_ok rfl) (entl_fresh (use_own rfl) (fresh_ok rfl) (entl_bor (use_lo rfl) rfl rfl (entl_bor (use_lo rfl) rfl rfl entl_nil)))))) (fun c9 h => cond_no rfl (bif_split h (fun c10 h => ?_) (fun c10 h => ?_)))))))) (fun c5 h => ?_))) (fun c3 h => ?_)) (fun c2 h => ?_)) (fun c1 h => ?_)) (fun c0 h => ?_)
  all_goals first
    | exact ret_at hR _ h (fun n => bif Nat.beq n 3 then 399 else bif Nat.beq n 4 then 398 else n) rfl rfl rfl (rn_tup ⟨(rn_agg ⟨(rn_bool_tf rfl), (rn_own_nils rfl), trivial⟩), (rn_agg ⟨(rn_tf rfl), (rn_own_nils rfl), trivial⟩), (rn_int rfl), trivial⟩) rfl (entl_fresh (use_own rfl) (fresh_ok rfl) (entl_fresh (use_own rfl) (fresh_ok rfl) (entl_bor (use_lo rfl) rfl rfl (entl_bor (use_lo rfl) rfl rfl entl_nil))))
    | exact no_some h
    | exact ret_at hR _ h (fun n => bif Nat.beq n 3 then 9 else bif Nat.beq n 4 then 399 else n) rfl rfl rfl (rn_tup ⟨(rn_agg ⟨(rn_bool_tf rfl), (rn_own_nils rfl), trivial⟩), (rn_agg ⟨(rn_tf rfl), (rn_own (use_own rfl) rfl rfl), trivial⟩), (rn_int rfl), trivial⟩) rfl (entl_new (use_own rfl) rfl (Nat.le_of_eq rfl) (rcs_int (fun _ _ => rfl) rcs_nil) (entl_fresh (use_own rfl) (fresh_ok rfl) (entl_bor (use_lo rfl) rfl rfl (entl_bor (use_lo rfl) rfl rfl entl_nil))))
    | exact ret_at hR _ h (fun n => bif Nat.beq n 3 then 399 else bif Nat.beq n 4 then 10 else n) rfl rfl rfl (rn_tup ⟨(rn_agg ⟨(rn_bool_tf rfl), (rn_own (use_own rfl) rfl rfl), trivial⟩), (rn_agg ⟨(rn_tf rfl), (rn_own_nils rfl), trivial⟩), (rn_int rfl), trivial⟩) rfl (entl_fresh (use_own rfl) (fresh_ok rfl) (entl_new (use_own rfl) rfl (Nat.le_of_eq rfl) (rcs_int (fun _ _ => rfl) rcs_nil) (entl_bor (use_lo rfl) rfl rfl (entl_bor (use_lo rfl) rfl rfl entl_nil))))
    | exact ret_at hR _ h (fun n => bif Nat.beq n 3 then 9 else bif Nat.beq n 4 then 10 else n) rfl rfl rfl (rn_tup ⟨(rn_agg ⟨(rn_bool_tf rfl), (rn_own (use_own rfl) rfl rfl), trivial⟩), (rn_agg ⟨(rn_tf rfl), (rn_own (use_own rfl) rfl rfl), trivial⟩), (rn_int rfl), trivial⟩) rfl (entl_new (use_own rfl) rfl (Nat.le_of_eq rfl) (rcs_int (fun _ _ => rfl) rcs_nil) (entl_new (use_own rfl) rfl (Nat.le_of_eq rfl) (rcs_int (fun _ _ => rfl) rcs_nil) (entl_bor (use_lo rfl) rfl rfl (entl_bor (use_lo rfl) rfl rfl entl_nil))))
    | exact ret_at hR _ h (fun n => bif Nat.beq n 3 then 15 else bif Nat.beq n 4 then 399 else n) rfl rfl rfl (rn_tup ⟨(rn_agg ⟨(rn_bool_tf rfl), (rn_own_nils rfl), trivial⟩), (rn_agg ⟨(rn_tf rfl), (rn_own (use_own rfl) rfl rfl), trivial⟩), (rn_int rfl), trivial⟩) rfl (entl_new (use_own rfl) rfl (Nat.le_of_eq rfl) (rcs_int (fun _ _ => rfl) rcs_nil) (entl_fresh (use_own rfl) (fresh_ok rfl) (entl_bor (use_lo rfl) rfl rfl (entl_bor (use_lo rfl) rfl rfl entl_nil))))
    | exact ret_at hR _ h (fun n => bif Nat.beq n 3 then 399 else bif Nat.beq n 4 then 13 else n) rfl rfl rfl (rn_tup ⟨(rn_agg ⟨(rn_bool_tf rfl), (rn_own (use_own rfl) rfl rfl), trivial⟩), (rn_agg ⟨(rn_tf rfl), (rn_own_nils rfl), trivial⟩), (rn_int rfl), trivial⟩) rfl (entl_fresh (use_own rfl) (fresh_ok rfl) (entl_new (use_own rfl) rfl (Nat.le_of_eq rfl) (rcs_int (fun _ _ => rfl) rcs_nil) (entl_bor (use_lo rfl) rfl rfl (entl_bor (use_lo rfl) rfl rfl entl_nil))))
    | exact ret_at hR _ h (fun n => bif Nat.beq n 3 then 15 else bif Nat.beq n 4 then 13 else n) rfl rfl rfl (rn_tup ⟨(rn_agg ⟨(rn_bool_tf rfl), (rn_own (use_own rfl) rfl rfl), trivial⟩), (rn_agg ⟨(rn_tf rfl), (rn_own (use_own rfl) rfl rfl), trivial⟩), (rn_int rfl), trivial⟩) rfl (entl_new (use_own rfl) rfl (Nat.le_of_eq rfl) (rcs_int (fun _ _ => rfl) rcs_nil) (entl_new (use_own rfl) rfl (Nat.le_of_eq rfl) (rcs_int (fun _ _ => rfl) rcs_nil) (entl_bor (use_lo rfl) rfl rfl (entl_bor (use_lo rfl) rfl rfl entl_nil))))
theorem a29 (n1 : Bool) (ap np mp : Nat) (tp : NI) (n2 : Bool) (aq nq mq : Nat) (tq : NI) {r : Rt29} (h : Goes ((q29 n1 ap np mp tp n2 aq nq mq tq)) ((p29 n1 ap np mp tp n2 aq nq mq tq)) r) : CallR Tryd.prog 29 [.agg [.bool n1, .loose ⟨0, 1, ap, 0⟩ np], .agg [.bool n2, .loose ⟨1, 1, aq, 0⟩ nq]] [[(0, (false, .cols mp [.int .i64 tp])), (1, (false, .cols mq [.int .i64 tq]))]] 2 ((V29 n1 ap np mp tp n2 aq nq mq tq) r) ((J29 n1 ap np mp tp n2 aq nq mq tq) r) 400 ∧ ∃ F, Tryd.prog.funcs[29]? = some F ∧ F.body.isSome = true ∧ (F.name == "runtime.NumGoroutine") = false := by
  refine dec_calls (f := 29) (lo := 2) (hi := 400) Tryd.envOk Tryd.mixed xG2_ok ((I29 n1 ap np mp tp n2 aq nq mq tq)) ((V29 n1 ap np mp tp n2 aq nq mq tq)) (J29 n1 ap np mp tp n2 aq nq mq tq) (fn := mkFn Tryd.f29) (ts := []) (n := 400) rfl (by decide) (by simp) (names_of rfl) ?_ ?_ ?_ h
  · intro s; exact s.elim
  · intro Kst Kret x hS hR h
    exact Holds.eq (te29 cond Kst Kret n1 ap np mp tp n2 aq nq mq tq) (be29 n1 ap np mp tp n2 aq nq mq tq Kst Kret x hS hR h)
  · intro Kst Kret x hS hR s h; exact s.elim
noncomputable abbrev w29 {α : Type} (g : Bool → Nat → Nat → Nat → (Nat → Int) → Bool → Nat → Nat → Nat → (Nat → Int) → α) (x : (Bool × (Nat × Nat × Nat × (Nat → Int) × Unit) × Unit) × (Bool × (Nat × Nat × Nat × (Nat → Int) × Unit) × Unit) × Unit) : α := g x.1.1 x.1.2.1.1 x.1.2.1.2.1 x.1.2.1.2.2.1 x.1.2.1.2.2.2.1 x.2.1.1 x.2.1.2.1.1 x.2.1.2.1.2.1 x.2.1.2.1.2.2.1 x.2.1.2.1.2.2.2.1
noncomputable def k29  : Con := ⟨29, [.agg [.plain (.bool), .list [.int .i64]], .agg [.plain (.bool), .list [.int .i64]]], w29 (fun n1 ap np mp tp n2 aq nq mq tq => decide ((ap + np ≤ mp ∧ np ≤ 1000000) ∧ aq + nq ≤ mq ∧ nq ≤ 1000000)), w29 (fun n1 ap np mp tp n2 aq nq mq tq => (V29 n1 ap np mp tp n2 aq nq mq tq) ((S.divI n1 np (fun j => tp (j + ap)) n2 nq (fun j => tq (j + aq))).1, (S.divI n1 np (fun j => tp (j + ap)) n2 nq (fun j => tq (j + aq))).2.1, (S.divI n1 np (fun j => tp (j + ap)) n2 nq (fun j => tq (j + aq))).2.2.1, (S.divI n1 np (fun j => tp (j + ap)) n2 nq (fun j => tq (j + aq))).2.2.2)), w29 (fun n1 ap np mp tp n2 aq nq mq tq => (N29 n1 ap np mp tp n2 aq nq mq tq) ((S.divI n1 np (fun j => tp (j + ap)) n2 nq (fun j => tq (j + aq))).1, (S.divI n1 np (fun j => tp (j + ap)) n2 nq (fun j => tq (j + aq))).2.1, (S.divI n1 np (fun j => tp (j + ap)) n2 nq (fun j => tq (j + aq))).2.2.1, (S.divI n1 np (fun j => tp (j + ap)) n2 nq (fun j => tq (j + aq))).2.2.2)), fun _ _ => .dead⟩
theorem s29 (n1 : Bool) (ap np mp : Nat) (tp : Nat → Int) (n2 : Bool) (aq nq mq : Nat) (tq : Nat → Int) (hp : (ap + np ≤ mp ∧ np ≤ 1000000) ∧ aq + nq ≤ mq ∧ nq ≤ 1000000) : Goes ((q29 n1 ap np mp tp n2 aq nq mq tq)) ((p29 n1 ap np mp tp n2 aq nq mq tq)) (((S.divI n1 np (fun j => tp (j + ap)) n2 nq (fun j => tq (j + aq))).1, (S.divI n1 np (fun j => tp (j + ap)) n2 nq (fun j => tq (j + aq))).2.1, (S.divI n1 np (fun j => tp (j + ap)) n2 nq (fun j => tq (j + aq))).2.2.1, (S.divI n1 np (fun j => tp (j + ap)) n2 nq (fun j => tq (j + aq))).2.2.2)) := by
  obtain ⟨⟨hp1, hp2⟩, hp3, hp4⟩ := hp
  have d1 : ap + np ≤ mp ∧ np ≤ 1000000 := ⟨hp1, hp2⟩
  have d2 : aq + nq ≤ mq ∧ nq ≤ 1000000 := ⟨hp3, hp4⟩
  unfold S.divI
  by_cases g1 : S.okI n1 np (fun j => tp (j + ap)) = true
  · obtain ⟨l1, k1⟩ := okI_G g1
    by_cases g2 : S.okI n2 nq (fun j => tq (j + aq)) = true
    · obtain ⟨l2, k2⟩ := okI_G g2
      rw [if_pos ⟨g1, g2⟩]
      by_cases h0 : nq = 0
      · rw [if_pos h0]
        unfold p29
        simp only [g1, g2, decide_eq_true d1, decide_eq_true d2, cond_true]
        exact goes_ok (by rw [h0]; rfl) (goes_inr.mpr rfl)
      · rw [if_neg h0]
        have up := val_nn (okG_D k1)
        have vp := val_pos k2 (by omega)
        have ul := val_lt (okG_D k1) (Nat.le_refl np)
        have vl := val_lt (okG_D k2) (Nat.le_refl nq)
        rw [divV_sv up vp]
        have hq : (ap + np ≤ mp ∧ aq + nq ≤ mq) ∧ (np ≤ 900 ∧ nq ≤ 900) ∧ S.okG np (fun j => tp (j + ap)) = true ∧ S.okG nq (fun j => tq (j + aq)) = true ∧ 0 < nq := ⟨⟨hp1, hp3⟩, ⟨by omega, by omega⟩, k1, k2, by omega⟩
        have e0 : ((nq : Int) == 0) = false := by rw [beq_eq_false_iff_ne]; omega
        have m0 := Int.emod_nonneg (S.val np (fun j => tp (j + ap))) (show (S.val nq (fun j => tq (j + aq))) ≠ 0 by omega)
        have m1 := Int.emod_lt_of_pos (S.val np (fun j => tp (j + ap))) vp
        have q0 := Int.ediv_nonneg up (show 0 ≤ (S.val nq (fun j => tq (j + aq))) by omega)
        have q1 := Int.ediv_le_self (S.val nq (fun j => tq (j + aq))) up
        have hw := pw_mono (k := np) (m := 80) l1
        obtain ⟨Q, hQ⟩ : ∃ Q, (S.val np (fun j => tp (j + ap))) / (S.val nq (fun j => tq (j + aq))) = Q := ⟨_, rfl⟩
        obtain ⟨R, hR⟩ : ∃ R, (S.val np (fun j => tp (j + ap))) % (S.val nq (fun j => tq (j + aq))) = R := ⟨_, rfl⟩
        rw [hQ] at q0 q1
        rw [hR] at m0 m1
        have lq := grp_le (v := Q) (n := 80) (by omega)
        have lq1 := grp_le (v := Q + 1) (n := 81) (by have : S.pw 81 = 1000000 * S.pw 80 := rfl; have := pw_pos (k := 80); omega)
        have lr := grp_le (v := R) (n := nq) (by omega)
        have lr1 := grp_le (v := (S.val nq (fun j => tq (j + aq))) - R) (n := nq + 1) (by have : S.pw (nq + 1) = 1000000 * S.pw nq := rfl; omega)
        have vQ := val_grpL q0
        have vR := val_grpL m0
        have vQ1 := val_grpL (v := Q + 1) (by omega)
        have vR1 := val_grpL (v := (S.val nq (fun j => tq (j + aq))) - R) (by omega)
        have a1 : (0 + (S.grp Q).length ≤ (S.grp Q).length ∧ 1 ≤ 1) ∧ ((S.grp Q).length ≤ 1000 ∧ 1 ≤ 1000) ∧ (S.okG (S.grp Q).length fun j => S.at' (S.grp Q) j) = true ∧ true = true := ⟨⟨by omega, by omega⟩, ⟨by omega, by omega⟩, grp_ok, rfl⟩
        have a2 : (aq + nq ≤ mq ∧ 0 + (S.grp R).length ≤ (S.grp R).length) ∧ (nq ≤ 1000 ∧ (S.grp R).length ≤ 1000) ∧ S.okG nq (fun j => tq (j + aq)) = true ∧ (S.okG (S.grp R).length fun j => S.at' (S.grp R) j) = true ∧ R ≤ (S.val nq (fun j => tq (j + aq))) := ⟨⟨hp3, by omega⟩, ⟨by omega, by omega⟩, k2, grp_ok, by omega⟩
        have b1 : 0 + (S.grp Q).length ≤ (S.grp Q).length ∧ (S.grp Q).length ≤ 1000000 ∧ (S.okD (S.grp Q).length fun j => S.at' (S.grp Q) j) = true := ⟨by omega, by omega, okG_D grp_ok⟩
        have b2 : 0 + (S.grp R).length ≤ (S.grp R).length ∧ (S.grp R).length ≤ 1000000 ∧ (S.okD (S.grp R).length fun j => S.at' (S.grp R) j) = true := ⟨by omega, by omega, okG_D grp_ok⟩
        have b3 : 0 + (S.grp (Q + 1)).length ≤ (S.grp (Q + 1)).length ∧ (S.grp (Q + 1)).length ≤ 1000000 ∧ (S.okD (S.grp (Q + 1)).length fun j => S.at' (S.grp (Q + 1)) j) = true := ⟨by omega, by omega, okG_D grp_ok⟩
        have b4 : 0 + (S.grp ((S.val nq (fun j => tq (j + aq))) - R)).length ≤ (S.grp ((S.val nq (fun j => tq (j + aq))) - R)).length ∧ (S.grp ((S.val nq (fun j => tq (j + aq))) - R)).length ≤ 1000000 ∧ (S.okD (S.grp ((S.val nq (fun j => tq (j + aq))) - R)).length fun j => S.at' (S.grp ((S.val nq (fun j => tq (j + aq))) - R)) j) = true := ⟨by omega, by omega, okG_D grp_ok⟩
        unfold p29
        simp only [-eq_self, g1, g2, decide_eq_true d1, decide_eq_true d2, cond_true, cond_false, e0, decide_eq_true hq, c29_e_0, c29_e_1, c29_e_2, c29_e_3, c29_e_4, c29_e_5, c29_e_6, c29_e_7, c29_e_8, c29_e_9, c29_e_10, c29_e_11, c29_e_12, c29_e_13, c29_e_14, c29_e_15, c29_e_16, c29_e_17, d29_0, d29_1, S.grpP, hQ, hR, vQ, vR, decide_eq_true a1, decide_eq_true a2, vQ1, vR1, decide_eq_true b1, decide_eq_true b2, decide_eq_true b3, decide_eq_true b4]
        have hR0 : ((S.grp R).length : Int) > 0 ↔ R > 0 := by
          have := @len_zero R
          omega
        have key : ∀ (c : Bool) (q r : Int), 0 ≤ q → (S.dq n1 (S.val np (fun j => tp (j + ap))) (S.val nq (fun j => tq (j + aq))) = q) → S.dr n1 (S.val np (fun j => tp (j + ap))) (S.val nq (fun j => tq (j + aq))) = r → (n1 != n2) = c → ((if (S.grp (S.dq n1 (S.val np (fun j => tp (j + ap))) (S.val nq (fun j => tq (j + aq))))).length > 80 then ((false, 3, [], []) : Bool × Int × List Int × List Int) else (S.sgB (n1 != n2) (S.dq n1 (S.val np (fun j => tp (j + ap))) (S.val nq (fun j => tq (j + aq)))), 0, S.grp (S.dr n1 (S.val np (fun j => tp (j + ap))) (S.val nq (fun j => tq (j + aq)))), S.grp (S.dq n1 (S.val np (fun j => tp (j + ap))) (S.val nq (fun j => tq (j + aq))))))) = if (S.grp q).length > 80 then (false, 3, [], []) else (S.sgB c q, 0, S.grp r, S.grp q) := fun c q r h0 h1 h2 h3 => by rw [h1, h2, h3]
        clear hq a1 a2 b1 b2 b3 b4 vQ vR vQ1 vR1 up vp ul vl k1 k2 g1 g2 hw
        cases n1
        · have e1 : S.dq false (S.val np (fun j => tp (j + ap))) (S.val nq (fun j => tq (j + aq))) = Q ∧ S.dr false (S.val np (fun j => tp (j + ap))) (S.val nq (fun j => tq (j + aq))) = R := by
            unfold S.dq S.dr
            simp only [Bool.false_eq_true, false_and, if_false]
            exact ⟨hQ, hR⟩
          cases n2 <;>
          (rw [key _ (Q) (R) (by omega) e1.1 e1.2 rfl]
           simp only [cond_true, cond_false]
           repeat' first
             | with_reducible refine goes_if (fun h => ?_) (fun h => ?_) <;> (try simp only [SH] at h)
           all_goals first
             | (exfalso; omega)
             | (rw [if_pos (by omega)]; exact goes_inr.mpr rfl)
             | (rw [if_neg (by omega)]
                refine goes_inr.mpr ?_
                first
                  | rfl
                  | exact congrArg G9 (finA (q := Q) (r := R) (by omega) (by assumption) (by assumption)).symm
                  | exact congrArg G9 (finB (q := Q) (r := R) (by omega) (by assumption)).symm
                  | exact congrArg G9 (finC (q := Q) (r := R) (by assumption) (by assumption)).symm
                  | exact congrArg G9 (finD (q := Q) (r := R) (by assumption)).symm))
        · by_cases hr : R > 0
          · have e1 : S.dq true (S.val np (fun j => tp (j + ap))) (S.val nq (fun j => tq (j + aq))) = Q + 1 ∧ S.dr true (S.val np (fun j => tp (j + ap))) (S.val nq (fun j => tq (j + aq))) = (S.val nq (fun j => tq (j + aq))) - R := by
              unfold S.dq S.dr
              rw [hR, if_pos ⟨rfl, hr⟩, if_pos ⟨rfl, hr⟩]
              exact ⟨by rw [hQ], rfl⟩
            cases n2 <;>
            (rw [key _ (Q + 1) ((S.val nq (fun j => tq (j + aq))) - R) (by omega) e1.1 e1.2 rfl]
             simp only [cond_true, cond_false, decide_eq_true (hR0.mpr hr)]
             repeat' first
               | with_reducible refine goes_if (fun h => ?_) (fun h => ?_) <;> (try simp only [SH] at h)
             all_goals first
               | (exfalso; omega)
               | (rw [if_pos (by omega)]; exact goes_inr.mpr rfl)
               | (rw [if_neg (by omega)]
                  refine goes_inr.mpr ?_
                  first
                    | rfl
                    | exact congrArg G9 (finA (q := Q + 1) (r := (S.val nq (fun j => tq (j + aq))) - R) (by omega) (by assumption) (by assumption)).symm
                    | exact congrArg G9 (finB (q := Q + 1) (r := (S.val nq (fun j => tq (j + aq))) - R) (by omega) (by assumption)).symm
                    | exact congrArg G9 (finC (q := Q + 1) (r := (S.val nq (fun j => tq (j + aq))) - R) (by assumption) (by assumption)).symm
                    | exact congrArg G9 (finD (q := Q + 1) (r := (S.val nq (fun j => tq (j + aq))) - R) (by assumption)).symm))
          · have e1 : S.dq true (S.val np (fun j => tp (j + ap))) (S.val nq (fun j => tq (j + aq))) = Q ∧ S.dr true (S.val np (fun j => tp (j + ap))) (S.val nq (fun j => tq (j + aq))) = R := by
              unfold S.dq S.dr
              rw [hR, if_neg (fun h => hr h.2), if_neg (fun h => hr h.2)]
              exact ⟨hQ, rfl⟩
            cases n2 <;>
            (rw [key _ (Q) (R) (by omega) e1.1 e1.2 rfl]
             simp only [cond_true, cond_false, decide_eq_false (fun h => hr (hR0.mp h))]
             repeat' first
               | with_reducible refine goes_if (fun h => ?_) (fun h => ?_) <;> (try simp only [SH] at h)
             all_goals first
               | (exfalso; omega)
               | (rw [if_pos (by omega)]; exact goes_inr.mpr rfl)
               | (rw [if_neg (by omega)]
                  refine goes_inr.mpr ?_
                  first
                    | rfl
                    | exact congrArg G9 (finA (q := Q) (r := R) (by omega) (by assumption) (by assumption)).symm
                    | exact congrArg G9 (finB (q := Q) (r := R) (by omega) (by assumption)).symm
                    | exact congrArg G9 (finC (q := Q) (r := R) (by assumption) (by assumption)).symm
                    | exact congrArg G9 (finD (q := Q) (r := R) (by assumption)).symm))
    · rw [if_neg (fun h => g2 h.2)]
      have g2 := Bool.not_eq_true _ ▸ g2
      unfold p29
      simp only [cond_true, cond_false, g1, g2, decide_eq_true d1, decide_eq_true d2]
      exact goes_inr.mpr rfl
  · rw [if_neg (fun h => g1 h.1)]
    have g1 := Bool.not_eq_true _ ▸ g1
    unfold p29
    simp only [cond_true, cond_false, g1, decide_eq_true d1]
    exact goes_inr.mpr rfl
theorem k29_ok  : k29.ok Tryd.prog := by
  intro x hx
  obtain ⟨⟨n1, ⟨ap, np, mp, tp, _⟩, _⟩, ⟨n2, ⟨aq, nq, mq, tq, _⟩, _⟩, _⟩ := x
  obtain ⟨h1, h2⟩ := a29 n1 ap np mp tp n2 aq nq mq tq (s29 n1 ap np mp tp n2 aq nq mq tq (of_dec hx rfl))
  exact ⟨⟨400, (by decide : 2 + 1 + 2 ≤ 400), h1⟩, h2⟩
noncomputable abbrev c30_e_0 (ap np : Nat) (tp : NI) (aq nq : Nat) (tq : NI) := S.val (List.length (S.grp ((S.val np fun j => tp (j + ap)) / S.val nq fun j => tq (j + aq)))) fun j => S.at' (S.grp ((S.val np fun j => tp (j + ap)) / S.val nq fun j => tq (j + aq))) j
noncomputable abbrev c30_e_1 (ap np : Nat) (tp : NI) (aq nq : Nat) (tq : NI) := S.grp ((S.val np fun j => tp (j + ap)) % S.val nq fun j => tq (j + aq))
noncomputable abbrev c30_e_2 (ap np : Nat) (tp : NI) (aq nq : Nat) (tq : NI) := decide (0 + List.length (S.grp ((S.val np fun j => tp (j + ap)) % S.val nq fun j => tq (j + aq))) ≤ List.length (S.grp ((S.val np fun j => tp (j + ap)) % S.val nq fun j => tq (j + aq))) ∧ List.length (S.grp ((S.val np fun j => tp (j + ap)) % S.val nq fun j => tq (j + aq))) ≤ 1000000 ∧ (S.okD (List.length (S.grp ((S.val np fun j => tp (j + ap)) % S.val nq fun j => tq (j + aq)))) fun j => S.at' (S.grp ((S.val np fun j => tp (j + ap)) % S.val nq fun j => tq (j + aq))) j) = true)
noncomputable abbrev c30_e_3 (ap np : Nat) (tp : NI) (aq nq : Nat) (tq : NI) := S.grp (S.val (List.length (S.grp ((S.val nq fun j => tq (j + aq)) - S.val (List.length (S.grp ((S.val np fun j => tp (j + ap)) % S.val nq fun j => tq (j + aq)))) fun j => S.at' (S.grp ((S.val np fun j => tp (j + ap)) % S.val nq fun j => tq (j + aq))) j))) fun j => S.at' (S.grp ((S.val nq fun j => tq (j + aq)) - S.val (List.length (S.grp ((S.val np fun j => tp (j + ap)) % S.val nq fun j => tq (j + aq)))) fun j => S.at' (S.grp ((S.val np fun j => tp (j + ap)) % S.val nq fun j => tq (j + aq))) j)) j)
noncomputable abbrev c30_e_4 (ap np : Nat) (tp : NI) (aq nq : Nat) (tq : NI) := decide (0 + List.length (S.grp ((S.val nq fun j => tq (j + aq)) - S.val (List.length (c30_e_1 ap np tp aq nq tq)) fun j => S.at' (c30_e_1 ap np tp aq nq tq) j)) ≤ List.length (S.grp ((S.val nq fun j => tq (j + aq)) - S.val (List.length (c30_e_1 ap np tp aq nq tq)) fun j => S.at' (c30_e_1 ap np tp aq nq tq) j)) ∧ List.length (S.grp ((S.val nq fun j => tq (j + aq)) - S.val (List.length (c30_e_1 ap np tp aq nq tq)) fun j => S.at' (c30_e_1 ap np tp aq nq tq) j)) ≤ 1000000 ∧ (S.okD (List.length (S.grp ((S.val nq fun j => tq (j + aq)) - S.val (List.length (c30_e_1 ap np tp aq nq tq)) fun j => S.at' (c30_e_1 ap np tp aq nq tq) j))) fun j => S.at' (S.grp ((S.val nq fun j => tq (j + aq)) - S.val (List.length (c30_e_1 ap np tp aq nq tq)) fun j => S.at' (c30_e_1 ap np tp aq nq tq) j)) j) = true)
noncomputable abbrev c30_e_5 (ap np : Nat) (tp : NI) (aq nq : Nat) (tq : NI) := S.val (Prod.fst (S.grpP ((S.val (List.length (S.grp ((S.val np fun j => tp (j + ap)) / S.val nq fun j => tq (j + aq)))) fun j => S.at' (S.grp ((S.val np fun j => tp (j + ap)) / S.val nq fun j => tq (j + aq))) j) + 1))) fun j => S.at' (Prod.snd (S.grpP ((S.val (List.length (S.grp ((S.val np fun j => tp (j + ap)) / S.val nq fun j => tq (j + aq)))) fun j => S.at' (S.grp ((S.val np fun j => tp (j + ap)) / S.val nq fun j => tq (j + aq))) j) + 1))) j
noncomputable abbrev c30_e_6 (ap np : Nat) (tp : NI) (aq nq : Nat) (tq : NI) := S.val (List.length (S.grp ((S.val nq fun j => tq (j + aq)) - S.val (List.length (S.grp ((S.val np fun j => tp (j + ap)) % S.val nq fun j => tq (j + aq)))) fun j => S.at' (c30_e_1 ap np tp aq nq tq) j))) fun j => S.at' (S.grp ((S.val nq fun j => tq (j + aq)) - S.val (List.length (S.grp ((S.val np fun j => tp (j + ap)) % S.val nq fun j => tq (j + aq)))) fun j => S.at' (c30_e_1 ap np tp aq nq tq) j)) j
noncomputable abbrev c30_e_7 (ap np : Nat) (tp : NI) (aq nq : Nat) (tq : NI) := decide (0 + List.length (S.grp ((S.val np fun j => tp (j + ap)) / S.val nq fun j => tq (j + aq))) ≤ List.length (S.grp ((S.val np fun j => tp (j + ap)) / S.val nq fun j => tq (j + aq))) ∧ List.length (S.grp ((S.val np fun j => tp (j + ap)) / S.val nq fun j => tq (j + aq))) ≤ 1000000 ∧ (S.okD (List.length (S.grp ((S.val np fun j => tp (j + ap)) / S.val nq fun j => tq (j + aq)))) fun j => S.at' (S.grp ((S.val np fun j => tp (j + ap)) / S.val nq fun j => tq (j + aq))) j) = true)
noncomputable abbrev c30_e_8 (ap np : Nat) (tp : NI) (aq nq : Nat) (tq : NI) := S.val (List.length (c30_e_1 ap np tp aq nq tq)) fun j => S.at' (c30_e_1 ap np tp aq nq tq) j
noncomputable abbrev c30_e_9 (ap np : Nat) (tp : NI) (aq nq : Nat) (tq : NI) := S.grp (S.val (Prod.fst (S.grpP ((S.val (List.length (S.grp ((S.val np fun j => tp (j + ap)) / S.val nq fun j => tq (j + aq)))) fun j => S.at' (S.grp ((S.val np fun j => tp (j + ap)) / S.val nq fun j => tq (j + aq))) j) + 1))) fun j => S.at' (Prod.snd (S.grpP ((S.val (List.length (S.grp ((S.val np fun j => tp (j + ap)) / S.val nq fun j => tq (j + aq)))) fun j => S.at' (S.grp ((S.val np fun j => tp (j + ap)) / S.val nq fun j => tq (j + aq))) j) + 1))) j)
noncomputable abbrev c30_e_10 (ap np mp : Nat) (tp : NI) (aq nq mq : Nat) (tq : NI) := ([[(1, false, Blk.cols mq [Col.int .i64 tq]), (0, false, Blk.cols mp [Col.int .i64 tp]), (17, true, Blk.cols (List.length (S.grp (c30_e_8 ap np tp aq nq tq))) [Col.int .i64 fun j => S.at' (S.grp (c30_e_8 ap np tp aq nq tq)) j]), (12, true, Blk.cols (List.length (S.grp (c30_e_0 ap np tp aq nq tq))) [Col.int .i64 fun j => S.at' (S.grp (c30_e_0 ap np tp aq nq tq)) j])]])
noncomputable abbrev c30_e_11 (ap np : Nat) (tp : NI) (aq nq : Nat) (tq : NI) := decide (0 + Prod.fst (S.grpP ((c30_e_0 ap np tp aq nq tq) + 1)) ≤ List.length (Prod.snd (S.grpP ((c30_e_0 ap np tp aq nq tq) + 1))) ∧ Prod.fst (S.grpP ((c30_e_0 ap np tp aq nq tq) + 1)) ≤ 1000000 ∧ (S.okD (Prod.fst (S.grpP ((c30_e_0 ap np tp aq nq tq) + 1))) fun j => S.at' (Prod.snd (S.grpP ((c30_e_0 ap np tp aq nq tq) + 1))) j) = true)
noncomputable abbrev c30_e_12 (mp : Nat) (tp : NI) (mq : Nat) (tq : NI) := ([[(1, false, Blk.cols mq [Col.int .i64 tq]), (0, false, Blk.cols mp [Col.int .i64 tp])]])
noncomputable abbrev c30_e_13 (ap np mp : Nat) (tp : NI) (aq nq mq : Nat) (tq : NI) := ([[(1, false, Blk.cols mq [Col.int .i64 tq]), (0, false, Blk.cols mp [Col.int .i64 tp]), (17, true, Blk.cols (List.length (S.grp (c30_e_8 ap np tp aq nq tq))) [Col.int .i64 fun j => S.at' (S.grp (c30_e_8 ap np tp aq nq tq)) j])]])
noncomputable abbrev c30_e_14 (ap np : Nat) (tp : NI) (aq nq : Nat) (tq : NI) := S.val (List.length (S.grp ((S.val np fun j => tp (j + ap)) / S.val nq fun j => tq (j + aq)))) fun j => S.at' (S.grp ((S.val np fun j => tp (j + ap)) / S.val nq fun j => tq (j + aq))) j
noncomputable abbrev c30_e_15 (ap np : Nat) (tp : NI) (aq nq : Nat) (tq : NI) := S.val (List.length (S.grp ((S.val np fun j => tp (j + ap)) % S.val nq fun j => tq (j + aq)))) fun j => S.at' (S.grp ((S.val np fun j => tp (j + ap)) % S.val nq fun j => tq (j + aq))) j
noncomputable abbrev c30_e_16 (ap np : Nat) (tp : NI) (aq nq : Nat) (tq : NI) := (PV.tup [PV.agg [PV.tf false, PV.nils], PV.agg [PV.bool (S.sgB false (c30_e_8 ap np tp aq nq tq)), PV.own (17) (1) (List.length (S.grp (c30_e_8 ap np tp aq nq tq)))], PV.int .i64 (0 : Int)])
noncomputable abbrev c30_e_17 (ap np mp : Nat) (tp : NI) (aq nq mq : Nat) (tq : NI) := ([[(1, false, Blk.cols mq [Col.int .i64 tq]), (0, false, Blk.cols mp [Col.int .i64 tp]), (22, true, Blk.cols (List.length (S.grp (c30_e_6 ap np tp aq nq tq))) [Col.int .i64 fun j => S.at' (c30_e_3 ap np tp aq nq tq) j]), (17, true, Blk.cols (List.length (S.grp (c30_e_5 ap np tp aq nq tq))) [Col.int .i64 fun j => S.at' (c30_e_9 ap np tp aq nq tq) j])]])
noncomputable abbrev c30_e_18 (ap np : Nat) (tp : NI) (aq nq : Nat) (tq : NI) := S.val (List.length (S.grp ((S.val nq fun j => tq (j + aq)) - S.val (List.length (c30_e_1 ap np tp aq nq tq)) fun j => S.at' (c30_e_1 ap np tp aq nq tq) j))) fun j => S.at' (S.grp ((S.val nq fun j => tq (j + aq)) - S.val (List.length (c30_e_1 ap np tp aq nq tq)) fun j => S.at' (c30_e_1 ap np tp aq nq tq) j)) j
noncomputable abbrev c30_e_19 (ap np : Nat) (tp : NI) (aq nq : Nat) (tq : NI) := (PV.tup [PV.agg [PV.bool (S.sgB false (c30_e_0 ap np tp aq nq tq)), PV.own (12) (1) (List.length (S.grp (c30_e_0 ap np tp aq nq tq)))], PV.agg [PV.bool (S.sgB false (c30_e_8 ap np tp aq nq tq)), PV.own (17) (1) (List.length (S.grp (c30_e_8 ap np tp aq nq tq)))], PV.int .i64 (0 : Int)])
noncomputable abbrev c30_e_20 (ap np : Nat) (tp : NI) (aq nq : Nat) (tq : NI) := (PV.tup [PV.agg [PV.bool (S.sgB true (c30_e_0 ap np tp aq nq tq)), PV.own (12) (1) (List.length (S.grp (c30_e_0 ap np tp aq nq tq)))], PV.agg [PV.bool (S.sgB false (c30_e_8 ap np tp aq nq tq)), PV.own (17) (1) (List.length (S.grp (c30_e_8 ap np tp aq nq tq)))], PV.int .i64 (0 : Int)])
noncomputable abbrev c30_e_21  := (PV.tup [PV.agg [PV.tf false, PV.nils], PV.agg [PV.tf false, PV.nils], PV.int .i64 (3 : Int)])
noncomputable abbrev c30_e_22  := (PV.tup [PV.agg [PV.tf false, PV.nils], PV.agg [PV.tf false, PV.nils], PV.int .i64 (0 : Int)])
noncomputable abbrev c30_e_23 (ap np mp : Nat) (tp : NI) (aq nq mq : Nat) (tq : NI) := ([[(1, false, Blk.cols mq [Col.int .i64 tq]), (0, false, Blk.cols mp [Col.int .i64 tp]), (22, true, Blk.cols (List.length (S.grp (c30_e_6 ap np tp aq nq tq))) [Col.int .i64 fun j => S.at' (c30_e_3 ap np tp aq nq tq) j])]])
abbrev St30  := Empty
abbrev Rt30  := Bool × Bool × Int × List Int × List Int
noncomputable def V30 (n1 : Bool) (ap np mp : Nat) (tp : NI) (n2 : Bool) (aq nq mq : Nat) (tq : NI) (r : Rt30) : PV := PV.tup [PV.agg [PV.bool r.1, PV.own (4) (1) (List.length r.2.2.2.2)], PV.agg [PV.bool r.2.1, PV.own (3) (1) (List.length r.2.2.2.1)], PV.int .i64 r.2.2.1]
noncomputable def N30 (n1 : Bool) (ap np mp : Nat) (tp : NI) (n2 : Bool) (aq nq mq : Nat) (tq : NI) (r : Rt30) : List Blk := [Blk.cols (List.length r.2.2.2.1) [Col.int .i64 fun j => S.at' r.2.2.2.1 j], Blk.cols (List.length r.2.2.2.2) [Col.int .i64 fun j => S.at' r.2.2.2.2 j]]
noncomputable def I30 (n1 : Bool) (ap np mp : Nat) (tp : NI) (n2 : Bool) (aq nq mq : Nat) (tq : NI) : St30 → Hd := fun s => s.elim
noncomputable def q30 (n1 : Bool) (ap np mp : Nat) (tp : NI) (n2 : Bool) (aq nq mq : Nat) (tq : NI) : St30 → Option (St30 ⊕ Rt30) := fun s => s.elim
noncomputable def p30 (n1 : Bool) (ap np mp : Nat) (tp : NI) (n2 : Bool) (aq nq mq : Nat) (tq : NI) : Option (St30 ⊕ Rt30) := bif (decide (ap + np ≤ mp ∧ np ≤ 1000000)) then (bif (S.okI n1 np fun j => tp (j + ap)) then (bif (decide (aq + nq ≤ mq ∧ nq ≤ 1000000)) then (bif (S.okI n2 nq fun j => tq (j + aq)) then (bif ((↑nq : Int) == 0) then (some (.inr (false, false, (13 : Int), [], []))) else (bif (decide ((ap + np ≤ mp ∧ aq + nq ≤ mq) ∧ (np ≤ 900 ∧ nq ≤ 900) ∧ (S.okG np fun j => tp (j + ap)) = true ∧ (S.okG nq fun j => tq (j + aq)) = true ∧ 0 < nq)) then (bif (n1) then (bif (decide ((↑(List.length (S.grp ((S.val np fun j => tp (j + ap)) % S.val nq fun j => tq (j + aq)))) : Int) > 0)) then (bif (decide ((0 + List.length (S.grp ((S.val np fun j => tp (j + ap)) / S.val nq fun j => tq (j + aq))) ≤ List.length (S.grp ((S.val np fun j => tp (j + ap)) / S.val nq fun j => tq (j + aq))) ∧ 1 ≤ 1) ∧ (List.length (S.grp ((S.val np fun j => tp (j + ap)) / S.val nq fun j => tq (j + aq))) ≤ 1000 ∧ 1 ≤ 1000) ∧ (S.okG (List.length (S.grp ((S.val np fun j => tp (j + ap)) / S.val nq fun j => tq (j + aq)))) fun j => S.at' (S.grp ((S.val np fun j => tp (j + ap)) / S.val nq fun j => tq (j + aq))) j) = true ∧ true = true)) then (bif (decide ((aq + nq ≤ mq ∧ 0 + List.length (c30_e_1 ap np tp aq nq tq) ≤ List.length (S.grp ((S.val np fun j => tp (j + ap)) % S.val nq fun j => tq (j + aq)))) ∧ (nq ≤ 1000 ∧ List.length (c30_e_1 ap np tp aq nq tq) ≤ 1000) ∧ (S.okG nq fun j => tq (j + aq)) = true ∧ (S.okG (List.length (c30_e_1 ap np tp aq nq tq)) fun j => S.at' (c30_e_1 ap np tp aq nq tq) j) = true ∧ (c30_e_8 ap np tp aq nq tq) ≤ S.val nq fun j => tq (j + aq))) then (bif (n2) then (bif (c30_e_11 ap np tp aq nq tq) then (bif (decide ((↑(List.length (S.grp (c30_e_5 ap np tp aq nq tq))) : Int) > 80)) then (some (.inr (false, false, (3 : Int), [], []))) else (bif (c30_e_4 ap np tp aq nq tq) then (some (.inr (S.sgB false (S.val (Prod.fst (S.grpP ((c30_e_0 ap np tp aq nq tq) + 1))) fun j => S.at' (Prod.snd (S.grpP ((c30_e_0 ap np tp aq nq tq) + 1))) j), S.sgB false (c30_e_18 ap np tp aq nq tq), (0 : Int), S.grp (c30_e_18 ap np tp aq nq tq), S.grp (S.val (Prod.fst (S.grpP ((c30_e_0 ap np tp aq nq tq) + 1))) fun j => S.at' (Prod.snd (S.grpP ((c30_e_0 ap np tp aq nq tq) + 1))) j)))) else (none))) else (none)) else (bif (c30_e_11 ap np tp aq nq tq) then (bif (decide ((↑(List.length (S.grp (c30_e_5 ap np tp aq nq tq))) : Int) > 80)) then (some (.inr (false, false, (3 : Int), [], []))) else (bif (c30_e_4 ap np tp aq nq tq) then (some (.inr (S.sgB true (S.val (Prod.fst (S.grpP ((c30_e_0 ap np tp aq nq tq) + 1))) fun j => S.at' (Prod.snd (S.grpP ((c30_e_0 ap np tp aq nq tq) + 1))) j), S.sgB false (c30_e_18 ap np tp aq nq tq), (0 : Int), S.grp (c30_e_18 ap np tp aq nq tq), S.grp (S.val (Prod.fst (S.grpP ((c30_e_0 ap np tp aq nq tq) + 1))) fun j => S.at' (Prod.snd (S.grpP ((c30_e_0 ap np tp aq nq tq) + 1))) j)))) else (none))) else (none))) else (none)) else (none)) else (bif (n2) then (bif (c30_e_7 ap np tp aq nq tq) then (bif (decide ((↑(List.length (S.grp (c30_e_0 ap np tp aq nq tq))) : Int) > 80)) then (some (.inr (false, false, (3 : Int), [], []))) else (bif (c30_e_2 ap np tp aq nq tq) then (some (.inr (S.sgB false (c30_e_14 ap np tp aq nq tq), S.sgB false (c30_e_15 ap np tp aq nq tq), (0 : Int), S.grp (c30_e_15 ap np tp aq nq tq), S.grp (c30_e_14 ap np tp aq nq tq)))) else (none))) else (none)) else (bif (c30_e_7 ap np tp aq nq tq) then (bif (decide ((↑(List.length (S.grp (c30_e_0 ap np tp aq nq tq))) : Int) > 80)) then (some (.inr (false, false, (3 : Int), [], []))) else (bif (c30_e_2 ap np tp aq nq tq) then (some (.inr (S.sgB true (c30_e_14 ap np tp aq nq tq), S.sgB false (c30_e_15 ap np tp aq nq tq), (0 : Int), S.grp (c30_e_15 ap np tp aq nq tq), S.grp (c30_e_14 ap np tp aq nq tq)))) else (none))) else (none)))) else (bif (n2) then (bif (c30_e_7 ap np tp aq nq tq) then (bif (decide ((↑(List.length (S.grp (c30_e_0 ap np tp aq nq tq))) : Int) > 80)) then (some (.inr (false, false, (3 : Int), [], []))) else (bif (c30_e_2 ap np tp aq nq tq) then (some (.inr (S.sgB true (c30_e_14 ap np tp aq nq tq), S.sgB false (c30_e_15 ap np tp aq nq tq), (0 : Int), S.grp (c30_e_15 ap np tp aq nq tq), S.grp (c30_e_14 ap np tp aq nq tq)))) else (none))) else (none)) else (bif (c30_e_7 ap np tp aq nq tq) then (bif (decide ((↑(List.length (S.grp (c30_e_0 ap np tp aq nq tq))) : Int) > 80)) then (some (.inr (false, false, (3 : Int), [], []))) else (bif (c30_e_2 ap np tp aq nq tq) then (some (.inr (S.sgB false (c30_e_14 ap np tp aq nq tq), S.sgB false (c30_e_15 ap np tp aq nq tq), (0 : Int), S.grp (c30_e_15 ap np tp aq nq tq), S.grp (c30_e_14 ap np tp aq nq tq)))) else (none))) else (none)))) else (none))) else (some (.inr (false, false, (1 : Int), [], [])))) else (none)) else (some (.inr (false, false, (1 : Int), [], [])))) else (none)
noncomputable abbrev g30_4 (test : TT) (Kst : KS) (Kret : KR) (n1 : Bool) (ap np mp : Nat) (tp : NI) (n2 : Bool) (aq nq mq : Nat) (tq : NI) : Prop := (test (c30_e_7 ap np tp aq nq tq) (test (decide ((↑(List.length (S.grp (c30_e_0 ap np tp aq nq tq))) : Int) > 80)) (test (true) (Kret (c30_e_21) (c30_e_12 mp tp mq tq) (16)) (test (c30_e_2 ap np tp aq nq tq) (Kret (c30_e_16 ap np tp aq nq tq) (c30_e_13 ap np mp tp aq nq mq tq) (18)) (False))) (test (false) (Kret (c30_e_22) (c30_e_12 mp tp mq tq) (16)) (test (c30_e_2 ap np tp aq nq tq) (Kret (c30_e_19 ap np tp aq nq tq) (c30_e_10 ap np mp tp aq nq mq tq) (18)) (False)))) (False))
noncomputable abbrev g30_3 (test : TT) (Kst : KS) (Kret : KR) (n1 : Bool) (ap np mp : Nat) (tp : NI) (n2 : Bool) (aq nq mq : Nat) (tq : NI) : Prop := (test (c30_e_7 ap np tp aq nq tq) (test (decide ((↑(List.length (S.grp (c30_e_0 ap np tp aq nq tq))) : Int) > 80)) (test (true) (Kret (c30_e_21) (c30_e_12 mp tp mq tq) (16)) (test (c30_e_2 ap np tp aq nq tq) (Kret (c30_e_16 ap np tp aq nq tq) (c30_e_13 ap np mp tp aq nq mq tq) (18)) (False))) (test (false) (Kret (c30_e_22) (c30_e_12 mp tp mq tq) (16)) (test (c30_e_2 ap np tp aq nq tq) (Kret (c30_e_20 ap np tp aq nq tq) (c30_e_10 ap np mp tp aq nq mq tq) (18)) (False)))) (False))
noncomputable abbrev g30_0 (test : TT) (Kst : KS) (Kret : KR) (n1 : Bool) (ap np mp : Nat) (tp : NI) (n2 : Bool) (aq nq mq : Nat) (tq : NI) : Prop := (test (n1) (test (n2) (g30_4 test Kst Kret n1 ap np mp tp n2 aq nq mq tq) (g30_3 test Kst Kret n1 ap np mp tp n2 aq nq mq tq)) (test (n2) (g30_3 test Kst Kret n1 ap np mp tp n2 aq nq mq tq) (g30_4 test Kst Kret n1 ap np mp tp n2 aq nq mq tq)))
noncomputable abbrev g30_1 (test : TT) (Kst : KS) (Kret : KR) (n1 : Bool) (ap np mp : Nat) (tp : NI) (n2 : Bool) (aq nq mq : Nat) (tq : NI) : Prop := (test (c30_e_11 ap np tp aq nq tq) (test (decide ((↑(List.length (S.grp (c30_e_5 ap np tp aq nq tq))) : Int) > 80)) (test (true) (Kret (c30_e_21) (c30_e_12 mp tp mq tq) (21)) (test (c30_e_4 ap np tp aq nq tq) (Kret (PV.tup [PV.agg [PV.tf false, PV.nils], PV.agg [PV.bool (S.sgB false (c30_e_6 ap np tp aq nq tq)), PV.own (22) (1) (List.length (c30_e_3 ap np tp aq nq tq))], PV.int .i64 (0 : Int)]) (c30_e_23 ap np mp tp aq nq mq tq) (23)) (False))) (test (false) (Kret (c30_e_22) (c30_e_12 mp tp mq tq) (21)) (test (c30_e_4 ap np tp aq nq tq) (Kret (PV.tup [PV.agg [PV.bool (S.sgB false (c30_e_5 ap np tp aq nq tq)), PV.own (17) (1) (List.length (c30_e_9 ap np tp aq nq tq))], PV.agg [PV.bool (S.sgB false (c30_e_6 ap np tp aq nq tq)), PV.own (22) (1) (List.length (c30_e_3 ap np tp aq nq tq))], PV.int .i64 (0 : Int)]) (c30_e_17 ap np mp tp aq nq mq tq) (23)) (False)))) (False))
noncomputable abbrev g30_2 (test : TT) (Kst : KS) (Kret : KR) (n1 : Bool) (ap np mp : Nat) (tp : NI) (n2 : Bool) (aq nq mq : Nat) (tq : NI) : Prop := (test (c30_e_11 ap np tp aq nq tq) (test (decide ((↑(List.length (S.grp (c30_e_5 ap np tp aq nq tq))) : Int) > 80)) (test (true) (Kret (c30_e_21) (c30_e_12 mp tp mq tq) (21)) (test (c30_e_4 ap np tp aq nq tq) (Kret (PV.tup [PV.agg [PV.tf false, PV.nils], PV.agg [PV.bool (S.sgB false (c30_e_6 ap np tp aq nq tq)), PV.own (22) (1) (List.length (c30_e_3 ap np tp aq nq tq))], PV.int .i64 (0 : Int)]) (c30_e_23 ap np mp tp aq nq mq tq) (23)) (False))) (test (false) (Kret (c30_e_22) (c30_e_12 mp tp mq tq) (21)) (test (c30_e_4 ap np tp aq nq tq) (Kret (PV.tup [PV.agg [PV.bool (S.sgB true (c30_e_5 ap np tp aq nq tq)), PV.own (17) (1) (List.length (c30_e_9 ap np tp aq nq tq))], PV.agg [PV.bool (S.sgB false (c30_e_6 ap np tp aq nq tq)), PV.own (22) (1) (List.length (c30_e_3 ap np tp aq nq tq))], PV.int .i64 (0 : Int)]) (c30_e_17 ap np mp tp aq nq mq tq) (23)) (False)))) (False))
noncomputable def Te30 (test : TT) (Kst : KS) (Kret : KR) (n1 : Bool) (ap np mp : Nat) (tp : NI) (n2 : Bool) (aq nq mq : Nat) (tq : NI) : Prop := test (decide (ap + np ≤ mp ∧ np ≤ 1000000)) (test (S.okI n1 np fun j => tp (j + ap)) (test (decide (aq + nq ≤ mq ∧ nq ≤ 1000000)) (test (S.okI n2 nq fun j => tq (j + aq)) (test ((↑nq : Int) == 0) (Kret (PV.tup [PV.agg [PV.tf false, PV.nils], PV.agg [PV.tf false, PV.nils], PV.int .i64 (13 : Int)]) (c30_e_12 mp tp mq tq) (8)) (test (decide ((ap + np ≤ mp ∧ aq + nq ≤ mq) ∧ (np ≤ 900 ∧ nq ≤ 900) ∧ (S.okG np fun j => tp (j + ap)) = true ∧ (S.okG nq fun j => tq (j + aq)) = true ∧ 0 < nq)) (test (n1) (test (decide ((↑(List.length (S.grp ((S.val np fun j => tp (j + ap)) % S.val nq fun j => tq (j + aq)))) : Int) > 0)) (test (decide ((0 + List.length (S.grp ((S.val np fun j => tp (j + ap)) / S.val nq fun j => tq (j + aq))) ≤ List.length (S.grp ((S.val np fun j => tp (j + ap)) / S.val nq fun j => tq (j + aq))) ∧ 1 ≤ 1) ∧ (List.length (S.grp ((S.val np fun j => tp (j + ap)) / S.val nq fun j => tq (j + aq))) ≤ 1000 ∧ 1 ≤ 1000) ∧ (S.okG (List.length (S.grp ((S.val np fun j => tp (j + ap)) / S.val nq fun j => tq (j + aq)))) fun j => S.at' (S.grp ((S.val np fun j => tp (j + ap)) / S.val nq fun j => tq (j + aq))) j) = true ∧ true = true)) (test (decide ((aq + nq ≤ mq ∧ 0 + List.length (c30_e_1 ap np tp aq nq tq) ≤ List.length (S.grp ((S.val np fun j => tp (j + ap)) % S.val nq fun j => tq (j + aq)))) ∧ (nq ≤ 1000 ∧ List.length (c30_e_1 ap np tp aq nq tq) ≤ 1000) ∧ (S.okG nq fun j => tq (j + aq)) = true ∧ (S.okG (List.length (c30_e_1 ap np tp aq nq tq)) fun j => S.at' (c30_e_1 ap np tp aq nq tq) j) = true ∧ (c30_e_8 ap np tp aq nq tq) ≤ S.val nq fun j => tq (j + aq))) (test (n1) (test (n2) (g30_1 test Kst Kret n1 ap np mp tp n2 aq nq mq tq) (g30_2 test Kst Kret n1 ap np mp tp n2 aq nq mq tq)) (test (n2) (g30_2 test Kst Kret n1 ap np mp tp n2 aq nq mq tq) (g30_1 test Kst Kret n1 ap np mp tp n2 aq nq mq tq))) (False)) (False)) (g30_0 test Kst Kret n1 ap np mp tp n2 aq nq mq tq)) (g30_0 test Kst Kret n1 ap np mp tp n2 aq nq mq tq)) (False))) (Kret (PV.tup [PV.agg [PV.tf false, PV.nils], PV.agg [PV.tf false, PV.nils], PV.int .i64 (1 : Int)]) (c30_e_12 mp tp mq tq) (8))) (False)) (Kret (PV.tup [PV.agg [PV.tf false, PV.nils], PV.agg [PV.tf false, PV.nils], PV.int .i64 (1 : Int)]) (c30_e_12 mp tp mq tq) (7))) (False)
theorem te30 (test : TT) (Kst : KS) (Kret : KR) (n1 : Bool) (ap np mp : Nat) (tp : NI) (n2 : Bool) (aq nq mq : Nat) (tq : NI) : run test Tryd.env true (xG2 test) true 400 ⟨30, [.cd (mkFn Tryd.f30).body], argT 0 [.agg [.bool n1, .loose ⟨0, 1, ap, 0⟩ np], .agg [.bool n2, .loose ⟨1, 1, aq, 0⟩ nq]], [[], [(0, (false, .cols mp [.int .i64 tp])), (1, (false, .cols mq [.int .i64 tq]))]], 2⟩ (proj 2 [] Kst Kret) =
  Te30 test Kst Kret n1 ap np mp tp n2 aq nq mq tq := by kernel_rfl
noncomputable abbrev J30 (n1 : Bool) (ap np mp : Nat) (tp : NI) (n2 : Bool) (aq nq mq : Nat) (tq : NI) : Rt30 → Heap := fun r => [newL (2 + 1) ((N30 n1 ap np mp tp n2 aq nq mq tq) r) ++ [(0, (false, .cols mp [.int .i64 tp])), (1, (false, .cols mq [.int .i64 tq]))]]
attribute [local irreducible] Int.subNatNat in
theorem be30 (n1 : Bool) (ap np mp : Nat) (tp : NI) (n2 : Bool) (aq nq mq : Nat) (tq : NI) (Kst : KS) (Kret : KR) (x : St30 ⊕ Rt30) (hS : HS 2 400 ((I30 n1 ap np mp tp n2 aq nq mq tq)) Kst x) (hR : HR 2 400 ((V30 n1 ap np mp tp n2 aq nq mq tq)) (J30 n1 ap np mp tp n2 aq nq mq tq) Kret x) (h : p30 n1 ap np mp tp n2 aq nq mq tq = some x) : Te30 cond Kst Kret n1 ap np mp tp n2 aq nq mq tq := by
  unfold Te30
  unfold p30 at h
  refine bif_split h (fun c0 h => bif_split h (fun c1 h => bif_split h (fun c2 h => bif_split h (fun c3 h => bif_split h (fun c4 h => ?_) (fun c4 h => bif_split h (fun c5 h => bif_split h (fun c6 h => bif_split h (fun c7 h => bif_split h (fun c8 h => bif_split h (fun c9 h => cond_yes c6 (bif_split h (fun c10 h => bif_split h (fun c11 h => bif_split h (fun c12 h => cond_yes rfl (ret_at hR _ h (fun n => bif Nat.beq n 3 then 399 else bif Nat.beq n 4 then 398 else n) rfl rfl rfl (rn_tup ⟨(rn_agg ⟨(rn_bool_tf rfl), (rn_own_nils rfl), trivial⟩), (rn_agg ⟨(rn_bool_tf rfl), (rn_own_nils rfl), trivial⟩), (rn_int rfl), trivial⟩) rfl (entl_fresh (use_own rfl) (fresh_ok rfl) (entl_fresh (use_own rfl) (fresh_ok rfl) (entl_bor (use_lo rfl) rfl rfl (entl_bor (use_lo rfl) rfl rfl entl_nil)))))) (fun c12 h => cond_no rfl (bif_split h (fun c13 h => ?_) (fun c13 h => ?_)))) (fun c11 h => ?_)) (fun c10 h => bif_split h (fun c11 h => bif_split h (fun c12 h => cond_yes rfl (ret_at hR _ h (fun n => bif Nat.beq n 3 then 399 else bif Nat.beq n 4 then 398 else n) rfl rfl rfl (rn_tup ⟨(rn_agg ⟨(rn_bool_tf rfl), (rn_own_nils rfl), trivial⟩), (rn_agg ⟨(rn_bool_tf rfl), (rn_own_nils rfl), trivial⟩), (rn_int rfl), trivial⟩) rfl (entl_fresh (use_own rfl) (fresh_ok rfl) (entl_fresh (use_own rfl) (fresh_ok rfl) (entl_bor (use_lo rfl) rfl rfl (entl_bor (use_lo rfl) rfl rfl entl_nil)))))) (fun c12 h => cond_no rfl (bif_split h (fun c13 h => ?_) (fun c13 h => ?_)))) (fun c11 h => ?_)))) (fun c9 h => ?_)) (fun c8 h => ?_)) (fun c7 h => cond_yes c6 (bif_split h (fun c8 h => bif_split h (fun c9 h => bif_split h (fun c10 h => cond_yes rfl (ret_at hR _ h (fun n => bif Nat.beq n 3 then 399 else bif Nat.beq n 4 then 398 else n) rfl rfl rfl (rn_tup ⟨(rn_agg ⟨(rn_bool_tf rfl), (rn_own_nils rfl), trivial⟩), (rn_agg ⟨(rn_bool_tf rfl), (rn_own_nils rfl), trivial⟩), (rn_int rfl), trivial⟩) rfl (entl_fresh (use_own rfl) (fresh_ok rfl) (entl_fresh (use_own rfl) (fresh_ok rfl) (entl_bor (use_lo rfl) rfl rfl (entl_bor (use_lo rfl) rfl rfl entl_nil)))))) (fun c10 h => cond_no rfl (bif_split h (fun c11 h => ?_) (fun c11 h => ?_)))) (fun c9 h => ?_)) (fun c8 h => bif_split h (fun c9 h => bif_split h (fun c10 h => cond_yes rfl (ret_at hR _ h (fun n => bif Nat.beq n 3 then 399 else bif Nat.beq n 4 then 398 else n) rfl rfl rfl (rn_tup ⟨(rn_agg ⟨(rn_bool_tf rfl), (rn_own_nils rfl), trivial⟩), (rn_agg ⟨(rn_bool_tf rfl), (rn_own_nils rfl), trivial⟩), (rn_int rfl), trivial⟩) rfl (entl_fresh (use_own rfl) (fresh_ok rfl) (entl_fresh (use_own rfl) (fresh_ok rfl) (entl_bor (use_lo rfl) rfl rfl (entl_bor (use_lo rfl) rfl rfl entl_nil)))))) (fun c10 h => cond_no rfl (bif_split h (fun c11 h => ?_) (fun c11 h => ?_)))) (fun c9 h => ?_))))) (fun c6 h => cond_no c6 (bif_split h (fun c7 h => bif_split h (fun c8 h => bif_split h (fun c9 h => cond_yes rfl (ret_at hR _ h (fun n => bif Nat.beq n 3 then 399 else bif Nat.beq n 4 then 398 else n) rfl rfl rfl (rn_tup ⟨(rn_agg ⟨(rn_bool_tf rfl), (rn_own_nils rfl), trivial⟩), (rn_agg ⟨(rn_bool_tf rfl), (rn_own_nils rfl), trivial⟩), (rn_int rfl), trivial⟩) rfl (entl_fresh (use_own rfl) (fresh_ok rfl) (entl_fresh (use_own rfl) (fresh_ok rfl) (entl_bor (use_lo rfl) rfl rfl (entl_bor (use_lo rfl) rfl rfl entl_nil)))))) (fun c9 h => cond_no rfl (bif_split h (fun c10 h => ?_) (fun c10 h => ?_)))) (fun c8 h => ?_)) (fun c7 h => bif_split h (fun c8 h => bif_split h (fun c9 h => cond_yes rfl (ret_at hR _ h (fun n => bif Nat.beq n 3 then 399 else bif Nat.beq n 4 then 398 else n) rfl rfl rfl (rn_tup ⟨(rn_agg ⟨(rn_bool_tf rfl), (rn_own_nils rfl), trivial⟩), (rn_agg ⟨(rn_bool_tf rfl), (rn_own_nils rfl), trivial⟩), (rn_int rfl), trivial⟩) rfl (entl_fresh (use_own rfl) (fresh_ok rfl) (entl_fresh (use_own rfl) (fresh_ok rfl) (entl_bor (use_lo rfl) rfl rfl (entl_bor (use_lo rfl) rfl rfl entl_nil)))))) (fun c9 h => cond_no rfl (bif_split h (fun c10 h => ?_) (fun c10 h => ?_)))) (fun c8 h => ?_))))) (fun c5 h => ?_))) (fun c3 h => ?_)) (fun c2 h => ?_)) (fun c1 h => ?_)) (fun c0 h => ?_)
  all_goals first
    | exact no_some h
    | exact ret_at hR _ h (fun n => bif Nat.beq n 3 then 17 else bif Nat.beq n 4 then 12 else n) rfl rfl rfl (rn_tup ⟨(rn_agg ⟨(rn_bool rfl), (rn_own (use_own rfl) rfl rfl), trivial⟩), (rn_agg ⟨(rn_bool rfl), (rn_own (use_own rfl) rfl rfl), trivial⟩), (rn_int rfl), trivial⟩) rfl (entl_new (use_own rfl) rfl (Nat.le_of_eq rfl) (rcs_int (fun _ _ => rfl) rcs_nil) (entl_new (use_own rfl) rfl (Nat.le_of_eq rfl) (rcs_int (fun _ _ => rfl) rcs_nil) (entl_bor (use_lo rfl) rfl rfl (entl_bor (use_lo rfl) rfl rfl entl_nil))))
    | exact ret_at hR _ h (fun n => bif Nat.beq n 3 then 399 else bif Nat.beq n 4 then 398 else n) rfl rfl rfl (rn_tup ⟨(rn_agg ⟨(rn_bool_tf rfl), (rn_own_nils rfl), trivial⟩), (rn_agg ⟨(rn_bool_tf rfl), (rn_own_nils rfl), trivial⟩), (rn_int rfl), trivial⟩) rfl (entl_fresh (use_own rfl) (fresh_ok rfl) (entl_fresh (use_own rfl) (fresh_ok rfl) (entl_bor (use_lo rfl) rfl rfl (entl_bor (use_lo rfl) rfl rfl entl_nil))))
    | exact ret_at hR _ h (fun n => bif Nat.beq n 3 then 22 else bif Nat.beq n 4 then 17 else n) rfl rfl rfl (rn_tup ⟨(rn_agg ⟨(rn_bool rfl), (rn_own (use_own rfl) rfl rfl), trivial⟩), (rn_agg ⟨(rn_bool rfl), (rn_own (use_own rfl) rfl rfl), trivial⟩), (rn_int rfl), trivial⟩) rfl (entl_new (use_own rfl) rfl (Nat.le_of_eq rfl) (rcs_int (fun _ _ => rfl) rcs_nil) (entl_new (use_own rfl) rfl (Nat.le_of_eq rfl) (rcs_int (fun _ _ => rfl) rcs_nil) (entl_bor (use_lo rfl) rfl rfl (entl_bor (use_lo rfl) rfl rfl entl_nil))))
theorem a30 (n1 : Bool) (ap np mp : Nat) (tp : NI) (n2 : Bool) (aq nq mq : Nat) (tq : NI) {r : Rt30} (h : Goes ((q30 n1 ap np mp tp n2 aq nq mq tq)) ((p30 n1 ap np mp tp n2 aq nq mq tq)) r) : CallR Tryd.prog 30 [.agg [.bool n1, .loose ⟨0, 1, ap, 0⟩ np], .agg [.bool n2, .loose ⟨1, 1, aq, 0⟩ nq]] [[(0, (false, .cols mp [.int .i64 tp])), (1, (false, .cols mq [.int .i64 tq]))]] 2 ((V30 n1 ap np mp tp n2 aq nq mq tq) r) ((J30 n1 ap np mp tp n2 aq nq mq tq) r) 400 ∧ ∃ F, Tryd.prog.funcs[30]? = some F ∧ F.body.isSome = true ∧ (F.name == "runtime.NumGoroutine") = false := by
  refine dec_calls (f := 30) (lo := 2) (hi := 400) Tryd.envOk Tryd.mixed xG2_ok ((I30 n1 ap np mp tp n2 aq nq mq tq)) ((V30 n1 ap np mp tp n2 aq nq mq tq)) (J30 n1 ap np mp tp n2 aq nq mq tq) (fn := mkFn Tryd.f30) (ts := []) (n := 400) rfl (by decide) (by simp) (names_of rfl) ?_ ?_ ?_ h
  · intro s; exact s.elim
  · intro Kst Kret x hS hR h
    exact Holds.eq (te30 cond Kst Kret n1 ap np mp tp n2 aq nq mq tq) (be30 n1 ap np mp tp n2 aq nq mq tq Kst Kret x hS hR h)
  · intro Kst Kret x hS hR s h; exact s.elim
end Go.Ev
