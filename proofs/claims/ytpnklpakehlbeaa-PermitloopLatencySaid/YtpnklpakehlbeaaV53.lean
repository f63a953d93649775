/-
  The parts that the statement needs, 3 of 4.
-/
import Derived.Test.YtpnklpakehlbeaaV52
namespace Go.Ev
open Go.Proofs
open Go.IntWalk
set_option linter.unusedVariables false
set_option linter.unusedSimpArgs false
set_option maxRecDepth 100000
theorem t69_0 (test : Bool → Prop → Prop → Prop) (Kst : KS) (Kret : KR) (aq nq mq : Nat) (tq : Nat → ByteArray) (vq : Nat → Int) (gq : Nat → Int) (de : Int) (st : Int) (x0 : Int) (x1 : Int) (x2 : Int) : run test Try.env true noX true 400 ⟨69, hd Try.f69 0, zipT [1, 6, 7, 15, 16, 17] [PV.int IntKind.i64 st, PV.int IntKind.i64 x0, PV.int IntKind.i64 x1,
 PV.loose (PA.mk (0) (3) aq (0)) nq, PV.int IntKind.i64 (↑nq : Int),
 PV.int IntKind.i64 x2], [[], [(0, (false, .cols mq [.str tq, .int .i64 vq, .int .i64 gq]))]], 1⟩ (proj 1 [1, 6, 7, 15, 16, 17] Kst Kret) =
  T69_0 test Kst Kret aq nq mq tq vq gq de st x0 x1 x2 := by kernel_rfl
theorem be69 (aq nq mq : Nat) (tq : Nat → ByteArray) (vq : Nat → Int) (gq : Nat → Int) (de : Int) (st : Int) (Kst : KS) (Kret : KR) (x : St69 ⊕ Rt69) (hS : HS 1 400 ((I69 aq nq mq tq vq gq de st)) Kst x) (hR : HR 1 400 ((V69 aq nq mq tq vq gq de st)) (fun r => [newL (1 + 1) ((N69 aq nq mq tq vq gq de st) r) ++ [(0, (false, .cols mq [.str tq, .int .i64 vq, .int .i64 gq]))]]) Kret x) (h : (some (.inl (.h0 (de) (de) ((0 : Int)))) : Option (St69 ⊕ Rt69)) = some x) : Te69 cond Kst Kret aq nq mq tq vq gq de st := by
  unfold Te69
  exact stop_at hS _ h (fun n => n) rfl rfl rfl ⟨(rn_int rfl), ⟨(rn_int rfl), ⟨(rn_int rfl), ⟨(rn_loose (use_lo rfl) rfl rfl rfl), ⟨(rn_int rfl), ⟨(rn_int rfl), trivial⟩⟩⟩⟩⟩⟩ rfl (entl_bor (use_lo rfl) rfl rfl entl_nil)
theorem b69_0 (aq nq mq : Nat) (tq : Nat → ByteArray) (vq : Nat → Int) (gq : Nat → Int) (de : Int) (st : Int) (Kst : KS) (Kret : KR) (x : St69 ⊕ Rt69) (hS : HS 1 400 ((I69 aq nq mq tq vq gq de st)) Kst x) (hR : HR 1 400 ((V69 aq nq mq tq vq gq de st)) (fun r => [newL (1 + 1) ((N69 aq nq mq tq vq gq de st) r) ++ [(0, (false, .cols mq [.str tq, .int .i64 vq, .int .i64 gq]))]]) Kret x) (x0 : Int) (x1 : Int) (x2 : Int) (h : (bif (decide (x2 < (↑nq : Int)))
 then (bif (decide ((0 : Int) ≤ x2 ∧ x2 < (↑nq : Int)))
 then (bif (decide (Int.toNat x2 + aq < mq))
 then (bif (decide (x2 ≥ st))
 then (bif (lim IntKind.i64 (vq (Int.toNat x2 + aq) + gq (Int.toNat x2 + aq)))
 then (bif (lim IntKind.i64 (x0 + (vq (Int.toNat x2 + aq) + gq (Int.toNat x2 + aq))))
 then (bif (st == (0 : Int))
 then (bif (lim IntKind.i64 (x1 + (vq (Int.toNat x2 + aq) + gq (Int.toNat x2 + aq))))
 then (bif (lim IntKind.i64 (x2 + (1 : Int)))
 then (some (.inl (.h0 (x0 + (vq (Int.toNat x2 + aq) + gq (Int.toNat x2 + aq))) (x1 + (vq (Int.toNat x2 + aq) + gq (Int.toNat x2 + aq))) (x2 + (1 : Int)))))
 else (none))
 else (none))
 else (bif (x2 == (0 : Int))
 then (bif (lim IntKind.i64 (x1 + gq (Int.toNat x2 + aq)))
 then (bif (lim IntKind.i64 (x2 + (1 : Int)))
 then (some (.inl (.h0 (x0 + (vq (Int.toNat x2 + aq) + gq (Int.toNat x2 + aq))) (x1 + gq (Int.toNat x2 + aq)) (x2 + (1 : Int)))))
 else (none))
 else (none))
 else (bif (decide (x2 < st))
 then (bif (lim IntKind.i64 (x1 + (vq (Int.toNat x2 + aq) + gq (Int.toNat x2 + aq))))
 then (bif (lim IntKind.i64 (x2 + (1 : Int)))
 then (some (.inl (.h0 (x0 + (vq (Int.toNat x2 + aq) + gq (Int.toNat x2 + aq))) (x1 + (vq (Int.toNat x2 + aq) + gq (Int.toNat x2 + aq))) (x2 + (1 : Int)))))
 else (none))
 else (none))
 else (bif (x2 == st)
 then (bif (lim IntKind.i64 (x1 + vq (Int.toNat x2 + aq)))
 then (bif (lim IntKind.i64 (x2 + (1 : Int)))
 then (some (.inl (.h0 (x0 + (vq (Int.toNat x2 + aq) + gq (Int.toNat x2 + aq))) (x1 + vq (Int.toNat x2 + aq)) (x2 + (1 : Int)))))
 else (none))
 else (none))
 else (bif (lim IntKind.i64 (x2 + (1 : Int)))
 then (some (.inl (.h0 (x0 + (vq (Int.toNat x2 + aq) + gq (Int.toNat x2 + aq))) (x1) (x2 + (1 : Int)))))
 else (none))))))
 else (none))
 else (none))
 else (bif (st == (0 : Int))
 then (bif (lim IntKind.i64 (vq (Int.toNat x2 + aq) + gq (Int.toNat x2 + aq)))
 then (bif (lim IntKind.i64 (x1 + (vq (Int.toNat x2 + aq) + gq (Int.toNat x2 + aq))))
 then (bif (lim IntKind.i64 (x2 + (1 : Int)))
 then (some (.inl (.h0 (x0) (x1 + (vq (Int.toNat x2 + aq) + gq (Int.toNat x2 + aq))) (x2 + (1 : Int)))))
 else (none))
 else (none))
 else (none))
 else (bif (x2 == (0 : Int))
 then (bif (lim IntKind.i64 (x1 + gq (Int.toNat x2 + aq)))
 then (bif (lim IntKind.i64 (x2 + (1 : Int)))
 then (some (.inl (.h0 (x0) (x1 + gq (Int.toNat x2 + aq)) (x2 + (1 : Int)))))
 else (none))
 else (none))
 else (bif (decide (x2 < st))
 then (bif (lim IntKind.i64 (vq (Int.toNat x2 + aq) + gq (Int.toNat x2 + aq)))
 then (bif (lim IntKind.i64 (x1 + (vq (Int.toNat x2 + aq) + gq (Int.toNat x2 + aq))))
 then (bif (lim IntKind.i64 (x2 + (1 : Int)))
 then (some (.inl (.h0 (x0) (x1 + (vq (Int.toNat x2 + aq) + gq (Int.toNat x2 + aq))) (x2 + (1 : Int)))))
 else (none))
 else (none))
 else (none))
 else (bif (x2 == st)
 then (bif (lim IntKind.i64 (x1 + vq (Int.toNat x2 + aq)))
 then (bif (lim IntKind.i64 (x2 + (1 : Int)))
 then (some (.inl (.h0 (x0) (x1 + vq (Int.toNat x2 + aq)) (x2 + (1 : Int)))))
 else (none))
 else (none))
 else (bif (lim IntKind.i64 (x2 + (1 : Int)))
 then (some (.inl (.h0 (x0) (x1) (x2 + (1 : Int)))))
 else (none)))))))
 else (none))
 else (none))
 else (some (.inr (x0, x1))) : Option (St69 ⊕ Rt69)) = some x) : T69_0 cond Kst Kret aq nq mq tq vq gq de st x0 x1 x2 := by
  unfold T69_0
  exact bif_split h
   (fun c0 h => bif_split h
   (fun c1 h => bif_split h
   (fun c2 h => cond_yes c2 (cond_yes c2 (bif_split h
   (fun c3 h => bif_split h
   (fun c4 h => bif_split h
   (fun c5 h => bif_split h
   (fun c6 h => cond_yes c4 (bif_split h
   (fun c7 h => bif_split h
   (fun c8 h => stop_at hS _ h (fun n => n) rfl rfl rfl ⟨(rn_int rfl), ⟨(rn_int rfl), ⟨(rn_int rfl), ⟨(rn_loose (use_lo rfl) rfl rfl rfl), ⟨(rn_int rfl), ⟨(rn_int rfl), trivial⟩⟩⟩⟩⟩⟩ rfl (entl_bor (use_lo rfl) rfl rfl entl_nil))
   (fun c8 h => no_some h))
   (fun c7 h => no_some h)))
   (fun c6 h => bif_split h
   (fun c7 h => bif_split h
   (fun c8 h => bif_split h
   (fun c9 h => stop_at hS _ h (fun n => n) rfl rfl rfl ⟨(rn_int rfl), ⟨(rn_int rfl), ⟨(rn_int rfl), ⟨(rn_loose (use_lo rfl) rfl rfl rfl), ⟨(rn_int rfl), ⟨(rn_int rfl), trivial⟩⟩⟩⟩⟩⟩ rfl (entl_bor (use_lo rfl) rfl rfl entl_nil))
   (fun c9 h => no_some h))
   (fun c8 h => no_some h))
   (fun c7 h => bif_split h
   (fun c8 h => cond_yes c4 (bif_split h
   (fun c9 h => bif_split h
   (fun c10 h => stop_at hS _ h (fun n => n) rfl rfl rfl ⟨(rn_int rfl), ⟨(rn_int rfl), ⟨(rn_int rfl), ⟨(rn_loose (use_lo rfl) rfl rfl rfl), ⟨(rn_int rfl), ⟨(rn_int rfl), trivial⟩⟩⟩⟩⟩⟩ rfl (entl_bor (use_lo rfl) rfl rfl entl_nil))
   (fun c10 h => no_some h))
   (fun c9 h => no_some h)))
   (fun c8 h => bif_split h
   (fun c9 h => bif_split h
   (fun c10 h => bif_split h
   (fun c11 h => stop_at hS _ h (fun n => n) rfl rfl rfl ⟨(rn_int rfl), ⟨(rn_int rfl), ⟨(rn_int rfl), ⟨(rn_loose (use_lo rfl) rfl rfl rfl), ⟨(rn_int rfl), ⟨(rn_int rfl), trivial⟩⟩⟩⟩⟩⟩ rfl (entl_bor (use_lo rfl) rfl rfl entl_nil))
   (fun c11 h => no_some h))
   (fun c10 h => no_some h))
   (fun c9 h => bif_split h
   (fun c10 h => stop_at hS _ h (fun n => n) rfl rfl rfl ⟨(rn_int rfl), ⟨(rn_int rfl), ⟨(rn_int rfl), ⟨(rn_loose (use_lo rfl) rfl rfl rfl), ⟨(rn_int rfl), ⟨(rn_int rfl), trivial⟩⟩⟩⟩⟩⟩ rfl (entl_bor (use_lo rfl) rfl rfl entl_nil))
   (fun c10 h => no_some h))))))
   (fun c5 h => no_some h))
   (fun c4 h => no_some h))
   (fun c3 h => bif_split h
   (fun c4 h => bif_split h
   (fun c5 h => bif_split h
   (fun c6 h => bif_split h
   (fun c7 h => stop_at hS _ h (fun n => n) rfl rfl rfl ⟨(rn_int rfl), ⟨(rn_int rfl), ⟨(rn_int rfl), ⟨(rn_loose (use_lo rfl) rfl rfl rfl), ⟨(rn_int rfl), ⟨(rn_int rfl), trivial⟩⟩⟩⟩⟩⟩ rfl (entl_bor (use_lo rfl) rfl rfl entl_nil))
   (fun c7 h => no_some h))
   (fun c6 h => no_some h))
   (fun c5 h => no_some h))
   (fun c4 h => bif_split h
   (fun c5 h => bif_split h
   (fun c6 h => bif_split h
   (fun c7 h => stop_at hS _ h (fun n => n) rfl rfl rfl ⟨(rn_int rfl), ⟨(rn_int rfl), ⟨(rn_int rfl), ⟨(rn_loose (use_lo rfl) rfl rfl rfl), ⟨(rn_int rfl), ⟨(rn_int rfl), trivial⟩⟩⟩⟩⟩⟩ rfl (entl_bor (use_lo rfl) rfl rfl entl_nil))
   (fun c7 h => no_some h))
   (fun c6 h => no_some h))
   (fun c5 h => bif_split h
   (fun c6 h => bif_split h
   (fun c7 h => bif_split h
   (fun c8 h => bif_split h
   (fun c9 h => stop_at hS _ h (fun n => n) rfl rfl rfl ⟨(rn_int rfl), ⟨(rn_int rfl), ⟨(rn_int rfl), ⟨(rn_loose (use_lo rfl) rfl rfl rfl), ⟨(rn_int rfl), ⟨(rn_int rfl), trivial⟩⟩⟩⟩⟩⟩ rfl (entl_bor (use_lo rfl) rfl rfl entl_nil))
   (fun c9 h => no_some h))
   (fun c8 h => no_some h))
   (fun c7 h => no_some h))
   (fun c6 h => bif_split h
   (fun c7 h => bif_split h
   (fun c8 h => bif_split h
   (fun c9 h => stop_at hS _ h (fun n => n) rfl rfl rfl ⟨(rn_int rfl), ⟨(rn_int rfl), ⟨(rn_int rfl), ⟨(rn_loose (use_lo rfl) rfl rfl rfl), ⟨(rn_int rfl), ⟨(rn_int rfl), trivial⟩⟩⟩⟩⟩⟩ rfl (entl_bor (use_lo rfl) rfl rfl entl_nil))
   (fun c9 h => no_some h))
   (fun c8 h => no_some h))
   (fun c7 h => bif_split h
   (fun c8 h => stop_at hS _ h (fun n => n) rfl rfl rfl ⟨(rn_int rfl), ⟨(rn_int rfl), ⟨(rn_int rfl), ⟨(rn_loose (use_lo rfl) rfl rfl rfl), ⟨(rn_int rfl), ⟨(rn_int rfl), trivial⟩⟩⟩⟩⟩⟩ rfl (entl_bor (use_lo rfl) rfl rfl entl_nil))
   (fun c8 h => no_some h)))))))))
   (fun c2 h => no_some h))
   (fun c1 h => no_some h))
   (fun c0 h => ret_at hR _ h (fun n => n) rfl rfl rfl (rn_tup ⟨(rn_int rfl), (rn_int rfl), trivial⟩) rfl (entl_bor (use_lo rfl) rfl rfl entl_nil))
theorem a69 (aq nq mq : Nat) (tq : Nat → ByteArray) (vq : Nat → Int) (gq : Nat → Int) (de : Int) (st : Int) {r : Rt69} (h : Goes ((q69 aq nq mq tq vq gq de st)) ((p69 aq nq mq tq vq gq de st)) r) : CallR Try.prog 69 [.agg [.loose ⟨0, 3, aq, 0⟩ nq, .int .i64 de], .int .i64 st] [[(0, (false, .cols mq [.str tq, .int .i64 vq, .int .i64 gq]))]] 1 ((V69 aq nq mq tq vq gq de st) r) ((fun r => [newL (1 + 1) ((N69 aq nq mq tq vq gq de st) r) ++ [(0, (false, .cols mq [.str tq, .int .i64 vq, .int .i64 gq]))]]) r) 400 ∧ ∃ F, Try.prog.funcs[69]? = some F ∧ F.body.isSome = true ∧ (F.name == "runtime.NumGoroutine") = false := by
  refine dec_calls (f := 69) (lo := 1) (hi := 400) (H := [[(0, (false, .cols mq [.str tq, .int .i64 vq, .int .i64 gq]))]]) (args := [.agg [.loose ⟨0, 3, aq, 0⟩ nq, .int .i64 de], .int .i64 st]) Try.envOk Try.mixed noX_ok ((I69 aq nq mq tq vq gq de st)) ((V69 aq nq mq tq vq gq de st)) (fun r => [newL (1 + 1) ((N69 aq nq mq tq vq gq de st) r) ++ [(0, (false, .cols mq [.str tq, .int .i64 vq, .int .i64 gq]))]]) (fn := mkFn Try.f69) (ts := [1, 6, 7, 15, 16, 17]) (n := 400) rfl (by decide) (by simp) (names_of rfl) ?_ ?_ ?_ h
  · intro s; cases s <;> exact ⟨hd_ok _ _, by simp [I69], names_of rfl, Nat.le_of_ble_eq_true rfl⟩
  · intro Kst Kret x hS hR h
    exact Holds.eq (te69 cond Kst Kret aq nq mq tq vq gq de st) (be69 aq nq mq tq vq gq de st Kst Kret x hS hR h)
  · intro Kst Kret x hS hR s h
    cases s with
    | h0 x0 x1 x2 => exact Holds.eq (t69_0 cond Kst Kret aq nq mq tq vq gq de st x0 x1 x2) (b69_0 aq nq mq tq vq gq de st Kst Kret x hS hR x0 x1 x2 h)
noncomputable def k69 : Con := ⟨69, [.agg [.list [.str, .int .i64, .int .i64], .plain (.int .i64)], .one (.plain (.int .i64))], fun (x : ((Nat × Nat × Nat × (Nat → ByteArray) × (Nat → Int) × (Nat → Int) × Unit) × Int × Unit) × Int × Unit) => (fun (aq nq mq : Nat) (tq : Nat → ByteArray) (vq : Nat → Int) (gq : Nat → Int) (de : Int) (st : Int) => decide ((aq + nq ≤ mq) ∧ (S.netE nq (fun j => tq (j + aq)) (fun j => vq (j + aq)) (fun j => gq (j + aq)) de) = 0 ∧ 0 ≤ st ∧ st < (nq : Int))) x.1.1.1 x.1.1.2.1 x.1.1.2.2.1 x.1.1.2.2.2.1 x.1.1.2.2.2.2.1 x.1.1.2.2.2.2.2.1 x.1.2.1 x.2.1, fun (x : ((Nat × Nat × Nat × (Nat → ByteArray) × (Nat → Int) × (Nat → Int) × Unit) × Int × Unit) × Int × Unit) => (fun (aq nq mq : Nat) (tq : Nat → ByteArray) (vq : Nat → Int) (gq : Nat → Int) (de : Int) (st : Int) => (V69 aq nq mq tq vq gq de st) ((S.tA (fun j => vq (j + aq)) (fun j => gq (j + aq)) de st nq, S.tB (fun j => vq (j + aq)) (fun j => gq (j + aq)) de st nq))) x.1.1.1 x.1.1.2.1 x.1.1.2.2.1 x.1.1.2.2.2.1 x.1.1.2.2.2.2.1 x.1.1.2.2.2.2.2.1 x.1.2.1 x.2.1, fun (x : ((Nat × Nat × Nat × (Nat → ByteArray) × (Nat → Int) × (Nat → Int) × Unit) × Int × Unit) × Int × Unit) => (fun (aq nq mq : Nat) (tq : Nat → ByteArray) (vq : Nat → Int) (gq : Nat → Int) (de : Int) (st : Int) => (N69 aq nq mq tq vq gq de st) ((S.tA (fun j => vq (j + aq)) (fun j => gq (j + aq)) de st nq, S.tB (fun j => vq (j + aq)) (fun j => gq (j + aq)) de st nq))) x.1.1.1 x.1.1.2.1 x.1.1.2.2.1 x.1.1.2.2.2.1 x.1.1.2.2.2.2.1 x.1.1.2.2.2.2.2.1 x.1.2.1 x.2.1, fun _ _ => .dead⟩
theorem s69' (aq nq mq : Nat) (tq : Nat → ByteArray) (vq : Nat → Int) (gq : Nat → Int) (de : Int) (st : Int) (hp : (aq + nq ≤ mq) ∧ (S.netE nq (fun j => tq (j + aq)) (fun j => vq (j + aq)) (fun j => gq (j + aq)) de) = 0 ∧ 0 ≤ st ∧ st < (nq : Int)) : ∀ (k i : Nat), i + k = nq → Comes (q69 aq nq mq tq vq gq de st) (.h0 (S.tA (fun j => vq (j + aq)) (fun j => gq (j + aq)) de st i) (S.tB (fun j => vq (j + aq)) (fun j => gq (j + aq)) de st i) (i : Int)) (S.tA (fun j => vq (j + aq)) (fun j => gq (j + aq)) de st nq, S.tB (fun j => vq (j + aq)) (fun j => gq (j + aq)) de st nq) := by
  obtain ⟨hp1, hv, hs1, hs2⟩ := hp
  obtain ⟨v1, v2, v3⟩ := net_ok hv
  intro k
  induction k with
  | zero =>
    intro i hi
    obtain rfl : nq = i := by omega
    apply Comes.of
    show Goes _ _ _
    (first | rw [q69] | unfold q69)
    repeat' first
      | with_reducible refine goes_if (fun h => ?_) (fun h => ?_) <;> (try simp only [lim64, imp_false, decide_eq_true_eq, decide_eq_false_iff_not, Int.toNat_natCast, toNat_pred, toNat_succ, Option.getD_some, Option.getD_none, Bool.not_eq_true', Bool.not_eq_false', Bool.and_eq_true, Bool.or_eq_true, Bool.and_eq_false_iff, Bool.or_eq_false_iff, bne_iff_ne, beq_iff_eq, bne_eq_false_iff_eq, beq_eq_false_iff_ne, ne_eq, not_and, Int.not_le, Int.not_lt, ge_iff_le, gt_iff_lt, Nat.not_lt, Nat.not_le, Bool.not_eq_true, Bool.not_eq_false, Bool.true_eq_false, Bool.false_eq_true, not_false_eq_true, not_true_eq_false] at h)
      | exact goes_none.mpr (by omega)
    all_goals first | (exfalso; omega) | exact goes_inr.mpr rfl
  | succ k ih =>
    intro i hi
    have ih := ih (i + 1) (by omega)
    have hA := tA_b (st := st) v2 v3 i (by omega)
    have hB := tB_b (st := st) v2 v3 i (by omega)
    have hx := v3 i (by omega)
    try dsimp only at hx
    have eA : S.tA (fun j => vq (j + aq)) (fun j => gq (j + aq)) de st (i + 1) = S.tA (fun j => vq (j + aq)) (fun j => gq (j + aq)) de st i + (if st ≤ (i : Int) then vq (i + aq) + gq (i + aq) else 0) := rfl
    have eB : S.tB (fun j => vq (j + aq)) (fun j => gq (j + aq)) de st (i + 1) = S.tB (fun j => vq (j + aq)) (fun j => gq (j + aq)) de st i + (if st = 0 then vq (i + aq) + gq (i + aq) else if i = 0 then gq (i + aq) else if (i : Int) < st then vq (i + aq) + gq (i + aq) else if (i : Int) = st then vq (i + aq) else 0) := rfl
    rw [eA, eB] at ih
    generalize S.tA (fun j => vq (j + aq)) (fun j => gq (j + aq)) de st nq = RA at *
    generalize S.tB (fun j => vq (j + aq)) (fun j => gq (j + aq)) de st nq = RB at *
    generalize S.tA (fun j => vq (j + aq)) (fun j => gq (j + aq)) de st i = A at *
    generalize S.tB (fun j => vq (j + aq)) (fun j => gq (j + aq)) de st i = B at *
    clear eA eB
    apply Comes.of
    show Goes _ _ _
    (first | rw [q69] | unfold q69)
    try simp only [Int.toNat_natCast]
    try show Goes _ _ _
    repeat' first
      | with_reducible refine goes_if (fun h => ?_) (fun h => ?_) <;> (try simp only [lim64, imp_false, decide_eq_true_eq, decide_eq_false_iff_not, Int.toNat_natCast, toNat_pred, toNat_succ, Option.getD_some, Option.getD_none, Bool.not_eq_true', Bool.not_eq_false', Bool.and_eq_true, Bool.or_eq_true, Bool.and_eq_false_iff, Bool.or_eq_false_iff, bne_iff_ne, beq_iff_eq, bne_eq_false_iff_eq, beq_eq_false_iff_ne, ne_eq, not_and, Int.not_le, Int.not_lt, ge_iff_le, gt_iff_lt, Nat.not_lt, Nat.not_le, Bool.not_eq_true, Bool.not_eq_false, Bool.true_eq_false, Bool.false_eq_true, not_false_eq_true, not_true_eq_false] at h)
      | exact goes_none.mpr (by omega)
    all_goals first
      | (exfalso; omega)
      | (refine Eq.mpr (congrArg (fun s => Comes _ s _) ?_) ih; congr 1 <;> (repeat' split) <;> omega)
theorem s69 (aq nq mq : Nat) (tq : Nat → ByteArray) (vq : Nat → Int) (gq : Nat → Int) (de : Int) (st : Int) (hp : (aq + nq ≤ mq) ∧ (S.netE nq (fun j => tq (j + aq)) (fun j => vq (j + aq)) (fun j => gq (j + aq)) de) = 0 ∧ 0 ≤ st ∧ st < (nq : Int)) : Goes ((q69 aq nq mq tq vq gq de st)) ((p69 aq nq mq tq vq gq de st)) ((S.tA (fun j => vq (j + aq)) (fun j => gq (j + aq)) de st nq, S.tB (fun j => vq (j + aq)) (fun j => gq (j + aq)) de st nq)) := by
  have hm := s69' aq nq mq tq vq gq de st hp nq 0 (Nat.zero_add _)
  exact hm
theorem k69_ok : k69.ok Try.prog := by
  intro x hx
  obtain ⟨⟨⟨aq, nq, mq, tq, vq, gq, _⟩, de, _⟩, st, _⟩ := x
  obtain ⟨h1, h2⟩ := a69 aq nq mq tq vq gq de st (s69 aq nq mq tq vq gq de st (of_dec hx rfl))
  exact ⟨⟨400, (by decide : 1 + 1 + 0 ≤ 400), h1⟩, h2⟩
inductive St70 where
  | h0 (x0 : Int) (x1 : Int)
abbrev Rt70 := Int
noncomputable def V70 (aq nq mq : Nat) (tq : Nat → ByteArray) (vq : Nat → Int) (gq : Nat → Int) (de : Int) (st : Int) (lp : Int) (r : Rt70) : PV := PV.int IntKind.i64 r
noncomputable def N70 (aq nq mq : Nat) (tq : Nat → ByteArray) (vq : Nat → Int) (gq : Nat → Int) (de : Int) (st : Int) (lp : Int) (r : Rt70) : List Blk := []
noncomputable def I70 (aq nq mq : Nat) (tq : Nat → ByteArray) (vq : Nat → Int) (gq : Nat → Int) (de : Int) (st : Int) (lp : Int) : St70 → Hd
  | .h0 x0 x1 => ⟨hd Try.f70 0, [PV.int IntKind.i64 lp, PV.ptr (PA.mk (1) (0) (0) (0)),
 PV.int IntKind.i64 (↑nq : Int), PV.int IntKind.i64 x0, PV.int IntKind.i64 x1], [[(1, (true, Blk.cells [PV.loose (PA.mk (0) (3) aq (0)) nq, PV.int IntKind.i64 de]))], [(0, (false, .cols mq [.str tq, .int .i64 vq, .int .i64 gq]))]], 2⟩
noncomputable def q70 (aq nq mq : Nat) (tq : Nat → ByteArray) (vq : Nat → Int) (gq : Nat → Int) (de : Int) (st : Int) (lp : Int) : St70 → Option (St70 ⊕ Rt70)
  | .h0 x0 x1 => bif (decide ((0 : Int) ≤ x1 ∧ x1 < (↑nq : Int)))
 then (bif (decide (Int.toNat x1 + aq < mq))
 then (bif (lim IntKind.i64 (x0 + vq (Int.toNat x1 + aq)))
 then (bif (lim IntKind.i64 (x1 + (1 : Int)))
 then (bif (decide ((↑nq : Int) = (0 : Int)))
 then (none)
 else (bif (lp == (2 : Int))
 then (bif (lim IntKind.i64 (x1 + (↑nq : Int)))
 then (bif (lim IntKind.i64 (x1 + (↑nq : Int) - (1 : Int)))
 then (bif (decide
 ((0 : Int) ≤ Int.tmod (x1 + (↑nq : Int) - (1 : Int)) (↑nq : Int) ∧
 Int.tmod (x1 + (↑nq : Int) - (1 : Int)) (↑nq : Int) < (↑nq : Int)))
 then (bif (decide (Int.toNat (Int.tmod (x1 + (↑nq : Int) - (1 : Int)) (↑nq : Int)) + aq < mq))
 then (bif (lim IntKind.i64
 (x0 + vq (Int.toNat x1 + aq) + gq (Int.toNat (Int.tmod (x1 + (↑nq : Int) - (1 : Int)) (↑nq : Int)) + aq)))
 then (bif (Int.tmod (x1 + (↑nq : Int) - (1 : Int)) (↑nq : Int) == (0 : Int))
 then (some (.inr (x0 + vq (Int.toNat x1 + aq) + gq (Int.toNat (Int.tmod (x1 + (↑nq : Int) - (1 : Int)) (↑nq : Int)) + aq))))
 else (some (.inl (.h0 (x0 + vq (Int.toNat x1 + aq) + gq (Int.toNat (Int.tmod (x1 + (↑nq : Int) - (1 : Int)) (↑nq : Int)) + aq)) (Int.tmod (x1 + (↑nq : Int) - (1 : Int)) (↑nq : Int))))))
 else (none))
 else (none))
 else (none))
 else (none))
 else (none))
 else (bif (lim IntKind.i64 (x0 + vq (Int.toNat x1 + aq) + gq (Int.toNat x1 + aq)))
 then (bif (Int.tmod (x1 + (1 : Int)) (↑nq : Int) == (0 : Int))
 then (some (.inr (x0 + vq (Int.toNat x1 + aq) + gq (Int.toNat x1 + aq))))
 else (some (.inl (.h0 (x0 + vq (Int.toNat x1 + aq) + gq (Int.toNat x1 + aq)) (Int.tmod (x1 + (1 : Int)) (↑nq : Int))))))
 else (none))))
 else (none))
 else (none))
 else (none))
 else (none)
noncomputable def p70 (aq nq mq : Nat) (tq : Nat → ByteArray) (vq : Nat → Int) (gq : Nat → Int) (de : Int) (st : Int) (lp : Int) : Option (St70 ⊕ Rt70) := some (.inl (.h0 (de) (st)))
noncomputable def Te70 (test : Bool → Prop → Prop → Prop) (Kst : KS) (Kret : KR) (aq nq mq : Nat) (tq : Nat → ByteArray) (vq : Nat → Int) (gq : Nat → Int) (de : Int) (st : Int) (lp : Int) : Prop :=
  Kst (hd Try.f70 0) ([PV.int IntKind.i64 lp, PV.ptr (PA.mk (1) (0) (0) (0)),
 PV.int IntKind.i64 (↑nq : Int), PV.int IntKind.i64 de, PV.int IntKind.i64 st]) ([[(0, false,
 Blk.cols mq [Col.str tq, Col.int IntKind.i64 vq, Col.int IntKind.i64 gq]),
 (1, true,
 Blk.cells
 [PV.loose (PA.mk (0) (3) aq (0)) nq, PV.int IntKind.i64 de])]]) (2)
theorem te70 (test : Bool → Prop → Prop → Prop) (Kst : KS) (Kret : KR) (aq nq mq : Nat) (tq : Nat → ByteArray) (vq : Nat → Int) (gq : Nat → Int) (de : Int) (st : Int) (lp : Int) : run test Try.env true noX true 400 ⟨70, [.cd (mkFn Try.f70).body], argT 0 [.agg [.loose ⟨0, 3, aq, 0⟩ nq, .int .i64 de], .int .i64 st, .int .i64 lp], [[], [(0, (false, .cols mq [.str tq, .int .i64 vq, .int .i64 gq]))]], 1⟩ (proj 1 [2, 3, 7, 8, 9] Kst Kret) =
  Te70 test Kst Kret aq nq mq tq vq gq de st lp := by kernel_rfl
noncomputable def T70_0 (test : Bool → Prop → Prop → Prop) (Kst : KS) (Kret : KR) (aq nq mq : Nat) (tq : Nat → ByteArray) (vq : Nat → Int) (gq : Nat → Int) (de : Int) (st : Int) (lp : Int) (x0 : Int) (x1 : Int) : Prop :=
  test (decide ((0 : Int) ≤ x1 ∧ x1 < (↑nq : Int)))
 (test (decide (Int.toNat x1 + aq < mq))
 (test (lim IntKind.i64 (x0 + vq (Int.toNat x1 + aq)))
 (test (lim IntKind.i64 (x1 + (1 : Int)))
 (test (decide ((↑nq : Int) = (0 : Int)))
 (False)
 (test (lp == (2 : Int))
 (test (lim IntKind.i64 (x1 + (↑nq : Int)))
 (test (lim IntKind.i64 (x1 + (↑nq : Int) - (1 : Int)))
 (test (decide ((↑nq : Int) = (0 : Int)))
 (False)
 (test (decide
 ((0 : Int) ≤ Int.tmod (x1 + (↑nq : Int) - (1 : Int)) (↑nq : Int) ∧
 Int.tmod (x1 + (↑nq : Int) - (1 : Int)) (↑nq : Int) < (↑nq : Int)))
 (test (decide (Int.toNat (Int.tmod (x1 + (↑nq : Int) - (1 : Int)) (↑nq : Int)) + aq < mq))
 (test (lim IntKind.i64
 (x0 + vq (Int.toNat x1 + aq) + gq (Int.toNat (Int.tmod (x1 + (↑nq : Int) - (1 : Int)) (↑nq : Int)) + aq)))
 (test (Int.tmod (x1 + (↑nq : Int) - (1 : Int)) (↑nq : Int) == (0 : Int))
 (Kret (PV.int IntKind.i64
 (x0 + vq (Int.toNat x1 + aq) + gq (Int.toNat (Int.tmod (x1 + (↑nq : Int) - (1 : Int)) (↑nq : Int)) + aq))) ([[(0, false,
 Blk.cols mq [Col.str tq, Col.int IntKind.i64 vq, Col.int IntKind.i64 gq])]]) (2))
 (Kst (hd Try.f70 0) ([PV.int IntKind.i64 lp, PV.ptr (PA.mk (1) (0) (0) (0)),
 PV.int IntKind.i64 (↑nq : Int),
 PV.int IntKind.i64
 (x0 + vq (Int.toNat x1 + aq) + gq (Int.toNat (Int.tmod (x1 + (↑nq : Int) - (1 : Int)) (↑nq : Int)) + aq)),
 PV.int IntKind.i64 (Int.tmod (x1 + (↑nq : Int) - (1 : Int)) (↑nq : Int))]) ([[(0, false,
 Blk.cols mq [Col.str tq, Col.int IntKind.i64 vq, Col.int IntKind.i64 gq]),
 (1, true,
 Blk.cells
 [PV.loose (PA.mk (0) (3) aq (0)) nq, PV.int IntKind.i64 de])]]) (2)))
 (False))
 (False))
 (False)))
 (False))
 (False))
 (test (decide ((0 : Int) ≤ x1 ∧ x1 < (↑nq : Int)))
 (test (decide (Int.toNat x1 + aq < mq))
 (test (lim IntKind.i64 (x0 + vq (Int.toNat x1 + aq) + gq (Int.toNat x1 + aq)))
 (test (Int.tmod (x1 + (1 : Int)) (↑nq : Int) == (0 : Int))
 (Kret (PV.int IntKind.i64 (x0 + vq (Int.toNat x1 + aq) + gq (Int.toNat x1 + aq))) ([[(0, false,
 Blk.cols mq [Col.str tq, Col.int IntKind.i64 vq, Col.int IntKind.i64 gq])]]) (2))
 (Kst (hd Try.f70 0) ([PV.int IntKind.i64 lp, PV.ptr (PA.mk (1) (0) (0) (0)),
 PV.int IntKind.i64 (↑nq : Int),
 PV.int IntKind.i64 (x0 + vq (Int.toNat x1 + aq) + gq (Int.toNat x1 + aq)),
 PV.int IntKind.i64 (Int.tmod (x1 + (1 : Int)) (↑nq : Int))]) ([[(0, false,
 Blk.cols mq [Col.str tq, Col.int IntKind.i64 vq, Col.int IntKind.i64 gq]),
 (1, true,
 Blk.cells
 [PV.loose (PA.mk (0) (3) aq (0)) nq, PV.int IntKind.i64 de])]]) (2)))
 (False))
 (False))
 (False))))
 (False))
 (False))
 (False))
 (False)
theorem t70_0 (test : Bool → Prop → Prop → Prop) (Kst : KS) (Kret : KR) (aq nq mq : Nat) (tq : Nat → ByteArray) (vq : Nat → Int) (gq : Nat → Int) (de : Int) (st : Int) (lp : Int) (x0 : Int) (x1 : Int) : run test Try.env true noX true 400 ⟨70, hd Try.f70 0, zipT [2, 3, 7, 8, 9] [PV.int IntKind.i64 lp, PV.ptr (PA.mk (1) (0) (0) (0)),
 PV.int IntKind.i64 (↑nq : Int), PV.int IntKind.i64 x0, PV.int IntKind.i64 x1], [[(1, (true, Blk.cells [PV.loose (PA.mk (0) (3) aq (0)) nq, PV.int IntKind.i64 de]))], [(0, (false, .cols mq [.str tq, .int .i64 vq, .int .i64 gq]))]], 2⟩ (proj 1 [2, 3, 7, 8, 9] Kst Kret) =
  T70_0 test Kst Kret aq nq mq tq vq gq de st lp x0 x1 := by kernel_rfl
theorem be70 (aq nq mq : Nat) (tq : Nat → ByteArray) (vq : Nat → Int) (gq : Nat → Int) (de : Int) (st : Int) (lp : Int) (Kst : KS) (Kret : KR) (x : St70 ⊕ Rt70) (hS : HS 1 400 ((I70 aq nq mq tq vq gq de st lp)) Kst x) (hR : HR 1 400 ((V70 aq nq mq tq vq gq de st lp)) (fun r => [newL (1 + 1) ((N70 aq nq mq tq vq gq de st lp) r) ++ [(0, (false, .cols mq [.str tq, .int .i64 vq, .int .i64 gq]))]]) Kret x) (h : (some (.inl (.h0 (de) (st))) : Option (St70 ⊕ Rt70)) = some x) : Te70 cond Kst Kret aq nq mq tq vq gq de st lp := by
  unfold Te70
  exact stop_at hS _ h (fun n => bif Nat.beq n 1 then 1 else n) rfl rfl rfl ⟨(rn_int rfl), ⟨(rn_ptr (use_own rfl) rfl rfl), ⟨(rn_int rfl), ⟨(rn_int rfl), ⟨(rn_int rfl), trivial⟩⟩⟩⟩⟩ rfl (entl_b (use_own rfl) rfl (by simp) (rb_cells ⟨(rn_loose (use_lo rfl) rfl rfl rfl), (rn_int rfl), trivial⟩) (entl_bor (use_lo rfl) rfl rfl entl_nil))
theorem b70_0 (aq nq mq : Nat) (tq : Nat → ByteArray) (vq : Nat → Int) (gq : Nat → Int) (de : Int) (st : Int) (lp : Int) (Kst : KS) (Kret : KR) (x : St70 ⊕ Rt70) (hS : HS 1 400 ((I70 aq nq mq tq vq gq de st lp)) Kst x) (hR : HR 1 400 ((V70 aq nq mq tq vq gq de st lp)) (fun r => [newL (1 + 1) ((N70 aq nq mq tq vq gq de st lp) r) ++ [(0, (false, .cols mq [.str tq, .int .i64 vq, .int .i64 gq]))]]) Kret x) (x0 : Int) (x1 : Int) (h : (bif (decide ((0 : Int) ≤ x1 ∧ x1 < (↑nq : Int)))
 then (bif (decide (Int.toNat x1 + aq < mq))
 then (bif (lim IntKind.i64 (x0 + vq (Int.toNat x1 + aq)))
 then (bif (lim IntKind.i64 (x1 + (1 : Int)))
 then (bif (decide ((↑nq : Int) = (0 : Int)))
 then (none)
 else (bif (lp == (2 : Int))
 then (bif (lim IntKind.i64 (x1 + (↑nq : Int)))
 then (bif (lim IntKind.i64 (x1 + (↑nq : Int) - (1 : Int)))
 then (bif (decide
 ((0 : Int) ≤ Int.tmod (x1 + (↑nq : Int) - (1 : Int)) (↑nq : Int) ∧
 Int.tmod (x1 + (↑nq : Int) - (1 : Int)) (↑nq : Int) < (↑nq : Int)))
 then (bif (decide (Int.toNat (Int.tmod (x1 + (↑nq : Int) - (1 : Int)) (↑nq : Int)) + aq < mq))
 then (bif (lim IntKind.i64
 (x0 + vq (Int.toNat x1 + aq) + gq (Int.toNat (Int.tmod (x1 + (↑nq : Int) - (1 : Int)) (↑nq : Int)) + aq)))
 then (bif (Int.tmod (x1 + (↑nq : Int) - (1 : Int)) (↑nq : Int) == (0 : Int))
 then (some (.inr (x0 + vq (Int.toNat x1 + aq) + gq (Int.toNat (Int.tmod (x1 + (↑nq : Int) - (1 : Int)) (↑nq : Int)) + aq))))
 else (some (.inl (.h0 (x0 + vq (Int.toNat x1 + aq) + gq (Int.toNat (Int.tmod (x1 + (↑nq : Int) - (1 : Int)) (↑nq : Int)) + aq)) (Int.tmod (x1 + (↑nq : Int) - (1 : Int)) (↑nq : Int))))))
 else (none))
 else (none))
 else (none))
 else (none))
 else (none))
 else (bif (lim IntKind.i64 (x0 + vq (Int.toNat x1 + aq) + gq (Int.toNat x1 + aq)))
 then (bif (Int.tmod (x1 + (1 : Int)) (↑nq : Int) == (0 : Int))
 then (some (.inr (x0 + vq (Int.toNat x1 + aq) + gq (Int.toNat x1 + aq))))
 else (some (.inl (.h0 (x0 + vq (Int.toNat x1 + aq) + gq (Int.toNat x1 + aq)) (Int.tmod (x1 + (1 : Int)) (↑nq : Int))))))
 else (none))))
 else (none))
 else (none))
 else (none))
 else (none) : Option (St70 ⊕ Rt70)) = some x) : T70_0 cond Kst Kret aq nq mq tq vq gq de st lp x0 x1 := by
  unfold T70_0
  exact bif_split h
   (fun c0 h => bif_split h
   (fun c1 h => bif_split h
   (fun c2 h => bif_split h
   (fun c3 h => bif_split h
   (fun c4 h => no_some h)
   (fun c4 h => bif_split h
   (fun c5 h => bif_split h
   (fun c6 h => bif_split h
   (fun c7 h => cond_no c4 (bif_split h
   (fun c8 h => bif_split h
   (fun c9 h => bif_split h
   (fun c10 h => bif_split h
   (fun c11 h => ret_at hR _ h (fun n => n) rfl rfl rfl (rn_int rfl) rfl (entl_bor (use_lo rfl) rfl rfl entl_nil))
   (fun c11 h => stop_at hS _ h (fun n => bif Nat.beq n 1 then 1 else n) rfl rfl rfl ⟨(rn_int rfl), ⟨(rn_ptr (use_own rfl) rfl rfl), ⟨(rn_int rfl), ⟨(rn_int rfl), ⟨(rn_int rfl), trivial⟩⟩⟩⟩⟩ rfl (entl_b (use_own rfl) rfl (by simp) (rb_cells ⟨(rn_loose (use_lo rfl) rfl rfl rfl), (rn_int rfl), trivial⟩) (entl_bor (use_lo rfl) rfl rfl entl_nil))))
   (fun c10 h => no_some h))
   (fun c9 h => no_some h))
   (fun c8 h => no_some h)))
   (fun c7 h => no_some h))
   (fun c6 h => no_some h))
   (fun c5 h => cond_yes c0 (cond_yes c1 (bif_split h
   (fun c6 h => bif_split h
   (fun c7 h => ret_at hR _ h (fun n => n) rfl rfl rfl (rn_int rfl) rfl (entl_bor (use_lo rfl) rfl rfl entl_nil))
   (fun c7 h => stop_at hS _ h (fun n => bif Nat.beq n 1 then 1 else n) rfl rfl rfl ⟨(rn_int rfl), ⟨(rn_ptr (use_own rfl) rfl rfl), ⟨(rn_int rfl), ⟨(rn_int rfl), ⟨(rn_int rfl), trivial⟩⟩⟩⟩⟩ rfl (entl_b (use_own rfl) rfl (by simp) (rb_cells ⟨(rn_loose (use_lo rfl) rfl rfl rfl), (rn_int rfl), trivial⟩) (entl_bor (use_lo rfl) rfl rfl entl_nil))))
   (fun c6 h => no_some h))))))
   (fun c3 h => no_some h))
   (fun c2 h => no_some h))
   (fun c1 h => no_some h))
   (fun c0 h => no_some h)
theorem a70 (aq nq mq : Nat) (tq : Nat → ByteArray) (vq : Nat → Int) (gq : Nat → Int) (de : Int) (st : Int) (lp : Int) {r : Rt70} (h : Goes ((q70 aq nq mq tq vq gq de st lp)) ((p70 aq nq mq tq vq gq de st lp)) r) : CallR Try.prog 70 [.agg [.loose ⟨0, 3, aq, 0⟩ nq, .int .i64 de], .int .i64 st, .int .i64 lp] [[(0, (false, .cols mq [.str tq, .int .i64 vq, .int .i64 gq]))]] 1 ((V70 aq nq mq tq vq gq de st lp) r) ((fun r => [newL (1 + 1) ((N70 aq nq mq tq vq gq de st lp) r) ++ [(0, (false, .cols mq [.str tq, .int .i64 vq, .int .i64 gq]))]]) r) 400 ∧ ∃ F, Try.prog.funcs[70]? = some F ∧ F.body.isSome = true ∧ (F.name == "runtime.NumGoroutine") = false := by
  refine dec_calls (f := 70) (lo := 1) (hi := 400) (H := [[(0, (false, .cols mq [.str tq, .int .i64 vq, .int .i64 gq]))]]) (args := [.agg [.loose ⟨0, 3, aq, 0⟩ nq, .int .i64 de], .int .i64 st, .int .i64 lp]) Try.envOk Try.mixed noX_ok ((I70 aq nq mq tq vq gq de st lp)) ((V70 aq nq mq tq vq gq de st lp)) (fun r => [newL (1 + 1) ((N70 aq nq mq tq vq gq de st lp) r) ++ [(0, (false, .cols mq [.str tq, .int .i64 vq, .int .i64 gq]))]]) (fn := mkFn Try.f70) (ts := [2, 3, 7, 8, 9]) (n := 400) rfl (by decide) (by simp) (names_of rfl) ?_ ?_ ?_ h
  · intro s; cases s <;> exact ⟨hd_ok _ _, by simp [I70], names_of rfl, Nat.le_of_ble_eq_true rfl⟩
  · intro Kst Kret x hS hR h
    exact Holds.eq (te70 cond Kst Kret aq nq mq tq vq gq de st lp) (be70 aq nq mq tq vq gq de st lp Kst Kret x hS hR h)
  · intro Kst Kret x hS hR s h
    cases s with
    | h0 x0 x1 => exact Holds.eq (t70_0 cond Kst Kret aq nq mq tq vq gq de st lp x0 x1) (b70_0 aq nq mq tq vq gq de st lp Kst Kret x hS hR x0 x1 h)
noncomputable def k70 : Con := ⟨70, [.agg [.list [.str, .int .i64, .int .i64], .plain (.int .i64)], .one (.plain (.int .i64)), .one (.plain (.int .i64))], fun (x : ((Nat × Nat × Nat × (Nat → ByteArray) × (Nat → Int) × (Nat → Int) × Unit) × Int × Unit) × Int × Int × Unit) => (fun (aq nq mq : Nat) (tq : Nat → ByteArray) (vq : Nat → Int) (gq : Nat → Int) (de : Int) (st : Int) (lp : Int) => decide ((aq + nq ≤ mq) ∧ (S.netE nq (fun j => tq (j + aq)) (fun j => vq (j + aq)) (fun j => gq (j + aq)) de) = 0 ∧ 0 ≤ st ∧ st < (nq : Int) ∧ (lp = 1 ∨ lp = 2))) x.1.1.1 x.1.1.2.1 x.1.1.2.2.1 x.1.1.2.2.2.1 x.1.1.2.2.2.2.1 x.1.1.2.2.2.2.2.1 x.1.2.1 x.2.1 x.2.2.1, fun (x : ((Nat × Nat × Nat × (Nat → ByteArray) × (Nat → Int) × (Nat → Int) × Unit) × Int × Unit) × Int × Int × Unit) => (fun (aq nq mq : Nat) (tq : Nat → ByteArray) (vq : Nat → Int) (gq : Nat → Int) (de : Int) (st : Int) (lp : Int) => (V70 aq nq mq tq vq gq de st lp) ((if lp = 1 then S.tA (fun j => vq (j + aq)) (fun j => gq (j + aq)) de st nq else S.tB (fun j => vq (j + aq)) (fun j => gq (j + aq)) de st nq))) x.1.1.1 x.1.1.2.1 x.1.1.2.2.1 x.1.1.2.2.2.1 x.1.1.2.2.2.2.1 x.1.1.2.2.2.2.2.1 x.1.2.1 x.2.1 x.2.2.1, fun (x : ((Nat × Nat × Nat × (Nat → ByteArray) × (Nat → Int) × (Nat → Int) × Unit) × Int × Unit) × Int × Int × Unit) => (fun (aq nq mq : Nat) (tq : Nat → ByteArray) (vq : Nat → Int) (gq : Nat → Int) (de : Int) (st : Int) (lp : Int) => (N70 aq nq mq tq vq gq de st lp) ((if lp = 1 then S.tA (fun j => vq (j + aq)) (fun j => gq (j + aq)) de st nq else S.tB (fun j => vq (j + aq)) (fun j => gq (j + aq)) de st nq))) x.1.1.1 x.1.1.2.1 x.1.1.2.2.1 x.1.1.2.2.2.1 x.1.1.2.2.2.2.1 x.1.1.2.2.2.2.2.1 x.1.2.1 x.2.1 x.2.2.1, fun _ _ => .dead⟩
theorem s70a (aq nq mq : Nat) (tq : Nat → ByteArray) (vq : Nat → Int) (gq : Nat → Int) (de : Int) (st : Int) (lp : Int) (hp : (aq + nq ≤ mq) ∧ (S.netE nq (fun j => tq (j + aq)) (fun j => vq (j + aq)) (fun j => gq (j + aq)) de) = 0 ∧ 0 ≤ st ∧ st < (nq : Int)) (hl : lp = 1) : ∀ (k i : Nat), i + 1 + k = nq → st ≤ (i : Int) → Comes (q70 aq nq mq tq vq gq de st lp) (.h0 (S.tA (fun j => vq (j + aq)) (fun j => gq (j + aq)) de st i) (i : Int)) (S.tA (fun j => vq (j + aq)) (fun j => gq (j + aq)) de st nq) := by
  obtain ⟨hp1, hv, hs1, hs2⟩ := hp
  obtain ⟨v1, v2, v3⟩ := net_ok hv
  intro k
  induction k with
  | zero =>
    intro i hi hst
    have hA := tA_b (st := st) v2 v3 i (by omega)
    have hx := v3 i (by omega)
    try dsimp only at hx
    have eA : S.tA (fun j => vq (j + aq)) (fun j => gq (j + aq)) de st (i + 1) = S.tA (fun j => vq (j + aq)) (fun j => gq (j + aq)) de st i + (if st ≤ (i : Int) then vq (i + aq) + gq (i + aq) else 0) := rfl
    rw [if_pos hst, show i + 1 = nq by omega] at eA
    rw [eA]
    generalize S.tA (fun j => vq (j + aq)) (fun j => gq (j + aq)) de st i = A at *
    have em : Int.tmod ((i : Int) + 1) (nq : Int) = 0 := by rw [show (i : Int) + 1 = (nq : Int) by omega]; exact Int.tmod_self
    apply Comes.of
    show Goes _ _ _
    (first | rw [q70] | unfold q70)
    try simp only [Int.toNat_natCast, em]
    try show Goes _ _ _
    repeat' first
      | with_reducible refine goes_if (fun h => ?_) (fun h => ?_) <;> (try simp only [lim64, imp_false, decide_eq_true_eq, decide_eq_false_iff_not, Int.toNat_natCast, toNat_pred, toNat_succ, Option.getD_some, Option.getD_none, Bool.not_eq_true', Bool.not_eq_false', Bool.and_eq_true, Bool.or_eq_true, Bool.and_eq_false_iff, Bool.or_eq_false_iff, bne_iff_ne, beq_iff_eq, bne_eq_false_iff_eq, beq_eq_false_iff_ne, ne_eq, not_and, Int.not_le, Int.not_lt, ge_iff_le, gt_iff_lt, Nat.not_lt, Nat.not_le, Bool.not_eq_true, Bool.not_eq_false, Bool.true_eq_false, Bool.false_eq_true, not_false_eq_true, not_true_eq_false] at h)
      | exact goes_none.mpr (by omega)
    all_goals first | (exfalso; omega) | (refine goes_inr.mpr ?_; show (_ : Int) = (_ : Int); omega) | (exfalso; simp_all; done)
  | succ k ih =>
    intro i hi hst
    have ih := ih (i + 1) (by omega) (by omega)
    have hA := tA_b (st := st) v2 v3 i (by omega)
    have hx := v3 i (by omega)
    try dsimp only at hx
    have eA : S.tA (fun j => vq (j + aq)) (fun j => gq (j + aq)) de st (i + 1) = S.tA (fun j => vq (j + aq)) (fun j => gq (j + aq)) de st i + (if st ≤ (i : Int) then vq (i + aq) + gq (i + aq) else 0) := rfl
    rw [if_pos hst] at eA
    rw [eA, show S.tA (fun j => vq (j + aq)) (fun j => gq (j + aq)) de st i + (vq (i + aq) + gq (i + aq)) = S.tA (fun j => vq (j + aq)) (fun j => gq (j + aq)) de st i + vq (i + aq) + gq (i + aq) by omega, Int.natCast_add, Int.natCast_one] at ih
    generalize S.tA (fun j => vq (j + aq)) (fun j => gq (j + aq)) de st i = A at *
    generalize S.tA (fun j => vq (j + aq)) (fun j => gq (j + aq)) de st nq = R at *
    have em : Int.tmod ((i : Int) + 1) (nq : Int) = (i : Int) + 1 := Int.tmod_eq_of_lt (by omega) (by omega)
    apply Comes.of
    show Goes _ _ _
    (first | rw [q70] | unfold q70)
    try simp only [Int.toNat_natCast, em]
    try show Goes _ _ _
    repeat' first
      | with_reducible refine goes_if (fun h => ?_) (fun h => ?_) <;> (try simp only [lim64, imp_false, decide_eq_true_eq, decide_eq_false_iff_not, Int.toNat_natCast, toNat_pred, toNat_succ, Option.getD_some, Option.getD_none, Bool.not_eq_true', Bool.not_eq_false', Bool.and_eq_true, Bool.or_eq_true, Bool.and_eq_false_iff, Bool.or_eq_false_iff, bne_iff_ne, beq_iff_eq, bne_eq_false_iff_eq, beq_eq_false_iff_ne, ne_eq, not_and, Int.not_le, Int.not_lt, ge_iff_le, gt_iff_lt, Nat.not_lt, Nat.not_le, Bool.not_eq_true, Bool.not_eq_false, Bool.true_eq_false, Bool.false_eq_true, not_false_eq_true, not_true_eq_false] at h)
      | exact goes_none.mpr (by omega)
    all_goals first | (exfalso; omega) | exact ih | (exfalso; simp_all; done)
theorem s70b (aq nq mq : Nat) (tq : Nat → ByteArray) (vq : Nat → Int) (gq : Nat → Int) (de : Int) (st : Int) (lp : Int) (hp : (aq + nq ≤ mq) ∧ (S.netE nq (fun j => tq (j + aq)) (fun j => vq (j + aq)) (fun j => gq (j + aq)) de) = 0 ∧ 0 ≤ st ∧ st < (nq : Int)) (hl : lp = 2) (w : Int) (hw : 0 ≤ w ∧ w ≤ 27000000) (R : Int) (he : w + gq (0 + aq) - S.tB (fun j => vq (j + aq)) (fun j => gq (j + aq)) de st 1 + de = R) : ∀ (i : Nat), i + 1 < nq → (∀ j : Nat, 1 ≤ j → j ≤ i → S.tB (fun j => vq (j + aq)) (fun j => gq (j + aq)) de st (j + 1) = S.tB (fun j => vq (j + aq)) (fun j => gq (j + aq)) de st j + vq (j + aq) + gq (j + aq)) → ∀ y : Int, Holds (y = w - S.tB (fun j => vq (j + aq)) (fun j => gq (j + aq)) de st (i + 1) - vq (i + 1 + aq) + de) → Comes (q70 aq nq mq tq vq gq de st lp) (.h0 y (((i + 1 : Nat)) : Int)) R := by
  obtain ⟨hp1, hv, hs1, hs2⟩ := hp
  obtain ⟨v1, v2, v3⟩ := net_ok hv
  intro i
  induction i with
  | zero =>
    intro hi hj y ey
    have hB := tB_b (st := st) v2 v3 1 (by omega)
    have hx := v3 0 (by omega)
    have hx1 := v3 1 (by omega)
    try dsimp only at hx hx1
    have ey := ey.get
    rw [show (0 : Nat) + 1 = 1 from rfl] at ey ⊢
    generalize S.tB (fun j => vq (j + aq)) (fun j => gq (j + aq)) de st 1 = B at *
    have em : Int.tmod (((1 : Nat) : Int) + (nq : Int) - 1) (nq : Int) = 0 := by rw [show (((1 : Nat) : Int) + (nq : Int) - 1) = (nq : Int) by omega]; exact Int.tmod_self
    apply Comes.of
    show Goes _ _ _
    (first | rw [q70] | unfold q70)
    try simp only [Int.toNat_natCast, em, Int.toNat_zero]
    try show Goes _ _ _
    repeat' first
      | with_reducible refine goes_if (fun h => ?_) (fun h => ?_) <;> (try simp only [lim64, imp_false, decide_eq_true_eq, decide_eq_false_iff_not, Int.toNat_natCast, toNat_pred, toNat_succ, Option.getD_some, Option.getD_none, Bool.not_eq_true', Bool.not_eq_false', Bool.and_eq_true, Bool.or_eq_true, Bool.and_eq_false_iff, Bool.or_eq_false_iff, bne_iff_ne, beq_iff_eq, bne_eq_false_iff_eq, beq_eq_false_iff_ne, ne_eq, not_and, Int.not_le, Int.not_lt, ge_iff_le, gt_iff_lt, Nat.not_lt, Nat.not_le, Bool.not_eq_true, Bool.not_eq_false, Bool.true_eq_false, Bool.false_eq_true, not_false_eq_true, not_true_eq_false] at h)
      | exact goes_none.mpr (by omega)
    all_goals first | (exfalso; omega) | (refine goes_inr.mpr ?_; show (_ : Int) = (_ : Int); omega) | (exfalso; simp_all; done)
  | succ i ih =>
    intro hi hj y ey
    have hB := tB_b (st := st) v2 v3 (i + 1 + 1) (by omega)
    have hx := v3 (i + 1) (by omega)
    have hx1 := v3 (i + 1 + 1) (by omega)
    try dsimp only at hx hx1
    have hj1 := hj (i + 1) (by omega) (Nat.le_refl _)
    have ey := ey.get
    have ih := ih (by omega) (fun j h1 h2 => hj j h1 (by omega)) (y + vq (i + 1 + 1 + aq) + gq (i + 1 + aq)) ⟨by omega⟩
    generalize S.tB (fun j => vq (j + aq)) (fun j => gq (j + aq)) de st (i + 1 + 1) = B at *
    have em : Int.tmod (((i + 1 + 1 : Nat) : Int) + (nq : Int) - 1) (nq : Int) = ((i + 1 : Nat) : Int) := by
      rw [show ((i + 1 + 1 : Nat) : Int) + (nq : Int) - 1 = ((i + 1 + nq : Nat) : Int) by omega]
      show (((i + 1 + nq) % nq : Nat) : Int) = _
      rw [Nat.add_mod_right, Nat.mod_eq_of_lt (by omega)]
    apply Comes.of
    show Goes _ _ _
    (first | rw [q70] | unfold q70)
    try simp only [Int.toNat_natCast, em]
    try show Goes _ _ _
    repeat' first
      | with_reducible refine goes_if (fun h => ?_) (fun h => ?_) <;> (try simp only [lim64, imp_false, decide_eq_true_eq, decide_eq_false_iff_not, Int.toNat_natCast, toNat_pred, toNat_succ, Option.getD_some, Option.getD_none, Bool.not_eq_true', Bool.not_eq_false', Bool.and_eq_true, Bool.or_eq_true, Bool.and_eq_false_iff, Bool.or_eq_false_iff, bne_iff_ne, beq_iff_eq, bne_eq_false_iff_eq, beq_eq_false_iff_ne, ne_eq, not_and, Int.not_le, Int.not_lt, ge_iff_le, gt_iff_lt, Nat.not_lt, Nat.not_le, Bool.not_eq_true, Bool.not_eq_false, Bool.true_eq_false, Bool.false_eq_true, not_false_eq_true, not_true_eq_false] at h)
      | exact goes_none.mpr (by omega)
    all_goals first | (exfalso; omega) | exact ih | (exfalso; simp_all; done)
theorem s70 (aq nq mq : Nat) (tq : Nat → ByteArray) (vq : Nat → Int) (gq : Nat → Int) (de : Int) (st : Int) (lp : Int) (hp : (aq + nq ≤ mq) ∧ (S.netE nq (fun j => tq (j + aq)) (fun j => vq (j + aq)) (fun j => gq (j + aq)) de) = 0 ∧ 0 ≤ st ∧ st < (nq : Int) ∧ (lp = 1 ∨ lp = 2)) : Goes ((q70 aq nq mq tq vq gq de st lp)) ((p70 aq nq mq tq vq gq de st lp)) ((if lp = 1 then S.tA (fun j => vq (j + aq)) (fun j => gq (j + aq)) de st nq else S.tB (fun j => vq (j + aq)) (fun j => gq (j + aq)) de st nq)) := by
  obtain ⟨hp1, hv, hs1, hs2, hl⟩ := hp
  obtain ⟨v1, v2, v3⟩ := net_ok hv
  rcases hl with rfl | rfl
  · rw [if_pos rfl]
    have hm := s70a aq nq mq tq vq gq de st 1 ⟨hp1, hv, hs1, hs2⟩ rfl (nq - 1 - st.toNat) st.toNat (by omega) (by omega)
    rw [tA_0 st.toNat (by omega), show ((st.toNat : Nat) : Int) = st by omega] at hm
    exact hm
  · rw [if_neg (by decide)]
    have h1 : S.tB (fun j => vq (j + aq)) (fun j => gq (j + aq)) de st 1 = de + (if st = 0 then vq (0 + aq) + gq (0 + aq) else gq (0 + aq)) := rfl
    by_cases h0 : st = 0
    · subst h0
      rw [if_pos rfl] at h1
      have hB := tB_b (st := 0) v2 v3 nq (by omega)
      have hx := v3 0 (by omega)
      have hxn := v3 (nq - 1) (by omega)
      try dsimp only at hx hxn
      have hs : ∀ j : Nat, S.tB (fun j => vq (j + aq)) (fun j => gq (j + aq)) de 0 (j + 1) = S.tB (fun j => vq (j + aq)) (fun j => gq (j + aq)) de 0 j + vq (j + aq) + gq (j + aq) := fun j => by
        show S.tB (fun j => vq (j + aq)) (fun j => gq (j + aq)) de 0 j + (vq (j + aq) + gq (j + aq)) = _
        omega
      have hsn := hs (nq - 1)
      rw [show nq - 1 + 1 = nq by omega] at hsn
      have hm := fun (hn : 1 < nq) => s70b aq nq mq tq vq gq de 0 2 ⟨hp1, hv, hs1, hs2⟩ rfl (S.tB (fun j => vq (j + aq)) (fun j => gq (j + aq)) de 0 nq + vq (0 + aq)) (by omega) (S.tB (fun j => vq (j + aq)) (fun j => gq (j + aq)) de 0 nq) (by omega) (nq - 2) (by omega) (fun j _ _ => hs j) (de + vq (0 + aq) + gq (nq - 1 + aq)) ⟨by
        rw [show nq - 2 + 1 = nq - 1 by have : 1 < nq := hn; omega]; omega⟩
      have em : Int.tmod ((0 : Int) + (nq : Int) - 1) (nq : Int) = ((nq - 1 : Nat) : Int) := by
        rw [show (0 : Int) + (nq : Int) - 1 = ((nq - 1 : Nat) : Int) by omega]
        show (((nq - 1) % nq : Nat) : Int) = _
        rw [Nat.mod_eq_of_lt (by omega)]
      unfold p70
      show Comes _ _ _
      apply Comes.of
      by_cases hn : 1 < nq
      · have hm := hm hn
        rw [show nq - 2 + 1 = nq - 1 by omega] at hm
        show Goes _ _ _
        (first | rw [q70] | unfold q70)
        try simp only [Int.toNat_natCast, em, Int.toNat_zero]
        try show Goes _ _ _
        repeat' first
          | with_reducible refine goes_if (fun h => ?_) (fun h => ?_) <;> (try simp only [lim64, imp_false, decide_eq_true_eq, decide_eq_false_iff_not, Int.toNat_natCast, toNat_pred, toNat_succ, Option.getD_some, Option.getD_none, Bool.not_eq_true', Bool.not_eq_false', Bool.and_eq_true, Bool.or_eq_true, Bool.and_eq_false_iff, Bool.or_eq_false_iff, bne_iff_ne, beq_iff_eq, bne_eq_false_iff_eq, beq_eq_false_iff_ne, ne_eq, not_and, Int.not_le, Int.not_lt, ge_iff_le, gt_iff_lt, Nat.not_lt, Nat.not_le, Bool.not_eq_true, Bool.not_eq_false, Bool.true_eq_false, Bool.false_eq_true, not_false_eq_true, not_true_eq_false] at h)
          | exact goes_none.mpr (by omega)
        all_goals first | (exfalso; omega) | exact hm | (exfalso; simp_all; done)
      · obtain rfl : nq = 1 := by omega
        rw [show (1 : Nat) - 1 = 0 from rfl] at em
        show Goes _ _ _
        (first | rw [q70] | unfold q70)
        try simp only [Int.toNat_natCast, em, Int.toNat_zero]
        try show Goes _ _ _
        repeat' first
          | with_reducible refine goes_if (fun h => ?_) (fun h => ?_) <;> (try simp only [lim64, imp_false, decide_eq_true_eq, decide_eq_false_iff_not, Int.toNat_natCast, toNat_pred, toNat_succ, Option.getD_some, Option.getD_none, Bool.not_eq_true', Bool.not_eq_false', Bool.and_eq_true, Bool.or_eq_true, Bool.and_eq_false_iff, Bool.or_eq_false_iff, bne_iff_ne, beq_iff_eq, bne_eq_false_iff_eq, beq_eq_false_iff_ne, ne_eq, not_and, Int.not_le, Int.not_lt, ge_iff_le, gt_iff_lt, Nat.not_lt, Nat.not_le, Bool.not_eq_true, Bool.not_eq_false, Bool.true_eq_false, Bool.false_eq_true, not_false_eq_true, not_true_eq_false] at h)
          | exact goes_none.mpr (by omega)
        all_goals first | (exfalso; omega) | (refine goes_inr.mpr ?_; show (_ : Int) = (_ : Int); rw [h1]; omega) | (exfalso; simp_all; done)
    · obtain ⟨c, rfl⟩ := Int.eq_ofNat_of_zero_le hs1
      rw [if_neg h0] at h1
      have hB := tB_b (st := (c : Int)) v2 v3 (c + 1) (by omega)
      have hn := tB_n (v := (fun j => vq (j + aq))) (g := (fun j => gq (j + aq))) (de := de) (show 0 < (c : Int) by omega) nq hs2
      rw [Int.toNat_natCast] at hn
      have hs : ∀ j : Nat, 1 ≤ j → j < c → S.tB (fun j => vq (j + aq)) (fun j => gq (j + aq)) de (c : Int) (j + 1) = S.tB (fun j => vq (j + aq)) (fun j => gq (j + aq)) de (c : Int) j + vq (j + aq) + gq (j + aq) := fun j h2 h3 => by
        show S.tB (fun j => vq (j + aq)) (fun j => gq (j + aq)) de (c : Int) j + S.cB (fun j => vq (j + aq)) (fun j => gq (j + aq)) (c : Int) j = _
        unfold S.cB
        rw [if_neg (by omega), if_neg (by omega), if_pos (by omega)]
        dsimp only
        omega
      have hc : S.tB (fun j => vq (j + aq)) (fun j => gq (j + aq)) de (c : Int) (c + 1) = S.tB (fun j => vq (j + aq)) (fun j => gq (j + aq)) de (c : Int) c + vq (c + aq) := by
        show S.tB (fun j => vq (j + aq)) (fun j => gq (j + aq)) de (c : Int) c + S.cB (fun j => vq (j + aq)) (fun j => gq (j + aq)) (c : Int) c = _
        unfold S.cB
        rw [if_neg (by omega), if_neg (by omega), if_neg (by omega), if_pos rfl]
      have hm := s70b aq nq mq tq vq gq de (c : Int) 2 ⟨hp1, hv, hs1, hs2⟩ rfl (S.tB (fun j => vq (j + aq)) (fun j => gq (j + aq)) de (c : Int) (c + 1)) (by omega) (S.tB (fun j => vq (j + aq)) (fun j => gq (j + aq)) de (c : Int) nq) (by omega) (c - 1) (by omega) (fun j h2 h3 => hs j h2 (by omega)) de ⟨by
        rw [show c - 1 + 1 = c by omega]; omega⟩
      rw [show c - 1 + 1 = c by omega] at hm
      exact hm
theorem k70_ok : k70.ok Try.prog := by
  intro x hx
  obtain ⟨⟨⟨aq, nq, mq, tq, vq, gq, _⟩, de, _⟩, st, lp, _⟩ := x
  obtain ⟨h1, h2⟩ := a70 aq nq mq tq vq gq de st lp (s70 aq nq mq tq vq gq de st lp (of_dec hx rfl))
  exact ⟨⟨400, (by decide : 1 + 1 + 0 ≤ 400), h1⟩, h2⟩
noncomputable def xY (test : Bool → Prop → Prop → Prop) : Ext := consX test [k58, k66, k69, k70, k54, k56]
theorem xY_ok : ExtOk Try.prog (xY cond) := consX_ok ⟨k58_ok, k66_ok, k69_ok, k70_ok, k54_ok, k56_ok, trivial⟩
namespace S
def opL (lp : Int) (n : Nat) (st k l p : Int) : Bool := opnB lp n (fun i => decide ((i : Int) ≠ st)) 1 (fun _ => k) (fun _ => l) (fun _ => p)
def latI (n : Nat) (v g : Nat → Int) (de st k l p : Int) : Int := if opL 1 n (-1) k l p = true ∨ opL 2 n (-1) k l p = true then 0 else if opL 1 n st k l p = false then tB v g de st n else if opL 2 n st k l p = false then tA v g de st n else min (tA v g de st n) (tB v g de st n)
def safB (n : Nat) (loc : Nat → Bool) (nf : Nat) (k l p : Nat → Int) : Bool := opnB 1 n loc nf k l p || opnB 2 n loc nf k l p
end S
theorem any_one {p : Nat → Bool} : S.any p 1 = p 0 := by simp [S.any]
theorem any_zero {p : Nat → Bool} : S.any p 0 = false := rfl
theorem opn_one {lp : Int} {n : Nat} {st k l p : Int} {F : Nat → Bool} {K L P : Nat → Int} (hF : ∀ r, r < n → F r = decide ((r : Int) ≠ st)) (hK : K 0 = k) (hL : L 0 = l) (hP : P 0 = p) : S.opnB lp n (fun j => S.at' (S.mkl n F) j) 1 K L P = S.opL lp n st k l p := by
  unfold S.opL
  exact opnB_congr (fun j hj => by rw [at_mkl hj]; exact hF j hj) (fun j hj => by rw [show j = 0 by omega]; exact ⟨hK, hL, hP⟩)
theorem has_one {k l p a c d : Int} : S.hasF 1 (fun _ => k) (fun _ => l) (fun _ => p) a c d = decide (k = a ∧ l = c ∧ p = d) := by
  unfold S.hasF
  rw [any_one, Bool.decide_and, Bool.decide_and, Bool.and_assoc]
theorem opL_no {lp : Int} {n : Nat} {st k l p : Int} (h0 : 0 ≤ st) (h1 : st < (n : Int)) (h : S.opL lp n st k l p = false) : l = lp := by
  unfold S.opL S.opnB at h
  rw [Bool.and_eq_false_iff] at h
  rcases h with h | h
  · rw [Bool.not_eq_false', has_one, decide_eq_true_eq] at h
    exact h.2.1
  · have h := any_no.mp h st.toNat (by omega)
    unfold S.opP at h
    rw [Bool.or_eq_false_iff, Bool.or_eq_false_iff] at h
    have h2 := h.2
    dsimp only at h2
    rw [has_one, decide_eq_false (show ¬ (((st.toNat : Nat) : Int) ≠ st) by omega), Bool.not_false, Bool.true_and, Bool.not_eq_false', decide_eq_true_eq] at h2
    exact h2.2.1
abbrev St47 := Empty
abbrev Rt47 := Int
noncomputable def V47 (aq nq mq : Nat) (tq : Nat → ByteArray) (vq : Nat → Int) (gq : Nat → Int) (de : Int) (st : Int) (k1 : Int) (k2 : Int) (k3 : Int) (r : Rt47) : PV := PV.int IntKind.i64 r
noncomputable def N47 (aq nq mq : Nat) (tq : Nat → ByteArray) (vq : Nat → Int) (gq : Nat → Int) (de : Int) (st : Int) (k1 : Int) (k2 : Int) (k3 : Int) (r : Rt47) : List Blk := []
noncomputable def I47 (aq nq mq : Nat) (tq : Nat → ByteArray) (vq : Nat → Int) (gq : Nat → Int) (de : Int) (st : Int) (k1 : Int) (k2 : Int) (k3 : Int) : St47 → Hd := fun s => s.elim
noncomputable def q47 (aq nq mq : Nat) (tq : Nat → ByteArray) (vq : Nat → Int) (gq : Nat → Int) (de : Int) (st : Int) (k1 : Int) (k2 : Int) (k3 : Int) : St47 → Option (St47 ⊕ Rt47) := fun s => s.elim
noncomputable def p47 (aq nq mq : Nat) (tq : Nat → ByteArray) (vq : Nat → Int) (gq : Nat → Int) (de : Int) (st : Int) (k1 : Int) (k2 : Int) (k3 : Int) : Option (St47 ⊕ Rt47) := bif (decide
 (0 ≤ 0 ∧
 0 ≤ 1000000 ∧
 nq ≤ 1000 ∧
 S.all (fun j => decide ((0 : Int) ≤ (0 : Int) ∧ (0 : Int) < (↑nq : Int))) (0) =
 true))
 then (bif (decide
 (1 ≤ 1 ∧
 1 ≤ 1000000 ∧
 nq ≤ 1000 ∧
 S.all
 (fun j =>
 decide ((0 : Int) ≤ S.lit [st] (0 : Int) j ∧ S.lit [st] (0 : Int) j < (↑nq : Int)))
 (1) =
 true))
 then (bif (decide
 (1 ≤ 1 ∧
 1 ≤ 1000000 ∧
 0 +
 List.length
 (S.mkl nq fun (r : Nat) =>
 !S.any (fun j => decide ((0 : Int) = (↑r : Int))) (0)) ≤
 List.length
 (S.mkl nq fun (r : Nat) =>
 !S.any (fun j => decide ((0 : Int) = (↑r : Int))) (0)) ∧
 List.length
 (S.mkl nq fun (r : Nat) =>
 !S.any (fun j => decide ((0 : Int) = (↑r : Int))) (0)) ≤
 1000000))
 then (bif (S.opnB (1 : Int)
 (List.length
 (S.mkl nq fun (r : Nat) =>
 !S.any (fun j => decide ((0 : Int) = (↑r : Int))) (0)))
 (fun j =>
 S.at'
 (S.mkl nq fun (r : Nat) =>
 !S.any (fun j => decide ((0 : Int) = (↑r : Int))) (0))
 j)
 (1) (fun j => S.lit [k1] (0 : Int) j) (fun j => S.lit [k2] (0 : Int) j)
 fun j => S.lit [k3] (0 : Int) j)
 then (some (.inr ((0 : Int))))
 else (bif (S.opnB (2 : Int)
 (List.length
 (S.mkl nq fun (r : Nat) =>
 !S.any (fun j => decide ((0 : Int) = (↑r : Int))) (0)))
 (fun j =>
 S.at'
 (S.mkl nq fun (r : Nat) =>
 !S.any (fun j => decide ((0 : Int) = (↑r : Int))) (0))
 j)
 (1) (fun j => S.lit [k1] (0 : Int) j) (fun j => S.lit [k2] (0 : Int) j)
 fun j => S.lit [k3] (0 : Int) j)
 then (some (.inr ((0 : Int))))
 else (bif (decide
 (aq + nq ≤ mq ∧
 S.netE nq (fun j => tq (j + aq)) (fun j => vq (j + aq)) (fun j => gq (j + aq)) de =
 (0 : Int) ∧
 (0 : Int) ≤ st ∧ st < (↑nq : Int)))
 then (bif (decide
 (1 ≤ 1 ∧
 1 ≤ 1000000 ∧
 0 +
 List.length
 (S.mkl nq fun (r : Nat) =>
 !S.any (fun j => decide (S.lit [st] (0 : Int) j = (↑r : Int)))
 (1)) ≤
 List.length
 (S.mkl nq fun (r : Nat) =>
 !S.any (fun j => decide (S.lit [st] (0 : Int) j = (↑r : Int)))
 (1)) ∧
 List.length
 (S.mkl nq fun (r : Nat) =>
 !S.any (fun j => decide (S.lit [st] (0 : Int) j = (↑r : Int)))
 (1)) ≤
 1000000))
 then (bif (S.opnB (1 : Int)
 (List.length
 (S.mkl nq fun (r : Nat) =>
 !S.any (fun j => decide (S.lit [st] (0 : Int) j = (↑r : Int))) (1)))
 (fun j =>
 S.at'
 (S.mkl nq fun (r : Nat) =>
 !S.any (fun j => decide (S.lit [st] (0 : Int) j = (↑r : Int))) (1))
 j)
 (1) (fun j => S.lit [k1] (0 : Int) j) (fun j => S.lit [k2] (0 : Int) j)
 fun j => S.lit [k3] (0 : Int) j)
 then (bif (S.opnB (2 : Int)
 (List.length
 (S.mkl nq fun (r : Nat) =>
 !S.any (fun j => decide (S.lit [st] (0 : Int) j = (↑r : Int))) (1)))
 (fun j =>
 S.at'
 (S.mkl nq fun (r : Nat) =>
 !S.any (fun j => decide (S.lit [st] (0 : Int) j = (↑r : Int))) (1))
 j)
 (1) (fun j => S.lit [k1] (0 : Int) j) (fun j => S.lit [k2] (0 : Int) j)
 fun j => S.lit [k3] (0 : Int) j)
 then (some (.inr (Min.min (S.tA (fun j => vq (j + aq)) (fun j => gq (j + aq)) de st nq)
 (S.tB (fun j => vq (j + aq)) (fun j => gq (j + aq)) de st nq))))
 else (some (.inr (S.tA (fun j => vq (j + aq)) (fun j => gq (j + aq)) de st nq))))
 else (some (.inr (S.tB (fun j => vq (j + aq)) (fun j => gq (j + aq)) de st nq))))
 else (none))
 else (none))))
 else (none))
 else (none))
 else (none)
noncomputable def Te47 (test : Bool → Prop → Prop → Prop) (Kst : KS) (Kret : KR) (aq nq mq : Nat) (tq : Nat → ByteArray) (vq : Nat → Int) (gq : Nat → Int) (de : Int) (st : Int) (k1 : Int) (k2 : Int) (k3 : Int) : Prop :=
  test (decide
 (0 ≤ 0 ∧
 0 ≤ 1000000 ∧
 nq ≤ 1000 ∧
 S.all (fun j => decide ((0 : Int) ≤ (0 : Int) ∧ (0 : Int) < (↑nq : Int))) (0) =
 true))
 (test (decide
 (1 ≤ 1 ∧
 1 ≤ 1000000 ∧
 nq ≤ 1000 ∧
 S.all
 (fun j =>
 decide ((0 : Int) ≤ S.lit [st] (0 : Int) j ∧ S.lit [st] (0 : Int) j < (↑nq : Int)))
 (1) =
 true))
 (test (decide
 (1 ≤ 1 ∧
 1 ≤ 1000000 ∧
 0 +
 List.length
 (S.mkl nq fun (r : Nat) =>
 !S.any (fun j => decide ((0 : Int) = (↑r : Int))) (0)) ≤
 List.length
 (S.mkl nq fun (r : Nat) =>
 !S.any (fun j => decide ((0 : Int) = (↑r : Int))) (0)) ∧
 List.length
 (S.mkl nq fun (r : Nat) =>
 !S.any (fun j => decide ((0 : Int) = (↑r : Int))) (0)) ≤
 1000000))
 (test (S.opnB (1 : Int)
 (List.length
 (S.mkl nq fun (r : Nat) =>
 !S.any (fun j => decide ((0 : Int) = (↑r : Int))) (0)))
 (fun j =>
 S.at'
 (S.mkl nq fun (r : Nat) =>
 !S.any (fun j => decide ((0 : Int) = (↑r : Int))) (0))
 j)
 (1) (fun j => S.lit [k1] (0 : Int) j) (fun j => S.lit [k2] (0 : Int) j)
 fun j => S.lit [k3] (0 : Int) j)
 (Kret (PV.int IntKind.i64 (0 : Int)) ([[(0, false,
 Blk.cols mq [Col.str tq, Col.int IntKind.i64 vq, Col.int IntKind.i64 gq])]]) (10))
 (test (decide
 (1 ≤ 1 ∧
 1 ≤ 1000000 ∧
 0 +
 List.length
 (S.mkl nq fun (r : Nat) =>
 !S.any (fun j => decide ((0 : Int) = (↑r : Int))) (0)) ≤
 List.length
 (S.mkl nq fun (r : Nat) =>
 !S.any (fun j => decide ((0 : Int) = (↑r : Int))) (0)) ∧
 List.length
 (S.mkl nq fun (r : Nat) =>
 !S.any (fun j => decide ((0 : Int) = (↑r : Int))) (0)) ≤
 1000000))
 (test (S.opnB (2 : Int)
 (List.length
 (S.mkl nq fun (r : Nat) =>
 !S.any (fun j => decide ((0 : Int) = (↑r : Int))) (0)))
 (fun j =>
 S.at'
 (S.mkl nq fun (r : Nat) =>
 !S.any (fun j => decide ((0 : Int) = (↑r : Int))) (0))
 j)
 (1) (fun j => S.lit [k1] (0 : Int) j) (fun j => S.lit [k2] (0 : Int) j)
 fun j => S.lit [k3] (0 : Int) j)
 (Kret (PV.int IntKind.i64 (0 : Int)) ([[(0, false,
 Blk.cols mq [Col.str tq, Col.int IntKind.i64 vq, Col.int IntKind.i64 gq])]]) (12))
 (test (decide
 (aq + nq ≤ mq ∧
 S.netE nq (fun j => tq (j + aq)) (fun j => vq (j + aq)) (fun j => gq (j + aq)) de =
 (0 : Int) ∧
 (0 : Int) ≤ st ∧ st < (↑nq : Int)))
 (test (decide
 (1 ≤ 1 ∧
 1 ≤ 1000000 ∧
 0 +
 List.length
 (S.mkl nq fun (r : Nat) =>
 !S.any (fun j => decide (S.lit [st] (0 : Int) j = (↑r : Int)))
 (1)) ≤
 List.length
 (S.mkl nq fun (r : Nat) =>
 !S.any (fun j => decide (S.lit [st] (0 : Int) j = (↑r : Int)))
 (1)) ∧
 List.length
 (S.mkl nq fun (r : Nat) =>
 !S.any (fun j => decide (S.lit [st] (0 : Int) j = (↑r : Int)))
 (1)) ≤
 1000000))
 (test (S.opnB (1 : Int)
 (List.length
 (S.mkl nq fun (r : Nat) =>
 !S.any (fun j => decide (S.lit [st] (0 : Int) j = (↑r : Int))) (1)))
 (fun j =>
 S.at'
 (S.mkl nq fun (r : Nat) =>
 !S.any (fun j => decide (S.lit [st] (0 : Int) j = (↑r : Int))) (1))
 j)
 (1) (fun j => S.lit [k1] (0 : Int) j) (fun j => S.lit [k2] (0 : Int) j)
 fun j => S.lit [k3] (0 : Int) j)
 (test (decide
 (1 ≤ 1 ∧
 1 ≤ 1000000 ∧
 0 +
 List.length
 (S.mkl nq fun (r : Nat) =>
 !S.any (fun j => decide (S.lit [st] (0 : Int) j = (↑r : Int)))
 (1)) ≤
 List.length
 (S.mkl nq fun (r : Nat) =>
 !S.any (fun j => decide (S.lit [st] (0 : Int) j = (↑r : Int)))
 (1)) ∧
 List.length
 (S.mkl nq fun (r : Nat) =>
 !S.any (fun j => decide (S.lit [st] (0 : Int) j = (↑r : Int)))
 (1)) ≤
 1000000))
 (test (S.opnB (2 : Int)
 (List.length
 (S.mkl nq fun (r : Nat) =>
 !S.any (fun j => decide (S.lit [st] (0 : Int) j = (↑r : Int))) (1)))
 (fun j =>
 S.at'
 (S.mkl nq fun (r : Nat) =>
 !S.any (fun j => decide (S.lit [st] (0 : Int) j = (↑r : Int))) (1))
 j)
 (1) (fun j => S.lit [k1] (0 : Int) j) (fun j => S.lit [k2] (0 : Int) j)
 fun j => S.lit [k3] (0 : Int) j)
 (Kret (PV.int IntKind.i64
 (Min.min (S.tA (fun j => vq (j + aq)) (fun j => gq (j + aq)) de st nq)
 (S.tB (fun j => vq (j + aq)) (fun j => gq (j + aq)) de st nq))) ([[(0, false,
 Blk.cols mq [Col.str tq, Col.int IntKind.i64 vq, Col.int IntKind.i64 gq])]]) (17))
 (Kret (PV.int IntKind.i64 (S.tA (fun j => vq (j + aq)) (fun j => gq (j + aq)) de st nq)) ([[(0, false,
 Blk.cols mq [Col.str tq, Col.int IntKind.i64 vq, Col.int IntKind.i64 gq])]]) (17)))
 (False))
 (Kret (PV.int IntKind.i64 (S.tB (fun j => vq (j + aq)) (fun j => gq (j + aq)) de st nq)) ([[(0, false,
 Blk.cols mq [Col.str tq, Col.int IntKind.i64 vq, Col.int IntKind.i64 gq])]]) (15)))
 (False))
 (False)))
 (False)))
 (False))
 (False))
 (False)
theorem te47 (test : Bool → Prop → Prop → Prop) (Kst : KS) (Kret : KR) (aq nq mq : Nat) (tq : Nat → ByteArray) (vq : Nat → Int) (gq : Nat → Int) (de : Int) (st : Int) (k1 : Int) (k2 : Int) (k3 : Int) : run test Try.env true (xY test) true 400 ⟨47, [.cd (mkFn Try.f47).body], argT 0 [.agg [.loose ⟨0, 3, aq, 0⟩ nq, .int .i64 de], .int .i64 st, .agg [.int .i64 k1, .int .i64 k2, .int .i64 k3]], [[], [(0, (false, .cols mq [.str tq, .int .i64 vq, .int .i64 gq]))]], 1⟩ (proj 1 [] Kst Kret) =
  Te47 test Kst Kret aq nq mq tq vq gq de st k1 k2 k3 := by kernel_rfl
theorem be47 (aq nq mq : Nat) (tq : Nat → ByteArray) (vq : Nat → Int) (gq : Nat → Int) (de : Int) (st : Int) (k1 : Int) (k2 : Int) (k3 : Int) (Kst : KS) (Kret : KR) (x : St47 ⊕ Rt47) (hS : HS 1 400 ((I47 aq nq mq tq vq gq de st k1 k2 k3)) Kst x) (hR : HR 1 400 ((V47 aq nq mq tq vq gq de st k1 k2 k3)) (fun r => [newL (1 + 1) ((N47 aq nq mq tq vq gq de st k1 k2 k3) r) ++ [(0, (false, .cols mq [.str tq, .int .i64 vq, .int .i64 gq]))]]) Kret x) (h : (bif (decide
 (0 ≤ 0 ∧
 0 ≤ 1000000 ∧
 nq ≤ 1000 ∧
 S.all (fun j => decide ((0 : Int) ≤ (0 : Int) ∧ (0 : Int) < (↑nq : Int))) (0) =
 true))
 then (bif (decide
 (1 ≤ 1 ∧
 1 ≤ 1000000 ∧
 nq ≤ 1000 ∧
 S.all
 (fun j =>
 decide ((0 : Int) ≤ S.lit [st] (0 : Int) j ∧ S.lit [st] (0 : Int) j < (↑nq : Int)))
 (1) =
 true))
 then (bif (decide
 (1 ≤ 1 ∧
 1 ≤ 1000000 ∧
 0 +
 List.length
 (S.mkl nq fun (r : Nat) =>
 !S.any (fun j => decide ((0 : Int) = (↑r : Int))) (0)) ≤
 List.length
 (S.mkl nq fun (r : Nat) =>
 !S.any (fun j => decide ((0 : Int) = (↑r : Int))) (0)) ∧
 List.length
 (S.mkl nq fun (r : Nat) =>
 !S.any (fun j => decide ((0 : Int) = (↑r : Int))) (0)) ≤
 1000000))
 then (bif (S.opnB (1 : Int)
 (List.length
 (S.mkl nq fun (r : Nat) =>
 !S.any (fun j => decide ((0 : Int) = (↑r : Int))) (0)))
 (fun j =>
 S.at'
 (S.mkl nq fun (r : Nat) =>
 !S.any (fun j => decide ((0 : Int) = (↑r : Int))) (0))
 j)
 (1) (fun j => S.lit [k1] (0 : Int) j) (fun j => S.lit [k2] (0 : Int) j)
 fun j => S.lit [k3] (0 : Int) j)
 then (some (.inr ((0 : Int))))
 else (bif (S.opnB (2 : Int)
 (List.length
 (S.mkl nq fun (r : Nat) =>
 !S.any (fun j => decide ((0 : Int) = (↑r : Int))) (0)))
 (fun j =>
 S.at'
 (S.mkl nq fun (r : Nat) =>
 !S.any (fun j => decide ((0 : Int) = (↑r : Int))) (0))
 j)
 (1) (fun j => S.lit [k1] (0 : Int) j) (fun j => S.lit [k2] (0 : Int) j)
 fun j => S.lit [k3] (0 : Int) j)
 then (some (.inr ((0 : Int))))
 else (bif (decide
 (aq + nq ≤ mq ∧
 S.netE nq (fun j => tq (j + aq)) (fun j => vq (j + aq)) (fun j => gq (j + aq)) de =
 (0 : Int) ∧
 (0 : Int) ≤ st ∧ st < (↑nq : Int)))
 then (bif (decide
 (1 ≤ 1 ∧
 1 ≤ 1000000 ∧
 0 +
 List.length
 (S.mkl nq fun (r : Nat) =>
 !S.any (fun j => decide (S.lit [st] (0 : Int) j = (↑r : Int)))
 (1)) ≤
 List.length
 (S.mkl nq fun (r : Nat) =>
 !S.any (fun j => decide (S.lit [st] (0 : Int) j = (↑r : Int)))
 (1)) ∧
 List.length
 (S.mkl nq fun (r : Nat) =>
 !S.any (fun j => decide (S.lit [st] (0 : Int) j = (↑r : Int)))
 (1)) ≤
 1000000))
 then (bif (S.opnB (1 : Int)
 (List.length
 (S.mkl nq fun (r : Nat) =>
 !S.any (fun j => decide (S.lit [st] (0 : Int) j = (↑r : Int))) (1)))
 (fun j =>
 S.at'
 (S.mkl nq fun (r : Nat) =>
 !S.any (fun j => decide (S.lit [st] (0 : Int) j = (↑r : Int))) (1))
 j)
 (1) (fun j => S.lit [k1] (0 : Int) j) (fun j => S.lit [k2] (0 : Int) j)
 fun j => S.lit [k3] (0 : Int) j)
 then (bif (S.opnB (2 : Int)
 (List.length
 (S.mkl nq fun (r : Nat) =>
 !S.any (fun j => decide (S.lit [st] (0 : Int) j = (↑r : Int))) (1)))
 (fun j =>
 S.at'
 (S.mkl nq fun (r : Nat) =>
 !S.any (fun j => decide (S.lit [st] (0 : Int) j = (↑r : Int))) (1))
 j)
 (1) (fun j => S.lit [k1] (0 : Int) j) (fun j => S.lit [k2] (0 : Int) j)
 fun j => S.lit [k3] (0 : Int) j)
 then (some (.inr (Min.min (S.tA (fun j => vq (j + aq)) (fun j => gq (j + aq)) de st nq)
 (S.tB (fun j => vq (j + aq)) (fun j => gq (j + aq)) de st nq))))
 else (some (.inr (S.tA (fun j => vq (j + aq)) (fun j => gq (j + aq)) de st nq))))
 else (some (.inr (S.tB (fun j => vq (j + aq)) (fun j => gq (j + aq)) de st nq))))
 else (none))
 else (none))))
 else (none))
 else (none))
 else (none) : Option (St47 ⊕ Rt47)) = some x) : Te47 cond Kst Kret aq nq mq tq vq gq de st k1 k2 k3 := by
  unfold Te47
  exact bif_split h
   (fun c0 h => bif_split h
   (fun c1 h => bif_split h
   (fun c2 h => bif_split h
   (fun c3 h => ret_at hR _ h (fun n => n) rfl rfl rfl (rn_int rfl) rfl (entl_bor (use_lo rfl) rfl rfl entl_nil))
   (fun c3 h => cond_yes c2 (bif_split h
   (fun c4 h => ret_at hR _ h (fun n => n) rfl rfl rfl (rn_int rfl) rfl (entl_bor (use_lo rfl) rfl rfl entl_nil))
   (fun c4 h => bif_split h
   (fun c5 h => bif_split h
   (fun c6 h => bif_split h
   (fun c7 h => cond_yes c6 (bif_split h
   (fun c8 h => ret_at hR _ h (fun n => n) rfl rfl rfl (rn_int rfl) rfl (entl_bor (use_lo rfl) rfl rfl entl_nil))
   (fun c8 h => ret_at hR _ h (fun n => n) rfl rfl rfl (rn_int rfl) rfl (entl_bor (use_lo rfl) rfl rfl entl_nil))))
   (fun c7 h => ret_at hR _ h (fun n => n) rfl rfl rfl (rn_int rfl) rfl (entl_bor (use_lo rfl) rfl rfl entl_nil)))
   (fun c6 h => no_some h))
   (fun c5 h => no_some h)))))
   (fun c2 h => no_some h))
   (fun c1 h => no_some h))
   (fun c0 h => no_some h)
theorem a47 (aq nq mq : Nat) (tq : Nat → ByteArray) (vq : Nat → Int) (gq : Nat → Int) (de : Int) (st : Int) (k1 : Int) (k2 : Int) (k3 : Int) {r : Rt47} (h : Goes ((q47 aq nq mq tq vq gq de st k1 k2 k3)) ((p47 aq nq mq tq vq gq de st k1 k2 k3)) r) : CallR Try.prog 47 [.agg [.loose ⟨0, 3, aq, 0⟩ nq, .int .i64 de], .int .i64 st, .agg [.int .i64 k1, .int .i64 k2, .int .i64 k3]] [[(0, (false, .cols mq [.str tq, .int .i64 vq, .int .i64 gq]))]] 1 ((V47 aq nq mq tq vq gq de st k1 k2 k3) r) ((fun r => [newL (1 + 1) ((N47 aq nq mq tq vq gq de st k1 k2 k3) r) ++ [(0, (false, .cols mq [.str tq, .int .i64 vq, .int .i64 gq]))]]) r) 400 ∧ ∃ F, Try.prog.funcs[47]? = some F ∧ F.body.isSome = true ∧ (F.name == "runtime.NumGoroutine") = false := by
  refine dec_calls (f := 47) (lo := 1) (hi := 400) (H := [[(0, (false, .cols mq [.str tq, .int .i64 vq, .int .i64 gq]))]]) (args := [.agg [.loose ⟨0, 3, aq, 0⟩ nq, .int .i64 de], .int .i64 st, .agg [.int .i64 k1, .int .i64 k2, .int .i64 k3]]) Try.envOk Try.mixed xY_ok ((I47 aq nq mq tq vq gq de st k1 k2 k3)) ((V47 aq nq mq tq vq gq de st k1 k2 k3)) (fun r => [newL (1 + 1) ((N47 aq nq mq tq vq gq de st k1 k2 k3) r) ++ [(0, (false, .cols mq [.str tq, .int .i64 vq, .int .i64 gq]))]]) (fn := mkFn Try.f47) (ts := []) (n := 400) rfl (by decide) (by simp) (names_of rfl) ?_ ?_ ?_ h
  · intro s; exact s.elim
  · intro Kst Kret x hS hR h
    exact Holds.eq (te47 cond Kst Kret aq nq mq tq vq gq de st k1 k2 k3) (be47 aq nq mq tq vq gq de st k1 k2 k3 Kst Kret x hS hR h)
  · intro Kst Kret x hS hR s h; exact s.elim
noncomputable def k47 : Con := ⟨47, [.agg [.list [.str, .int .i64, .int .i64], .plain (.int .i64)], .one (.plain (.int .i64)), .agg [.plain (.int .i64), .plain (.int .i64), .plain (.int .i64)]], fun (x : ((Nat × Nat × Nat × (Nat → ByteArray) × (Nat → Int) × (Nat → Int) × Unit) × Int × Unit) × Int × (Int × Int × Int × Unit) × Unit) => (fun (aq nq mq : Nat) (tq : Nat → ByteArray) (vq : Nat → Int) (gq : Nat → Int) (de : Int) (st : Int) (k1 : Int) (k2 : Int) (k3 : Int) => decide ((aq + nq ≤ mq) ∧ (S.netE nq (fun j => tq (j + aq)) (fun j => vq (j + aq)) (fun j => gq (j + aq)) de) = 0 ∧ 0 ≤ st ∧ st < (nq : Int))) x.1.1.1 x.1.1.2.1 x.1.1.2.2.1 x.1.1.2.2.2.1 x.1.1.2.2.2.2.1 x.1.1.2.2.2.2.2.1 x.1.2.1 x.2.1 x.2.2.1.1 x.2.2.1.2.1 x.2.2.1.2.2.1, fun (x : ((Nat × Nat × Nat × (Nat → ByteArray) × (Nat → Int) × (Nat → Int) × Unit) × Int × Unit) × Int × (Int × Int × Int × Unit) × Unit) => (fun (aq nq mq : Nat) (tq : Nat → ByteArray) (vq : Nat → Int) (gq : Nat → Int) (de : Int) (st : Int) (k1 : Int) (k2 : Int) (k3 : Int) => (V47 aq nq mq tq vq gq de st k1 k2 k3) (S.latI nq (fun j => vq (j + aq)) (fun j => gq (j + aq)) de st k1 k2 k3)) x.1.1.1 x.1.1.2.1 x.1.1.2.2.1 x.1.1.2.2.2.1 x.1.1.2.2.2.2.1 x.1.1.2.2.2.2.2.1 x.1.2.1 x.2.1 x.2.2.1.1 x.2.2.1.2.1 x.2.2.1.2.2.1, fun (x : ((Nat × Nat × Nat × (Nat → ByteArray) × (Nat → Int) × (Nat → Int) × Unit) × Int × Unit) × Int × (Int × Int × Int × Unit) × Unit) => (fun (aq nq mq : Nat) (tq : Nat → ByteArray) (vq : Nat → Int) (gq : Nat → Int) (de : Int) (st : Int) (k1 : Int) (k2 : Int) (k3 : Int) => (N47 aq nq mq tq vq gq de st k1 k2 k3) (S.latI nq (fun j => vq (j + aq)) (fun j => gq (j + aq)) de st k1 k2 k3)) x.1.1.1 x.1.1.2.1 x.1.1.2.2.1 x.1.1.2.2.2.1 x.1.1.2.2.2.2.1 x.1.1.2.2.2.2.2.1 x.1.2.1 x.2.1 x.2.2.1.1 x.2.2.1.2.1 x.2.2.1.2.2.1, fun _ _ => .dead⟩
theorem s47 (aq nq mq : Nat) (tq : Nat → ByteArray) (vq : Nat → Int) (gq : Nat → Int) (de : Int) (st : Int) (k1 : Int) (k2 : Int) (k3 : Int) (hp : (aq + nq ≤ mq) ∧ (S.netE nq (fun j => tq (j + aq)) (fun j => vq (j + aq)) (fun j => gq (j + aq)) de) = 0 ∧ 0 ≤ st ∧ st < (nq : Int)) : Goes ((q47 aq nq mq tq vq gq de st k1 k2 k3)) ((p47 aq nq mq tq vq gq de st k1 k2 k3)) (S.latI nq (fun j => vq (j + aq)) (fun j => gq (j + aq)) de st k1 k2 k3) := by
  obtain ⟨hp1, hv, hs1, hs2⟩ := hp
  obtain ⟨v1, v2, v3⟩ := net_ok hv
  have e0 : ∀ lp, S.opnB lp nq (fun j => S.at' (S.mkl nq (fun (r : Nat) => !S.any (fun j => decide ((0 : Int) = (r : Int))) 0)) j) 1 (fun j => S.lit [k1] 0 j) (fun j => S.lit [k2] 0 j) (fun j => S.lit [k3] 0 j) = S.opL lp nq (-1) k1 k2 k3 := fun lp => opn_one (fun r hr => by
    rw [any_zero, decide_eq_true (show (r : Int) ≠ -1 by omega)]; rfl) rfl rfl rfl
  have e1 : ∀ lp, S.opnB lp nq (fun j => S.at' (S.mkl nq (fun (r : Nat) => !S.any (fun j => decide (S.lit [st] 0 j = (r : Int))) 1)) j) 1 (fun j => S.lit [k1] 0 j) (fun j => S.lit [k2] 0 j) (fun j => S.lit [k3] 0 j) = S.opL lp nq st k1 k2 k3 := fun lp => opn_one (fun r hr => by
    rw [any_one]
    show (!decide (st = (r : Int))) = decide ((r : Int) ≠ st)
    rw [← decide_not]
    exact decide_eq_decide.mpr ⟨fun h e => h e.symm, fun h e => h e.symm⟩) rfl rfl rfl
  have h3 : S.all (fun j => decide (0 ≤ S.lit [st] 0 j ∧ S.lit [st] 0 j < (nq : Int))) 1 = true := all_iff.mpr fun j hj => by
    obtain rfl : j = 0 := by omega
    exact decide_eq_true ⟨hs1, hs2⟩
  have h4 : ∀ p : Nat → Bool, S.all p 0 = true := fun p => rfl
  have hq : nq ≤ 1000 ∧ nq ≤ 1000000 := by omega
  unfold p47 S.latI
  have hk1 : (1 : Nat) ≤ 1000000 := by decide
  simp only [mkl_len, e0, e1, h3, h4, hv, hp1, hs1, hs2, hq.1, hq.2, eq_self, and_self, decide_true, cond_true, Nat.zero_add, Nat.le_refl, Nat.zero_le, hk1]
  generalize S.tA (fun j => vq (j + aq)) (fun j => gq (j + aq)) de st nq = TA
  generalize S.tB (fun j => vq (j + aq)) (fun j => gq (j + aq)) de st nq = TB
  generalize S.opL 1 nq (-1) k1 k2 k3 = A
  generalize S.opL 2 nq (-1) k1 k2 k3 = B
  generalize S.opL 1 nq st k1 k2 k3 = C
  generalize S.opL 2 nq st k1 k2 k3 = D
  show Goes _ _ _
  cases A <;> cases B <;> cases C <;> cases D
  all_goals
   repeat' first
    | with_reducible refine goes_if (fun h => ?_) (fun h => ?_) <;> (try simp only [lim64, imp_false, decide_eq_true_eq, decide_eq_false_iff_not, Int.toNat_natCast, toNat_pred, toNat_succ, Option.getD_some, Option.getD_none, Bool.not_eq_true', Bool.not_eq_false', Bool.and_eq_true, Bool.or_eq_true, Bool.and_eq_false_iff, Bool.or_eq_false_iff, bne_iff_ne, beq_iff_eq, bne_eq_false_iff_eq, beq_eq_false_iff_ne, ne_eq, not_and, Int.not_le, Int.not_lt, ge_iff_le, gt_iff_lt, Nat.not_lt, Nat.not_le, Bool.not_eq_true, Bool.not_eq_false, Bool.true_eq_false, Bool.false_eq_true, not_false_eq_true, not_true_eq_false] at h)
    | exact goes_none.mpr (by omega)
   all_goals first | (exfalso; omega) | exact goes_inr.mpr rfl
theorem k47_ok : k47.ok Try.prog := by
  intro x hx
  obtain ⟨⟨⟨aq, nq, mq, tq, vq, gq, _⟩, de, _⟩, st, ⟨k1, k2, k3, _⟩, _⟩ := x
  obtain ⟨h1, h2⟩ := a47 aq nq mq tq vq gq de st k1 k2 k3 (s47 aq nq mq tq vq gq de st k1 k2 k3 (of_dec hx rfl))
  exact ⟨⟨400, (by decide : 1 + 1 + 0 ≤ 400), h1⟩, h2⟩
inductive St48 where
  | h0 (x0 : Int) (x1 : Int) (x2 : List (Int × Int × Int))
abbrev Rt48 := Int
noncomputable def V48 (aq nq mq : Nat) (tq : Nat → ByteArray) (vq : Nat → Int) (gq : Nat → Int) (de : Int) (st : Int) (k1 : Int) (k2 : Int) (k3 : Int) (r : Rt48) : PV := PV.int IntKind.i64 r
noncomputable def N48 (aq nq mq : Nat) (tq : Nat → ByteArray) (vq : Nat → Int) (gq : Nat → Int) (de : Int) (st : Int) (k1 : Int) (k2 : Int) (k3 : Int) (r : Rt48) : List Blk := []
noncomputable def I48 (aq nq mq : Nat) (tq : Nat → ByteArray) (vq : Nat → Int) (gq : Nat → Int) (de : Int) (st : Int) (k1 : Int) (k2 : Int) (k3 : Int) : St48 → Hd
  | .h0 x0 x1 x2 => ⟨hd Try.f48 0, [PV.int IntKind.i64 st, PV.ptr (PA.mk (1) (0) (0) (0)),
 PV.own (2) (3) (List.length x2), PV.int IntKind.i64 x0, PV.int IntKind.i64 x1], [[(1, (true, Blk.cells [PV.loose (PA.mk (0) (3) aq (0)) nq, PV.int IntKind.i64 de])), (2, (true, Blk.cols (List.length x2)
 [Col.int IntKind.i64 fun j => (S.at' x2 j).1,
 Col.int IntKind.i64 fun j => (S.at' x2 j).2.1,
 Col.int IntKind.i64 fun j => (S.at' x2 j).2.2]))], [(0, (false, .cols mq [.str tq, .int .i64 vq, .int .i64 gq]))]], 3⟩
noncomputable def q48 (aq nq mq : Nat) (tq : Nat → ByteArray) (vq : Nat → Int) (gq : Nat → Int) (de : Int) (st : Int) (k1 : Int) (k2 : Int) (k3 : Int) : St48 → Option (St48 ⊕ Rt48)
  | .h0 x0 x1 x2 => bif (decide (x1 ≤ (2 : Int)))
 then (bif (decide (nq ≤ 1000000))
 then (bif (decide
 (0 + List.length x2 ≤ List.length x2 ∧
 List.length x2 ≤ 1000000 ∧
 0 + List.length (S.mkl nq fun (r : Nat) => decide ((↑r : Int) ≠ (-1 : Int))) ≤
 List.length (S.mkl nq fun (r : Nat) => decide ((↑r : Int) ≠ (-1 : Int))) ∧
 List.length (S.mkl nq fun (r : Nat) => decide ((↑r : Int) ≠ (-1 : Int))) ≤ 1000000 ∧
 nq ≤ List.length (S.mkl nq fun (r : Nat) => decide ((↑r : Int) ≠ (-1 : Int)))))
 then (bif (S.opnB x1 nq
 (fun j => S.at' (S.mkl nq fun (r : Nat) => decide ((↑r : Int) ≠ (-1 : Int))) j)
 (List.length x2) (fun j => (S.at' x2 j).1)
 (fun j => (S.at' x2 j).2.1) fun j => (S.at' x2 j).2.2)
 then (some (.inr ((0 : Int))))
 else (bif (decide
 (0 + List.length x2 ≤ List.length x2 ∧
 List.length x2 ≤ 1000000 ∧
 0 + List.length (S.mkl nq fun (r : Nat) => decide ((↑r : Int) ≠ st)) ≤
 List.length (S.mkl nq fun (r : Nat) => decide ((↑r : Int) ≠ st)) ∧
 List.length (S.mkl nq fun (r : Nat) => decide ((↑r : Int) ≠ st)) ≤ 1000000 ∧
 nq ≤ List.length (S.mkl nq fun (r : Nat) => decide ((↑r : Int) ≠ st))))
 then (bif (S.opnB x1 nq (fun j => S.at' (S.mkl nq fun (r : Nat) => decide ((↑r : Int) ≠ st)) j)
 (List.length x2) (fun j => (S.at' x2 j).1)
 (fun j => (S.at' x2 j).2.1) fun j => (S.at' x2 j).2.2)
 then (bif (decide
 (aq + nq ≤ mq ∧
 S.netE nq (fun j => tq (j + aq)) (fun j => vq (j + aq)) (fun j => gq (j + aq)) de =
 (0 : Int) ∧
 (0 : Int) ≤ st ∧ st < (↑nq : Int) ∧ (x1 = (1 : Int) ∨ x1 = (2 : Int))))
 then (bif (decide (x0 < (0 : Int)))
 then (bif (lim IntKind.i64 (x1 + (1 : Int)))
 then (some (.inl (.h0 (if x1 = (1 : Int) then S.tA (fun j => vq (j + aq)) (fun j => gq (j + aq)) de st nq
else S.tB (fun j => vq (j + aq)) (fun j => gq (j + aq)) de st nq) (x1 + (1 : Int)) (x2))))
 else (none))
 else (bif (decide
 ((if x1 = (1 : Int) then S.tA (fun j => vq (j + aq)) (fun j => gq (j + aq)) de st nq
 else S.tB (fun j => vq (j + aq)) (fun j => gq (j + aq)) de st nq) <
 x0))
 then (bif (lim IntKind.i64 (x1 + (1 : Int)))
 then (some (.inl (.h0 (if x1 = (1 : Int) then S.tA (fun j => vq (j + aq)) (fun j => gq (j + aq)) de st nq
else S.tB (fun j => vq (j + aq)) (fun j => gq (j + aq)) de st nq) (x1 + (1 : Int)) (x2))))
 else (none))
 else (bif (lim IntKind.i64 (x1 + (1 : Int)))
 then (some (.inl (.h0 (x0) (x1 + (1 : Int)) (x2))))
 else (none))))
 else (none))
 else (bif (lim IntKind.i64 (x1 + (1 : Int)))
 then (some (.inl (.h0 (x0) (x1 + (1 : Int)) (x2))))
 else (none)))
 else (none)))
 else (none))
 else (none))
 else (some (.inr (x0)))
noncomputable def p48 (aq nq mq : Nat) (tq : Nat → ByteArray) (vq : Nat → Int) (gq : Nat → Int) (de : Int) (st : Int) (k1 : Int) (k2 : Int) (k3 : Int) : Option (St48 ⊕ Rt48) := some (.inl (.h0 ((-1 : Int)) ((1 : Int)) ([(k1, k2, k3)])))
noncomputable def Te48 (test : Bool → Prop → Prop → Prop) (Kst : KS) (Kret : KR) (aq nq mq : Nat) (tq : Nat → ByteArray) (vq : Nat → Int) (gq : Nat → Int) (de : Int) (st : Int) (k1 : Int) (k2 : Int) (k3 : Int) : Prop :=
  Kst (hd Try.f48 0) ([PV.int IntKind.i64 st, PV.ptr (PA.mk (1) (0) (0) (0)),
 PV.own (3) (3) (1), PV.int IntKind.i64 (-1 : Int),
 PV.int IntKind.i64 (1 : Int)]) ([[(0, false,
 Blk.cols mq [Col.str tq, Col.int IntKind.i64 vq, Col.int IntKind.i64 gq]),
 (3, true,
 Blk.cells [PV.int IntKind.i64 k1, PV.int IntKind.i64 k2, PV.int IntKind.i64 k3]),
 (1, true,
 Blk.cells
 [PV.loose (PA.mk (0) (3) aq (0)) nq, PV.int IntKind.i64 de])]]) (4)
theorem te48 (test : Bool → Prop → Prop → Prop) (Kst : KS) (Kret : KR) (aq nq mq : Nat) (tq : Nat → ByteArray) (vq : Nat → Int) (gq : Nat → Int) (de : Int) (st : Int) (k1 : Int) (k2 : Int) (k3 : Int) : run test Try.env true (xY test) true 400 ⟨48, [.cd (mkFn Try.f48).body], argT 0 [.agg [.loose ⟨0, 3, aq, 0⟩ nq, .int .i64 de], .int .i64 st, .agg [.int .i64 k1, .int .i64 k2, .int .i64 k3]], [[], [(0, (false, .cols mq [.str tq, .int .i64 vq, .int .i64 gq]))]], 1⟩ (proj 1 [1, 3, 7, 8, 9] Kst Kret) =
  Te48 test Kst Kret aq nq mq tq vq gq de st k1 k2 k3 := by kernel_rfl
noncomputable def T48_0 (test : Bool → Prop → Prop → Prop) (Kst : KS) (Kret : KR) (aq nq mq : Nat) (tq : Nat → ByteArray) (vq : Nat → Int) (gq : Nat → Int) (de : Int) (st : Int) (k1 : Int) (k2 : Int) (k3 : Int) (x0 : Int) (x1 : Int) (x2 : List (Int × Int × Int)) : Prop :=
  test (decide (x1 ≤ (2 : Int)))
 (test (decide (nq ≤ 1000000))
 (test (decide
 (0 + List.length x2 ≤ List.length x2 ∧
 List.length x2 ≤ 1000000 ∧
 0 + List.length (S.mkl nq fun (r : Nat) => decide ((↑r : Int) ≠ (-1 : Int))) ≤
 List.length (S.mkl nq fun (r : Nat) => decide ((↑r : Int) ≠ (-1 : Int))) ∧
 List.length (S.mkl nq fun (r : Nat) => decide ((↑r : Int) ≠ (-1 : Int))) ≤ 1000000 ∧
 nq ≤ List.length (S.mkl nq fun (r : Nat) => decide ((↑r : Int) ≠ (-1 : Int)))))
 (test (S.opnB x1 nq
 (fun j => S.at' (S.mkl nq fun (r : Nat) => decide ((↑r : Int) ≠ (-1 : Int))) j)
 (List.length x2) (fun j => (S.at' x2 j).1)
 (fun j => (S.at' x2 j).2.1) fun j => (S.at' x2 j).2.2)
 (Kret (PV.int IntKind.i64 (0 : Int)) ([[(0, false,
 Blk.cols mq [Col.str tq, Col.int IntKind.i64 vq, Col.int IntKind.i64 gq])]]) (6))
 (test (decide (nq ≤ 1000000))
 (test (decide
 (0 + List.length x2 ≤ List.length x2 ∧
 List.length x2 ≤ 1000000 ∧
 0 + List.length (S.mkl nq fun (r : Nat) => decide ((↑r : Int) ≠ st)) ≤
 List.length (S.mkl nq fun (r : Nat) => decide ((↑r : Int) ≠ st)) ∧
 List.length (S.mkl nq fun (r : Nat) => decide ((↑r : Int) ≠ st)) ≤ 1000000 ∧
 nq ≤ List.length (S.mkl nq fun (r : Nat) => decide ((↑r : Int) ≠ st))))
 (test (S.opnB x1 nq (fun j => S.at' (S.mkl nq fun (r : Nat) => decide ((↑r : Int) ≠ st)) j)
 (List.length x2) (fun j => (S.at' x2 j).1)
 (fun j => (S.at' x2 j).2.1) fun j => (S.at' x2 j).2.2)
 (test (decide
 (aq + nq ≤ mq ∧
 S.netE nq (fun j => tq (j + aq)) (fun j => vq (j + aq)) (fun j => gq (j + aq)) de =
 (0 : Int) ∧
 (0 : Int) ≤ st ∧ st < (↑nq : Int) ∧ (x1 = (1 : Int) ∨ x1 = (2 : Int))))
 (test (decide (x0 < (0 : Int)))
 (test (lim IntKind.i64 (x1 + (1 : Int)))
 (Kst (hd Try.f48 0) ([PV.int IntKind.i64 st, PV.ptr (PA.mk (1) (0) (0) (0)),
 PV.own (2) (3) (List.length x2),
 PV.int IntKind.i64
 (if x1 = (1 : Int) then S.tA (fun j => vq (j + aq)) (fun j => gq (j + aq)) de st nq
 else S.tB (fun j => vq (j + aq)) (fun j => gq (j + aq)) de st nq),
 PV.int IntKind.i64 (x1 + (1 : Int))]) ([[(0, false,
 Blk.cols mq [Col.str tq, Col.int IntKind.i64 vq, Col.int IntKind.i64 gq]),
 (2, true,
 Blk.cols (List.length x2)
 [Col.int IntKind.i64 fun j => (S.at' x2 j).1,
 Col.int IntKind.i64 fun j => (S.at' x2 j).2.1,
 Col.int IntKind.i64 fun j => (S.at' x2 j).2.2]),
 (1, true,
 Blk.cells
 [PV.loose (PA.mk (0) (3) aq (0)) nq, PV.int IntKind.i64 de])]]) (10))
 (False))
 (test (decide
 ((if x1 = (1 : Int) then S.tA (fun j => vq (j + aq)) (fun j => gq (j + aq)) de st nq
 else S.tB (fun j => vq (j + aq)) (fun j => gq (j + aq)) de st nq) <
 x0))
 (test (lim IntKind.i64 (x1 + (1 : Int)))
 (Kst (hd Try.f48 0) ([PV.int IntKind.i64 st, PV.ptr (PA.mk (1) (0) (0) (0)),
 PV.own (2) (3) (List.length x2),
 PV.int IntKind.i64
 (if x1 = (1 : Int) then S.tA (fun j => vq (j + aq)) (fun j => gq (j + aq)) de st nq
 else S.tB (fun j => vq (j + aq)) (fun j => gq (j + aq)) de st nq),
 PV.int IntKind.i64 (x1 + (1 : Int))]) ([[(0, false,
 Blk.cols mq [Col.str tq, Col.int IntKind.i64 vq, Col.int IntKind.i64 gq]),
 (2, true,
 Blk.cols (List.length x2)
 [Col.int IntKind.i64 fun j => (S.at' x2 j).1,
 Col.int IntKind.i64 fun j => (S.at' x2 j).2.1,
 Col.int IntKind.i64 fun j => (S.at' x2 j).2.2]),
 (1, true,
 Blk.cells
 [PV.loose (PA.mk (0) (3) aq (0)) nq, PV.int IntKind.i64 de])]]) (10))
 (False))
 (test (lim IntKind.i64 (x1 + (1 : Int)))
 (Kst (hd Try.f48 0) ([PV.int IntKind.i64 st, PV.ptr (PA.mk (1) (0) (0) (0)),
 PV.own (2) (3) (List.length x2), PV.int IntKind.i64 x0,
 PV.int IntKind.i64 (x1 + (1 : Int))]) ([[(0, false,
 Blk.cols mq [Col.str tq, Col.int IntKind.i64 vq, Col.int IntKind.i64 gq]),
 (2, true,
 Blk.cols (List.length x2)
 [Col.int IntKind.i64 fun j => (S.at' x2 j).1,
 Col.int IntKind.i64 fun j => (S.at' x2 j).2.1,
 Col.int IntKind.i64 fun j => (S.at' x2 j).2.2]),
 (1, true,
 Blk.cells
 [PV.loose (PA.mk (0) (3) aq (0)) nq, PV.int IntKind.i64 de])]]) (10))
 (False))))
 (False))
 (test (lim IntKind.i64 (x1 + (1 : Int)))
 (Kst (hd Try.f48 0) ([PV.int IntKind.i64 st, PV.ptr (PA.mk (1) (0) (0) (0)),
 PV.own (2) (3) (List.length x2), PV.int IntKind.i64 x0,
 PV.int IntKind.i64 (x1 + (1 : Int))]) ([[(0, false,
 Blk.cols mq [Col.str tq, Col.int IntKind.i64 vq, Col.int IntKind.i64 gq]),
 (2, true,
 Blk.cols (List.length x2)
 [Col.int IntKind.i64 fun j => (S.at' x2 j).1,
 Col.int IntKind.i64 fun j => (S.at' x2 j).2.1,
 Col.int IntKind.i64 fun j => (S.at' x2 j).2.2]),
 (1, true,
 Blk.cells
 [PV.loose (PA.mk (0) (3) aq (0)) nq, PV.int IntKind.i64 de])]]) (9))
 (False)))
 (False))
 (False)))
 (False))
 (False))
 (Kret (PV.int IntKind.i64 x0) ([[(0, false,
 Blk.cols mq [Col.str tq, Col.int IntKind.i64 vq, Col.int IntKind.i64 gq])]]) (3))
theorem t48_0 (test : Bool → Prop → Prop → Prop) (Kst : KS) (Kret : KR) (aq nq mq : Nat) (tq : Nat → ByteArray) (vq : Nat → Int) (gq : Nat → Int) (de : Int) (st : Int) (k1 : Int) (k2 : Int) (k3 : Int) (x0 : Int) (x1 : Int) (x2 : List (Int × Int × Int)) : run test Try.env true (xY test) true 400 ⟨48, hd Try.f48 0, zipT [1, 3, 7, 8, 9] [PV.int IntKind.i64 st, PV.ptr (PA.mk (1) (0) (0) (0)),
 PV.own (2) (3) (List.length x2), PV.int IntKind.i64 x0, PV.int IntKind.i64 x1], [[(1, (true, Blk.cells [PV.loose (PA.mk (0) (3) aq (0)) nq, PV.int IntKind.i64 de])), (2, (true, Blk.cols (List.length x2)
 [Col.int IntKind.i64 fun j => (S.at' x2 j).1,
 Col.int IntKind.i64 fun j => (S.at' x2 j).2.1,
 Col.int IntKind.i64 fun j => (S.at' x2 j).2.2]))], [(0, (false, .cols mq [.str tq, .int .i64 vq, .int .i64 gq]))]], 3⟩ (proj 1 [1, 3, 7, 8, 9] Kst Kret) =
  T48_0 test Kst Kret aq nq mq tq vq gq de st k1 k2 k3 x0 x1 x2 := by kernel_rfl
theorem be48 (aq nq mq : Nat) (tq : Nat → ByteArray) (vq : Nat → Int) (gq : Nat → Int) (de : Int) (st : Int) (k1 : Int) (k2 : Int) (k3 : Int) (Kst : KS) (Kret : KR) (x : St48 ⊕ Rt48) (hS : HS 1 400 ((I48 aq nq mq tq vq gq de st k1 k2 k3)) Kst x) (hR : HR 1 400 ((V48 aq nq mq tq vq gq de st k1 k2 k3)) (fun r => [newL (1 + 1) ((N48 aq nq mq tq vq gq de st k1 k2 k3) r) ++ [(0, (false, .cols mq [.str tq, .int .i64 vq, .int .i64 gq]))]]) Kret x) (h : (some (.inl (.h0 ((-1 : Int)) ((1 : Int)) ([(k1, k2, k3)]))) : Option (St48 ⊕ Rt48)) = some x) : Te48 cond Kst Kret aq nq mq tq vq gq de st k1 k2 k3 := by
  unfold Te48
  exact stop_at hS _ h (fun n => bif Nat.beq n 1 then 1 else bif Nat.beq n 2 then 3 else n) rfl rfl rfl ⟨(rn_int rfl), ⟨(rn_ptr (use_own rfl) rfl rfl), ⟨(rn_own (use_own rfl) rfl rfl), ⟨(rn_int rfl), ⟨(rn_int rfl), trivial⟩⟩⟩⟩⟩ rfl (entl_b (use_own rfl) rfl (by simp) (rb_cells ⟨(rn_loose (use_lo rfl) rfl rfl rfl), (rn_int rfl), trivial⟩) (entl_b (use_own rfl) rfl (by simp) (rb_lit (fun j hj i hi => (match j, hj with | 0, _ => (match i, hi with | 0, _ => ⟨_, rfl, rn_int rfl⟩ | 1, _ => ⟨_, rfl, rn_int rfl⟩ | 2, _ => ⟨_, rfl, rn_int rfl⟩ | _ + 3, h => absurd h (by simp [lenc])) | _ + 1, h => absurd h (by simp)))) (entl_bor (use_lo rfl) rfl rfl entl_nil)))
theorem b48_0 (aq nq mq : Nat) (tq : Nat → ByteArray) (vq : Nat → Int) (gq : Nat → Int) (de : Int) (st : Int) (k1 : Int) (k2 : Int) (k3 : Int) (Kst : KS) (Kret : KR) (x : St48 ⊕ Rt48) (hS : HS 1 400 ((I48 aq nq mq tq vq gq de st k1 k2 k3)) Kst x) (hR : HR 1 400 ((V48 aq nq mq tq vq gq de st k1 k2 k3)) (fun r => [newL (1 + 1) ((N48 aq nq mq tq vq gq de st k1 k2 k3) r) ++ [(0, (false, .cols mq [.str tq, .int .i64 vq, .int .i64 gq]))]]) Kret x) (x0 : Int) (x1 : Int) (x2 : List (Int × Int × Int)) (h : (bif (decide (x1 ≤ (2 : Int)))
 then (bif (decide (nq ≤ 1000000))
 then (bif (decide
 (0 + List.length x2 ≤ List.length x2 ∧
 List.length x2 ≤ 1000000 ∧
 0 + List.length (S.mkl nq fun (r : Nat) => decide ((↑r : Int) ≠ (-1 : Int))) ≤
 List.length (S.mkl nq fun (r : Nat) => decide ((↑r : Int) ≠ (-1 : Int))) ∧
 List.length (S.mkl nq fun (r : Nat) => decide ((↑r : Int) ≠ (-1 : Int))) ≤ 1000000 ∧
 nq ≤ List.length (S.mkl nq fun (r : Nat) => decide ((↑r : Int) ≠ (-1 : Int)))))
 then (bif (S.opnB x1 nq
 (fun j => S.at' (S.mkl nq fun (r : Nat) => decide ((↑r : Int) ≠ (-1 : Int))) j)
 (List.length x2) (fun j => (S.at' x2 j).1)
 (fun j => (S.at' x2 j).2.1) fun j => (S.at' x2 j).2.2)
 then (some (.inr ((0 : Int))))
 else (bif (decide
 (0 + List.length x2 ≤ List.length x2 ∧
 List.length x2 ≤ 1000000 ∧
 0 + List.length (S.mkl nq fun (r : Nat) => decide ((↑r : Int) ≠ st)) ≤
 List.length (S.mkl nq fun (r : Nat) => decide ((↑r : Int) ≠ st)) ∧
 List.length (S.mkl nq fun (r : Nat) => decide ((↑r : Int) ≠ st)) ≤ 1000000 ∧
 nq ≤ List.length (S.mkl nq fun (r : Nat) => decide ((↑r : Int) ≠ st))))
 then (bif (S.opnB x1 nq (fun j => S.at' (S.mkl nq fun (r : Nat) => decide ((↑r : Int) ≠ st)) j)
 (List.length x2) (fun j => (S.at' x2 j).1)
 (fun j => (S.at' x2 j).2.1) fun j => (S.at' x2 j).2.2)
 then (bif (decide
 (aq + nq ≤ mq ∧
 S.netE nq (fun j => tq (j + aq)) (fun j => vq (j + aq)) (fun j => gq (j + aq)) de =
 (0 : Int) ∧
 (0 : Int) ≤ st ∧ st < (↑nq : Int) ∧ (x1 = (1 : Int) ∨ x1 = (2 : Int))))
 then (bif (decide (x0 < (0 : Int)))
 then (bif (lim IntKind.i64 (x1 + (1 : Int)))
 then (some (.inl (.h0 (if x1 = (1 : Int) then S.tA (fun j => vq (j + aq)) (fun j => gq (j + aq)) de st nq
else S.tB (fun j => vq (j + aq)) (fun j => gq (j + aq)) de st nq) (x1 + (1 : Int)) (x2))))
 else (none))
 else (bif (decide
 ((if x1 = (1 : Int) then S.tA (fun j => vq (j + aq)) (fun j => gq (j + aq)) de st nq
 else S.tB (fun j => vq (j + aq)) (fun j => gq (j + aq)) de st nq) <
 x0))
 then (bif (lim IntKind.i64 (x1 + (1 : Int)))
 then (some (.inl (.h0 (if x1 = (1 : Int) then S.tA (fun j => vq (j + aq)) (fun j => gq (j + aq)) de st nq
else S.tB (fun j => vq (j + aq)) (fun j => gq (j + aq)) de st nq) (x1 + (1 : Int)) (x2))))
 else (none))
 else (bif (lim IntKind.i64 (x1 + (1 : Int)))
 then (some (.inl (.h0 (x0) (x1 + (1 : Int)) (x2))))
 else (none))))
 else (none))
 else (bif (lim IntKind.i64 (x1 + (1 : Int)))
 then (some (.inl (.h0 (x0) (x1 + (1 : Int)) (x2))))
 else (none)))
 else (none)))
 else (none))
 else (none))
 else (some (.inr (x0))) : Option (St48 ⊕ Rt48)) = some x) : T48_0 cond Kst Kret aq nq mq tq vq gq de st k1 k2 k3 x0 x1 x2 := by
  unfold T48_0
  exact bif_split h
   (fun c0 h => bif_split h
   (fun c1 h => bif_split h
   (fun c2 h => bif_split h
   (fun c3 h => ret_at hR _ h (fun n => n) rfl rfl rfl (rn_int rfl) rfl (entl_bor (use_lo rfl) rfl rfl entl_nil))
   (fun c3 h => cond_yes c1 (bif_split h
   (fun c4 h => bif_split h
   (fun c5 h => bif_split h
   (fun c6 h => bif_split h
   (fun c7 h => bif_split h
   (fun c8 h => stop_at hS _ h (fun n => bif Nat.beq n 1 then 1 else bif Nat.beq n 2 then 2 else n) rfl rfl rfl ⟨(rn_int rfl), ⟨(rn_ptr (use_own rfl) rfl rfl), ⟨(rn_own (use_own rfl) rfl rfl), ⟨(rn_int rfl), ⟨(rn_int rfl), trivial⟩⟩⟩⟩⟩ rfl (entl_b (use_own rfl) rfl (by simp) (rb_cells ⟨(rn_loose (use_lo rfl) rfl rfl rfl), (rn_int rfl), trivial⟩) (entl_new (use_own rfl) rfl (Nat.le_of_eq rfl) (rcs_int (fun _ _ => rfl) (rcs_int (fun _ _ => rfl) (rcs_int (fun _ _ => rfl) rcs_nil))) (entl_bor (use_lo rfl) rfl rfl entl_nil))))
   (fun c8 h => no_some h))
   (fun c7 h => bif_split h
   (fun c8 h => bif_split h
   (fun c9 h => stop_at hS _ h (fun n => bif Nat.beq n 1 then 1 else bif Nat.beq n 2 then 2 else n) rfl rfl rfl ⟨(rn_int rfl), ⟨(rn_ptr (use_own rfl) rfl rfl), ⟨(rn_own (use_own rfl) rfl rfl), ⟨(rn_int rfl), ⟨(rn_int rfl), trivial⟩⟩⟩⟩⟩ rfl (entl_b (use_own rfl) rfl (by simp) (rb_cells ⟨(rn_loose (use_lo rfl) rfl rfl rfl), (rn_int rfl), trivial⟩) (entl_new (use_own rfl) rfl (Nat.le_of_eq rfl) (rcs_int (fun _ _ => rfl) (rcs_int (fun _ _ => rfl) (rcs_int (fun _ _ => rfl) rcs_nil))) (entl_bor (use_lo rfl) rfl rfl entl_nil))))
   (fun c9 h => no_some h))
   (fun c8 h => bif_split h
   (fun c9 h => stop_at hS _ h (fun n => bif Nat.beq n 1 then 1 else bif Nat.beq n 2 then 2 else n) rfl rfl rfl ⟨(rn_int rfl), ⟨(rn_ptr (use_own rfl) rfl rfl), ⟨(rn_own (use_own rfl) rfl rfl), ⟨(rn_int rfl), ⟨(rn_int rfl), trivial⟩⟩⟩⟩⟩ rfl (entl_b (use_own rfl) rfl (by simp) (rb_cells ⟨(rn_loose (use_lo rfl) rfl rfl rfl), (rn_int rfl), trivial⟩) (entl_new (use_own rfl) rfl (Nat.le_of_eq rfl) (rcs_int (fun _ _ => rfl) (rcs_int (fun _ _ => rfl) (rcs_int (fun _ _ => rfl) rcs_nil))) (entl_bor (use_lo rfl) rfl rfl entl_nil))))
   (fun c9 h => no_some h))))
   (fun c6 h => no_some h))
   (fun c5 h => bif_split h
   (fun c6 h => stop_at hS _ h (fun n => bif Nat.beq n 1 then 1 else bif Nat.beq n 2 then 2 else n) rfl rfl rfl ⟨(rn_int rfl), ⟨(rn_ptr (use_own rfl) rfl rfl), ⟨(rn_own (use_own rfl) rfl rfl), ⟨(rn_int rfl), ⟨(rn_int rfl), trivial⟩⟩⟩⟩⟩ rfl (entl_b (use_own rfl) rfl (by simp) (rb_cells ⟨(rn_loose (use_lo rfl) rfl rfl rfl), (rn_int rfl), trivial⟩) (entl_new (use_own rfl) rfl (Nat.le_of_eq rfl) (rcs_int (fun _ _ => rfl) (rcs_int (fun _ _ => rfl) (rcs_int (fun _ _ => rfl) rcs_nil))) (entl_bor (use_lo rfl) rfl rfl entl_nil))))
   (fun c6 h => no_some h)))
   (fun c4 h => no_some h))))
   (fun c2 h => no_some h))
   (fun c1 h => no_some h))
   (fun c0 h => ret_at hR _ h (fun n => n) rfl rfl rfl (rn_int rfl) rfl (entl_bor (use_lo rfl) rfl rfl entl_nil))
theorem a48 (aq nq mq : Nat) (tq : Nat → ByteArray) (vq : Nat → Int) (gq : Nat → Int) (de : Int) (st : Int) (k1 : Int) (k2 : Int) (k3 : Int) {r : Rt48} (h : Goes ((q48 aq nq mq tq vq gq de st k1 k2 k3)) ((p48 aq nq mq tq vq gq de st k1 k2 k3)) r) : CallR Try.prog 48 [.agg [.loose ⟨0, 3, aq, 0⟩ nq, .int .i64 de], .int .i64 st, .agg [.int .i64 k1, .int .i64 k2, .int .i64 k3]] [[(0, (false, .cols mq [.str tq, .int .i64 vq, .int .i64 gq]))]] 1 ((V48 aq nq mq tq vq gq de st k1 k2 k3) r) ((fun r => [newL (1 + 1) ((N48 aq nq mq tq vq gq de st k1 k2 k3) r) ++ [(0, (false, .cols mq [.str tq, .int .i64 vq, .int .i64 gq]))]]) r) 400 ∧ ∃ F, Try.prog.funcs[48]? = some F ∧ F.body.isSome = true ∧ (F.name == "runtime.NumGoroutine") = false := by
  refine dec_calls (f := 48) (lo := 1) (hi := 400) (H := [[(0, (false, .cols mq [.str tq, .int .i64 vq, .int .i64 gq]))]]) (args := [.agg [.loose ⟨0, 3, aq, 0⟩ nq, .int .i64 de], .int .i64 st, .agg [.int .i64 k1, .int .i64 k2, .int .i64 k3]]) Try.envOk Try.mixed xY_ok ((I48 aq nq mq tq vq gq de st k1 k2 k3)) ((V48 aq nq mq tq vq gq de st k1 k2 k3)) (fun r => [newL (1 + 1) ((N48 aq nq mq tq vq gq de st k1 k2 k3) r) ++ [(0, (false, .cols mq [.str tq, .int .i64 vq, .int .i64 gq]))]]) (fn := mkFn Try.f48) (ts := [1, 3, 7, 8, 9]) (n := 400) rfl (by decide) (by simp) (names_of rfl) ?_ ?_ ?_ h
  · intro s; cases s <;> exact ⟨hd_ok _ _, by simp [I48], names_of rfl, Nat.le_of_ble_eq_true rfl⟩
  · intro Kst Kret x hS hR h
    exact Holds.eq (te48 cond Kst Kret aq nq mq tq vq gq de st k1 k2 k3) (be48 aq nq mq tq vq gq de st k1 k2 k3 Kst Kret x hS hR h)
  · intro Kst Kret x hS hR s h
    cases s with
    | h0 x0 x1 x2 => exact Holds.eq (t48_0 cond Kst Kret aq nq mq tq vq gq de st k1 k2 k3 x0 x1 x2) (b48_0 aq nq mq tq vq gq de st k1 k2 k3 Kst Kret x hS hR x0 x1 x2 h)
noncomputable def k48 : Con := ⟨48, [.agg [.list [.str, .int .i64, .int .i64], .plain (.int .i64)], .one (.plain (.int .i64)), .agg [.plain (.int .i64), .plain (.int .i64), .plain (.int .i64)]], fun (x : ((Nat × Nat × Nat × (Nat → ByteArray) × (Nat → Int) × (Nat → Int) × Unit) × Int × Unit) × Int × (Int × Int × Int × Unit) × Unit) => (fun (aq nq mq : Nat) (tq : Nat → ByteArray) (vq : Nat → Int) (gq : Nat → Int) (de : Int) (st : Int) (k1 : Int) (k2 : Int) (k3 : Int) => decide ((aq + nq ≤ mq) ∧ (S.netE nq (fun j => tq (j + aq)) (fun j => vq (j + aq)) (fun j => gq (j + aq)) de) = 0 ∧ 0 ≤ st ∧ st < (nq : Int))) x.1.1.1 x.1.1.2.1 x.1.1.2.2.1 x.1.1.2.2.2.1 x.1.1.2.2.2.2.1 x.1.1.2.2.2.2.2.1 x.1.2.1 x.2.1 x.2.2.1.1 x.2.2.1.2.1 x.2.2.1.2.2.1, fun (x : ((Nat × Nat × Nat × (Nat → ByteArray) × (Nat → Int) × (Nat → Int) × Unit) × Int × Unit) × Int × (Int × Int × Int × Unit) × Unit) => (fun (aq nq mq : Nat) (tq : Nat → ByteArray) (vq : Nat → Int) (gq : Nat → Int) (de : Int) (st : Int) (k1 : Int) (k2 : Int) (k3 : Int) => (V48 aq nq mq tq vq gq de st k1 k2 k3) (S.latI nq (fun j => vq (j + aq)) (fun j => gq (j + aq)) de st k1 k2 k3)) x.1.1.1 x.1.1.2.1 x.1.1.2.2.1 x.1.1.2.2.2.1 x.1.1.2.2.2.2.1 x.1.1.2.2.2.2.2.1 x.1.2.1 x.2.1 x.2.2.1.1 x.2.2.1.2.1 x.2.2.1.2.2.1, fun (x : ((Nat × Nat × Nat × (Nat → ByteArray) × (Nat → Int) × (Nat → Int) × Unit) × Int × Unit) × Int × (Int × Int × Int × Unit) × Unit) => (fun (aq nq mq : Nat) (tq : Nat → ByteArray) (vq : Nat → Int) (gq : Nat → Int) (de : Int) (st : Int) (k1 : Int) (k2 : Int) (k3 : Int) => (N48 aq nq mq tq vq gq de st k1 k2 k3) (S.latI nq (fun j => vq (j + aq)) (fun j => gq (j + aq)) de st k1 k2 k3)) x.1.1.1 x.1.1.2.1 x.1.1.2.2.1 x.1.1.2.2.2.1 x.1.1.2.2.2.2.1 x.1.1.2.2.2.2.2.1 x.1.2.1 x.2.1 x.2.2.1.1 x.2.2.1.2.1 x.2.2.1.2.2.1, fun _ _ => .dead⟩
theorem s48 (aq nq mq : Nat) (tq : Nat → ByteArray) (vq : Nat → Int) (gq : Nat → Int) (de : Int) (st : Int) (k1 : Int) (k2 : Int) (k3 : Int) (hp : (aq + nq ≤ mq) ∧ (S.netE nq (fun j => tq (j + aq)) (fun j => vq (j + aq)) (fun j => gq (j + aq)) de) = 0 ∧ 0 ≤ st ∧ st < (nq : Int)) : Goes ((q48 aq nq mq tq vq gq de st k1 k2 k3)) ((p48 aq nq mq tq vq gq de st k1 k2 k3)) (S.latI nq (fun j => vq (j + aq)) (fun j => gq (j + aq)) de st k1 k2 k3) := by
  obtain ⟨hp1, hv, hs1, hs2⟩ := hp
  obtain ⟨v1, v2, v3⟩ := net_ok hv
  have e0 : ∀ lp, S.opnB lp nq (fun j => S.at' (S.mkl nq fun (r : Nat) => decide ((r : Int) ≠ -1)) j) 1 (fun j => (S.at' [(k1, k2, k3)] j).1) (fun j => (S.at' [(k1, k2, k3)] j).2.1) (fun j => (S.at' [(k1, k2, k3)] j).2.2) = S.opL lp nq (-1) k1 k2 k3 := fun lp => opn_one (fun r hr => rfl) rfl rfl rfl
  have e1 : ∀ lp, S.opnB lp nq (fun j => S.at' (S.mkl nq fun (r : Nat) => decide ((r : Int) ≠ st)) j) 1 (fun j => (S.at' [(k1, k2, k3)] j).1) (fun j => (S.at' [(k1, k2, k3)] j).2.1) (fun j => (S.at' [(k1, k2, k3)] j).2.2) = S.opL lp nq st k1 k2 k3 := fun lp => opn_one (fun r hr => rfl) rfl rfl rfl
  have hq : nq ≤ 1000 ∧ nq ≤ 1000000 := by omega
  have hA := tA_b (st := st) v2 v3 nq (Nat.le_refl _)
  have hB := tB_b (st := st) v2 v3 nq (Nat.le_refl _)
  have h12 : ¬ (S.opL 1 nq st k1 k2 k3 = false ∧ S.opL 2 nq st k1 k2 k3 = false) := fun h => by
    have a := opL_no hs1 hs2 h.1
    have c := opL_no hs1 hs2 h.2
    omega
  have hl : [(k1, k2, k3)].length = 1 := rfl
  unfold p48 S.latI
  show Comes _ _ _
  generalize hTA : S.tA (fun j => vq (j + aq)) (fun j => gq (j + aq)) de st nq = TA at *
  generalize hTB : S.tB (fun j => vq (j + aq)) (fun j => gq (j + aq)) de st nq = TB at *
  have st1 : ∀ (x0 lp : Int), lp = 1 ∨ lp = 2 → (q48 aq nq mq tq vq gq de st k1 k2 k3) (.h0 x0 lp [(k1, k2, k3)]) = (bif S.opL lp nq (-1) k1 k2 k3 then some (.inr 0) else bif S.opL lp nq st k1 k2 k3 then some (.inl (.h0 (if x0 < 0 then (if lp = 1 then TA else TB) else if (if lp = 1 then TA else TB) < x0 then (if lp = 1 then TA else TB) else x0) (lp + 1) [(k1, k2, k3)])) else some (.inl (.h0 x0 (lp + 1) [(k1, k2, k3)]))) := fun x0 lp hlp => by
    have g1 : decide (lp ≤ 2) = true := decide_eq_true (by omega)
    have g2 : lim .i64 (lp + 1) = true := by rw [lim64]; exact decide_eq_true (by omega)
    rw [q48]
    have hk1 : (1 : Nat) ≤ 1000000 := by decide
    simp only [hl, mkl_len, e0, e1, hv, hp1, hs1, hs2, hq.1, hq.2, hlp, hk1, eq_self, and_self, decide_true, cond_true, Nat.zero_add, Nat.le_refl, hTA, hTB, g1, g2]
    have hc : ∀ {a : Bool} {x y z : Option (St48 ⊕ Rt48)}, y = z → cond a x y = cond a x z := fun h => by rw [h]
    refine hc ?_
    generalize (if lp = 1 then TA else TB) = T
    cases S.opL lp nq st k1 k2 k3
    · rfl
    · by_cases a1 : x0 < 0
      · rw [if_pos a1, decide_eq_true a1]; rfl
      · by_cases a2 : T < x0
        · rw [if_neg a1, if_pos a2, decide_eq_false a1, decide_eq_true a2]; rfl
        · rw [if_neg a1, if_neg a2, decide_eq_false a1, decide_eq_false a2]; rfl
  have st3 : ∀ x0 : Int, (q48 aq nq mq tq vq gq de st k1 k2 k3) (.h0 x0 3 [(k1, k2, k3)]) = some (.inr x0) := fun x0 => by
    rw [q48]; rfl
  have s1 := fun x0 => st1 x0 1 (.inl rfl)
  have s2 := fun x0 => st1 x0 2 (.inr rfl)
  clear st1 e0 e1
  generalize S.opL 1 nq (-1) k1 k2 k3 = A at *
  generalize S.opL 2 nq (-1) k1 k2 k3 = B at *
  generalize S.opL 1 nq st k1 k2 k3 = C at *
  generalize S.opL 2 nq st k1 k2 k3 = D at *
  simp only [if_true] at s1
  simp only [show ¬ ((2 : Int) = 1) by decide, if_false] at s2
  cases A
  · cases B
    · rw [if_neg (by simp)]
      cases C
      · cases D
        · exact absurd ⟨rfl, rfl⟩ h12
        · rw [if_pos rfl]
          refine Comes.next (s1 (-1)) (Comes.next (s2 (-1)) ?_)
          rw [if_pos (by decide)]
          exact Comes.done (st3 _)
      · rw [if_neg (by simp)]
        refine Comes.next (s1 (-1)) ?_
        rw [if_pos (by decide)]
        cases D
        · rw [if_pos rfl]
          exact Comes.next (s2 _) (Comes.done (st3 _))
        · rw [if_neg (by simp)]
          refine Comes.next (s2 _) ?_
          rw [if_neg (by omega)]
          have e : (if TB < TA then TB else TA) = min TA TB := by split <;> omega
          rw [e]
          exact Comes.done (st3 _)
    · rw [if_pos (.inr rfl)]
      cases C
      · exact Comes.next (s1 (-1)) (Comes.done (s2 _))
      · exact Comes.next (s1 (-1)) (Comes.done (s2 _))
  · rw [if_pos (.inl rfl)]
    exact Comes.done (s1 (-1))
theorem k48_ok : k48.ok Try.prog := by
  intro x hx
  obtain ⟨⟨⟨aq, nq, mq, tq, vq, gq, _⟩, de, _⟩, st, ⟨k1, k2, k3, _⟩, _⟩ := x
  obtain ⟨h1, h2⟩ := a48 aq nq mq tq vq gq de st k1 k2 k3 (s48 aq nq mq tq vq gq de st k1 k2 k3 (of_dec hx rfl))
  exact ⟨⟨400, (by decide : 1 + 1 + 0 ≤ 400), h1⟩, h2⟩
abbrev St59 := Empty
abbrev Rt59 := Bool
noncomputable def V59 (ao no mo : Nat) (to : Nat → Bool) (al nl ml : Nat) (tl : Nat → Int) (vl : Nat → Int) (gl : Nat → Int) (r : Rt59) : PV := PV.bool r
noncomputable def N59 (ao no mo : Nat) (to : Nat → Bool) (al nl ml : Nat) (tl : Nat → Int) (vl : Nat → Int) (gl : Nat → Int) (r : Rt59) : List Blk := []
noncomputable def I59 (ao no mo : Nat) (to : Nat → Bool) (al nl ml : Nat) (tl : Nat → Int) (vl : Nat → Int) (gl : Nat → Int) : St59 → Hd := fun s => s.elim
noncomputable def q59 (ao no mo : Nat) (to : Nat → Bool) (al nl ml : Nat) (tl : Nat → Int) (vl : Nat → Int) (gl : Nat → Int) : St59 → Option (St59 ⊕ Rt59) := fun s => s.elim
noncomputable def p59 (ao no mo : Nat) (to : Nat → Bool) (al nl ml : Nat) (tl : Nat → Int) (vl : Nat → Int) (gl : Nat → Int) : Option (St59 ⊕ Rt59) := bif (decide (al + nl ≤ ml ∧ nl ≤ 1000000 ∧ ao + no ≤ mo ∧ no ≤ 1000000))
 then (bif (S.opnB (1 : Int) no (fun j => to (j + ao)) nl (fun j => tl (j + al))
 (fun j => vl (j + al)) fun j => gl (j + al))
 then (some (.inr (true)))
 else (bif (S.opnB (2 : Int) no (fun j => to (j + ao)) nl (fun j => tl (j + al))
 (fun j => vl (j + al)) fun j => gl (j + al))
 then (some (.inr (true)))
 else (some (.inr (false)))))
 else (none)
noncomputable def Te59 (test : Bool → Prop → Prop → Prop) (Kst : KS) (Kret : KR) (ao no mo : Nat) (to : Nat → Bool) (al nl ml : Nat) (tl : Nat → Int) (vl : Nat → Int) (gl : Nat → Int) : Prop :=
  test (decide (al + nl ≤ ml ∧ nl ≤ 1000000 ∧ ao + no ≤ mo ∧ no ≤ 1000000))
 (test (S.opnB (1 : Int) no (fun j => to (j + ao)) nl (fun j => tl (j + al))
 (fun j => vl (j + al)) fun j => gl (j + al))
 (Kret (PV.tf true) ([[(1, false,
 Blk.cols ml
 [Col.int IntKind.i64 tl, Col.int IntKind.i64 vl, Col.int IntKind.i64 gl]),
 (0, false, Blk.cols mo [Col.bool to])]]) (3))
 (test (decide (al + nl ≤ ml ∧ nl ≤ 1000000 ∧ ao + no ≤ mo ∧ no ≤ 1000000))
 (test (S.opnB (2 : Int) no (fun j => to (j + ao)) nl (fun j => tl (j + al))
 (fun j => vl (j + al)) fun j => gl (j + al))
 (Kret (PV.tf true) ([[(1, false,
 Blk.cols ml
 [Col.int IntKind.i64 tl, Col.int IntKind.i64 vl, Col.int IntKind.i64 gl]),
 (0, false, Blk.cols mo [Col.bool to])]]) (4))
 (Kret (PV.tf false) ([[(1, false,
 Blk.cols ml
 [Col.int IntKind.i64 tl, Col.int IntKind.i64 vl, Col.int IntKind.i64 gl]),
 (0, false, Blk.cols mo [Col.bool to])]]) (4)))
 (False)))
 (False)
theorem te59 (test : Bool → Prop → Prop → Prop) (Kst : KS) (Kret : KR) (ao no mo : Nat) (to : Nat → Bool) (al nl ml : Nat) (tl : Nat → Int) (vl : Nat → Int) (gl : Nat → Int) : run test Try.env true (xY test) true 400 ⟨59, [.cd (mkFn Try.f59).body], argT 0 [.loose ⟨0, 1, ao, 0⟩ no, .loose ⟨1, 3, al, 0⟩ nl], [[], [(0, (false, .cols mo [.bool to])), (1, (false, .cols ml [.int .i64 tl, .int .i64 vl, .int .i64 gl]))]], 2⟩ (proj 2 [] Kst Kret) =
  Te59 test Kst Kret ao no mo to al nl ml tl vl gl := by kernel_rfl
theorem be59 (ao no mo : Nat) (to : Nat → Bool) (al nl ml : Nat) (tl : Nat → Int) (vl : Nat → Int) (gl : Nat → Int) (Kst : KS) (Kret : KR) (x : St59 ⊕ Rt59) (hS : HS 2 400 ((I59 ao no mo to al nl ml tl vl gl)) Kst x) (hR : HR 2 400 ((V59 ao no mo to al nl ml tl vl gl)) (fun r => [newL (2 + 1) ((N59 ao no mo to al nl ml tl vl gl) r) ++ [(0, (false, .cols mo [.bool to])), (1, (false, .cols ml [.int .i64 tl, .int .i64 vl, .int .i64 gl]))]]) Kret x) (h : (bif (decide (al + nl ≤ ml ∧ nl ≤ 1000000 ∧ ao + no ≤ mo ∧ no ≤ 1000000))
 then (bif (S.opnB (1 : Int) no (fun j => to (j + ao)) nl (fun j => tl (j + al))
 (fun j => vl (j + al)) fun j => gl (j + al))
 then (some (.inr (true)))
 else (bif (S.opnB (2 : Int) no (fun j => to (j + ao)) nl (fun j => tl (j + al))
 (fun j => vl (j + al)) fun j => gl (j + al))
 then (some (.inr (true)))
 else (some (.inr (false)))))
 else (none) : Option (St59 ⊕ Rt59)) = some x) : Te59 cond Kst Kret ao no mo to al nl ml tl vl gl := by
  unfold Te59
  exact bif_split h
   (fun c0 h => bif_split h
   (fun c1 h => ret_at hR _ h (fun n => n) rfl rfl rfl (rn_bool_tf rfl) rfl (entl_bor (use_lo rfl) rfl rfl (entl_bor (use_lo rfl) rfl rfl entl_nil)))
   (fun c1 h => cond_yes c0 (bif_split h
   (fun c2 h => ret_at hR _ h (fun n => n) rfl rfl rfl (rn_bool_tf rfl) rfl (entl_bor (use_lo rfl) rfl rfl (entl_bor (use_lo rfl) rfl rfl entl_nil)))
   (fun c2 h => ret_at hR _ h (fun n => n) rfl rfl rfl (rn_bool_tf rfl) rfl (entl_bor (use_lo rfl) rfl rfl (entl_bor (use_lo rfl) rfl rfl entl_nil))))))
   (fun c0 h => no_some h)
theorem a59 (ao no mo : Nat) (to : Nat → Bool) (al nl ml : Nat) (tl : Nat → Int) (vl : Nat → Int) (gl : Nat → Int) {r : Rt59} (h : Goes ((q59 ao no mo to al nl ml tl vl gl)) ((p59 ao no mo to al nl ml tl vl gl)) r) : CallR Try.prog 59 [.loose ⟨0, 1, ao, 0⟩ no, .loose ⟨1, 3, al, 0⟩ nl] [[(0, (false, .cols mo [.bool to])), (1, (false, .cols ml [.int .i64 tl, .int .i64 vl, .int .i64 gl]))]] 2 ((V59 ao no mo to al nl ml tl vl gl) r) ((fun r => [newL (2 + 1) ((N59 ao no mo to al nl ml tl vl gl) r) ++ [(0, (false, .cols mo [.bool to])), (1, (false, .cols ml [.int .i64 tl, .int .i64 vl, .int .i64 gl]))]]) r) 400 ∧ ∃ F, Try.prog.funcs[59]? = some F ∧ F.body.isSome = true ∧ (F.name == "runtime.NumGoroutine") = false := by
  refine dec_calls (f := 59) (lo := 2) (hi := 400) (H := [[(0, (false, .cols mo [.bool to])), (1, (false, .cols ml [.int .i64 tl, .int .i64 vl, .int .i64 gl]))]]) (args := [.loose ⟨0, 1, ao, 0⟩ no, .loose ⟨1, 3, al, 0⟩ nl]) Try.envOk Try.mixed xY_ok ((I59 ao no mo to al nl ml tl vl gl)) ((V59 ao no mo to al nl ml tl vl gl)) (fun r => [newL (2 + 1) ((N59 ao no mo to al nl ml tl vl gl) r) ++ [(0, (false, .cols mo [.bool to])), (1, (false, .cols ml [.int .i64 tl, .int .i64 vl, .int .i64 gl]))]]) (fn := mkFn Try.f59) (ts := []) (n := 400) rfl (by decide) (by simp) (names_of rfl) ?_ ?_ ?_ h
  · intro s; exact s.elim
  · intro Kst Kret x hS hR h
    exact Holds.eq (te59 cond Kst Kret ao no mo to al nl ml tl vl gl) (be59 ao no mo to al nl ml tl vl gl Kst Kret x hS hR h)
  · intro Kst Kret x hS hR s h; exact s.elim
noncomputable def k59 : Con := ⟨59, [.one (.list [.bool]), .one (.list [.int .i64, .int .i64, .int .i64])], fun (x : (Nat × Nat × Nat × (Nat → Bool) × Unit) × (Nat × Nat × Nat × (Nat → Int) × (Nat → Int) × (Nat → Int) × Unit) × Unit) => (fun (ao no mo : Nat) (to : Nat → Bool) (al nl ml : Nat) (tl : Nat → Int) (vl : Nat → Int) (gl : Nat → Int) => decide (al + nl ≤ ml ∧ nl ≤ 1000000 ∧ ao + no ≤ mo ∧ no ≤ 1000000)) x.1.1 x.1.2.1 x.1.2.2.1 x.1.2.2.2.1 x.2.1.1 x.2.1.2.1 x.2.1.2.2.1 x.2.1.2.2.2.1 x.2.1.2.2.2.2.1 x.2.1.2.2.2.2.2.1, fun (x : (Nat × Nat × Nat × (Nat → Bool) × Unit) × (Nat × Nat × Nat × (Nat → Int) × (Nat → Int) × (Nat → Int) × Unit) × Unit) => (fun (ao no mo : Nat) (to : Nat → Bool) (al nl ml : Nat) (tl : Nat → Int) (vl : Nat → Int) (gl : Nat → Int) => (V59 ao no mo to al nl ml tl vl gl) (S.safB no (fun j => to (j + ao)) nl (fun j => tl (j + al)) (fun j => vl (j + al)) (fun j => gl (j + al)))) x.1.1 x.1.2.1 x.1.2.2.1 x.1.2.2.2.1 x.2.1.1 x.2.1.2.1 x.2.1.2.2.1 x.2.1.2.2.2.1 x.2.1.2.2.2.2.1 x.2.1.2.2.2.2.2.1, fun (x : (Nat × Nat × Nat × (Nat → Bool) × Unit) × (Nat × Nat × Nat × (Nat → Int) × (Nat → Int) × (Nat → Int) × Unit) × Unit) => (fun (ao no mo : Nat) (to : Nat → Bool) (al nl ml : Nat) (tl : Nat → Int) (vl : Nat → Int) (gl : Nat → Int) => (N59 ao no mo to al nl ml tl vl gl) (S.safB no (fun j => to (j + ao)) nl (fun j => tl (j + al)) (fun j => vl (j + al)) (fun j => gl (j + al)))) x.1.1 x.1.2.1 x.1.2.2.1 x.1.2.2.2.1 x.2.1.1 x.2.1.2.1 x.2.1.2.2.1 x.2.1.2.2.2.1 x.2.1.2.2.2.2.1 x.2.1.2.2.2.2.2.1, fun _ _ => .dead⟩
theorem s59 (ao no mo : Nat) (to : Nat → Bool) (al nl ml : Nat) (tl : Nat → Int) (vl : Nat → Int) (gl : Nat → Int) (hp : al + nl ≤ ml ∧ nl ≤ 1000000 ∧ ao + no ≤ mo ∧ no ≤ 1000000) : Goes ((q59 ao no mo to al nl ml tl vl gl)) ((p59 ao no mo to al nl ml tl vl gl)) (S.safB no (fun j => to (j + ao)) nl (fun j => tl (j + al)) (fun j => vl (j + al)) (fun j => gl (j + al))) := by
  unfold p59 S.safB
  rw [decide_eq_true hp]
  generalize S.opnB 1 no (fun j => to (j + ao)) nl (fun j => tl (j + al)) (fun j => vl (j + al)) (fun j => gl (j + al)) = A
  generalize S.opnB 2 no (fun j => to (j + ao)) nl (fun j => tl (j + al)) (fun j => vl (j + al)) (fun j => gl (j + al)) = B
  cases A <;> cases B <;> exact goes_inr.mpr rfl
theorem k59_ok : k59.ok Try.prog := by
  intro x hx
  obtain ⟨⟨ao, no, mo, to, _⟩, ⟨al, nl, ml, tl, vl, gl, _⟩, _⟩ := x
  obtain ⟨h1, h2⟩ := a59 ao no mo to al nl ml tl vl gl (s59 ao no mo to al nl ml tl vl gl (of_dec hx rfl))
  exact ⟨⟨400, (by decide : 2 + 1 + 0 ≤ 400), h1⟩, h2⟩
inductive St60 where
  | h0 (x0 : Int) (x1 : List Bool)
abbrev Rt60 := Bool
noncomputable def V60 (aq nq mq : Nat) (tq : Nat → ByteArray) (vq : Nat → Int) (gq : Nat → Int) (de : Int) (ap np mp : Nat) (tp : Nat → Int) (al nl ml : Nat) (tl : Nat → Int) (vl : Nat → Int) (gl : Nat → Int) (r : Rt60) : PV := PV.bool r
noncomputable def N60 (aq nq mq : Nat) (tq : Nat → ByteArray) (vq : Nat → Int) (gq : Nat → Int) (de : Int) (ap np mp : Nat) (tp : Nat → Int) (al nl ml : Nat) (tl : Nat → Int) (vl : Nat → Int) (gl : Nat → Int) (r : Rt60) : List Blk := []
noncomputable def I60 (aq nq mq : Nat) (tq : Nat → ByteArray) (vq : Nat → Int) (gq : Nat → Int) (de : Int) (ap np mp : Nat) (tp : Nat → Int) (al nl ml : Nat) (tl : Nat → Int) (vl : Nat → Int) (gl : Nat → Int) : St60 → Hd
  | .h0 x0 x1 => ⟨hd Try.f60 0, [PV.loose (PA.mk (1) (1) ap (0)) np,
 PV.loose (PA.mk (2) (3) al (0)) nl,
 PV.ptr (PA.mk (3) (0) (0) (0)),
 PV.own (4) (1) (List.length x1), PV.int IntKind.i64 x0], [[(3, (true, Blk.cells [PV.loose (PA.mk (0) (3) aq (0)) nq, PV.int IntKind.i64 de])), (4, (true, Blk.cols (List.length x1) [Col.bool fun j => S.at' x1 j]))], [(0, (false, .cols mq [.str tq, .int .i64 vq, .int .i64 gq])), (1, (false, .cols mp [.int .i64 tp])), (2, (false, .cols ml [.int .i64 tl, .int .i64 vl, .int .i64 gl]))]], 5⟩
noncomputable def q60 (aq nq mq : Nat) (tq : Nat → ByteArray) (vq : Nat → Int) (gq : Nat → Int) (de : Int) (ap np mp : Nat) (tp : Nat → Int) (al nl ml : Nat) (tl : Nat → Int) (vl : Nat → Int) (gl : Nat → Int) : St60 → Option (St60 ⊕ Rt60)
  | .h0 x0 x1 => bif (decide (x0 < (↑np : Int)))
 then (bif (decide ((0 : Int) ≤ x0 ∧ x0 < (↑np : Int)))
 then (bif (decide (Int.toNat x0 + ap < mp))
 then (bif (decide ((0 : Int) ≤ tp (Int.toNat x0 + ap) ∧ tp (Int.toNat x0 + ap) < (↑(List.length x1) : Int)))
 then (bif (decide (Int.toNat (tp (Int.toNat x0 + ap)) < List.length x1))
 then (bif (lim IntKind.i64 (x0 + (1 : Int)))
 then (some (.inl (.h0 (x0 + (1 : Int)) (S.mkl (List.length x1) fun j =>
 bif Nat.beq j (Int.toNat (tp (Int.toNat x0 + ap))) then false else S.at' x1 j))))
 else (none))
 else (none))
 else (none))
 else (none))
 else (none))
 else (bif (decide
 (al + nl ≤ ml ∧
 nl ≤ 1000000 ∧
 0 + List.length x1 ≤ List.length x1 ∧ List.length x1 ≤ 1000000 ∧ nq ≤ List.length x1))
 then (bif (S.opnB (1 : Int) nq (fun j => S.at' x1 j) nl (fun j => tl (j + al))
 (fun j => vl (j + al)) fun j => gl (j + al))
 then (some (.inr (true)))
 else (bif (S.opnB (2 : Int) nq (fun j => S.at' x1 j) nl (fun j => tl (j + al))
 (fun j => vl (j + al)) fun j => gl (j + al))
 then (some (.inr (true)))
 else (some (.inr (false)))))
 else (none))
noncomputable def p60 (aq nq mq : Nat) (tq : Nat → ByteArray) (vq : Nat → Int) (gq : Nat → Int) (de : Int) (ap np mp : Nat) (tp : Nat → Int) (al nl ml : Nat) (tl : Nat → Int) (vl : Nat → Int) (gl : Nat → Int) : Option (St60 ⊕ Rt60) := bif (decide (nq ≤ 1000000))
 then (some (.inl (.h0 ((0 : Int)) (S.mkl nq fun (r : Nat) => decide ((↑r : Int) ≠ (-1 : Int))))))
 else (none)
noncomputable def Te60 (test : Bool → Prop → Prop → Prop) (Kst : KS) (Kret : KR) (aq nq mq : Nat) (tq : Nat → ByteArray) (vq : Nat → Int) (gq : Nat → Int) (de : Int) (ap np mp : Nat) (tp : Nat → Int) (al nl ml : Nat) (tl : Nat → Int) (vl : Nat → Int) (gl : Nat → Int) : Prop :=
  test (decide (nq ≤ 1000000))
 (Kst (hd Try.f60 0) ([PV.loose (PA.mk (1) (1) ap (0)) np,
 PV.loose (PA.mk (2) (3) al (0)) nl,
 PV.ptr (PA.mk (3) (0) (0) (0)),
 PV.own (5) (1)
 (List.length (S.mkl nq fun (r : Nat) => decide ((↑r : Int) ≠ (-1 : Int)))),
 PV.int IntKind.i64 (0 : Int)]) ([[(2, false,
 Blk.cols ml
 [Col.int IntKind.i64 tl, Col.int IntKind.i64 vl, Col.int IntKind.i64 gl]),
 (1, false, Blk.cols mp [Col.int IntKind.i64 tp]),
 (0, false,
 Blk.cols mq [Col.str tq, Col.int IntKind.i64 vq, Col.int IntKind.i64 gq]),
 (5, true,
 Blk.cols (List.length (S.mkl nq fun (r : Nat) => decide ((↑r : Int) ≠ (-1 : Int))))
 [Col.bool fun j =>
 S.at' (S.mkl nq fun (r : Nat) => decide ((↑r : Int) ≠ (-1 : Int))) j]),
 (3, true,
 Blk.cells
 [PV.loose (PA.mk (0) (3) aq (0)) nq, PV.int IntKind.i64 de])]]) (6))
 (False)
theorem te60 (test : Bool → Prop → Prop → Prop) (Kst : KS) (Kret : KR) (aq nq mq : Nat) (tq : Nat → ByteArray) (vq : Nat → Int) (gq : Nat → Int) (de : Int) (ap np mp : Nat) (tp : Nat → Int) (al nl ml : Nat) (tl : Nat → Int) (vl : Nat → Int) (gl : Nat → Int) : run test Try.env true (xY test) true 400 ⟨60, [.cd (mkFn Try.f60).body], argT 0 [.agg [.loose ⟨0, 3, aq, 0⟩ nq, .int .i64 de], .loose ⟨1, 1, ap, 0⟩ np, .loose ⟨2, 3, al, 0⟩ nl], [[], [(0, (false, .cols mq [.str tq, .int .i64 vq, .int .i64 gq])), (1, (false, .cols mp [.int .i64 tp])), (2, (false, .cols ml [.int .i64 tl, .int .i64 vl, .int .i64 gl]))]], 3⟩ (proj 3 [1, 2, 3, 7, 8] Kst Kret) =
  Te60 test Kst Kret aq nq mq tq vq gq de ap np mp tp al nl ml tl vl gl := by kernel_rfl
noncomputable def T60_0 (test : Bool → Prop → Prop → Prop) (Kst : KS) (Kret : KR) (aq nq mq : Nat) (tq : Nat → ByteArray) (vq : Nat → Int) (gq : Nat → Int) (de : Int) (ap np mp : Nat) (tp : Nat → Int) (al nl ml : Nat) (tl : Nat → Int) (vl : Nat → Int) (gl : Nat → Int) (x0 : Int) (x1 : List Bool) : Prop :=
  test (decide (x0 < (↑np : Int)))
 (test (decide ((0 : Int) ≤ x0 ∧ x0 < (↑np : Int)))
 (test (decide (Int.toNat x0 + ap < mp))
 (test (decide ((0 : Int) ≤ tp (Int.toNat x0 + ap) ∧ tp (Int.toNat x0 + ap) < (↑(List.length x1) : Int)))
 (test (decide (Int.toNat (tp (Int.toNat x0 + ap)) < List.length x1))
 (test (lim IntKind.i64 (x0 + (1 : Int)))
 (Kst (hd Try.f60 0) ([PV.loose (PA.mk (1) (1) ap (0)) np,
 PV.loose (PA.mk (2) (3) al (0)) nl,
 PV.ptr (PA.mk (3) (0) (0) (0)),
 PV.own (4) (1) (List.length x1), PV.int IntKind.i64 (x0 + (1 : Int))]) ([[(2, false,
 Blk.cols ml
 [Col.int IntKind.i64 tl, Col.int IntKind.i64 vl, Col.int IntKind.i64 gl]),
 (1, false, Blk.cols mp [Col.int IntKind.i64 tp]),
 (0, false,
 Blk.cols mq [Col.str tq, Col.int IntKind.i64 vq, Col.int IntKind.i64 gq]),
 (4, true,
 Blk.cols (List.length x1)
 [Col.bool fun j =>
 bif Nat.beq j (Int.toNat (tp (Int.toNat x0 + ap))) then false else S.at' x1 j]),
 (3, true,
 Blk.cells
 [PV.loose (PA.mk (0) (3) aq (0)) nq, PV.int IntKind.i64 de])]]) (5))
 (False))
 (False))
 (False))
 (False))
 (False))
 (test (decide
 (al + nl ≤ ml ∧
 nl ≤ 1000000 ∧
 0 + List.length x1 ≤ List.length x1 ∧ List.length x1 ≤ 1000000 ∧ nq ≤ List.length x1))
 (test (S.opnB (1 : Int) nq (fun j => S.at' x1 j) nl (fun j => tl (j + al))
 (fun j => vl (j + al)) fun j => gl (j + al))
 (Kret (PV.tf true) ([[(2, false,
 Blk.cols ml
 [Col.int IntKind.i64 tl, Col.int IntKind.i64 vl, Col.int IntKind.i64 gl]),
 (1, false, Blk.cols mp [Col.int IntKind.i64 tp]),
 (0, false,
 Blk.cols mq [Col.str tq, Col.int IntKind.i64 vq, Col.int IntKind.i64 gq])]]) (6))
 (test (decide
 (al + nl ≤ ml ∧
 nl ≤ 1000000 ∧
 0 + List.length x1 ≤ List.length x1 ∧ List.length x1 ≤ 1000000 ∧ nq ≤ List.length x1))
 (test (S.opnB (2 : Int) nq (fun j => S.at' x1 j) nl (fun j => tl (j + al))
 (fun j => vl (j + al)) fun j => gl (j + al))
 (Kret (PV.tf true) ([[(2, false,
 Blk.cols ml
 [Col.int IntKind.i64 tl, Col.int IntKind.i64 vl, Col.int IntKind.i64 gl]),
 (1, false, Blk.cols mp [Col.int IntKind.i64 tp]),
 (0, false,
 Blk.cols mq [Col.str tq, Col.int IntKind.i64 vq, Col.int IntKind.i64 gq])]]) (7))
 (Kret (PV.tf false) ([[(2, false,
 Blk.cols ml
 [Col.int IntKind.i64 tl, Col.int IntKind.i64 vl, Col.int IntKind.i64 gl]),
 (1, false, Blk.cols mp [Col.int IntKind.i64 tp]),
 (0, false,
 Blk.cols mq [Col.str tq, Col.int IntKind.i64 vq, Col.int IntKind.i64 gq])]]) (7)))
 (False)))
 (False))
theorem t60_0 (test : Bool → Prop → Prop → Prop) (Kst : KS) (Kret : KR) (aq nq mq : Nat) (tq : Nat → ByteArray) (vq : Nat → Int) (gq : Nat → Int) (de : Int) (ap np mp : Nat) (tp : Nat → Int) (al nl ml : Nat) (tl : Nat → Int) (vl : Nat → Int) (gl : Nat → Int) (x0 : Int) (x1 : List Bool) : run test Try.env true (xY test) true 400 ⟨60, hd Try.f60 0, zipT [1, 2, 3, 7, 8] [PV.loose (PA.mk (1) (1) ap (0)) np,
 PV.loose (PA.mk (2) (3) al (0)) nl,
 PV.ptr (PA.mk (3) (0) (0) (0)),
 PV.own (4) (1) (List.length x1), PV.int IntKind.i64 x0], [[(3, (true, Blk.cells [PV.loose (PA.mk (0) (3) aq (0)) nq, PV.int IntKind.i64 de])), (4, (true, Blk.cols (List.length x1) [Col.bool fun j => S.at' x1 j]))], [(0, (false, .cols mq [.str tq, .int .i64 vq, .int .i64 gq])), (1, (false, .cols mp [.int .i64 tp])), (2, (false, .cols ml [.int .i64 tl, .int .i64 vl, .int .i64 gl]))]], 5⟩ (proj 3 [1, 2, 3, 7, 8] Kst Kret) =
  T60_0 test Kst Kret aq nq mq tq vq gq de ap np mp tp al nl ml tl vl gl x0 x1 := by kernel_rfl
theorem be60 (aq nq mq : Nat) (tq : Nat → ByteArray) (vq : Nat → Int) (gq : Nat → Int) (de : Int) (ap np mp : Nat) (tp : Nat → Int) (al nl ml : Nat) (tl : Nat → Int) (vl : Nat → Int) (gl : Nat → Int) (Kst : KS) (Kret : KR) (x : St60 ⊕ Rt60) (hS : HS 3 400 ((I60 aq nq mq tq vq gq de ap np mp tp al nl ml tl vl gl)) Kst x) (hR : HR 3 400 ((V60 aq nq mq tq vq gq de ap np mp tp al nl ml tl vl gl)) (fun r => [newL (3 + 1) ((N60 aq nq mq tq vq gq de ap np mp tp al nl ml tl vl gl) r) ++ [(0, (false, .cols mq [.str tq, .int .i64 vq, .int .i64 gq])), (1, (false, .cols mp [.int .i64 tp])), (2, (false, .cols ml [.int .i64 tl, .int .i64 vl, .int .i64 gl]))]]) Kret x) (h : (bif (decide (nq ≤ 1000000))
 then (some (.inl (.h0 ((0 : Int)) (S.mkl nq fun (r : Nat) => decide ((↑r : Int) ≠ (-1 : Int))))))
 else (none) : Option (St60 ⊕ Rt60)) = some x) : Te60 cond Kst Kret aq nq mq tq vq gq de ap np mp tp al nl ml tl vl gl := by
  unfold Te60
  exact bif_split h
   (fun c0 h => stop_at hS _ h (fun n => bif Nat.beq n 3 then 3 else bif Nat.beq n 4 then 5 else n) rfl rfl rfl ⟨(rn_loose (use_lo rfl) rfl rfl rfl), ⟨(rn_loose (use_lo rfl) rfl rfl rfl), ⟨(rn_ptr (use_own rfl) rfl rfl), ⟨(rn_own (use_own rfl) rfl rfl), ⟨(rn_int rfl), trivial⟩⟩⟩⟩⟩ rfl (entl_b (use_own rfl) rfl (by simp) (rb_cells ⟨(rn_loose (use_lo rfl) rfl rfl rfl), (rn_int rfl), trivial⟩) (entl_new (use_own rfl) rfl (Nat.le_of_eq rfl) (rcs_bool (fun _ _ => rfl) rcs_nil) (entl_bor (use_lo rfl) rfl rfl (entl_bor (use_lo rfl) rfl rfl (entl_bor (use_lo rfl) rfl rfl entl_nil))))))
   (fun c0 h => no_some h)
theorem b60_0 (aq nq mq : Nat) (tq : Nat → ByteArray) (vq : Nat → Int) (gq : Nat → Int) (de : Int) (ap np mp : Nat) (tp : Nat → Int) (al nl ml : Nat) (tl : Nat → Int) (vl : Nat → Int) (gl : Nat → Int) (Kst : KS) (Kret : KR) (x : St60 ⊕ Rt60) (hS : HS 3 400 ((I60 aq nq mq tq vq gq de ap np mp tp al nl ml tl vl gl)) Kst x) (hR : HR 3 400 ((V60 aq nq mq tq vq gq de ap np mp tp al nl ml tl vl gl)) (fun r => [newL (3 + 1) ((N60 aq nq mq tq vq gq de ap np mp tp al nl ml tl vl gl) r) ++ [(0, (false, .cols mq [.str tq, .int .i64 vq, .int .i64 gq])), (1, (false, .cols mp [.int .i64 tp])), (2, (false, .cols ml [.int .i64 tl, .int .i64 vl, .int .i64 gl]))]]) Kret x) (x0 : Int) (x1 : List Bool) (h : (bif (decide (x0 < (↑np : Int)))
 then (bif (decide ((0 : Int) ≤ x0 ∧ x0 < (↑np : Int)))
 then (bif (decide (Int.toNat x0 + ap < mp))
 then (bif (decide ((0 : Int) ≤ tp (Int.toNat x0 + ap) ∧ tp (Int.toNat x0 + ap) < (↑(List.length x1) : Int)))
 then (bif (decide (Int.toNat (tp (Int.toNat x0 + ap)) < List.length x1))
 then (bif (lim IntKind.i64 (x0 + (1 : Int)))
 then (some (.inl (.h0 (x0 + (1 : Int)) (S.mkl (List.length x1) fun j =>
 bif Nat.beq j (Int.toNat (tp (Int.toNat x0 + ap))) then false else S.at' x1 j))))
 else (none))
 else (none))
 else (none))
 else (none))
 else (none))
 else (bif (decide
 (al + nl ≤ ml ∧
 nl ≤ 1000000 ∧
 0 + List.length x1 ≤ List.length x1 ∧ List.length x1 ≤ 1000000 ∧ nq ≤ List.length x1))
 then (bif (S.opnB (1 : Int) nq (fun j => S.at' x1 j) nl (fun j => tl (j + al))
 (fun j => vl (j + al)) fun j => gl (j + al))
 then (some (.inr (true)))
 else (bif (S.opnB (2 : Int) nq (fun j => S.at' x1 j) nl (fun j => tl (j + al))
 (fun j => vl (j + al)) fun j => gl (j + al))
 then (some (.inr (true)))
 else (some (.inr (false)))))
 else (none)) : Option (St60 ⊕ Rt60)) = some x) : T60_0 cond Kst Kret aq nq mq tq vq gq de ap np mp tp al nl ml tl vl gl x0 x1 := by
  unfold T60_0
  exact bif_split h
   (fun c0 h => bif_split h
   (fun c1 h => bif_split h
   (fun c2 h => bif_split h
   (fun c3 h => bif_split h
   (fun c4 h => bif_split h
   (fun c5 h => stop_at hS _ h (fun n => bif Nat.beq n 3 then 3 else bif Nat.beq n 4 then 4 else n) rfl rfl rfl ⟨(rn_loose (use_lo rfl) rfl rfl rfl), ⟨(rn_loose (use_lo rfl) rfl rfl rfl), ⟨(rn_ptr (use_own rfl) rfl rfl), ⟨(rn_own (use_own rfl) rfl mkl_len), ⟨(rn_int rfl), trivial⟩⟩⟩⟩⟩ rfl (entl_b (use_own rfl) rfl (by simp) (rb_cells ⟨(rn_loose (use_lo rfl) rfl rfl rfl), (rn_int rfl), trivial⟩) (entl_new (use_own rfl) rfl (Nat.le_of_eq mkl_len) (rcs_bool (fun _ hj => col_mkl (fun (t : Bool) => t) hj) rcs_nil) (entl_bor (use_lo rfl) rfl rfl (entl_bor (use_lo rfl) rfl rfl (entl_bor (use_lo rfl) rfl rfl entl_nil))))))
   (fun c5 h => no_some h))
   (fun c4 h => no_some h))
   (fun c3 h => no_some h))
   (fun c2 h => no_some h))
   (fun c1 h => no_some h))
   (fun c0 h => bif_split h
   (fun c1 h => bif_split h
   (fun c2 h => ret_at hR _ h (fun n => n) rfl rfl rfl (rn_bool_tf rfl) rfl (entl_bor (use_lo rfl) rfl rfl (entl_bor (use_lo rfl) rfl rfl (entl_bor (use_lo rfl) rfl rfl entl_nil))))
   (fun c2 h => cond_yes c1 (bif_split h
   (fun c3 h => ret_at hR _ h (fun n => n) rfl rfl rfl (rn_bool_tf rfl) rfl (entl_bor (use_lo rfl) rfl rfl (entl_bor (use_lo rfl) rfl rfl (entl_bor (use_lo rfl) rfl rfl entl_nil))))
   (fun c3 h => ret_at hR _ h (fun n => n) rfl rfl rfl (rn_bool_tf rfl) rfl (entl_bor (use_lo rfl) rfl rfl (entl_bor (use_lo rfl) rfl rfl (entl_bor (use_lo rfl) rfl rfl entl_nil)))))))
   (fun c1 h => no_some h))
theorem a60 (aq nq mq : Nat) (tq : Nat → ByteArray) (vq : Nat → Int) (gq : Nat → Int) (de : Int) (ap np mp : Nat) (tp : Nat → Int) (al nl ml : Nat) (tl : Nat → Int) (vl : Nat → Int) (gl : Nat → Int) {r : Rt60} (h : Goes ((q60 aq nq mq tq vq gq de ap np mp tp al nl ml tl vl gl)) ((p60 aq nq mq tq vq gq de ap np mp tp al nl ml tl vl gl)) r) : CallR Try.prog 60 [.agg [.loose ⟨0, 3, aq, 0⟩ nq, .int .i64 de], .loose ⟨1, 1, ap, 0⟩ np, .loose ⟨2, 3, al, 0⟩ nl] [[(0, (false, .cols mq [.str tq, .int .i64 vq, .int .i64 gq])), (1, (false, .cols mp [.int .i64 tp])), (2, (false, .cols ml [.int .i64 tl, .int .i64 vl, .int .i64 gl]))]] 3 ((V60 aq nq mq tq vq gq de ap np mp tp al nl ml tl vl gl) r) ((fun r => [newL (3 + 1) ((N60 aq nq mq tq vq gq de ap np mp tp al nl ml tl vl gl) r) ++ [(0, (false, .cols mq [.str tq, .int .i64 vq, .int .i64 gq])), (1, (false, .cols mp [.int .i64 tp])), (2, (false, .cols ml [.int .i64 tl, .int .i64 vl, .int .i64 gl]))]]) r) 400 ∧ ∃ F, Try.prog.funcs[60]? = some F ∧ F.body.isSome = true ∧ (F.name == "runtime.NumGoroutine") = false := by
  refine dec_calls (f := 60) (lo := 3) (hi := 400) (H := [[(0, (false, .cols mq [.str tq, .int .i64 vq, .int .i64 gq])), (1, (false, .cols mp [.int .i64 tp])), (2, (false, .cols ml [.int .i64 tl, .int .i64 vl, .int .i64 gl]))]]) (args := [.agg [.loose ⟨0, 3, aq, 0⟩ nq, .int .i64 de], .loose ⟨1, 1, ap, 0⟩ np, .loose ⟨2, 3, al, 0⟩ nl]) Try.envOk Try.mixed xY_ok ((I60 aq nq mq tq vq gq de ap np mp tp al nl ml tl vl gl)) ((V60 aq nq mq tq vq gq de ap np mp tp al nl ml tl vl gl)) (fun r => [newL (3 + 1) ((N60 aq nq mq tq vq gq de ap np mp tp al nl ml tl vl gl) r) ++ [(0, (false, .cols mq [.str tq, .int .i64 vq, .int .i64 gq])), (1, (false, .cols mp [.int .i64 tp])), (2, (false, .cols ml [.int .i64 tl, .int .i64 vl, .int .i64 gl]))]]) (fn := mkFn Try.f60) (ts := [1, 2, 3, 7, 8]) (n := 400) rfl (by decide) (by simp) (names_of rfl) ?_ ?_ ?_ h
  · intro s; cases s <;> exact ⟨hd_ok _ _, by simp [I60], names_of rfl, Nat.le_of_ble_eq_true rfl⟩
  · intro Kst Kret x hS hR h
    exact Holds.eq (te60 cond Kst Kret aq nq mq tq vq gq de ap np mp tp al nl ml tl vl gl) (be60 aq nq mq tq vq gq de ap np mp tp al nl ml tl vl gl Kst Kret x hS hR h)
  · intro Kst Kret x hS hR s h
    cases s with
    | h0 x0 x1 => exact Holds.eq (t60_0 cond Kst Kret aq nq mq tq vq gq de ap np mp tp al nl ml tl vl gl x0 x1) (b60_0 aq nq mq tq vq gq de ap np mp tp al nl ml tl vl gl Kst Kret x hS hR x0 x1 h)
noncomputable def k60 : Con := ⟨60, [.agg [.list [.str, .int .i64, .int .i64], .plain (.int .i64)], .one (.list [.int .i64]), .one (.list [.int .i64, .int .i64, .int .i64])], fun (x : ((Nat × Nat × Nat × (Nat → ByteArray) × (Nat → Int) × (Nat → Int) × Unit) × Int × Unit) × (Nat × Nat × Nat × (Nat → Int) × Unit) × (Nat × Nat × Nat × (Nat → Int) × (Nat → Int) × (Nat → Int) × Unit) × Unit) => (fun (aq nq mq : Nat) (tq : Nat → ByteArray) (vq : Nat → Int) (gq : Nat → Int) (de : Int) (ap np mp : Nat) (tp : Nat → Int) (al nl ml : Nat) (tl : Nat → Int) (vl : Nat → Int) (gl : Nat → Int) => decide ((al + nl ≤ ml ∧ nl ≤ 1000000) ∧ (ap + np ≤ mp ∧ np ≤ 1000000) ∧ nq ≤ 1000 ∧ S.all (fun j => decide (0 ≤ tp (j + ap) ∧ tp (j + ap) < (nq : Int))) np = true)) x.1.1.1 x.1.1.2.1 x.1.1.2.2.1 x.1.1.2.2.2.1 x.1.1.2.2.2.2.1 x.1.1.2.2.2.2.2.1 x.1.2.1 x.2.1.1 x.2.1.2.1 x.2.1.2.2.1 x.2.1.2.2.2.1 x.2.2.1.1 x.2.2.1.2.1 x.2.2.1.2.2.1 x.2.2.1.2.2.2.1 x.2.2.1.2.2.2.2.1 x.2.2.1.2.2.2.2.2.1, fun (x : ((Nat × Nat × Nat × (Nat → ByteArray) × (Nat → Int) × (Nat → Int) × Unit) × Int × Unit) × (Nat × Nat × Nat × (Nat → Int) × Unit) × (Nat × Nat × Nat × (Nat → Int) × (Nat → Int) × (Nat → Int) × Unit) × Unit) => (fun (aq nq mq : Nat) (tq : Nat → ByteArray) (vq : Nat → Int) (gq : Nat → Int) (de : Int) (ap np mp : Nat) (tp : Nat → Int) (al nl ml : Nat) (tl : Nat → Int) (vl : Nat → Int) (gl : Nat → Int) => (V60 aq nq mq tq vq gq de ap np mp tp al nl ml tl vl gl) (S.safB nq (fun r => !S.any (fun j => decide (tp (j + ap) = (r : Int))) np) nl (fun j => tl (j + al)) (fun j => vl (j + al)) (fun j => gl (j + al)))) x.1.1.1 x.1.1.2.1 x.1.1.2.2.1 x.1.1.2.2.2.1 x.1.1.2.2.2.2.1 x.1.1.2.2.2.2.2.1 x.1.2.1 x.2.1.1 x.2.1.2.1 x.2.1.2.2.1 x.2.1.2.2.2.1 x.2.2.1.1 x.2.2.1.2.1 x.2.2.1.2.2.1 x.2.2.1.2.2.2.1 x.2.2.1.2.2.2.2.1 x.2.2.1.2.2.2.2.2.1, fun (x : ((Nat × Nat × Nat × (Nat → ByteArray) × (Nat → Int) × (Nat → Int) × Unit) × Int × Unit) × (Nat × Nat × Nat × (Nat → Int) × Unit) × (Nat × Nat × Nat × (Nat → Int) × (Nat → Int) × (Nat → Int) × Unit) × Unit) => (fun (aq nq mq : Nat) (tq : Nat → ByteArray) (vq : Nat → Int) (gq : Nat → Int) (de : Int) (ap np mp : Nat) (tp : Nat → Int) (al nl ml : Nat) (tl : Nat → Int) (vl : Nat → Int) (gl : Nat → Int) => (N60 aq nq mq tq vq gq de ap np mp tp al nl ml tl vl gl) (S.safB nq (fun r => !S.any (fun j => decide (tp (j + ap) = (r : Int))) np) nl (fun j => tl (j + al)) (fun j => vl (j + al)) (fun j => gl (j + al)))) x.1.1.1 x.1.1.2.1 x.1.1.2.2.1 x.1.1.2.2.2.1 x.1.1.2.2.2.2.1 x.1.1.2.2.2.2.2.1 x.1.2.1 x.2.1.1 x.2.1.2.1 x.2.1.2.2.1 x.2.1.2.2.2.1 x.2.2.1.1 x.2.2.1.2.1 x.2.2.1.2.2.1 x.2.2.1.2.2.2.1 x.2.2.1.2.2.2.2.1 x.2.2.1.2.2.2.2.2.1, fun _ _ => .dead⟩
theorem s60' (aq nq mq : Nat) (tq : Nat → ByteArray) (vq : Nat → Int) (gq : Nat → Int) (de : Int) (ap np mp : Nat) (tp : Nat → Int) (al nl ml : Nat) (tl : Nat → Int) (vl : Nat → Int) (gl : Nat → Int) (hp : (al + nl ≤ ml ∧ nl ≤ 1000000) ∧ (ap + np ≤ mp ∧ np ≤ 1000000) ∧ nq ≤ 1000 ∧ S.all (fun j => decide (0 ≤ tp (j + ap) ∧ tp (j + ap) < (nq : Int))) np = true) : ∀ (k i : Nat) (L : List Bool), i + k = np → Holds (L = S.mkl nq (fun r => !S.any (fun j => decide (tp (j + ap) = (r : Int))) i)) → Comes (q60 aq nq mq tq vq gq de ap np mp tp al nl ml tl vl gl) (.h0 (i : Int) L) (S.safB nq (fun r => !S.any (fun j => decide (tp (j + ap) = (r : Int))) np) nl (fun j => tl (j + al)) (fun j => vl (j + al)) (fun j => gl (j + al))) := by
  obtain ⟨⟨hp1, hp2⟩, ⟨hp3, hp5⟩, hp6, hp4⟩ := hp
  intro k
  induction k with
  | zero =>
    intro i L hi eL
    obtain rfl : np = i := by omega
    have hL : L.length = nq := by rw [eL.get, mkl_len]
    have e : ∀ lp, S.opnB lp nq (fun j => S.at' L j) nl (fun j => tl (j + al)) (fun j => vl (j + al)) (fun j => gl (j + al)) = S.opnB lp nq (fun r => !S.any (fun j => decide (tp (j + ap) = (r : Int))) np) nl (fun j => tl (j + al)) (fun j => vl (j + al)) (fun j => gl (j + al)) := fun lp => opnB_congr (fun j hj => by rw [eL.get, at_mkl hj]) (fun j hj => ⟨rfl, rfl, rfl⟩)
    unfold S.safB
    apply Comes.of
    show Goes _ _ _
    rw [q60]
    simp only [hL, e]
    generalize S.opnB 1 nq (fun r => !S.any (fun j => decide (tp (j + ap) = (r : Int))) np) nl (fun j => tl (j + al)) (fun j => vl (j + al)) (fun j => gl (j + al)) = A at *
    generalize S.opnB 2 nq (fun r => !S.any (fun j => decide (tp (j + ap) = (r : Int))) np) nl (fun j => tl (j + al)) (fun j => vl (j + al)) (fun j => gl (j + al)) = B at *
    show Goes _ _ _
    cases A <;> cases B
    all_goals
     repeat' first
      | with_reducible refine goes_if (fun h => ?_) (fun h => ?_) <;> (try simp only [lim64, imp_false, decide_eq_true_eq, decide_eq_false_iff_not, Int.toNat_natCast, toNat_pred, toNat_succ, Option.getD_some, Option.getD_none, Bool.not_eq_true', Bool.not_eq_false', Bool.and_eq_true, Bool.or_eq_true, Bool.and_eq_false_iff, Bool.or_eq_false_iff, bne_iff_ne, beq_iff_eq, bne_eq_false_iff_eq, beq_eq_false_iff_ne, ne_eq, not_and, Int.not_le, Int.not_lt, ge_iff_le, gt_iff_lt, Nat.not_lt, Nat.not_le, Bool.not_eq_true, Bool.not_eq_false, Bool.true_eq_false, Bool.false_eq_true, not_false_eq_true, not_true_eq_false] at h)
      | exact goes_none.mpr (by omega)
     all_goals first | (exfalso; omega) | exact goes_inr.mpr rfl
  | succ k ih =>
    intro i L hi eL
    have hL : L.length = nq := by rw [eL.get, mkl_len]
    have ht := of_decide_eq_true (all_iff.mp hp4 i (by omega))
    have ih := ih (i + 1) (S.mkl L.length fun j => bif Nat.beq j (Int.toNat (tp (i + ap))) then false else S.at' L j) (by omega) ⟨by
      rw [hL]
      refine mkl_congr fun j hj => ?_
      rw [any_succ, eL.get, at_mkl hj]
      by_cases h : j = (tp (i + ap)).toNat
      · rw [h, Nat.beq_refl, cond_true, decide_eq_true (show tp (i + ap) = (((tp (i + ap)).toNat : Nat) : Int) by omega), Bool.or_true, Bool.not_true]
      · rw [nbeq_no h, cond_false, decide_eq_false (show ¬ tp (i + ap) = (j : Int) by omega), Bool.or_false]⟩
    apply Comes.of
    show Goes _ _ _
    (first | rw [q60] | unfold q60)
    try simp only [Int.toNat_natCast]
    try show Goes _ _ _
    repeat' first
      | with_reducible refine goes_if (fun h => ?_) (fun h => ?_) <;> (try simp only [lim64, imp_false, decide_eq_true_eq, decide_eq_false_iff_not, Int.toNat_natCast, toNat_pred, toNat_succ, Option.getD_some, Option.getD_none, Bool.not_eq_true', Bool.not_eq_false', Bool.and_eq_true, Bool.or_eq_true, Bool.and_eq_false_iff, Bool.or_eq_false_iff, bne_iff_ne, beq_iff_eq, bne_eq_false_iff_eq, beq_eq_false_iff_ne, ne_eq, not_and, Int.not_le, Int.not_lt, ge_iff_le, gt_iff_lt, Nat.not_lt, Nat.not_le, Bool.not_eq_true, Bool.not_eq_false, Bool.true_eq_false, Bool.false_eq_true, not_false_eq_true, not_true_eq_false] at h)
      | exact goes_none.mpr (by omega)
    all_goals first | (exfalso; omega) | exact ih
theorem s60 (aq nq mq : Nat) (tq : Nat → ByteArray) (vq : Nat → Int) (gq : Nat → Int) (de : Int) (ap np mp : Nat) (tp : Nat → Int) (al nl ml : Nat) (tl : Nat → Int) (vl : Nat → Int) (gl : Nat → Int) (hp : (al + nl ≤ ml ∧ nl ≤ 1000000) ∧ (ap + np ≤ mp ∧ np ≤ 1000000) ∧ nq ≤ 1000 ∧ S.all (fun j => decide (0 ≤ tp (j + ap) ∧ tp (j + ap) < (nq : Int))) np = true) : Goes ((q60 aq nq mq tq vq gq de ap np mp tp al nl ml tl vl gl)) ((p60 aq nq mq tq vq gq de ap np mp tp al nl ml tl vl gl)) (S.safB nq (fun r => !S.any (fun j => decide (tp (j + ap) = (r : Int))) np) nl (fun j => tl (j + al)) (fun j => vl (j + al)) (fun j => gl (j + al))) := by
  have hm := s60' aq nq mq tq vq gq de ap np mp tp al nl ml tl vl gl hp np 0 _ (Nat.zero_add _) ⟨(show S.mkl nq (fun r => decide ((r : Int) ≠ -1)) = S.mkl nq (fun r => !S.any (fun j => decide (tp (j + ap) = (r : Int))) 0) from mkl_congr fun j hj => by
    rw [any_zero, decide_eq_true (show (j : Int) ≠ -1 by omega)]; rfl)⟩
  obtain ⟨⟨hp1, hp2⟩, ⟨hp3, hp5⟩, hp6, hp4⟩ := hp
  show Goes _ _ _
  unfold p60
  repeat' first
    | with_reducible refine goes_if (fun h => ?_) (fun h => ?_) <;> (try simp only [lim64, imp_false, decide_eq_true_eq, decide_eq_false_iff_not, Int.toNat_natCast, toNat_pred, toNat_succ, Option.getD_some, Option.getD_none, Bool.not_eq_true', Bool.not_eq_false', Bool.and_eq_true, Bool.or_eq_true, Bool.and_eq_false_iff, Bool.or_eq_false_iff, bne_iff_ne, beq_iff_eq, bne_eq_false_iff_eq, beq_eq_false_iff_ne, ne_eq, not_and, Int.not_le, Int.not_lt, ge_iff_le, gt_iff_lt, Nat.not_lt, Nat.not_le, Bool.not_eq_true, Bool.not_eq_false, Bool.true_eq_false, Bool.false_eq_true, not_false_eq_true, not_true_eq_false] at h)
    | exact goes_none.mpr (by omega)
  all_goals first | (exfalso; omega) | exact hm
theorem k60_ok : k60.ok Try.prog := by
  intro x hx
  obtain ⟨⟨⟨aq, nq, mq, tq, vq, gq, _⟩, de, _⟩, ⟨ap, np, mp, tp, _⟩, ⟨al, nl, ml, tl, vl, gl, _⟩, _⟩ := x
  obtain ⟨h1, h2⟩ := a60 aq nq mq tq vq gq de ap np mp tp al nl ml tl vl gl (s60 aq nq mq tq vq gq de ap np mp tp al nl ml tl vl gl (of_dec hx rfl))
  exact ⟨⟨400, (by decide : 3 + 1 + 0 ≤ 400), h1⟩, h2⟩
abbrev St57 := Empty
abbrev Rt57 := Bool
noncomputable def V57 (aq nq mq : Nat) (tq : Nat → ByteArray) (vq : Nat → Int) (gq : Nat → Int) (de : Int) (st : Int) (r : Rt57) : PV := PV.bool r
noncomputable def N57 (aq nq mq : Nat) (tq : Nat → ByteArray) (vq : Nat → Int) (gq : Nat → Int) (de : Int) (st : Int) (r : Rt57) : List Blk := []
noncomputable def I57 (aq nq mq : Nat) (tq : Nat → ByteArray) (vq : Nat → Int) (gq : Nat → Int) (de : Int) (st : Int) : St57 → Hd := fun s => s.elim
noncomputable def q57 (aq nq mq : Nat) (tq : Nat → ByteArray) (vq : Nat → Int) (gq : Nat → Int) (de : Int) (st : Int) : St57 → Option (St57 ⊕ Rt57) := fun s => s.elim
noncomputable def p57 (aq nq mq : Nat) (tq : Nat → ByteArray) (vq : Nat → Int) (gq : Nat → Int) (de : Int) (st : Int) : Option (St57 ⊕ Rt57) := bif (lim IntKind.i64 ((↑nq : Int) - (1 : Int)))
 then (bif (decide (st ≥ (0 : Int)))
 then (bif (decide (st ≤ (↑nq : Int) - (1 : Int)))
 then (some (.inr (true)))
 else (some (.inr (false))))
 else (some (.inr (false))))
 else (none)
noncomputable def Te57 (test : Bool → Prop → Prop → Prop) (Kst : KS) (Kret : KR) (aq nq mq : Nat) (tq : Nat → ByteArray) (vq : Nat → Int) (gq : Nat → Int) (de : Int) (st : Int) : Prop :=
  test (lim IntKind.i64 ((↑nq : Int) - (1 : Int)))
 (test (decide (st ≥ (0 : Int)))
 (test (decide (st ≤ (↑nq : Int) - (1 : Int)))
 (Kret (PV.tf true) ([[(0, false,
 Blk.cols mq [Col.str tq, Col.int IntKind.i64 vq, Col.int IntKind.i64 gq])]]) (2))
 (Kret (PV.tf false) ([[(0, false,
 Blk.cols mq [Col.str tq, Col.int IntKind.i64 vq, Col.int IntKind.i64 gq])]]) (2)))
 (Kret (PV.tf false) ([[(0, false,
 Blk.cols mq [Col.str tq, Col.int IntKind.i64 vq, Col.int IntKind.i64 gq])]]) (2)))
 (False)
theorem te57 (test : Bool → Prop → Prop → Prop) (Kst : KS) (Kret : KR) (aq nq mq : Nat) (tq : Nat → ByteArray) (vq : Nat → Int) (gq : Nat → Int) (de : Int) (st : Int) : run test Try.env true noX true 400 ⟨57, [.cd (mkFn Try.f57).body], argT 0 [.agg [.loose ⟨0, 3, aq, 0⟩ nq, .int .i64 de], .int .i64 st], [[], [(0, (false, .cols mq [.str tq, .int .i64 vq, .int .i64 gq]))]], 1⟩ (proj 1 [] Kst Kret) =
  Te57 test Kst Kret aq nq mq tq vq gq de st := by kernel_rfl
theorem be57 (aq nq mq : Nat) (tq : Nat → ByteArray) (vq : Nat → Int) (gq : Nat → Int) (de : Int) (st : Int) (Kst : KS) (Kret : KR) (x : St57 ⊕ Rt57) (hS : HS 1 400 ((I57 aq nq mq tq vq gq de st)) Kst x) (hR : HR 1 400 ((V57 aq nq mq tq vq gq de st)) (fun r => [newL (1 + 1) ((N57 aq nq mq tq vq gq de st) r) ++ [(0, (false, .cols mq [.str tq, .int .i64 vq, .int .i64 gq]))]]) Kret x) (h : (bif (lim IntKind.i64 ((↑nq : Int) - (1 : Int)))
 then (bif (decide (st ≥ (0 : Int)))
 then (bif (decide (st ≤ (↑nq : Int) - (1 : Int)))
 then (some (.inr (true)))
 else (some (.inr (false))))
 else (some (.inr (false))))
 else (none) : Option (St57 ⊕ Rt57)) = some x) : Te57 cond Kst Kret aq nq mq tq vq gq de st := by
  unfold Te57
  exact bif_split h
   (fun c0 h => bif_split h
   (fun c1 h => bif_split h
   (fun c2 h => ret_at hR _ h (fun n => n) rfl rfl rfl (rn_bool_tf rfl) rfl (entl_bor (use_lo rfl) rfl rfl entl_nil))
   (fun c2 h => ret_at hR _ h (fun n => n) rfl rfl rfl (rn_bool_tf rfl) rfl (entl_bor (use_lo rfl) rfl rfl entl_nil)))
   (fun c1 h => ret_at hR _ h (fun n => n) rfl rfl rfl (rn_bool_tf rfl) rfl (entl_bor (use_lo rfl) rfl rfl entl_nil)))
   (fun c0 h => no_some h)
theorem a57 (aq nq mq : Nat) (tq : Nat → ByteArray) (vq : Nat → Int) (gq : Nat → Int) (de : Int) (st : Int) {r : Rt57} (h : Goes ((q57 aq nq mq tq vq gq de st)) ((p57 aq nq mq tq vq gq de st)) r) : CallR Try.prog 57 [.agg [.loose ⟨0, 3, aq, 0⟩ nq, .int .i64 de], .int .i64 st] [[(0, (false, .cols mq [.str tq, .int .i64 vq, .int .i64 gq]))]] 1 ((V57 aq nq mq tq vq gq de st) r) ((fun r => [newL (1 + 1) ((N57 aq nq mq tq vq gq de st) r) ++ [(0, (false, .cols mq [.str tq, .int .i64 vq, .int .i64 gq]))]]) r) 400 ∧ ∃ F, Try.prog.funcs[57]? = some F ∧ F.body.isSome = true ∧ (F.name == "runtime.NumGoroutine") = false := by
  refine dec_calls (f := 57) (lo := 1) (hi := 400) (H := [[(0, (false, .cols mq [.str tq, .int .i64 vq, .int .i64 gq]))]]) (args := [.agg [.loose ⟨0, 3, aq, 0⟩ nq, .int .i64 de], .int .i64 st]) Try.envOk Try.mixed noX_ok ((I57 aq nq mq tq vq gq de st)) ((V57 aq nq mq tq vq gq de st)) (fun r => [newL (1 + 1) ((N57 aq nq mq tq vq gq de st) r) ++ [(0, (false, .cols mq [.str tq, .int .i64 vq, .int .i64 gq]))]]) (fn := mkFn Try.f57) (ts := []) (n := 400) rfl (by decide) (by simp) (names_of rfl) ?_ ?_ ?_ h
  · intro s; exact s.elim
  · intro Kst Kret x hS hR h
    exact Holds.eq (te57 cond Kst Kret aq nq mq tq vq gq de st) (be57 aq nq mq tq vq gq de st Kst Kret x hS hR h)
  · intro Kst Kret x hS hR s h; exact s.elim
noncomputable def k57 : Con := ⟨57, [.agg [.list [.str, .int .i64, .int .i64], .plain (.int .i64)], .one (.plain (.int .i64))], fun (x : ((Nat × Nat × Nat × (Nat → ByteArray) × (Nat → Int) × (Nat → Int) × Unit) × Int × Unit) × Int × Unit) => (fun (aq nq mq : Nat) (tq : Nat → ByteArray) (vq : Nat → Int) (gq : Nat → Int) (de : Int) (st : Int) => decide (nq ≤ 1000000)) x.1.1.1 x.1.1.2.1 x.1.1.2.2.1 x.1.1.2.2.2.1 x.1.1.2.2.2.2.1 x.1.1.2.2.2.2.2.1 x.1.2.1 x.2.1, fun (x : ((Nat × Nat × Nat × (Nat → ByteArray) × (Nat → Int) × (Nat → Int) × Unit) × Int × Unit) × Int × Unit) => (fun (aq nq mq : Nat) (tq : Nat → ByteArray) (vq : Nat → Int) (gq : Nat → Int) (de : Int) (st : Int) => (V57 aq nq mq tq vq gq de st) (decide (0 ≤ st ∧ st < (nq : Int)))) x.1.1.1 x.1.1.2.1 x.1.1.2.2.1 x.1.1.2.2.2.1 x.1.1.2.2.2.2.1 x.1.1.2.2.2.2.2.1 x.1.2.1 x.2.1, fun (x : ((Nat × Nat × Nat × (Nat → ByteArray) × (Nat → Int) × (Nat → Int) × Unit) × Int × Unit) × Int × Unit) => (fun (aq nq mq : Nat) (tq : Nat → ByteArray) (vq : Nat → Int) (gq : Nat → Int) (de : Int) (st : Int) => (N57 aq nq mq tq vq gq de st) (decide (0 ≤ st ∧ st < (nq : Int)))) x.1.1.1 x.1.1.2.1 x.1.1.2.2.1 x.1.1.2.2.2.1 x.1.1.2.2.2.2.1 x.1.1.2.2.2.2.2.1 x.1.2.1 x.2.1, fun _ _ => .dead⟩
theorem s57 (aq nq mq : Nat) (tq : Nat → ByteArray) (vq : Nat → Int) (gq : Nat → Int) (de : Int) (st : Int) (hp : nq ≤ 1000000) : Goes ((q57 aq nq mq tq vq gq de st)) ((p57 aq nq mq tq vq gq de st)) (decide (0 ≤ st ∧ st < (nq : Int))) := by
  show Goes _ _ _
  unfold p57
  repeat' first
    | with_reducible refine goes_if (fun h => ?_) (fun h => ?_) <;> (try simp only [lim64, imp_false, decide_eq_true_eq, decide_eq_false_iff_not, Int.toNat_natCast, toNat_pred, toNat_succ, Option.getD_some, Option.getD_none, Bool.not_eq_true', Bool.not_eq_false', Bool.and_eq_true, Bool.or_eq_true, Bool.and_eq_false_iff, Bool.or_eq_false_iff, bne_iff_ne, beq_iff_eq, bne_eq_false_iff_eq, beq_eq_false_iff_ne, ne_eq, not_and, Int.not_le, Int.not_lt, ge_iff_le, gt_iff_lt, Nat.not_lt, Nat.not_le, Bool.not_eq_true, Bool.not_eq_false, Bool.true_eq_false, Bool.false_eq_true, not_false_eq_true, not_true_eq_false] at h)
    | exact goes_none.mpr (by omega)
  all_goals first | (exfalso; omega) | (refine goes_inr.mpr ?_; first | exact (decide_eq_true (by omega)).symm | exact (decide_eq_false (by omega)).symm)
theorem k57_ok : k57.ok Try.prog := by
  intro x hx
  obtain ⟨⟨⟨aq, nq, mq, tq, vq, gq, _⟩, de, _⟩, st, _⟩ := x
  obtain ⟨h1, h2⟩ := a57 aq nq mq tq vq gq de st (s57 aq nq mq tq vq gq de st (of_dec hx rfl))
  exact ⟨⟨400, (by decide : 1 + 1 + 0 ≤ 400), h1⟩, h2⟩
noncomputable def xZ (test : Bool → Prop → Prop → Prop) : Ext := consX test [k19, k20, k44, k46, k47, k48, k53, k55, k54, k56, k57, k58, k59, k60, k66]
theorem xZ_ok : ExtOk Try.prog (xZ cond) := consX_ok ⟨k19_ok, k20_ok, k44_ok, k46_ok, k47_ok, k48_ok, k53_ok, k55_ok, k54_ok, k56_ok, k57_ok, k58_ok, k59_ok, k60_ok, k66_ok, trivial⟩
namespace S
def latS (n : Nat) (v g : Nat → Int) (de e st k l p : Int) : Int × Int := if e = 0 then (if 0 ≤ st ∧ st < (n : Int) then (if failE n k l p = 0 then (latI n v g de st k l p, 0) else (0, failE n k l p)) else (0, 6)) else (0, e)
end S
abbrev St25 := Empty
abbrev Rt25 := Int × Int
noncomputable def V25 (aq nq mq : Nat) (tq : Nat → ByteArray) (vq : Nat → Int) (gq : Nat → Int) (de : Int) (st : Int) (k1 : Int) (k2 : Int) (k3 : Int) (r : Rt25) : PV := PV.tup [PV.int IntKind.i64 r.1, PV.int IntKind.i64 r.2]
noncomputable def N25 (aq nq mq : Nat) (tq : Nat → ByteArray) (vq : Nat → Int) (gq : Nat → Int) (de : Int) (st : Int) (k1 : Int) (k2 : Int) (k3 : Int) (r : Rt25) : List Blk := []
noncomputable def I25 (aq nq mq : Nat) (tq : Nat → ByteArray) (vq : Nat → Int) (gq : Nat → Int) (de : Int) (st : Int) (k1 : Int) (k2 : Int) (k3 : Int) : St25 → Hd := fun s => s.elim
noncomputable def q25 (aq nq mq : Nat) (tq : Nat → ByteArray) (vq : Nat → Int) (gq : Nat → Int) (de : Int) (st : Int) (k1 : Int) (k2 : Int) (k3 : Int) : St25 → Option (St25 ⊕ Rt25) := fun s => s.elim
noncomputable def p25 (aq nq mq : Nat) (tq : Nat → ByteArray) (vq : Nat → Int) (gq : Nat → Int) (de : Int) (st : Int) (k1 : Int) (k2 : Int) (k3 : Int) : Option (St25 ⊕ Rt25) := bif (decide (aq + nq ≤ mq ∧ nq ≤ 1000000))
 then (bif (S.netE nq (fun j => tq (j + aq)) (fun j => vq (j + aq)) (fun j => gq (j + aq)) de !=
 (0 : Int))
 then (some (.inr ((0 : Int), S.netE nq (fun j => tq (j + aq)) (fun j => vq (j + aq)) (fun j => gq (j + aq)) de)))
 else (bif (decide (nq ≤ 1000000))
 then (bif (decide ((0 : Int) ≤ st ∧ st < (↑nq : Int)))
 then (bif (decide (nq ≤ 100000))
 then (bif (S.failE nq k1 k2 k3 != (0 : Int))
 then (some (.inr ((0 : Int), S.failE nq k1 k2 k3)))
 else (bif (decide
 (aq + nq ≤ mq ∧
 S.netE nq (fun j => tq (j + aq)) (fun j => vq (j + aq)) (fun j => gq (j + aq)) de =
 (0 : Int) ∧
 (0 : Int) ≤ st ∧ st < (↑nq : Int)))
 then (some (.inr (S.latI nq (fun j => vq (j + aq)) (fun j => gq (j + aq)) de st k1 k2 k3, (0 : Int))))
 else (none)))
 else (none))
 else (some (.inr ((0 : Int), (6 : Int)))))
 else (none)))
 else (none)
noncomputable def Te25 (test : Bool → Prop → Prop → Prop) (Kst : KS) (Kret : KR) (aq nq mq : Nat) (tq : Nat → ByteArray) (vq : Nat → Int) (gq : Nat → Int) (de : Int) (st : Int) (k1 : Int) (k2 : Int) (k3 : Int) : Prop :=
  test (decide (aq + nq ≤ mq ∧ nq ≤ 1000000))
 (test (S.netE nq (fun j => tq (j + aq)) (fun j => vq (j + aq)) (fun j => gq (j + aq)) de !=
 (0 : Int))
 (Kret (PV.tup
 [PV.int IntKind.i64 (0 : Int),
 PV.int IntKind.i64
 (S.netE nq (fun j => tq (j + aq)) (fun j => vq (j + aq)) (fun j => gq (j + aq)) de)]) ([[(0, false,
 Blk.cols mq [Col.str tq, Col.int IntKind.i64 vq, Col.int IntKind.i64 gq])]]) (4))
 (test (decide (nq ≤ 1000000))
 (test (decide ((0 : Int) ≤ st ∧ st < (↑nq : Int)))
 (test (decide (nq ≤ 100000))
 (test (S.failE nq k1 k2 k3 != (0 : Int))
 (Kret (PV.tup [PV.int IntKind.i64 (0 : Int), PV.int IntKind.i64 (S.failE nq k1 k2 k3)]) ([[(0, false,
 Blk.cols mq [Col.str tq, Col.int IntKind.i64 vq, Col.int IntKind.i64 gq])]]) (6))
 (test (decide
 (aq + nq ≤ mq ∧
 S.netE nq (fun j => tq (j + aq)) (fun j => vq (j + aq)) (fun j => gq (j + aq)) de =
 (0 : Int) ∧
 (0 : Int) ≤ st ∧ st < (↑nq : Int)))
 (Kret (PV.tup
 [PV.int IntKind.i64
 (S.latI nq (fun j => vq (j + aq)) (fun j => gq (j + aq)) de st k1 k2 k3),
 PV.int IntKind.i64 (0 : Int)]) ([[(0, false,
 Blk.cols mq [Col.str tq, Col.int IntKind.i64 vq, Col.int IntKind.i64 gq])]]) (7))
 (False)))
 (False))
 (Kret (PV.tup [PV.int IntKind.i64 (0 : Int), PV.int IntKind.i64 (6 : Int)]) ([[(0, false,
 Blk.cols mq [Col.str tq, Col.int IntKind.i64 vq, Col.int IntKind.i64 gq])]]) (5)))
 (False)))
 (False)
theorem te25 (test : Bool → Prop → Prop → Prop) (Kst : KS) (Kret : KR) (aq nq mq : Nat) (tq : Nat → ByteArray) (vq : Nat → Int) (gq : Nat → Int) (de : Int) (st : Int) (k1 : Int) (k2 : Int) (k3 : Int) : run test Try.env true (xZ test) true 400 ⟨25, [.cd (mkFn Try.f25).body], argT 0 [.agg [.loose ⟨0, 3, aq, 0⟩ nq, .int .i64 de], .int .i64 st, .agg [.int .i64 k1, .int .i64 k2, .int .i64 k3]], [[], [(0, (false, .cols mq [.str tq, .int .i64 vq, .int .i64 gq]))]], 1⟩ (proj 1 [] Kst Kret) =
  Te25 test Kst Kret aq nq mq tq vq gq de st k1 k2 k3 := by kernel_rfl
theorem be25 (aq nq mq : Nat) (tq : Nat → ByteArray) (vq : Nat → Int) (gq : Nat → Int) (de : Int) (st : Int) (k1 : Int) (k2 : Int) (k3 : Int) (Kst : KS) (Kret : KR) (x : St25 ⊕ Rt25) (hS : HS 1 400 ((I25 aq nq mq tq vq gq de st k1 k2 k3)) Kst x) (hR : HR 1 400 ((V25 aq nq mq tq vq gq de st k1 k2 k3)) (fun r => [newL (1 + 1) ((N25 aq nq mq tq vq gq de st k1 k2 k3) r) ++ [(0, (false, .cols mq [.str tq, .int .i64 vq, .int .i64 gq]))]]) Kret x) (h : (bif (decide (aq + nq ≤ mq ∧ nq ≤ 1000000))
 then (bif (S.netE nq (fun j => tq (j + aq)) (fun j => vq (j + aq)) (fun j => gq (j + aq)) de !=
 (0 : Int))
 then (some (.inr ((0 : Int), S.netE nq (fun j => tq (j + aq)) (fun j => vq (j + aq)) (fun j => gq (j + aq)) de)))
 else (bif (decide (nq ≤ 1000000))
 then (bif (decide ((0 : Int) ≤ st ∧ st < (↑nq : Int)))
 then (bif (decide (nq ≤ 100000))
 then (bif (S.failE nq k1 k2 k3 != (0 : Int))
 then (some (.inr ((0 : Int), S.failE nq k1 k2 k3)))
 else (bif (decide
 (aq + nq ≤ mq ∧
 S.netE nq (fun j => tq (j + aq)) (fun j => vq (j + aq)) (fun j => gq (j + aq)) de =
 (0 : Int) ∧
 (0 : Int) ≤ st ∧ st < (↑nq : Int)))
 then (some (.inr (S.latI nq (fun j => vq (j + aq)) (fun j => gq (j + aq)) de st k1 k2 k3, (0 : Int))))
 else (none)))
 else (none))
 else (some (.inr ((0 : Int), (6 : Int)))))
 else (none)))
 else (none) : Option (St25 ⊕ Rt25)) = some x) : Te25 cond Kst Kret aq nq mq tq vq gq de st k1 k2 k3 := by
  unfold Te25
  exact bif_split h
   (fun c0 h => bif_split h
   (fun c1 h => ret_at hR _ h (fun n => n) rfl rfl rfl (rn_tup ⟨(rn_int rfl), (rn_int rfl), trivial⟩) rfl (entl_bor (use_lo rfl) rfl rfl entl_nil))
   (fun c1 h => bif_split h
   (fun c2 h => bif_split h
   (fun c3 h => bif_split h
   (fun c4 h => bif_split h
   (fun c5 h => ret_at hR _ h (fun n => n) rfl rfl rfl (rn_tup ⟨(rn_int rfl), (rn_int rfl), trivial⟩) rfl (entl_bor (use_lo rfl) rfl rfl entl_nil))
   (fun c5 h => bif_split h
   (fun c6 h => ret_at hR _ h (fun n => n) rfl rfl rfl (rn_tup ⟨(rn_int rfl), (rn_int rfl), trivial⟩) rfl (entl_bor (use_lo rfl) rfl rfl entl_nil))
   (fun c6 h => no_some h)))
   (fun c4 h => no_some h))
   (fun c3 h => ret_at hR _ h (fun n => n) rfl rfl rfl (rn_tup ⟨(rn_int rfl), (rn_int rfl), trivial⟩) rfl (entl_bor (use_lo rfl) rfl rfl entl_nil)))
   (fun c2 h => no_some h)))
   (fun c0 h => no_some h)
theorem a25 (aq nq mq : Nat) (tq : Nat → ByteArray) (vq : Nat → Int) (gq : Nat → Int) (de : Int) (st : Int) (k1 : Int) (k2 : Int) (k3 : Int) {r : Rt25} (h : Goes ((q25 aq nq mq tq vq gq de st k1 k2 k3)) ((p25 aq nq mq tq vq gq de st k1 k2 k3)) r) : CallR Try.prog 25 [.agg [.loose ⟨0, 3, aq, 0⟩ nq, .int .i64 de], .int .i64 st, .agg [.int .i64 k1, .int .i64 k2, .int .i64 k3]] [[(0, (false, .cols mq [.str tq, .int .i64 vq, .int .i64 gq]))]] 1 ((V25 aq nq mq tq vq gq de st k1 k2 k3) r) ((fun r => [newL (1 + 1) ((N25 aq nq mq tq vq gq de st k1 k2 k3) r) ++ [(0, (false, .cols mq [.str tq, .int .i64 vq, .int .i64 gq]))]]) r) 400 ∧ ∃ F, Try.prog.funcs[25]? = some F ∧ F.body.isSome = true ∧ (F.name == "runtime.NumGoroutine") = false := by
  refine dec_calls (f := 25) (lo := 1) (hi := 400) (H := [[(0, (false, .cols mq [.str tq, .int .i64 vq, .int .i64 gq]))]]) (args := [.agg [.loose ⟨0, 3, aq, 0⟩ nq, .int .i64 de], .int .i64 st, .agg [.int .i64 k1, .int .i64 k2, .int .i64 k3]]) Try.envOk Try.mixed xZ_ok ((I25 aq nq mq tq vq gq de st k1 k2 k3)) ((V25 aq nq mq tq vq gq de st k1 k2 k3)) (fun r => [newL (1 + 1) ((N25 aq nq mq tq vq gq de st k1 k2 k3) r) ++ [(0, (false, .cols mq [.str tq, .int .i64 vq, .int .i64 gq]))]]) (fn := mkFn Try.f25) (ts := []) (n := 400) rfl (by decide) (by simp) (names_of rfl) ?_ ?_ ?_ h
  · intro s; exact s.elim
  · intro Kst Kret x hS hR h
    exact Holds.eq (te25 cond Kst Kret aq nq mq tq vq gq de st k1 k2 k3) (be25 aq nq mq tq vq gq de st k1 k2 k3 Kst Kret x hS hR h)
  · intro Kst Kret x hS hR s h; exact s.elim
noncomputable def k25 : Con := ⟨25, [.agg [.list [.str, .int .i64, .int .i64], .plain (.int .i64)], .one (.plain (.int .i64)), .agg [.plain (.int .i64), .plain (.int .i64), .plain (.int .i64)]], fun (x : ((Nat × Nat × Nat × (Nat → ByteArray) × (Nat → Int) × (Nat → Int) × Unit) × Int × Unit) × Int × (Int × Int × Int × Unit) × Unit) => (fun (aq nq mq : Nat) (tq : Nat → ByteArray) (vq : Nat → Int) (gq : Nat → Int) (de : Int) (st : Int) (k1 : Int) (k2 : Int) (k3 : Int) => decide (aq + nq ≤ mq ∧ nq ≤ 1000000)) x.1.1.1 x.1.1.2.1 x.1.1.2.2.1 x.1.1.2.2.2.1 x.1.1.2.2.2.2.1 x.1.1.2.2.2.2.2.1 x.1.2.1 x.2.1 x.2.2.1.1 x.2.2.1.2.1 x.2.2.1.2.2.1, fun (x : ((Nat × Nat × Nat × (Nat → ByteArray) × (Nat → Int) × (Nat → Int) × Unit) × Int × Unit) × Int × (Int × Int × Int × Unit) × Unit) => (fun (aq nq mq : Nat) (tq : Nat → ByteArray) (vq : Nat → Int) (gq : Nat → Int) (de : Int) (st : Int) (k1 : Int) (k2 : Int) (k3 : Int) => (V25 aq nq mq tq vq gq de st k1 k2 k3) (S.latS nq (fun j => vq (j + aq)) (fun j => gq (j + aq)) de (S.netE nq (fun j => tq (j + aq)) (fun j => vq (j + aq)) (fun j => gq (j + aq)) de) st k1 k2 k3)) x.1.1.1 x.1.1.2.1 x.1.1.2.2.1 x.1.1.2.2.2.1 x.1.1.2.2.2.2.1 x.1.1.2.2.2.2.2.1 x.1.2.1 x.2.1 x.2.2.1.1 x.2.2.1.2.1 x.2.2.1.2.2.1, fun (x : ((Nat × Nat × Nat × (Nat → ByteArray) × (Nat → Int) × (Nat → Int) × Unit) × Int × Unit) × Int × (Int × Int × Int × Unit) × Unit) => (fun (aq nq mq : Nat) (tq : Nat → ByteArray) (vq : Nat → Int) (gq : Nat → Int) (de : Int) (st : Int) (k1 : Int) (k2 : Int) (k3 : Int) => (N25 aq nq mq tq vq gq de st k1 k2 k3) (S.latS nq (fun j => vq (j + aq)) (fun j => gq (j + aq)) de (S.netE nq (fun j => tq (j + aq)) (fun j => vq (j + aq)) (fun j => gq (j + aq)) de) st k1 k2 k3)) x.1.1.1 x.1.1.2.1 x.1.1.2.2.1 x.1.1.2.2.2.1 x.1.1.2.2.2.2.1 x.1.1.2.2.2.2.2.1 x.1.2.1 x.2.1 x.2.2.1.1 x.2.2.1.2.1 x.2.2.1.2.2.1, fun _ _ => .dead⟩
theorem s25 (aq nq mq : Nat) (tq : Nat → ByteArray) (vq : Nat → Int) (gq : Nat → Int) (de : Int) (st : Int) (k1 : Int) (k2 : Int) (k3 : Int) (hp : aq + nq ≤ mq ∧ nq ≤ 1000000) : Goes ((q25 aq nq mq tq vq gq de st k1 k2 k3)) ((p25 aq nq mq tq vq gq de st k1 k2 k3)) (S.latS nq (fun j => vq (j + aq)) (fun j => gq (j + aq)) de (S.netE nq (fun j => tq (j + aq)) (fun j => vq (j + aq)) (fun j => gq (j + aq)) de) st k1 k2 k3) := by
  obtain ⟨hp1, hp2⟩ := hp
  have hn : (S.netE nq (fun j => tq (j + aq)) (fun j => vq (j + aq)) (fun j => gq (j + aq)) de) = 0 → nq ≤ 12 := fun h => (net_ok h).1.2
  unfold p25 S.latS
  generalize (S.netE nq (fun j => tq (j + aq)) (fun j => vq (j + aq)) (fun j => gq (j + aq)) de) = e at *
  generalize S.latI nq (fun j => vq (j + aq)) (fun j => gq (j + aq)) de st k1 k2 k3 = LA at *
  generalize S.failE nq k1 k2 k3 = fe at *
  show Goes _ _ _
  repeat' first
    | with_reducible refine goes_if (fun h => ?_) (fun h => ?_) <;> (try simp only [lim64, imp_false, decide_eq_true_eq, decide_eq_false_iff_not, Int.toNat_natCast, toNat_pred, toNat_succ, Option.getD_some, Option.getD_none, Bool.not_eq_true', Bool.not_eq_false', Bool.and_eq_true, Bool.or_eq_true, Bool.and_eq_false_iff, Bool.or_eq_false_iff, bne_iff_ne, beq_iff_eq, bne_eq_false_iff_eq, beq_eq_false_iff_ne, ne_eq, not_and, Int.not_le, Int.not_lt, ge_iff_le, gt_iff_lt, Nat.not_lt, Nat.not_le, Bool.not_eq_true, Bool.not_eq_false, Bool.true_eq_false, Bool.false_eq_true, not_false_eq_true, not_true_eq_false] at h)
    | exact goes_none.mpr (by omega)
  all_goals first | (exfalso; omega) | exact goes_inr.mpr rfl | (refine goes_inr.mpr ?_; (repeat' split) <;> first | rfl | (exfalso; omega) | (exfalso; simp_all; done))
theorem k25_ok : k25.ok Try.prog := by
  intro x hx
  obtain ⟨⟨⟨aq, nq, mq, tq, vq, gq, _⟩, de, _⟩, st, ⟨k1, k2, k3, _⟩, _⟩ := x
  obtain ⟨h1, h2⟩ := a25 aq nq mq tq vq gq de st k1 k2 k3 (s25 aq nq mq tq vq gq de st k1 k2 k3 (of_dec hx rfl))
  exact ⟨⟨400, (by decide : 1 + 1 + 0 ≤ 400), h1⟩, h2⟩
abbrev St26 := Empty
abbrev Rt26 := Int × Int
noncomputable def V26 (aq nq mq : Nat) (tq : Nat → ByteArray) (vq : Nat → Int) (gq : Nat → Int) (de : Int) (st : Int) (k1 : Int) (k2 : Int) (k3 : Int) (r : Rt26) : PV := PV.tup [PV.int IntKind.i64 r.1, PV.int IntKind.i64 r.2]
noncomputable def N26 (aq nq mq : Nat) (tq : Nat → ByteArray) (vq : Nat → Int) (gq : Nat → Int) (de : Int) (st : Int) (k1 : Int) (k2 : Int) (k3 : Int) (r : Rt26) : List Blk := []
noncomputable def I26 (aq nq mq : Nat) (tq : Nat → ByteArray) (vq : Nat → Int) (gq : Nat → Int) (de : Int) (st : Int) (k1 : Int) (k2 : Int) (k3 : Int) : St26 → Hd := fun s => s.elim
noncomputable def q26 (aq nq mq : Nat) (tq : Nat → ByteArray) (vq : Nat → Int) (gq : Nat → Int) (de : Int) (st : Int) (k1 : Int) (k2 : Int) (k3 : Int) : St26 → Option (St26 ⊕ Rt26) := fun s => s.elim
noncomputable def p26 (aq nq mq : Nat) (tq : Nat → ByteArray) (vq : Nat → Int) (gq : Nat → Int) (de : Int) (st : Int) (k1 : Int) (k2 : Int) (k3 : Int) : Option (St26 ⊕ Rt26) := bif (decide (aq + nq ≤ mq ∧ nq ≤ 1000000))
 then (bif (S.netE nq (fun j => tq (j + aq)) (fun j => vq (j + aq)) (fun j => gq (j + aq)) de !=
 (0 : Int))
 then (some (.inr ((0 : Int), S.netE nq (fun j => tq (j + aq)) (fun j => vq (j + aq)) (fun j => gq (j + aq)) de)))
 else (bif (decide (st < (0 : Int)))
 then (some (.inr ((0 : Int), (6 : Int))))
 else (bif (decide (st ≥ (↑nq : Int)))
 then (some (.inr ((0 : Int), (6 : Int))))
 else (bif (decide (nq ≤ 100000))
 then (bif (S.failE nq k1 k2 k3 != (0 : Int))
 then (some (.inr ((0 : Int), S.failE nq k1 k2 k3)))
 else (bif (decide
 (aq + nq ≤ mq ∧
 S.netE nq (fun j => tq (j + aq)) (fun j => vq (j + aq)) (fun j => gq (j + aq)) de =
 (0 : Int) ∧
 (0 : Int) ≤ st ∧ st < (↑nq : Int)))
 then (some (.inr (S.latI nq (fun j => vq (j + aq)) (fun j => gq (j + aq)) de st k1 k2 k3, (0 : Int))))
 else (none)))
 else (none)))))
 else (none)
noncomputable def Te26 (test : Bool → Prop → Prop → Prop) (Kst : KS) (Kret : KR) (aq nq mq : Nat) (tq : Nat → ByteArray) (vq : Nat → Int) (gq : Nat → Int) (de : Int) (st : Int) (k1 : Int) (k2 : Int) (k3 : Int) : Prop :=
  test (decide (aq + nq ≤ mq ∧ nq ≤ 1000000))
 (test (S.netE nq (fun j => tq (j + aq)) (fun j => vq (j + aq)) (fun j => gq (j + aq)) de !=
 (0 : Int))
 (Kret (PV.tup
 [PV.int IntKind.i64 (0 : Int),
 PV.int IntKind.i64
 (S.netE nq (fun j => tq (j + aq)) (fun j => vq (j + aq)) (fun j => gq (j + aq)) de)]) ([[(0, false,
 Blk.cols mq [Col.str tq, Col.int IntKind.i64 vq, Col.int IntKind.i64 gq])]]) (4))
 (test (decide (st < (0 : Int)))
 (Kret (PV.tup [PV.int IntKind.i64 (0 : Int), PV.int IntKind.i64 (6 : Int)]) ([[(0, false,
 Blk.cols mq [Col.str tq, Col.int IntKind.i64 vq, Col.int IntKind.i64 gq])]]) (4))
 (test (decide (st ≥ (↑nq : Int)))
 (Kret (PV.tup [PV.int IntKind.i64 (0 : Int), PV.int IntKind.i64 (6 : Int)]) ([[(0, false,
 Blk.cols mq [Col.str tq, Col.int IntKind.i64 vq, Col.int IntKind.i64 gq])]]) (4))
 (test (decide (nq ≤ 100000))
 (test (S.failE nq k1 k2 k3 != (0 : Int))
 (Kret (PV.tup [PV.int IntKind.i64 (0 : Int), PV.int IntKind.i64 (S.failE nq k1 k2 k3)]) ([[(0, false,
 Blk.cols mq [Col.str tq, Col.int IntKind.i64 vq, Col.int IntKind.i64 gq])]]) (5))
 (test (decide
 (aq + nq ≤ mq ∧
 S.netE nq (fun j => tq (j + aq)) (fun j => vq (j + aq)) (fun j => gq (j + aq)) de =
 (0 : Int) ∧
 (0 : Int) ≤ st ∧ st < (↑nq : Int)))
 (Kret (PV.tup
 [PV.int IntKind.i64
 (S.latI nq (fun j => vq (j + aq)) (fun j => gq (j + aq)) de st k1 k2 k3),
 PV.int IntKind.i64 (0 : Int)]) ([[(0, false,
 Blk.cols mq [Col.str tq, Col.int IntKind.i64 vq, Col.int IntKind.i64 gq])]]) (6))
 (False)))
 (False)))))
 (False)
theorem te26 (test : Bool → Prop → Prop → Prop) (Kst : KS) (Kret : KR) (aq nq mq : Nat) (tq : Nat → ByteArray) (vq : Nat → Int) (gq : Nat → Int) (de : Int) (st : Int) (k1 : Int) (k2 : Int) (k3 : Int) : run test Try.env true (xZ test) true 400 ⟨26, [.cd (mkFn Try.f26).body], argT 0 [.agg [.loose ⟨0, 3, aq, 0⟩ nq, .int .i64 de], .int .i64 st, .agg [.int .i64 k1, .int .i64 k2, .int .i64 k3]], [[], [(0, (false, .cols mq [.str tq, .int .i64 vq, .int .i64 gq]))]], 1⟩ (proj 1 [] Kst Kret) =
  Te26 test Kst Kret aq nq mq tq vq gq de st k1 k2 k3 := by kernel_rfl
theorem be26 (aq nq mq : Nat) (tq : Nat → ByteArray) (vq : Nat → Int) (gq : Nat → Int) (de : Int) (st : Int) (k1 : Int) (k2 : Int) (k3 : Int) (Kst : KS) (Kret : KR) (x : St26 ⊕ Rt26) (hS : HS 1 400 ((I26 aq nq mq tq vq gq de st k1 k2 k3)) Kst x) (hR : HR 1 400 ((V26 aq nq mq tq vq gq de st k1 k2 k3)) (fun r => [newL (1 + 1) ((N26 aq nq mq tq vq gq de st k1 k2 k3) r) ++ [(0, (false, .cols mq [.str tq, .int .i64 vq, .int .i64 gq]))]]) Kret x) (h : (bif (decide (aq + nq ≤ mq ∧ nq ≤ 1000000))
 then (bif (S.netE nq (fun j => tq (j + aq)) (fun j => vq (j + aq)) (fun j => gq (j + aq)) de !=
 (0 : Int))
 then (some (.inr ((0 : Int), S.netE nq (fun j => tq (j + aq)) (fun j => vq (j + aq)) (fun j => gq (j + aq)) de)))
 else (bif (decide (st < (0 : Int)))
 then (some (.inr ((0 : Int), (6 : Int))))
 else (bif (decide (st ≥ (↑nq : Int)))
 then (some (.inr ((0 : Int), (6 : Int))))
 else (bif (decide (nq ≤ 100000))
 then (bif (S.failE nq k1 k2 k3 != (0 : Int))
 then (some (.inr ((0 : Int), S.failE nq k1 k2 k3)))
 else (bif (decide
 (aq + nq ≤ mq ∧
 S.netE nq (fun j => tq (j + aq)) (fun j => vq (j + aq)) (fun j => gq (j + aq)) de =
 (0 : Int) ∧
 (0 : Int) ≤ st ∧ st < (↑nq : Int)))
 then (some (.inr (S.latI nq (fun j => vq (j + aq)) (fun j => gq (j + aq)) de st k1 k2 k3, (0 : Int))))
 else (none)))
 else (none)))))
 else (none) : Option (St26 ⊕ Rt26)) = some x) : Te26 cond Kst Kret aq nq mq tq vq gq de st k1 k2 k3 := by
  unfold Te26
  exact bif_split h
   (fun c0 h => bif_split h
   (fun c1 h => ret_at hR _ h (fun n => n) rfl rfl rfl (rn_tup ⟨(rn_int rfl), (rn_int rfl), trivial⟩) rfl (entl_bor (use_lo rfl) rfl rfl entl_nil))
   (fun c1 h => bif_split h
   (fun c2 h => ret_at hR _ h (fun n => n) rfl rfl rfl (rn_tup ⟨(rn_int rfl), (rn_int rfl), trivial⟩) rfl (entl_bor (use_lo rfl) rfl rfl entl_nil))
   (fun c2 h => bif_split h
   (fun c3 h => ret_at hR _ h (fun n => n) rfl rfl rfl (rn_tup ⟨(rn_int rfl), (rn_int rfl), trivial⟩) rfl (entl_bor (use_lo rfl) rfl rfl entl_nil))
   (fun c3 h => bif_split h
   (fun c4 h => bif_split h
   (fun c5 h => ret_at hR _ h (fun n => n) rfl rfl rfl (rn_tup ⟨(rn_int rfl), (rn_int rfl), trivial⟩) rfl (entl_bor (use_lo rfl) rfl rfl entl_nil))
   (fun c5 h => bif_split h
   (fun c6 h => ret_at hR _ h (fun n => n) rfl rfl rfl (rn_tup ⟨(rn_int rfl), (rn_int rfl), trivial⟩) rfl (entl_bor (use_lo rfl) rfl rfl entl_nil))
   (fun c6 h => no_some h)))
   (fun c4 h => no_some h)))))
   (fun c0 h => no_some h)
theorem a26 (aq nq mq : Nat) (tq : Nat → ByteArray) (vq : Nat → Int) (gq : Nat → Int) (de : Int) (st : Int) (k1 : Int) (k2 : Int) (k3 : Int) {r : Rt26} (h : Goes ((q26 aq nq mq tq vq gq de st k1 k2 k3)) ((p26 aq nq mq tq vq gq de st k1 k2 k3)) r) : CallR Try.prog 26 [.agg [.loose ⟨0, 3, aq, 0⟩ nq, .int .i64 de], .int .i64 st, .agg [.int .i64 k1, .int .i64 k2, .int .i64 k3]] [[(0, (false, .cols mq [.str tq, .int .i64 vq, .int .i64 gq]))]] 1 ((V26 aq nq mq tq vq gq de st k1 k2 k3) r) ((fun r => [newL (1 + 1) ((N26 aq nq mq tq vq gq de st k1 k2 k3) r) ++ [(0, (false, .cols mq [.str tq, .int .i64 vq, .int .i64 gq]))]]) r) 400 ∧ ∃ F, Try.prog.funcs[26]? = some F ∧ F.body.isSome = true ∧ (F.name == "runtime.NumGoroutine") = false := by
  refine dec_calls (f := 26) (lo := 1) (hi := 400) (H := [[(0, (false, .cols mq [.str tq, .int .i64 vq, .int .i64 gq]))]]) (args := [.agg [.loose ⟨0, 3, aq, 0⟩ nq, .int .i64 de], .int .i64 st, .agg [.int .i64 k1, .int .i64 k2, .int .i64 k3]]) Try.envOk Try.mixed xZ_ok ((I26 aq nq mq tq vq gq de st k1 k2 k3)) ((V26 aq nq mq tq vq gq de st k1 k2 k3)) (fun r => [newL (1 + 1) ((N26 aq nq mq tq vq gq de st k1 k2 k3) r) ++ [(0, (false, .cols mq [.str tq, .int .i64 vq, .int .i64 gq]))]]) (fn := mkFn Try.f26) (ts := []) (n := 400) rfl (by decide) (by simp) (names_of rfl) ?_ ?_ ?_ h
  · intro s; exact s.elim
  · intro Kst Kret x hS hR h
    exact Holds.eq (te26 cond Kst Kret aq nq mq tq vq gq de st k1 k2 k3) (be26 aq nq mq tq vq gq de st k1 k2 k3 Kst Kret x hS hR h)
  · intro Kst Kret x hS hR s h; exact s.elim
noncomputable def k26 : Con := ⟨26, [.agg [.list [.str, .int .i64, .int .i64], .plain (.int .i64)], .one (.plain (.int .i64)), .agg [.plain (.int .i64), .plain (.int .i64), .plain (.int .i64)]], fun (x : ((Nat × Nat × Nat × (Nat → ByteArray) × (Nat → Int) × (Nat → Int) × Unit) × Int × Unit) × Int × (Int × Int × Int × Unit) × Unit) => (fun (aq nq mq : Nat) (tq : Nat → ByteArray) (vq : Nat → Int) (gq : Nat → Int) (de : Int) (st : Int) (k1 : Int) (k2 : Int) (k3 : Int) => decide (aq + nq ≤ mq ∧ nq ≤ 1000000)) x.1.1.1 x.1.1.2.1 x.1.1.2.2.1 x.1.1.2.2.2.1 x.1.1.2.2.2.2.1 x.1.1.2.2.2.2.2.1 x.1.2.1 x.2.1 x.2.2.1.1 x.2.2.1.2.1 x.2.2.1.2.2.1, fun (x : ((Nat × Nat × Nat × (Nat → ByteArray) × (Nat → Int) × (Nat → Int) × Unit) × Int × Unit) × Int × (Int × Int × Int × Unit) × Unit) => (fun (aq nq mq : Nat) (tq : Nat → ByteArray) (vq : Nat → Int) (gq : Nat → Int) (de : Int) (st : Int) (k1 : Int) (k2 : Int) (k3 : Int) => (V26 aq nq mq tq vq gq de st k1 k2 k3) (S.latS nq (fun j => vq (j + aq)) (fun j => gq (j + aq)) de (S.netE nq (fun j => tq (j + aq)) (fun j => vq (j + aq)) (fun j => gq (j + aq)) de) st k1 k2 k3)) x.1.1.1 x.1.1.2.1 x.1.1.2.2.1 x.1.1.2.2.2.1 x.1.1.2.2.2.2.1 x.1.1.2.2.2.2.2.1 x.1.2.1 x.2.1 x.2.2.1.1 x.2.2.1.2.1 x.2.2.1.2.2.1, fun (x : ((Nat × Nat × Nat × (Nat → ByteArray) × (Nat → Int) × (Nat → Int) × Unit) × Int × Unit) × Int × (Int × Int × Int × Unit) × Unit) => (fun (aq nq mq : Nat) (tq : Nat → ByteArray) (vq : Nat → Int) (gq : Nat → Int) (de : Int) (st : Int) (k1 : Int) (k2 : Int) (k3 : Int) => (N26 aq nq mq tq vq gq de st k1 k2 k3) (S.latS nq (fun j => vq (j + aq)) (fun j => gq (j + aq)) de (S.netE nq (fun j => tq (j + aq)) (fun j => vq (j + aq)) (fun j => gq (j + aq)) de) st k1 k2 k3)) x.1.1.1 x.1.1.2.1 x.1.1.2.2.1 x.1.1.2.2.2.1 x.1.1.2.2.2.2.1 x.1.1.2.2.2.2.2.1 x.1.2.1 x.2.1 x.2.2.1.1 x.2.2.1.2.1 x.2.2.1.2.2.1, fun _ _ => .dead⟩
theorem s26 (aq nq mq : Nat) (tq : Nat → ByteArray) (vq : Nat → Int) (gq : Nat → Int) (de : Int) (st : Int) (k1 : Int) (k2 : Int) (k3 : Int) (hp : aq + nq ≤ mq ∧ nq ≤ 1000000) : Goes ((q26 aq nq mq tq vq gq de st k1 k2 k3)) ((p26 aq nq mq tq vq gq de st k1 k2 k3)) (S.latS nq (fun j => vq (j + aq)) (fun j => gq (j + aq)) de (S.netE nq (fun j => tq (j + aq)) (fun j => vq (j + aq)) (fun j => gq (j + aq)) de) st k1 k2 k3) := by
  obtain ⟨hp1, hp2⟩ := hp
  have hn : (S.netE nq (fun j => tq (j + aq)) (fun j => vq (j + aq)) (fun j => gq (j + aq)) de) = 0 → nq ≤ 12 := fun h => (net_ok h).1.2
  unfold p26 S.latS
  generalize (S.netE nq (fun j => tq (j + aq)) (fun j => vq (j + aq)) (fun j => gq (j + aq)) de) = e at *
  generalize S.latI nq (fun j => vq (j + aq)) (fun j => gq (j + aq)) de st k1 k2 k3 = LA at *
  generalize S.failE nq k1 k2 k3 = fe at *
  show Goes _ _ _
  repeat' first
    | with_reducible refine goes_if (fun h => ?_) (fun h => ?_) <;> (try simp only [lim64, imp_false, decide_eq_true_eq, decide_eq_false_iff_not, Int.toNat_natCast, toNat_pred, toNat_succ, Option.getD_some, Option.getD_none, Bool.not_eq_true', Bool.not_eq_false', Bool.and_eq_true, Bool.or_eq_true, Bool.and_eq_false_iff, Bool.or_eq_false_iff, bne_iff_ne, beq_iff_eq, bne_eq_false_iff_eq, beq_eq_false_iff_ne, ne_eq, not_and, Int.not_le, Int.not_lt, ge_iff_le, gt_iff_lt, Nat.not_lt, Nat.not_le, Bool.not_eq_true, Bool.not_eq_false, Bool.true_eq_false, Bool.false_eq_true, not_false_eq_true, not_true_eq_false] at h)
    | exact goes_none.mpr (by omega)
  all_goals first | (exfalso; omega) | exact goes_inr.mpr rfl | (refine goes_inr.mpr ?_; (repeat' split) <;> first | rfl | (exfalso; omega) | (exfalso; simp_all; done))
theorem k26_ok : k26.ok Try.prog := by
  intro x hx
  obtain ⟨⟨⟨aq, nq, mq, tq, vq, gq, _⟩, de, _⟩, st, ⟨k1, k2, k3, _⟩, _⟩ := x
  obtain ⟨h1, h2⟩ := a26 aq nq mq tq vq gq de st k1 k2 k3 (s26 aq nq mq tq vq gq de st k1 k2 k3 (of_dec hx rfl))
  exact ⟨⟨400, (by decide : 1 + 1 + 0 ≤ 400), h1⟩, h2⟩
noncomputable def xD (test : Bool → Prop → Prop → Prop) : Ext := consX test [k45, k55, k53, k19, k20, k54, k57, k59]
theorem xD_ok : ExtOk Try.prog (xD cond) := consX_ok ⟨k45_ok, k55_ok, k53_ok, k19_ok, k20_ok, k54_ok, k57_ok, k59_ok, trivial⟩
namespace S
def fold {α : Type} (g : α → Nat → α) : Nat → Nat → α → α
  | _, 0, a => a
  | i, c + 1, a => fold g (i + 1) c (g a i)
abbrev A5 := Int × Int × Int × Int × Int
abbrev P6 := Int × Int × Int × Int × Int × Int
def allF (n : Nat) : List (Int × Int × Int) := (0, 0, 0) :: failL n
def worT (lat : Int → Int → Int → Int → Int) (L : List (Int × Int × Int)) (st : Nat) (a : A5) (j : Nat) : A5 := if a.1 < lat st (at' L j).1 (at' L j).2.1 (at' L j).2.2 then (lat st (at' L j).1 (at' L j).2.1 (at' L j).2.2, (st : Int), (at' L j).1, (at' L j).2.1, (at' L j).2.2) else a
def worS (lat : Int → Int → Int → Int → Int) (L : List (Int × Int × Int)) (n : Nat) : A5 := fold (fun a st => fold (worT lat L st) 0 L.length a) 0 n (-1, 0, 0, 0, 0)
def worE (n : Nat) (e : Int) (v g : Nat → Int) (de : Int) : P6 := if e = 0 then (let a := worS (latI n v g de) (allF n) n; (a.1, a.2.1, a.2.2.1, a.2.2.2.1, a.2.2.2.2, 0)) else (0, 0, 0, 0, 0, e)
def twoB (n : Nat) (st : Int) (x y : Int × Int × Int) : Bool := safB n (fun r => decide ((r : Int) ≠ st)) 2 (fun j => if j = 0 then x.1 else y.1) (fun j => if j = 0 then x.2.1 else y.2.1) (fun j => if j = 0 then x.2.2 else y.2.2)
def dblT (n : Nat) (st : Int) (L : List (Int × Int × Int)) (i : Nat) (D : List P6) (k : Nat) : List P6 := if twoB n st (at' L i) (at' L k) = true then D else snoc D ((at' L i).1, (at' L i).2.1, (at' L i).2.2, (at' L k).1, (at' L k).2.1, (at' L k).2.2)
def dblS (n : Nat) (st : Int) (L : List (Int × Int × Int)) : List P6 := fold (fun D i => fold (dblT n st L i) (i + 1) (L.length - (i + 1)) D) 0 L.length []
def dblE (n : Nat) (e st : Int) : Int × List P6 := if e = 0 then (if 0 ≤ st ∧ st < (n : Int) then (0, dblS n st (failL n)) else (6, [])) else (e, [])
end S
theorem all_mkl {n : Nat} : (S.mkl (1 + (S.failL n).length) fun j => (bif Nat.blt j 1 then (0 : Int) else (S.at' (S.failL n) (j - 1)).1, bif Nat.blt j 1 then (0 : Int) else (S.at' (S.failL n) (j - 1)).2.1, bif Nat.blt j 1 then (0 : Int) else (S.at' (S.failL n) (j - 1)).2.2)) = S.allF n := by
  refine mkl_eq (by show _ = (S.failL n).length + 1; omega) fun j hj => ?_
  cases j with
  | zero => rfl
  | succ j =>
    have : Nat.blt (j + 1) 1 = false := by cases hb : Nat.blt (j + 1) 1; rfl; exact absurd (lt_ok hb) (by omega)
    simp only [this, cond_false, Nat.add_sub_cancel]
    rfl
theorem two_eq {n : Nat} {st : Int} {F : Nat → Bool} {x y : Int × Int × Int} (hF : ∀ r, r < n → F r = decide ((r : Int) ≠ st)) : S.safB n F 2 (fun j => S.lit [x.1, y.1] 0 j) (fun j => S.lit [x.2.1, y.2.1] 0 j) (fun j => S.lit [x.2.2, y.2.2] 0 j) = S.twoB n st x y := by
  have hc : ∀ j, j < 2 → S.lit [x.1, y.1] 0 j = (if j = 0 then x.1 else y.1) ∧ S.lit [x.2.1, y.2.1] 0 j = (if j = 0 then x.2.1 else y.2.1) ∧ S.lit [x.2.2, y.2.2] 0 j = (if j = 0 then x.2.2 else y.2.2) := fun j hj => by
    rcases Nat.lt_or_eq_of_le (Nat.le_of_lt_succ hj) with h | h
    · rw [show j = 0 by omega]; exact ⟨rfl, rfl, rfl⟩
    · rw [h]; exact ⟨rfl, rfl, rfl⟩
  unfold S.twoB S.safB
  rw [opnB_congr (lp := 1) hF hc, opnB_congr (lp := 2) hF hc]
theorem dbl_len {n : Nat} {st : Int} {L : List (Int × Int × Int)} {i : Nat} : ∀ {c k : Nat} {D : List S.P6}, (S.fold (S.dblT n st L i) k c D).length ≤ D.length + c
  | 0, k, D => Nat.le_refl _
  | c + 1, k, D => by
    simp only [S.fold]
    refine Nat.le_trans dbl_len ?_
    unfold S.dblT
    split
    · omega
    · rw [snoc_len]; omega
inductive St17 where
  | h0 (x0 : Int) (x1 : Int) (x2 : Int) (x3 : Int) (x4 : Int) (x5 : Int)
  | h1 (x0 : Int) (x1 : Int) (x2 : Int) (x3 : Int) (x4 : Int) (x5 : Int) (x6 : Int) (x7 : Int) (x8 : List (Int × Int × Int))
abbrev Rt17 := Int × Int × Int × Int × Int × Int
noncomputable def V17 (aq nq mq : Nat) (tq : Nat → ByteArray) (vq : Nat → Int) (gq : Nat → Int) (de : Int) (r : Rt17) : PV := PV.tup
 [PV.int IntKind.i64 r.1, PV.int IntKind.i64 r.2.1,
 PV.agg [PV.int IntKind.i64 r.2.2.1, PV.int IntKind.i64 r.2.2.2.1, PV.int IntKind.i64 r.2.2.2.2.1],
 PV.int IntKind.i64 r.2.2.2.2.2]
noncomputable def N17 (aq nq mq : Nat) (tq : Nat → ByteArray) (vq : Nat → Int) (gq : Nat → Int) (de : Int) (r : Rt17) : List Blk := []
noncomputable def I17 (aq nq mq : Nat) (tq : Nat → ByteArray) (vq : Nat → Int) (gq : Nat → Int) (de : Int) : St17 → Hd
  | .h0 x0 x1 x2 x3 x4 x5 => ⟨hd Try.f17 0, [PV.ptr (PA.mk (1) (0) (0) (0)),
 PV.ptr (PA.mk (2) (0) (0) (0)), PV.int IntKind.i64 x0,
 PV.int IntKind.i64 x1, PV.ptr (PA.mk (3) (0) (0) (0)),
 PV.unk, PV.int IntKind.i64 (↑nq : Int), PV.int IntKind.i64 x2, PV.unk, PV.unk,
 PV.unk], [[(1, (true, Blk.cells [PV.loose (PA.mk (0) (3) aq (0)) nq, PV.int IntKind.i64 de])), (2, (true, Blk.cells
 [PV.int IntKind.i64 (0 : Int), PV.int IntKind.i64 (0 : Int), PV.int IntKind.i64 (0 : Int)])), (3, (true, Blk.cells [PV.int IntKind.i64 x3, PV.int IntKind.i64 x4, PV.int IntKind.i64 x5]))], [(0, (false, .cols mq [.str tq, .int .i64 vq, .int .i64 gq]))]], 4⟩
  | .h1 x0 x1 x2 x3 x4 x5 x6 x7 x8 => ⟨hd Try.f17 1, [PV.ptr (PA.mk (1) (0) (0) (0)),
 PV.ptr (PA.mk (2) (0) (0) (0)), PV.int IntKind.i64 x0,
 PV.int IntKind.i64 x1, PV.ptr (PA.mk (3) (0) (0) (0)),
 PV.int IntKind.i64 x2, PV.int IntKind.i64 (↑nq : Int), PV.int IntKind.i64 x3,
 PV.own (4) (3) (List.length x8),
 PV.int IntKind.i64 (↑(1 + List.length (S.failL nq)) : Int), PV.int IntKind.i64 x4], [[(1, (true, Blk.cells [PV.loose (PA.mk (0) (3) aq (0)) nq, PV.int IntKind.i64 de])), (2, (true, Blk.cells
 [PV.int IntKind.i64 (0 : Int), PV.int IntKind.i64 (0 : Int), PV.int IntKind.i64 (0 : Int)])), (3, (true, Blk.cells [PV.int IntKind.i64 x5, PV.int IntKind.i64 x6, PV.int IntKind.i64 x7])), (4, (true, Blk.cols (List.length x8)
 [Col.int IntKind.i64 fun j => (S.at' x8 j).1,
 Col.int IntKind.i64 fun j => (S.at' x8 j).2.1,
 Col.int IntKind.i64 fun j => (S.at' x8 j).2.2]))], [(0, (false, .cols mq [.str tq, .int .i64 vq, .int .i64 gq]))]], 5⟩
noncomputable def q17 (aq nq mq : Nat) (tq : Nat → ByteArray) (vq : Nat → Int) (gq : Nat → Int) (de : Int) : St17 → Option (St17 ⊕ Rt17)
  | .h0 x0 x1 x2 x3 x4 x5 => bif (decide (x2 < (↑nq : Int)))
 then (bif (decide (nq ≤ 100000))
 then (bif (decide (1 + List.length (S.failL nq) ≤ 1000000))
 then (bif (decide (0 + List.length (S.failL nq) ≤ List.length (S.failL nq)))
 then (some (.inl (.h1 (x0) (x1) (x2) (x2) ((0 : Int)) (x3) (x4) (x5) (S.mkl (1 + List.length (S.failL nq)) fun j =>
 (bif Nat.blt j (1) then (0 : Int) else (S.at' (S.failL nq) (j - 1)).1,
 bif Nat.blt j (1) then (0 : Int) else (S.at' (S.failL nq) (j - 1)).2.1,
 bif Nat.blt j (1) then (0 : Int) else (S.at' (S.failL nq) (j - 1)).2.2)))))
 else (none))
 else (none))
 else (none))
 else (some (.inr (x0, x1, x3, x4, x5, (0 : Int))))
  | .h1 x0 x1 x2 x3 x4 x5 x6 x7 x8 => bif (decide (x4 < (↑(1 + List.length (S.failL nq)) : Int)))
 then (bif (decide ((0 : Int) ≤ x4 ∧ x4 < (↑(List.length x8) : Int)))
 then (bif (decide (Int.toNat x4 < List.length x8))
 then (bif (decide
 (aq + nq ≤ mq ∧
 S.netE nq (fun j => tq (j + aq)) (fun j => vq (j + aq)) (fun j => gq (j + aq)) de =
 (0 : Int) ∧
 (0 : Int) ≤ x2 ∧ x2 < (↑nq : Int)))
 then (bif (decide
 (S.latI nq (fun j => vq (j + aq)) (fun j => gq (j + aq)) de x2
 ((S.at' x8 (Int.toNat x4)).1) ((S.at' x8 (Int.toNat x4)).2.1)
 ((S.at' x8 (Int.toNat x4)).2.2) >
 x0))
 then (bif (lim IntKind.i64 (x4 + (1 : Int)))
 then (some (.inl (.h1 (S.latI nq (fun j => vq (j + aq)) (fun j => gq (j + aq)) de x2
 ((S.at' x8 (Int.toNat x4)).1) ((S.at' x8 (Int.toNat x4)).2.1)
 ((S.at' x8 (Int.toNat x4)).2.2)) (x2) (x2) (x3) (x4 + (1 : Int)) ((S.at' x8 (Int.toNat x4)).1) ((S.at' x8 (Int.toNat x4)).2.1) ((S.at' x8 (Int.toNat x4)).2.2) (x8))))
 else (none))
 else (bif (lim IntKind.i64 (x4 + (1 : Int)))
 then (some (.inl (.h1 (x0) (x1) (x2) (x3) (x4 + (1 : Int)) (x5) (x6) (x7) (x8))))
 else (none)))
 else (none))
 else (none))
 else (none))
 else (bif (lim IntKind.i64 (x3 + (1 : Int)))
 then (some (.inl (.h0 (x0) (x1) (x3 + (1 : Int)) (x5) (x6) (x7))))
 else (none))
noncomputable def p17 (aq nq mq : Nat) (tq : Nat → ByteArray) (vq : Nat → Int) (gq : Nat → Int) (de : Int) : Option (St17 ⊕ Rt17) := bif (decide (aq + nq ≤ mq ∧ nq ≤ 1000000))
 then (bif (S.netE nq (fun j => tq (j + aq)) (fun j => vq (j + aq)) (fun j => gq (j + aq)) de !=
 (0 : Int))
 then (some (.inr ((0 : Int), (0 : Int), (0 : Int), (0 : Int), (0 : Int), S.netE nq (fun j => tq (j + aq)) (fun j => vq (j + aq)) (fun j => gq (j + aq)) de)))
 else (some (.inl (.h0 ((-1 : Int)) ((0 : Int)) ((0 : Int)) ((0 : Int)) ((0 : Int)) ((0 : Int))))))
 else (none)
noncomputable def Te17 (test : Bool → Prop → Prop → Prop) (Kst : KS) (Kret : KR) (aq nq mq : Nat) (tq : Nat → ByteArray) (vq : Nat → Int) (gq : Nat → Int) (de : Int) : Prop :=
  test (decide (aq + nq ≤ mq ∧ nq ≤ 1000000))
 (test (S.netE nq (fun j => tq (j + aq)) (fun j => vq (j + aq)) (fun j => gq (j + aq)) de !=
 (0 : Int))
 (Kret (PV.tup
 [PV.int IntKind.i64 (0 : Int), PV.int IntKind.i64 (0 : Int),
 PV.agg
 [PV.int IntKind.i64 (0 : Int), PV.int IntKind.i64 (0 : Int),
 PV.int IntKind.i64 (0 : Int)],
 PV.int IntKind.i64
 (S.netE nq (fun j => tq (j + aq)) (fun j => vq (j + aq)) (fun j => gq (j + aq)) de)]) ([[(0, false,
 Blk.cols mq [Col.str tq, Col.int IntKind.i64 vq, Col.int IntKind.i64 gq])]]) (4))
 (Kst (hd Try.f17 0) ([PV.ptr (PA.mk (1) (0) (0) (0)),
 PV.ptr (PA.mk (2) (0) (0) (0)), PV.int IntKind.i64 (-1 : Int),
 PV.int IntKind.i64 (0 : Int), PV.ptr (PA.mk (4) (0) (0) (0)),
 PV.unk, PV.int IntKind.i64 (↑nq : Int), PV.int IntKind.i64 (0 : Int), PV.unk,
 PV.unk, PV.unk]) ([[(0, false,
 Blk.cols mq [Col.str tq, Col.int IntKind.i64 vq, Col.int IntKind.i64 gq]),
 (4, true,
 Blk.cells
 [PV.int IntKind.i64 (0 : Int), PV.int IntKind.i64 (0 : Int),
 PV.int IntKind.i64 (0 : Int)]),
 (2, true,
 Blk.cells
 [PV.int IntKind.i64 (0 : Int), PV.int IntKind.i64 (0 : Int),
 PV.int IntKind.i64 (0 : Int)]),
 (1, true,
 Blk.cells
 [PV.loose (PA.mk (0) (3) aq (0)) nq, PV.int IntKind.i64 de])]]) (5)))
 (False)
theorem te17 (test : Bool → Prop → Prop → Prop) (Kst : KS) (Kret : KR) (aq nq mq : Nat) (tq : Nat → ByteArray) (vq : Nat → Int) (gq : Nat → Int) (de : Int) : run test Try.env true (xZ test) true 400 ⟨17, [.cd (mkFn Try.f17).body], argT 0 [.agg [.loose ⟨0, 3, aq, 0⟩ nq, .int .i64 de]], [[], [(0, (false, .cols mq [.str tq, .int .i64 vq, .int .i64 gq]))]], 1⟩ (proj 1 [1, 4, 7, 8, 9, 10, 23, 24, 31, 32, 33] Kst Kret) =
  Te17 test Kst Kret aq nq mq tq vq gq de := by kernel_rfl
noncomputable def T17_0 (test : Bool → Prop → Prop → Prop) (Kst : KS) (Kret : KR) (aq nq mq : Nat) (tq : Nat → ByteArray) (vq : Nat → Int) (gq : Nat → Int) (de : Int) (x0 : Int) (x1 : Int) (x2 : Int) (x3 : Int) (x4 : Int) (x5 : Int) : Prop :=
  test (decide (x2 < (↑nq : Int)))
 (test (decide (nq ≤ 100000))
 (test (decide (1 + List.length (S.failL nq) ≤ 1000000))
 (test (true)
 (test (decide (0 + List.length (S.failL nq) ≤ List.length (S.failL nq)))
 (Kst (hd Try.f17 1) ([PV.ptr (PA.mk (1) (0) (0) (0)),
 PV.ptr (PA.mk (2) (0) (0) (0)), PV.int IntKind.i64 x0,
 PV.int IntKind.i64 x1, PV.ptr (PA.mk (3) (0) (0) (0)),
 PV.int IntKind.i64 x2, PV.int IntKind.i64 (↑nq : Int), PV.int IntKind.i64 x2,
 PV.own (7) (3) (1 + List.length (S.failL nq)),
 PV.int IntKind.i64 (↑(1 + List.length (S.failL nq)) : Int),
 PV.int IntKind.i64 (0 : Int)]) ([[(0, false,
 Blk.cols mq [Col.str tq, Col.int IntKind.i64 vq, Col.int IntKind.i64 gq]),
 (7, true,
 Blk.cols (1 + List.length (S.failL nq))
 [Col.int IntKind.i64 fun j =>
 bif Nat.blt j (1) then (0 : Int) else (S.at' (S.failL nq) (j - 1)).1,
 Col.int IntKind.i64 fun j =>
 bif Nat.blt j (1) then (0 : Int)
 else (S.at' (S.failL nq) (j - 1)).2.1,
 Col.int IntKind.i64 fun j =>
 bif Nat.blt j (1) then (0 : Int)
 else (S.at' (S.failL nq) (j - 1)).2.2]),
 (3, true,
 Blk.cells [PV.int IntKind.i64 x3, PV.int IntKind.i64 x4, PV.int IntKind.i64 x5]),
 (2, true,
 Blk.cells
 [PV.int IntKind.i64 (0 : Int), PV.int IntKind.i64 (0 : Int),
 PV.int IntKind.i64 (0 : Int)]),
 (1, true,
 Blk.cells
 [PV.loose (PA.mk (0) (3) aq (0)) nq, PV.int IntKind.i64 de])]]) (8))
 (False))
 (False))
 (False))
 (False))
 (Kret (PV.tup
 [PV.int IntKind.i64 x0, PV.int IntKind.i64 x1,
 PV.agg [PV.int IntKind.i64 x3, PV.int IntKind.i64 x4, PV.int IntKind.i64 x5],
 PV.int IntKind.i64 (0 : Int)]) ([[(0, false,
 Blk.cols mq [Col.str tq, Col.int IntKind.i64 vq, Col.int IntKind.i64 gq])]]) (4))
theorem t17_0 (test : Bool → Prop → Prop → Prop) (Kst : KS) (Kret : KR) (aq nq mq : Nat) (tq : Nat → ByteArray) (vq : Nat → Int) (gq : Nat → Int) (de : Int) (x0 : Int) (x1 : Int) (x2 : Int) (x3 : Int) (x4 : Int) (x5 : Int) : run test Try.env true (xZ test) true 400 ⟨17, hd Try.f17 0, zipT [1, 4, 7, 8, 9, 10, 23, 24, 31, 32, 33] [PV.ptr (PA.mk (1) (0) (0) (0)),
 PV.ptr (PA.mk (2) (0) (0) (0)), PV.int IntKind.i64 x0,
 PV.int IntKind.i64 x1, PV.ptr (PA.mk (3) (0) (0) (0)),
 PV.unk, PV.int IntKind.i64 (↑nq : Int), PV.int IntKind.i64 x2, PV.unk, PV.unk,
 PV.unk], [[(1, (true, Blk.cells [PV.loose (PA.mk (0) (3) aq (0)) nq, PV.int IntKind.i64 de])), (2, (true, Blk.cells
 [PV.int IntKind.i64 (0 : Int), PV.int IntKind.i64 (0 : Int), PV.int IntKind.i64 (0 : Int)])), (3, (true, Blk.cells [PV.int IntKind.i64 x3, PV.int IntKind.i64 x4, PV.int IntKind.i64 x5]))], [(0, (false, .cols mq [.str tq, .int .i64 vq, .int .i64 gq]))]], 4⟩ (proj 1 [1, 4, 7, 8, 9, 10, 23, 24, 31, 32, 33] Kst Kret) =
  T17_0 test Kst Kret aq nq mq tq vq gq de x0 x1 x2 x3 x4 x5 := by kernel_rfl
noncomputable def T17_1 (test : Bool → Prop → Prop → Prop) (Kst : KS) (Kret : KR) (aq nq mq : Nat) (tq : Nat → ByteArray) (vq : Nat → Int) (gq : Nat → Int) (de : Int) (x0 : Int) (x1 : Int) (x2 : Int) (x3 : Int) (x4 : Int) (x5 : Int) (x6 : Int) (x7 : Int) (x8 : List (Int × Int × Int)) : Prop :=
  test (decide (x4 < (↑(1 + List.length (S.failL nq)) : Int)))
 (test (decide ((0 : Int) ≤ x4 ∧ x4 < (↑(List.length x8) : Int)))
 (test (decide (Int.toNat x4 < List.length x8))
 (test (decide (Int.toNat x4 < List.length x8))
 (test (decide (Int.toNat x4 < List.length x8))
 (test (decide
 (aq + nq ≤ mq ∧
 S.netE nq (fun j => tq (j + aq)) (fun j => vq (j + aq)) (fun j => gq (j + aq)) de =
 (0 : Int) ∧
 (0 : Int) ≤ x2 ∧ x2 < (↑nq : Int)))
 (test (decide
 (S.latI nq (fun j => vq (j + aq)) (fun j => gq (j + aq)) de x2
 ((S.at' x8 (Int.toNat x4)).1) ((S.at' x8 (Int.toNat x4)).2.1)
 ((S.at' x8 (Int.toNat x4)).2.2) >
 x0))
 (test (lim IntKind.i64 (x4 + (1 : Int)))
 (Kst (hd Try.f17 1) ([PV.ptr (PA.mk (1) (0) (0) (0)),
 PV.ptr (PA.mk (2) (0) (0) (0)),
 PV.int IntKind.i64
 (S.latI nq (fun j => vq (j + aq)) (fun j => gq (j + aq)) de x2
 ((S.at' x8 (Int.toNat x4)).1) ((S.at' x8 (Int.toNat x4)).2.1)
 ((S.at' x8 (Int.toNat x4)).2.2)),
 PV.int IntKind.i64 x2, PV.ptr (PA.mk (3) (0) (0) (0)),
 PV.int IntKind.i64 x2, PV.int IntKind.i64 (↑nq : Int), PV.int IntKind.i64 x3,
 PV.own (4) (3) (List.length x8),
 PV.int IntKind.i64 (↑(1 + List.length (S.failL nq)) : Int),
 PV.int IntKind.i64 (x4 + (1 : Int))]) ([[(0, false,
 Blk.cols mq [Col.str tq, Col.int IntKind.i64 vq, Col.int IntKind.i64 gq]),
 (4, true,
 Blk.cols (List.length x8)
 [Col.int IntKind.i64 fun j => (S.at' x8 j).1,
 Col.int IntKind.i64 fun j => (S.at' x8 j).2.1,
 Col.int IntKind.i64 fun j => (S.at' x8 j).2.2]),
 (3, true,
 Blk.cells
 [PV.int IntKind.i64 ((S.at' x8 (Int.toNat x4)).1),
 PV.int IntKind.i64 ((S.at' x8 (Int.toNat x4)).2.1),
 PV.int IntKind.i64 ((S.at' x8 (Int.toNat x4)).2.2)]),
 (2, true,
 Blk.cells
 [PV.int IntKind.i64 (0 : Int), PV.int IntKind.i64 (0 : Int),
 PV.int IntKind.i64 (0 : Int)]),
 (1, true,
 Blk.cells
 [PV.loose (PA.mk (0) (3) aq (0)) nq, PV.int IntKind.i64 de])]]) (7))
 (False))
 (test (lim IntKind.i64 (x4 + (1 : Int)))
 (Kst (hd Try.f17 1) ([PV.ptr (PA.mk (1) (0) (0) (0)),
 PV.ptr (PA.mk (2) (0) (0) (0)), PV.int IntKind.i64 x0,
 PV.int IntKind.i64 x1, PV.ptr (PA.mk (3) (0) (0) (0)),
 PV.int IntKind.i64 x2, PV.int IntKind.i64 (↑nq : Int), PV.int IntKind.i64 x3,
 PV.own (4) (3) (List.length x8),
 PV.int IntKind.i64 (↑(1 + List.length (S.failL nq)) : Int),
 PV.int IntKind.i64 (x4 + (1 : Int))]) ([[(0, false,
 Blk.cols mq [Col.str tq, Col.int IntKind.i64 vq, Col.int IntKind.i64 gq]),
 (4, true,
 Blk.cols (List.length x8)
 [Col.int IntKind.i64 fun j => (S.at' x8 j).1,
 Col.int IntKind.i64 fun j => (S.at' x8 j).2.1,
 Col.int IntKind.i64 fun j => (S.at' x8 j).2.2]),
 (3, true,
 Blk.cells [PV.int IntKind.i64 x5, PV.int IntKind.i64 x6, PV.int IntKind.i64 x7]),
 (2, true,
 Blk.cells
 [PV.int IntKind.i64 (0 : Int), PV.int IntKind.i64 (0 : Int),
 PV.int IntKind.i64 (0 : Int)]),
 (1, true,
 Blk.cells
 [PV.loose (PA.mk (0) (3) aq (0)) nq, PV.int IntKind.i64 de])]]) (7))
 (False)))
 (False))
 (False))
 (False))
 (False))
 (False))
 (test (lim IntKind.i64 (x3 + (1 : Int)))
 (Kst (hd Try.f17 0) ([PV.ptr (PA.mk (1) (0) (0) (0)),
 PV.ptr (PA.mk (2) (0) (0) (0)), PV.int IntKind.i64 x0,
 PV.int IntKind.i64 x1, PV.ptr (PA.mk (3) (0) (0) (0)),
 PV.int IntKind.i64 x2, PV.int IntKind.i64 (↑nq : Int), PV.int IntKind.i64 (x3 + (1 : Int)),
 PV.own (4) (3) (List.length x8),
 PV.int IntKind.i64 (↑(1 + List.length (S.failL nq)) : Int), PV.int IntKind.i64 x4]) ([[(0, false,
 Blk.cols mq [Col.str tq, Col.int IntKind.i64 vq, Col.int IntKind.i64 gq]),
 (4, true,
 Blk.cols (List.length x8)
 [Col.int IntKind.i64 fun j => (S.at' x8 j).1,
 Col.int IntKind.i64 fun j => (S.at' x8 j).2.1,
 Col.int IntKind.i64 fun j => (S.at' x8 j).2.2]),
 (3, true,
 Blk.cells [PV.int IntKind.i64 x5, PV.int IntKind.i64 x6, PV.int IntKind.i64 x7]),
 (2, true,
 Blk.cells
 [PV.int IntKind.i64 (0 : Int), PV.int IntKind.i64 (0 : Int),
 PV.int IntKind.i64 (0 : Int)]),
 (1, true,
 Blk.cells
 [PV.loose (PA.mk (0) (3) aq (0)) nq, PV.int IntKind.i64 de])]]) (5))
 (False))
theorem t17_1 (test : Bool → Prop → Prop → Prop) (Kst : KS) (Kret : KR) (aq nq mq : Nat) (tq : Nat → ByteArray) (vq : Nat → Int) (gq : Nat → Int) (de : Int) (x0 : Int) (x1 : Int) (x2 : Int) (x3 : Int) (x4 : Int) (x5 : Int) (x6 : Int) (x7 : Int) (x8 : List (Int × Int × Int)) : run test Try.env true (xZ test) true 400 ⟨17, hd Try.f17 1, zipT [1, 4, 7, 8, 9, 10, 23, 24, 31, 32, 33] [PV.ptr (PA.mk (1) (0) (0) (0)),
 PV.ptr (PA.mk (2) (0) (0) (0)), PV.int IntKind.i64 x0,
 PV.int IntKind.i64 x1, PV.ptr (PA.mk (3) (0) (0) (0)),
 PV.int IntKind.i64 x2, PV.int IntKind.i64 (↑nq : Int), PV.int IntKind.i64 x3,
 PV.own (4) (3) (List.length x8),
 PV.int IntKind.i64 (↑(1 + List.length (S.failL nq)) : Int), PV.int IntKind.i64 x4], [[(1, (true, Blk.cells [PV.loose (PA.mk (0) (3) aq (0)) nq, PV.int IntKind.i64 de])), (2, (true, Blk.cells
 [PV.int IntKind.i64 (0 : Int), PV.int IntKind.i64 (0 : Int), PV.int IntKind.i64 (0 : Int)])), (3, (true, Blk.cells [PV.int IntKind.i64 x5, PV.int IntKind.i64 x6, PV.int IntKind.i64 x7])), (4, (true, Blk.cols (List.length x8)
 [Col.int IntKind.i64 fun j => (S.at' x8 j).1,
 Col.int IntKind.i64 fun j => (S.at' x8 j).2.1,
 Col.int IntKind.i64 fun j => (S.at' x8 j).2.2]))], [(0, (false, .cols mq [.str tq, .int .i64 vq, .int .i64 gq]))]], 5⟩ (proj 1 [1, 4, 7, 8, 9, 10, 23, 24, 31, 32, 33] Kst Kret) =
  T17_1 test Kst Kret aq nq mq tq vq gq de x0 x1 x2 x3 x4 x5 x6 x7 x8 := by kernel_rfl
theorem be17 (aq nq mq : Nat) (tq : Nat → ByteArray) (vq : Nat → Int) (gq : Nat → Int) (de : Int) (Kst : KS) (Kret : KR) (x : St17 ⊕ Rt17) (hS : HS 1 400 ((I17 aq nq mq tq vq gq de)) Kst x) (hR : HR 1 400 ((V17 aq nq mq tq vq gq de)) (fun r => [newL (1 + 1) ((N17 aq nq mq tq vq gq de) r) ++ [(0, (false, .cols mq [.str tq, .int .i64 vq, .int .i64 gq]))]]) Kret x) (h : (bif (decide (aq + nq ≤ mq ∧ nq ≤ 1000000))
 then (bif (S.netE nq (fun j => tq (j + aq)) (fun j => vq (j + aq)) (fun j => gq (j + aq)) de !=
 (0 : Int))
 then (some (.inr ((0 : Int), (0 : Int), (0 : Int), (0 : Int), (0 : Int), S.netE nq (fun j => tq (j + aq)) (fun j => vq (j + aq)) (fun j => gq (j + aq)) de)))
 else (some (.inl (.h0 ((-1 : Int)) ((0 : Int)) ((0 : Int)) ((0 : Int)) ((0 : Int)) ((0 : Int))))))
 else (none) : Option (St17 ⊕ Rt17)) = some x) : Te17 cond Kst Kret aq nq mq tq vq gq de := by
  unfold Te17
  exact bif_split h
   (fun c0 h => bif_split h
   (fun c1 h => ret_at hR _ h (fun n => n) rfl rfl rfl (rn_tup ⟨(rn_int rfl), (rn_int rfl), (rn_agg ⟨(rn_int rfl), (rn_int rfl), (rn_int rfl), trivial⟩), (rn_int rfl), trivial⟩) rfl (entl_bor (use_lo rfl) rfl rfl entl_nil))
   (fun c1 h => stop_at hS _ h (fun n => bif Nat.beq n 1 then 1 else bif Nat.beq n 2 then 2 else bif Nat.beq n 3 then 4 else n) rfl rfl rfl ⟨(rn_ptr (use_own rfl) rfl rfl), ⟨(rn_ptr (use_own rfl) rfl rfl), ⟨(rn_int rfl), ⟨(rn_int rfl), ⟨(rn_ptr (use_own rfl) rfl rfl), ⟨(rn_unk _), ⟨(rn_int rfl), ⟨(rn_int rfl), ⟨(rn_unk _), ⟨(rn_unk _), ⟨(rn_unk _), trivial⟩⟩⟩⟩⟩⟩⟩⟩⟩⟩⟩ rfl (entl_b (use_own rfl) rfl (by simp) (rb_cells ⟨(rn_loose (use_lo rfl) rfl rfl rfl), (rn_int rfl), trivial⟩) (entl_b (use_own rfl) rfl (by simp) (rb_cells ⟨(rn_int rfl), (rn_int rfl), (rn_int rfl), trivial⟩) (entl_b (use_own rfl) rfl (by simp) (rb_cells ⟨(rn_int rfl), (rn_int rfl), (rn_int rfl), trivial⟩) (entl_bor (use_lo rfl) rfl rfl entl_nil))))))
   (fun c0 h => no_some h)
theorem b17_0 (aq nq mq : Nat) (tq : Nat → ByteArray) (vq : Nat → Int) (gq : Nat → Int) (de : Int) (Kst : KS) (Kret : KR) (x : St17 ⊕ Rt17) (hS : HS 1 400 ((I17 aq nq mq tq vq gq de)) Kst x) (hR : HR 1 400 ((V17 aq nq mq tq vq gq de)) (fun r => [newL (1 + 1) ((N17 aq nq mq tq vq gq de) r) ++ [(0, (false, .cols mq [.str tq, .int .i64 vq, .int .i64 gq]))]]) Kret x) (x0 : Int) (x1 : Int) (x2 : Int) (x3 : Int) (x4 : Int) (x5 : Int) (h : (bif (decide (x2 < (↑nq : Int)))
 then (bif (decide (nq ≤ 100000))
 then (bif (decide (1 + List.length (S.failL nq) ≤ 1000000))
 then (bif (decide (0 + List.length (S.failL nq) ≤ List.length (S.failL nq)))
 then (some (.inl (.h1 (x0) (x1) (x2) (x2) ((0 : Int)) (x3) (x4) (x5) (S.mkl (1 + List.length (S.failL nq)) fun j =>
 (bif Nat.blt j (1) then (0 : Int) else (S.at' (S.failL nq) (j - 1)).1,
 bif Nat.blt j (1) then (0 : Int) else (S.at' (S.failL nq) (j - 1)).2.1,
 bif Nat.blt j (1) then (0 : Int) else (S.at' (S.failL nq) (j - 1)).2.2)))))
 else (none))
 else (none))
 else (none))
 else (some (.inr (x0, x1, x3, x4, x5, (0 : Int)))) : Option (St17 ⊕ Rt17)) = some x) : T17_0 cond Kst Kret aq nq mq tq vq gq de x0 x1 x2 x3 x4 x5 := by
  unfold T17_0
  exact bif_split h
   (fun c0 h => bif_split h
   (fun c1 h => bif_split h
   (fun c2 h => cond_yes rfl (bif_split h
   (fun c3 h => stop_at hS _ h (fun n => bif Nat.beq n 1 then 1 else bif Nat.beq n 2 then 2 else bif Nat.beq n 3 then 3 else bif Nat.beq n 4 then 7 else n) rfl rfl rfl ⟨(rn_ptr (use_own rfl) rfl rfl), ⟨(rn_ptr (use_own rfl) rfl rfl), ⟨(rn_int rfl), ⟨(rn_int rfl), ⟨(rn_ptr (use_own rfl) rfl rfl), ⟨(rn_int rfl), ⟨(rn_int rfl), ⟨(rn_int rfl), ⟨(rn_own (use_own rfl) rfl mkl_len), ⟨(rn_int rfl), ⟨(rn_int rfl), trivial⟩⟩⟩⟩⟩⟩⟩⟩⟩⟩⟩ rfl (entl_b (use_own rfl) rfl (by simp) (rb_cells ⟨(rn_loose (use_lo rfl) rfl rfl rfl), (rn_int rfl), trivial⟩) (entl_b (use_own rfl) rfl (by simp) (rb_cells ⟨(rn_int rfl), (rn_int rfl), (rn_int rfl), trivial⟩) (entl_b (use_own rfl) rfl (by simp) (rb_cells ⟨(rn_int rfl), (rn_int rfl), (rn_int rfl), trivial⟩) (entl_new (use_own rfl) rfl (Nat.le_of_eq mkl_len) (rcs_int (fun _ hj => col_mkl (fun (t : Int × Int × Int) => t.1) hj) (rcs_int (fun _ hj => col_mkl (fun (t : Int × Int × Int) => t.2.1) hj) (rcs_int (fun _ hj => col_mkl (fun (t : Int × Int × Int) => t.2.2) hj) rcs_nil))) (entl_bor (use_lo rfl) rfl rfl entl_nil))))))
   (fun c3 h => no_some h)))
   (fun c2 h => no_some h))
   (fun c1 h => no_some h))
   (fun c0 h => ret_at hR _ h (fun n => n) rfl rfl rfl (rn_tup ⟨(rn_int rfl), (rn_int rfl), (rn_agg ⟨(rn_int rfl), (rn_int rfl), (rn_int rfl), trivial⟩), (rn_int rfl), trivial⟩) rfl (entl_bor (use_lo rfl) rfl rfl entl_nil))
theorem b17_1 (aq nq mq : Nat) (tq : Nat → ByteArray) (vq : Nat → Int) (gq : Nat → Int) (de : Int) (Kst : KS) (Kret : KR) (x : St17 ⊕ Rt17) (hS : HS 1 400 ((I17 aq nq mq tq vq gq de)) Kst x) (hR : HR 1 400 ((V17 aq nq mq tq vq gq de)) (fun r => [newL (1 + 1) ((N17 aq nq mq tq vq gq de) r) ++ [(0, (false, .cols mq [.str tq, .int .i64 vq, .int .i64 gq]))]]) Kret x) (x0 : Int) (x1 : Int) (x2 : Int) (x3 : Int) (x4 : Int) (x5 : Int) (x6 : Int) (x7 : Int) (x8 : List (Int × Int × Int)) (h : (bif (decide (x4 < (↑(1 + List.length (S.failL nq)) : Int)))
 then (bif (decide ((0 : Int) ≤ x4 ∧ x4 < (↑(List.length x8) : Int)))
 then (bif (decide (Int.toNat x4 < List.length x8))
 then (bif (decide
 (aq + nq ≤ mq ∧
 S.netE nq (fun j => tq (j + aq)) (fun j => vq (j + aq)) (fun j => gq (j + aq)) de =
 (0 : Int) ∧
 (0 : Int) ≤ x2 ∧ x2 < (↑nq : Int)))
 then (bif (decide
 (S.latI nq (fun j => vq (j + aq)) (fun j => gq (j + aq)) de x2
 ((S.at' x8 (Int.toNat x4)).1) ((S.at' x8 (Int.toNat x4)).2.1)
 ((S.at' x8 (Int.toNat x4)).2.2) >
 x0))
 then (bif (lim IntKind.i64 (x4 + (1 : Int)))
 then (some (.inl (.h1 (S.latI nq (fun j => vq (j + aq)) (fun j => gq (j + aq)) de x2
 ((S.at' x8 (Int.toNat x4)).1) ((S.at' x8 (Int.toNat x4)).2.1)
 ((S.at' x8 (Int.toNat x4)).2.2)) (x2) (x2) (x3) (x4 + (1 : Int)) ((S.at' x8 (Int.toNat x4)).1) ((S.at' x8 (Int.toNat x4)).2.1) ((S.at' x8 (Int.toNat x4)).2.2) (x8))))
 else (none))
 else (bif (lim IntKind.i64 (x4 + (1 : Int)))
 then (some (.inl (.h1 (x0) (x1) (x2) (x3) (x4 + (1 : Int)) (x5) (x6) (x7) (x8))))
 else (none)))
 else (none))
 else (none))
 else (none))
 else (bif (lim IntKind.i64 (x3 + (1 : Int)))
 then (some (.inl (.h0 (x0) (x1) (x3 + (1 : Int)) (x5) (x6) (x7))))
 else (none)) : Option (St17 ⊕ Rt17)) = some x) : T17_1 cond Kst Kret aq nq mq tq vq gq de x0 x1 x2 x3 x4 x5 x6 x7 x8 := by
  unfold T17_1
  exact bif_split h
   (fun c0 h => bif_split h
   (fun c1 h => bif_split h
   (fun c2 h => cond_yes c2 (cond_yes c2 (bif_split h
   (fun c3 h => bif_split h
   (fun c4 h => bif_split h
   (fun c5 h => stop_at hS _ h (fun n => bif Nat.beq n 1 then 1 else bif Nat.beq n 2 then 2 else bif Nat.beq n 3 then 3 else bif Nat.beq n 4 then 4 else n) rfl rfl rfl ⟨(rn_ptr (use_own rfl) rfl rfl), ⟨(rn_ptr (use_own rfl) rfl rfl), ⟨(rn_int rfl), ⟨(rn_int rfl), ⟨(rn_ptr (use_own rfl) rfl rfl), ⟨(rn_int rfl), ⟨(rn_int rfl), ⟨(rn_int rfl), ⟨(rn_own (use_own rfl) rfl rfl), ⟨(rn_int rfl), ⟨(rn_int rfl), trivial⟩⟩⟩⟩⟩⟩⟩⟩⟩⟩⟩ rfl (entl_b (use_own rfl) rfl (by simp) (rb_cells ⟨(rn_loose (use_lo rfl) rfl rfl rfl), (rn_int rfl), trivial⟩) (entl_b (use_own rfl) rfl (by simp) (rb_cells ⟨(rn_int rfl), (rn_int rfl), (rn_int rfl), trivial⟩) (entl_b (use_own rfl) rfl (by simp) (rb_cells ⟨(rn_int rfl), (rn_int rfl), (rn_int rfl), trivial⟩) (entl_new (use_own rfl) rfl (Nat.le_of_eq rfl) (rcs_int (fun _ _ => rfl) (rcs_int (fun _ _ => rfl) (rcs_int (fun _ _ => rfl) rcs_nil))) (entl_bor (use_lo rfl) rfl rfl entl_nil))))))
   (fun c5 h => no_some h))
   (fun c4 h => bif_split h
   (fun c5 h => stop_at hS _ h (fun n => bif Nat.beq n 1 then 1 else bif Nat.beq n 2 then 2 else bif Nat.beq n 3 then 3 else bif Nat.beq n 4 then 4 else n) rfl rfl rfl ⟨(rn_ptr (use_own rfl) rfl rfl), ⟨(rn_ptr (use_own rfl) rfl rfl), ⟨(rn_int rfl), ⟨(rn_int rfl), ⟨(rn_ptr (use_own rfl) rfl rfl), ⟨(rn_int rfl), ⟨(rn_int rfl), ⟨(rn_int rfl), ⟨(rn_own (use_own rfl) rfl rfl), ⟨(rn_int rfl), ⟨(rn_int rfl), trivial⟩⟩⟩⟩⟩⟩⟩⟩⟩⟩⟩ rfl (entl_b (use_own rfl) rfl (by simp) (rb_cells ⟨(rn_loose (use_lo rfl) rfl rfl rfl), (rn_int rfl), trivial⟩) (entl_b (use_own rfl) rfl (by simp) (rb_cells ⟨(rn_int rfl), (rn_int rfl), (rn_int rfl), trivial⟩) (entl_b (use_own rfl) rfl (by simp) (rb_cells ⟨(rn_int rfl), (rn_int rfl), (rn_int rfl), trivial⟩) (entl_new (use_own rfl) rfl (Nat.le_of_eq rfl) (rcs_int (fun _ _ => rfl) (rcs_int (fun _ _ => rfl) (rcs_int (fun _ _ => rfl) rcs_nil))) (entl_bor (use_lo rfl) rfl rfl entl_nil))))))
   (fun c5 h => no_some h)))
   (fun c3 h => no_some h))))
   (fun c2 h => no_some h))
   (fun c1 h => no_some h))
   (fun c0 h => bif_split h
   (fun c1 h => stop_at hS _ h (fun n => bif Nat.beq n 1 then 1 else bif Nat.beq n 2 then 2 else bif Nat.beq n 3 then 3 else n) rfl rfl rfl ⟨(rn_ptr (use_own rfl) rfl rfl), ⟨(rn_ptr (use_own rfl) rfl rfl), ⟨(rn_int rfl), ⟨(rn_int rfl), ⟨(rn_ptr (use_own rfl) rfl rfl), ⟨(rn_unk _), ⟨(rn_int rfl), ⟨(rn_int rfl), ⟨(rn_unk _), ⟨(rn_unk _), ⟨(rn_unk _), trivial⟩⟩⟩⟩⟩⟩⟩⟩⟩⟩⟩ rfl (entl_b (use_own rfl) rfl (by simp) (rb_cells ⟨(rn_loose (use_lo rfl) rfl rfl rfl), (rn_int rfl), trivial⟩) (entl_b (use_own rfl) rfl (by simp) (rb_cells ⟨(rn_int rfl), (rn_int rfl), (rn_int rfl), trivial⟩) (entl_b (use_own rfl) rfl (by simp) (rb_cells ⟨(rn_int rfl), (rn_int rfl), (rn_int rfl), trivial⟩) (entl_bor (use_lo rfl) rfl rfl entl_nil)))))
   (fun c1 h => no_some h))
theorem a17 (aq nq mq : Nat) (tq : Nat → ByteArray) (vq : Nat → Int) (gq : Nat → Int) (de : Int) {r : Rt17} (h : Goes ((q17 aq nq mq tq vq gq de)) ((p17 aq nq mq tq vq gq de)) r) : CallR Try.prog 17 [.agg [.loose ⟨0, 3, aq, 0⟩ nq, .int .i64 de]] [[(0, (false, .cols mq [.str tq, .int .i64 vq, .int .i64 gq]))]] 1 ((V17 aq nq mq tq vq gq de) r) ((fun r => [newL (1 + 1) ((N17 aq nq mq tq vq gq de) r) ++ [(0, (false, .cols mq [.str tq, .int .i64 vq, .int .i64 gq]))]]) r) 400 ∧ ∃ F, Try.prog.funcs[17]? = some F ∧ F.body.isSome = true ∧ (F.name == "runtime.NumGoroutine") = false := by
  refine dec_calls (f := 17) (lo := 1) (hi := 400) (H := [[(0, (false, .cols mq [.str tq, .int .i64 vq, .int .i64 gq]))]]) (args := [.agg [.loose ⟨0, 3, aq, 0⟩ nq, .int .i64 de]]) Try.envOk Try.mixed xZ_ok ((I17 aq nq mq tq vq gq de)) ((V17 aq nq mq tq vq gq de)) (fun r => [newL (1 + 1) ((N17 aq nq mq tq vq gq de) r) ++ [(0, (false, .cols mq [.str tq, .int .i64 vq, .int .i64 gq]))]]) (fn := mkFn Try.f17) (ts := [1, 4, 7, 8, 9, 10, 23, 24, 31, 32, 33]) (n := 400) rfl (by decide) (by simp) (names_of rfl) ?_ ?_ ?_ h
  · intro s; cases s <;> exact ⟨hd_ok _ _, by simp [I17], names_of rfl, Nat.le_of_ble_eq_true rfl⟩
  · intro Kst Kret x hS hR h
    exact Holds.eq (te17 cond Kst Kret aq nq mq tq vq gq de) (be17 aq nq mq tq vq gq de Kst Kret x hS hR h)
  · intro Kst Kret x hS hR s h
    cases s with
    | h0 x0 x1 x2 x3 x4 x5 => exact Holds.eq (t17_0 cond Kst Kret aq nq mq tq vq gq de x0 x1 x2 x3 x4 x5) (b17_0 aq nq mq tq vq gq de Kst Kret x hS hR x0 x1 x2 x3 x4 x5 h)
    | h1 x0 x1 x2 x3 x4 x5 x6 x7 x8 => exact Holds.eq (t17_1 cond Kst Kret aq nq mq tq vq gq de x0 x1 x2 x3 x4 x5 x6 x7 x8) (b17_1 aq nq mq tq vq gq de Kst Kret x hS hR x0 x1 x2 x3 x4 x5 x6 x7 x8 h)
noncomputable def k17 : Con := ⟨17, [.agg [.list [.str, .int .i64, .int .i64], .plain (.int .i64)]], fun (x : ((Nat × Nat × Nat × (Nat → ByteArray) × (Nat → Int) × (Nat → Int) × Unit) × Int × Unit) × Unit) => (fun (aq nq mq : Nat) (tq : Nat → ByteArray) (vq : Nat → Int) (gq : Nat → Int) (de : Int) => decide (aq + nq ≤ mq ∧ nq ≤ 1000000)) x.1.1.1 x.1.1.2.1 x.1.1.2.2.1 x.1.1.2.2.2.1 x.1.1.2.2.2.2.1 x.1.1.2.2.2.2.2.1 x.1.2.1, fun (x : ((Nat × Nat × Nat × (Nat → ByteArray) × (Nat → Int) × (Nat → Int) × Unit) × Int × Unit) × Unit) => (fun (aq nq mq : Nat) (tq : Nat → ByteArray) (vq : Nat → Int) (gq : Nat → Int) (de : Int) => (V17 aq nq mq tq vq gq de) (S.worE nq (S.netE nq (fun j => tq (j + aq)) (fun j => vq (j + aq)) (fun j => gq (j + aq)) de) (fun j => vq (j + aq)) (fun j => gq (j + aq)) de)) x.1.1.1 x.1.1.2.1 x.1.1.2.2.1 x.1.1.2.2.2.1 x.1.1.2.2.2.2.1 x.1.1.2.2.2.2.2.1 x.1.2.1, fun (x : ((Nat × Nat × Nat × (Nat → ByteArray) × (Nat → Int) × (Nat → Int) × Unit) × Int × Unit) × Unit) => (fun (aq nq mq : Nat) (tq : Nat → ByteArray) (vq : Nat → Int) (gq : Nat → Int) (de : Int) => (N17 aq nq mq tq vq gq de) (S.worE nq (S.netE nq (fun j => tq (j + aq)) (fun j => vq (j + aq)) (fun j => gq (j + aq)) de) (fun j => vq (j + aq)) (fun j => gq (j + aq)) de)) x.1.1.1 x.1.1.2.1 x.1.1.2.2.1 x.1.1.2.2.2.1 x.1.1.2.2.2.2.1 x.1.1.2.2.2.2.2.1 x.1.2.1, fun _ _ => .dead⟩
theorem s17i (aq nq mq : Nat) (tq : Nat → ByteArray) (vq : Nat → Int) (gq : Nat → Int) (de : Int) (hp : aq + nq ≤ mq ∧ nq ≤ 1000000) (hv : (S.netE nq (fun j => tq (j + aq)) (fun j => vq (j + aq)) (fun j => gq (j + aq)) de) = 0) (i : Nat) (hi : i < nq) (R : Rt17) (L : List (Int × Int × Int)) (hL : Holds (L = S.allF nq)) : ∀ (c j : Nat) (a : S.A5), j + c = L.length → Comes (q17 aq nq mq tq vq gq de) (match S.fold (S.worT (S.latI nq (fun j => vq (j + aq)) (fun j => gq (j + aq)) de) L i) j c a with | (be, at', k, l, p) => .h0 be at' ((i + 1 : Nat) : Int) k l p) R → Comes (q17 aq nq mq tq vq gq de) (match a with | (be, at', k, l, p) => .h1 be at' (i : Int) (i : Int) (j : Int) k l p L) R := by
  obtain ⟨hp1, hp2⟩ := hp
  obtain ⟨v1, v2, v3⟩ := net_ok hv
  have hl : L.length = 5 * nq + 3 := by rw [hL.get]; show (S.failL nq).length + 1 = _; rw [fail_len]
  have hf := fail_len (n := nq)
  intro c
  induction c with
  | zero =>
    rintro j ⟨be, ba, k, l, p⟩ hj hm
    have hm : Comes (q17 aq nq mq tq vq gq de) (.h0 be ba (((i + 1 : Nat)) : Int) k l p) R := hm
    rw [Int.natCast_add, Int.natCast_one] at hm
    apply Comes.of
    show Goes _ _ _
    (first | rw [q17] | unfold q17)
    repeat' first
      | with_reducible refine goes_if (fun h => ?_) (fun h => ?_) <;> (try simp only [lim64, imp_false, decide_eq_true_eq, decide_eq_false_iff_not, Int.toNat_natCast, toNat_pred, toNat_succ, Option.getD_some, Option.getD_none, Bool.not_eq_true', Bool.not_eq_false', Bool.and_eq_true, Bool.or_eq_true, Bool.and_eq_false_iff, Bool.or_eq_false_iff, bne_iff_ne, beq_iff_eq, bne_eq_false_iff_eq, beq_eq_false_iff_ne, ne_eq, not_and, Int.not_le, Int.not_lt, ge_iff_le, gt_iff_lt, Nat.not_lt, Nat.not_le, Bool.not_eq_true, Bool.not_eq_false, Bool.true_eq_false, Bool.false_eq_true, not_false_eq_true, not_true_eq_false] at h)
      | exact goes_none.mpr (by omega)
    all_goals first | (exfalso; omega) | exact hm
  | succ c ih =>
    rintro j ⟨be, ba, k, l, p⟩ hj hm
    have hm : Comes (q17 aq nq mq tq vq gq de) _ R := hm
    have ih := ih (j + 1) (S.worT (S.latI nq (fun j => vq (j + aq)) (fun j => gq (j + aq)) de) L i (be, ba, k, l, p) j) (by omega) hm
    clear hm
    unfold S.worT at ih
    dsimp only at ih
    obtain ⟨xk, xl, xp, hx⟩ : ∃ xk xl xp, S.at' L j = (xk, xl, xp) := ⟨_, _, _, rfl⟩
    rw [hx] at ih
    dsimp only at ih
    by_cases hlt : be < S.latI nq (fun j => vq (j + aq)) (fun j => gq (j + aq)) de (i : Int) xk xl xp
    · rw [if_pos hlt] at ih
      have ih : Comes (q17 aq nq mq tq vq gq de) (.h1 (S.latI nq (fun j => vq (j + aq)) (fun j => gq (j + aq)) de (i : Int) xk xl xp) (i : Int) (i : Int) (i : Int) (((j + 1 : Nat)) : Int) xk xl xp L) R := ih
      apply Comes.of
      show Goes _ _ _
      rw [q17]
      simp only [Int.toNat_natCast, hv, eq_self, true_and]
      simp only [hx]
      generalize S.latI nq (fun j => vq (j + aq)) (fun j => gq (j + aq)) de (i : Int) xk xl xp = la at *
      show Goes _ _ _
      repeat' first
        | with_reducible refine goes_if (fun h => ?_) (fun h => ?_) <;> (try simp only [lim64, imp_false, decide_eq_true_eq, decide_eq_false_iff_not, Int.toNat_natCast, toNat_pred, toNat_succ, Option.getD_some, Option.getD_none, Bool.not_eq_true', Bool.not_eq_false', Bool.and_eq_true, Bool.or_eq_true, Bool.and_eq_false_iff, Bool.or_eq_false_iff, bne_iff_ne, beq_iff_eq, bne_eq_false_iff_eq, beq_eq_false_iff_ne, ne_eq, not_and, Int.not_le, Int.not_lt, ge_iff_le, gt_iff_lt, Nat.not_lt, Nat.not_le, Bool.not_eq_true, Bool.not_eq_false, Bool.true_eq_false, Bool.false_eq_true, not_false_eq_true, not_true_eq_false] at h)
        | exact goes_none.mpr (by omega)
      all_goals first | (exfalso; omega) | exact ih
    · rw [if_neg hlt] at ih
      have ih : Comes (q17 aq nq mq tq vq gq de) (.h1 be ba (i : Int) (i : Int) (((j + 1 : Nat)) : Int) k l p L) R := ih
      apply Comes.of
      show Goes _ _ _
      rw [q17]
      simp only [Int.toNat_natCast, hv, eq_self, true_and]
      simp only [hx]
      generalize S.latI nq (fun j => vq (j + aq)) (fun j => gq (j + aq)) de (i : Int) xk xl xp = la at *
      show Goes _ _ _
      repeat' first
        | with_reducible refine goes_if (fun h => ?_) (fun h => ?_) <;> (try simp only [lim64, imp_false, decide_eq_true_eq, decide_eq_false_iff_not, Int.toNat_natCast, toNat_pred, toNat_succ, Option.getD_some, Option.getD_none, Bool.not_eq_true', Bool.not_eq_false', Bool.and_eq_true, Bool.or_eq_true, Bool.and_eq_false_iff, Bool.or_eq_false_iff, bne_iff_ne, beq_iff_eq, bne_eq_false_iff_eq, beq_eq_false_iff_ne, ne_eq, not_and, Int.not_le, Int.not_lt, ge_iff_le, gt_iff_lt, Nat.not_lt, Nat.not_le, Bool.not_eq_true, Bool.not_eq_false, Bool.true_eq_false, Bool.false_eq_true, not_false_eq_true, not_true_eq_false] at h)
        | exact goes_none.mpr (by omega)
      all_goals first | (exfalso; omega) | exact ih
theorem s17' (aq nq mq : Nat) (tq : Nat → ByteArray) (vq : Nat → Int) (gq : Nat → Int) (de : Int) (hp : aq + nq ≤ mq ∧ nq ≤ 1000000) (hv : (S.netE nq (fun j => tq (j + aq)) (fun j => vq (j + aq)) (fun j => gq (j + aq)) de) = 0) : ∀ (c i : Nat) (a : S.A5), i + c = nq → Comes (q17 aq nq mq tq vq gq de) (match a with | (be, at', k, l, p) => .h0 be at' (i : Int) k l p) (match S.fold (fun a st => S.fold (S.worT (S.latI nq (fun j => vq (j + aq)) (fun j => gq (j + aq)) de) (S.allF nq) st) 0 (S.allF nq).length a) i c a with | (be, at', k, l, p) => (be, at', k, l, p, 0)) := by
  have hf := fail_len (n := nq)
  intro c
  induction c with
  | zero =>
    rintro i ⟨be, ba, k, l, p⟩ hi
    show Comes (q17 aq nq mq tq vq gq de) (.h0 be ba (i : Int) k l p) (be, ba, k, l, p, 0)
    apply Comes.of
    show Goes _ _ _
    (first | rw [q17] | unfold q17)
    repeat' first
      | with_reducible refine goes_if (fun h => ?_) (fun h => ?_) <;> (try simp only [lim64, imp_false, decide_eq_true_eq, decide_eq_false_iff_not, Int.toNat_natCast, toNat_pred, toNat_succ, Option.getD_some, Option.getD_none, Bool.not_eq_true', Bool.not_eq_false', Bool.and_eq_true, Bool.or_eq_true, Bool.and_eq_false_iff, Bool.or_eq_false_iff, bne_iff_ne, beq_iff_eq, bne_eq_false_iff_eq, beq_eq_false_iff_ne, ne_eq, not_and, Int.not_le, Int.not_lt, ge_iff_le, gt_iff_lt, Nat.not_lt, Nat.not_le, Bool.not_eq_true, Bool.not_eq_false, Bool.true_eq_false, Bool.false_eq_true, not_false_eq_true, not_true_eq_false] at h)
      | exact goes_none.mpr (by omega)
    all_goals first | (exfalso; omega) | exact goes_inr.mpr rfl
  | succ c ih =>
    rintro i ⟨be, ba, k, l, p⟩ hi
    have hm := s17i aq nq mq tq vq gq de hp hv i (by omega) _ (S.allF nq) ⟨rfl⟩ (S.allF nq).length 0 (be, ba, k, l, p) (Nat.zero_add _) (ih (i + 1) _ (by omega))
    obtain ⟨v1, v2, v3⟩ := net_ok hv
    obtain ⟨hp1, hp2⟩ := hp
    have hm : Comes (q17 aq nq mq tq vq gq de) (.h1 be ba (i : Int) (i : Int) 0 k l p (S.allF nq)) _ := hm
    show Comes (q17 aq nq mq tq vq gq de) (.h0 be ba (i : Int) k l p) _
    apply Comes.of
    show Goes _ _ _
    (first | rw [q17] | unfold q17)
    try simp only [all_mkl]
    try show Goes _ _ _
    repeat' first
      | with_reducible refine goes_if (fun h => ?_) (fun h => ?_) <;> (try simp only [lim64, imp_false, decide_eq_true_eq, decide_eq_false_iff_not, Int.toNat_natCast, toNat_pred, toNat_succ, Option.getD_some, Option.getD_none, Bool.not_eq_true', Bool.not_eq_false', Bool.and_eq_true, Bool.or_eq_true, Bool.and_eq_false_iff, Bool.or_eq_false_iff, bne_iff_ne, beq_iff_eq, bne_eq_false_iff_eq, beq_eq_false_iff_ne, ne_eq, not_and, Int.not_le, Int.not_lt, ge_iff_le, gt_iff_lt, Nat.not_lt, Nat.not_le, Bool.not_eq_true, Bool.not_eq_false, Bool.true_eq_false, Bool.false_eq_true, not_false_eq_true, not_true_eq_false] at h)
      | exact goes_none.mpr (by omega)
    all_goals first | (exfalso; omega) | exact hm
theorem s17 (aq nq mq : Nat) (tq : Nat → ByteArray) (vq : Nat → Int) (gq : Nat → Int) (de : Int) (hp : aq + nq ≤ mq ∧ nq ≤ 1000000) : Goes ((q17 aq nq mq tq vq gq de)) ((p17 aq nq mq tq vq gq de)) (S.worE nq (S.netE nq (fun j => tq (j + aq)) (fun j => vq (j + aq)) (fun j => gq (j + aq)) de) (fun j => vq (j + aq)) (fun j => gq (j + aq)) de) := by
  unfold S.worE
  by_cases h0 : (S.netE nq (fun j => tq (j + aq)) (fun j => vq (j + aq)) (fun j => gq (j + aq)) de) = 0
  · have hm := s17' aq nq mq tq vq gq de hp h0 nq 0 (-1, 0, 0, 0, 0) (Nat.zero_add _)
    have hm : Comes (q17 aq nq mq tq vq gq de) (.h0 (-1) 0 0 0 0 0) _ := hm
    obtain ⟨hp1, hp2⟩ := hp
    rw [if_pos h0]
    unfold p17
    simp only [h0]
    show Goes _ _ _
    repeat' first
      | with_reducible refine goes_if (fun h => ?_) (fun h => ?_) <;> (try simp only [lim64, imp_false, decide_eq_true_eq, decide_eq_false_iff_not, Int.toNat_natCast, toNat_pred, toNat_succ, Option.getD_some, Option.getD_none, Bool.not_eq_true', Bool.not_eq_false', Bool.and_eq_true, Bool.or_eq_true, Bool.and_eq_false_iff, Bool.or_eq_false_iff, bne_iff_ne, beq_iff_eq, bne_eq_false_iff_eq, beq_eq_false_iff_ne, ne_eq, not_and, Int.not_le, Int.not_lt, ge_iff_le, gt_iff_lt, Nat.not_lt, Nat.not_le, Bool.not_eq_true, Bool.not_eq_false, Bool.true_eq_false, Bool.false_eq_true, not_false_eq_true, not_true_eq_false] at h)
      | exact goes_none.mpr (by omega)
    all_goals first | (exfalso; omega) | exact hm | (exfalso; simp_all; done)
  · obtain ⟨hp1, hp2⟩ := hp
    rw [if_neg h0]
    show Goes _ _ _
    unfold p17
    repeat' first
      | with_reducible refine goes_if (fun h => ?_) (fun h => ?_) <;> (try simp only [lim64, imp_false, decide_eq_true_eq, decide_eq_false_iff_not, Int.toNat_natCast, toNat_pred, toNat_succ, Option.getD_some, Option.getD_none, Bool.not_eq_true', Bool.not_eq_false', Bool.and_eq_true, Bool.or_eq_true, Bool.and_eq_false_iff, Bool.or_eq_false_iff, bne_iff_ne, beq_iff_eq, bne_eq_false_iff_eq, beq_eq_false_iff_ne, ne_eq, not_and, Int.not_le, Int.not_lt, ge_iff_le, gt_iff_lt, Nat.not_lt, Nat.not_le, Bool.not_eq_true, Bool.not_eq_false, Bool.true_eq_false, Bool.false_eq_true, not_false_eq_true, not_true_eq_false] at h)
      | exact goes_none.mpr (by omega)
    all_goals first | (exfalso; omega) | exact goes_inr.mpr rfl | (exfalso; simp_all; done)
theorem k17_ok : k17.ok Try.prog := by
  intro x hx
  obtain ⟨⟨⟨aq, nq, mq, tq, vq, gq, _⟩, de, _⟩, _⟩ := x
  obtain ⟨h1, h2⟩ := a17 aq nq mq tq vq gq de (s17 aq nq mq tq vq gq de (of_dec hx rfl))
  exact ⟨⟨400, (by decide : 1 + 1 + 0 ≤ 400), h1⟩, h2⟩
theorem lost_eq {st : Int} (r : Nat) : (!S.any (fun j => decide (S.lit [st] 0 j = (r : Int))) 1) = decide ((r : Int) ≠ st) := by
  rw [any_one]
  show (!decide (st = (r : Int))) = decide ((r : Int) ≠ st)
  rw [← decide_not]
  exact decide_eq_decide.mpr ⟨fun h e => h e.symm, fun h e => h e.symm⟩
inductive St27 where
  | h0 (x0 : Int) (x1 : List (Int × Int × Int)) (x2 : List Bool) (x3 : List (Int × Int × Int × Int × Int × Int))
  | h1 (x0 : Int) (x1 : Nat) (x2 : Nat) (x3 : Int) (x4 : Int) (x5 : List (Int × Int × Int)) (x6 : List Bool) (x7 : Int) (x8 : Int) (x9 : Int) (x10 : List (Int × Int × Int × Int × Int × Int))
abbrev Rt27 := Int × List (Int × Int × Int × Int × Int × Int)
noncomputable def V27 (aq nq mq : Nat) (tq : Nat → ByteArray) (vq : Nat → Int) (gq : Nat → Int) (de : Int) (st : Int) (r : Rt27) : PV := PV.tup [PV.own (2) (6) (List.length r.2), PV.int IntKind.i64 r.1]
noncomputable def N27 (aq nq mq : Nat) (tq : Nat → ByteArray) (vq : Nat → Int) (gq : Nat → Int) (de : Int) (st : Int) (r : Rt27) : List Blk := [Blk.cols (List.length r.2)
 [Col.int IntKind.i64 fun j => (S.at' r.2 j).1,
 Col.int IntKind.i64 fun j => (S.at' r.2 j).2.1,
 Col.int IntKind.i64 fun j => (S.at' r.2 j).2.2.1,
 Col.int IntKind.i64 fun j => (S.at' r.2 j).2.2.2.1,
 Col.int IntKind.i64 fun j =>
 (S.at' r.2 j).2.2.2.2.1,
 Col.int IntKind.i64 fun j =>
 (S.at' r.2 j).2.2.2.2.2]]
noncomputable def I27 (aq nq mq : Nat) (tq : Nat → ByteArray) (vq : Nat → Int) (gq : Nat → Int) (de : Int) (st : Int) : St27 → Hd
  | .h0 x0 x1 x2 x3 => ⟨hd Try.f27 0, [PV.own (3) (6) (List.length x3), PV.own (1) (3) (List.length x1),
 PV.own (2) (1) (List.length x2), PV.unk,
 PV.own (1) (3) (List.length x1),
 PV.int IntKind.i64 (↑(List.length (S.failL nq)) : Int), PV.int IntKind.i64 x0, PV.unk,
 PV.unk, PV.unk], [[(1, (true, Blk.cols (List.length x1)
 [Col.int IntKind.i64 fun j => (S.at' x1 j).1,
 Col.int IntKind.i64 fun j => (S.at' x1 j).2.1,
 Col.int IntKind.i64 fun j => (S.at' x1 j).2.2])), (2, (true, Blk.cols (List.length x2) [Col.bool fun j => S.at' x2 j])), (3, (true, Blk.cols (List.length x3)
 [Col.int IntKind.i64 fun j => (S.at' x3 j).1,
 Col.int IntKind.i64 fun j => (S.at' x3 j).2.1,
 Col.int IntKind.i64 fun j => (S.at' x3 j).2.2.1,
 Col.int IntKind.i64 fun j => (S.at' x3 j).2.2.2.1,
 Col.int IntKind.i64 fun j =>
 (S.at' x3 j).2.2.2.2.1,
 Col.int IntKind.i64 fun j =>
 (S.at' x3 j).2.2.2.2.2]))], [(0, (false, .cols mq [.str tq, .int .i64 vq, .int .i64 gq]))]], 4⟩
  | .h1 x0 x1 x2 x3 x4 x5 x6 x7 x8 x9 x10 => ⟨hd Try.f27 1, [PV.own (4) (6) (List.length x10), PV.own (1) (3) (List.length x5),
 PV.own (2) (1) (List.length x6),
 PV.ptr (PA.mk (3) (0) (0) (0)),
 PV.own (1) (3) (List.length x5),
 PV.int IntKind.i64 (↑(List.length (S.failL nq)) : Int), PV.int IntKind.i64 x0,
 PV.loose (PA.mk (1) (3) x1 (0)) x2, PV.int IntKind.i64 x3,
 PV.int IntKind.i64 x4], [[(1, (true, Blk.cols (List.length x5)
 [Col.int IntKind.i64 fun j => (S.at' x5 j).1,
 Col.int IntKind.i64 fun j => (S.at' x5 j).2.1,
 Col.int IntKind.i64 fun j => (S.at' x5 j).2.2])), (2, (true, Blk.cols (List.length x6) [Col.bool fun j => S.at' x6 j])), (3, (true, Blk.cells [PV.int IntKind.i64 x7, PV.int IntKind.i64 x8, PV.int IntKind.i64 x9])), (4, (true, Blk.cols (List.length x10)
 [Col.int IntKind.i64 fun j => (S.at' x10 j).1,
 Col.int IntKind.i64 fun j => (S.at' x10 j).2.1,
 Col.int IntKind.i64 fun j => (S.at' x10 j).2.2.1,
 Col.int IntKind.i64 fun j => (S.at' x10 j).2.2.2.1,
 Col.int IntKind.i64 fun j =>
 (S.at' x10 j).2.2.2.2.1,
 Col.int IntKind.i64 fun j =>
 (S.at' x10 j).2.2.2.2.2]))], [(0, (false, .cols mq [.str tq, .int .i64 vq, .int .i64 gq]))]], 5⟩
noncomputable def q27 (aq nq mq : Nat) (tq : Nat → ByteArray) (vq : Nat → Int) (gq : Nat → Int) (de : Int) (st : Int) : St27 → Option (St27 ⊕ Rt27)
  | .h0 x0 x1 x2 x3 => bif (decide (x0 < (↑(List.length (S.failL nq)) : Int)))
 then (bif (decide ((0 : Int) ≤ x0 ∧ x0 < (↑(List.length x1) : Int)))
 then (bif (decide (Int.toNat x0 < List.length x1))
 then (bif (lim IntKind.i64 (x0 + (1 : Int)))
 then (bif (decide
 ((0 : Int) ≤ x0 + (1 : Int) ∧
 x0 + (1 : Int) ≤ (↑(List.length x1) : Int) ∧ (↑(List.length x1) : Int) ≤ (↑(List.length x1) : Int)))
 then (some (.inl (.h1 (x0) (Int.toNat (x0 + (1 : Int))) (List.length x1 - Int.toNat (x0 + (1 : Int))) ((↑(List.length x1 - Int.toNat (x0 + (1 : Int))) : Int)) ((0 : Int)) (x1) (x2) ((S.at' x1 (Int.toNat x0)).1) ((S.at' x1 (Int.toNat x0)).2.1) ((S.at' x1 (Int.toNat x0)).2.2) (x3))))
 else (none))
 else (none))
 else (none))
 else (none))
 else (some (.inr ((0 : Int), x3)))
  | .h1 x0 x1 x2 x3 x4 x5 x6 x7 x8 x9 x10 => bif (decide (x4 < x3))
 then (bif (decide ((0 : Int) ≤ x4 ∧ x4 < (↑x2 : Int)))
 then (bif (decide (Int.toNat x4 + x1 < List.length x5))
 then (bif (decide
 (2 ≤ 2 ∧
 2 ≤ 1000000 ∧ 0 + List.length x6 ≤ List.length x6 ∧ List.length x6 ≤ 1000000))
 then (bif (S.safB (List.length x6) (fun j => S.at' x6 j) (2)
 (fun j => S.lit [x7, (S.at' x5 (Int.toNat x4 + x1)).1] (0 : Int) j)
 (fun j => S.lit [x8, (S.at' x5 (Int.toNat x4 + x1)).2.1] (0 : Int) j)
 fun j => S.lit [x9, (S.at' x5 (Int.toNat x4 + x1)).2.2] (0 : Int) j)
 then (bif (lim IntKind.i64 (x4 + (1 : Int)))
 then (some (.inl (.h1 (x0) (x1) (x2) (x3) (x4 + (1 : Int)) (x5) (x6) (x7) (x8) (x9) (x10))))
 else (none))
 else (bif (decide (List.length x10 + 1 ≤ 1000000))
 then (bif (decide (List.length x10 ≤ List.length x10))
 then (bif (lim IntKind.i64 (x4 + (1 : Int)))
 then (some (.inl (.h1 (x0) (x1) (x2) (x3) (x4 + (1 : Int)) (x5) (x6) (x7) (x8) (x9) (S.snoc x10
 (x7, x8, x9, (S.at' x5 (Int.toNat x4 + x1)).1, (S.at' x5 (Int.toNat x4 + x1)).2.1,
 (S.at' x5 (Int.toNat x4 + x1)).2.2)))))
 else (none))
 else (none))
 else (none)))
 else (none))
 else (none))
 else (none))
 else (bif (lim IntKind.i64 (x0 + (1 : Int)))
 then (some (.inl (.h0 (x0 + (1 : Int)) (x5) (x6) (x10))))
 else (none))
noncomputable def p27 (aq nq mq : Nat) (tq : Nat → ByteArray) (vq : Nat → Int) (gq : Nat → Int) (de : Int) (st : Int) : Option (St27 ⊕ Rt27) := bif (decide (aq + nq ≤ mq ∧ nq ≤ 1000000))
 then (bif (S.netE nq (fun j => tq (j + aq)) (fun j => vq (j + aq)) (fun j => gq (j + aq)) de !=
 (0 : Int))
 then (some (.inr (S.netE nq (fun j => tq (j + aq)) (fun j => vq (j + aq)) (fun j => gq (j + aq)) de, [])))
 else (bif (decide (nq ≤ 1000000))
 then (bif (decide ((0 : Int) ≤ st ∧ st < (↑nq : Int)))
 then (bif (decide (nq ≤ 100000))
 then (bif (decide
 (1 ≤ 1 ∧
 1 ≤ 1000000 ∧
 nq ≤ 1000 ∧
 S.all
 (fun j =>
 decide ((0 : Int) ≤ S.lit [st] (0 : Int) j ∧ S.lit [st] (0 : Int) j < (↑nq : Int)))
 (1) =
 true))
 then (some (.inl (.h0 ((0 : Int)) (S.failL nq) (S.mkl nq fun (r : Nat) =>
 !S.any (fun j => decide (S.lit [st] (0 : Int) j = (↑r : Int))) (1)) ([]))))
 else (none))
 else (none))
 else (some (.inr ((6 : Int), []))))
 else (none)))
 else (none)
noncomputable def Te27 (test : Bool → Prop → Prop → Prop) (Kst : KS) (Kret : KR) (aq nq mq : Nat) (tq : Nat → ByteArray) (vq : Nat → Int) (gq : Nat → Int) (de : Int) (st : Int) : Prop :=
  test (decide (aq + nq ≤ mq ∧ nq ≤ 1000000))
 (test (S.netE nq (fun j => tq (j + aq)) (fun j => vq (j + aq)) (fun j => gq (j + aq)) de !=
 (0 : Int))
 (Kret (PV.tup
 [PV.nils,
 PV.int IntKind.i64
 (S.netE nq (fun j => tq (j + aq)) (fun j => vq (j + aq)) (fun j => gq (j + aq)) de)]) ([[(0, false,
 Blk.cols mq [Col.str tq, Col.int IntKind.i64 vq, Col.int IntKind.i64 gq])]]) (3))
 (test (decide (nq ≤ 1000000))
 (test (decide ((0 : Int) ≤ st ∧ st < (↑nq : Int)))
 (test (decide (nq ≤ 100000))
 (test (decide
 (1 ≤ 1 ∧
 1 ≤ 1000000 ∧
 nq ≤ 1000 ∧
 S.all
 (fun j =>
 decide ((0 : Int) ≤ S.lit [st] (0 : Int) j ∧ S.lit [st] (0 : Int) j < (↑nq : Int)))
 (1) =
 true))
 (Kst (hd Try.f27 0) ([PV.nils, PV.own (5) (3) (List.length (S.failL nq)),
 PV.own (8) (1)
 (List.length
 (S.mkl nq fun (r : Nat) =>
 !S.any (fun j => decide (S.lit [st] (0 : Int) j = (↑r : Int))) (1))),
 PV.unk, PV.own (5) (3) (List.length (S.failL nq)),
 PV.int IntKind.i64 (↑(List.length (S.failL nq)) : Int), PV.int IntKind.i64 (0 : Int),
 PV.unk, PV.unk, PV.unk]) ([[(0, false,
 Blk.cols mq [Col.str tq, Col.int IntKind.i64 vq, Col.int IntKind.i64 gq]),
 (5, true,
 Blk.cols (List.length (S.failL nq))
 [Col.int IntKind.i64 fun j => (S.at' (S.failL nq) j).1,
 Col.int IntKind.i64 fun j => (S.at' (S.failL nq) j).2.1,
 Col.int IntKind.i64 fun j => (S.at' (S.failL nq) j).2.2]),
 (8, true,
 Blk.cols
 (List.length
 (S.mkl nq fun (r : Nat) =>
 !S.any (fun j => decide (S.lit [st] (0 : Int) j = (↑r : Int))) (1)))
 [Col.bool fun j =>
 S.at'
 (S.mkl nq fun (r : Nat) =>
 !S.any (fun j => decide (S.lit [st] (0 : Int) j = (↑r : Int)))
 (1))
 j])]]) (9))
 (False))
 (False))
 (Kret (PV.tup [PV.nils, PV.int IntKind.i64 (6 : Int)]) ([[(0, false,
 Blk.cols mq [Col.str tq, Col.int IntKind.i64 vq, Col.int IntKind.i64 gq])]]) (4)))
 (False)))
 (False)
theorem te27 (test : Bool → Prop → Prop → Prop) (Kst : KS) (Kret : KR) (aq nq mq : Nat) (tq : Nat → ByteArray) (vq : Nat → Int) (gq : Nat → Int) (de : Int) (st : Int) : run test Try.env true (xZ test) true 400 ⟨27, [.cd (mkFn Try.f27).body], argT 0 [.agg [.loose ⟨0, 3, aq, 0⟩ nq, .int .i64 de], .int .i64 st], [[], [(0, (false, .cols mq [.str tq, .int .i64 vq, .int .i64 gq]))]], 1⟩ (proj 1 [7, 8, 9, 11, 29, 30, 31, 39, 40, 41] Kst Kret) =
  Te27 test Kst Kret aq nq mq tq vq gq de st := by kernel_rfl
noncomputable def T27_0 (test : Bool → Prop → Prop → Prop) (Kst : KS) (Kret : KR) (aq nq mq : Nat) (tq : Nat → ByteArray) (vq : Nat → Int) (gq : Nat → Int) (de : Int) (st : Int) (x0 : Int) (x1 : List (Int × Int × Int)) (x2 : List Bool) (x3 : List (Int × Int × Int × Int × Int × Int)) : Prop :=
  test (decide (x0 < (↑(List.length (S.failL nq)) : Int)))
 (test (decide ((0 : Int) ≤ x0 ∧ x0 < (↑(List.length x1) : Int)))
 (test (decide (Int.toNat x0 < List.length x1))
 (test (decide (Int.toNat x0 < List.length x1))
 (test (decide (Int.toNat x0 < List.length x1))
 (test (lim IntKind.i64 (x0 + (1 : Int)))
 (test (decide
 ((0 : Int) ≤ x0 + (1 : Int) ∧
 x0 + (1 : Int) ≤ (↑(List.length x1) : Int) ∧ (↑(List.length x1) : Int) ≤ (↑(List.length x1) : Int)))
 (Kst (hd Try.f27 1) ([PV.own (3) (6) (List.length x3), PV.own (1) (3) (List.length x1),
 PV.own (2) (1) (List.length x2),
 PV.ptr (PA.mk (4) (0) (0) (0)),
 PV.own (1) (3) (List.length x1),
 PV.int IntKind.i64 (↑(List.length (S.failL nq)) : Int), PV.int IntKind.i64 x0,
 PV.loose (PA.mk (1) (3) (Int.toNat (x0 + (1 : Int))) (0))
 (List.length x1 - Int.toNat (x0 + (1 : Int))),
 PV.int IntKind.i64 (↑(List.length x1 - Int.toNat (x0 + (1 : Int))) : Int),
 PV.int IntKind.i64 (0 : Int)]) ([[(0, false,
 Blk.cols mq [Col.str tq, Col.int IntKind.i64 vq, Col.int IntKind.i64 gq]),
 (1, true,
 Blk.cols (List.length x1)
 [Col.int IntKind.i64 fun j => (S.at' x1 j).1,
 Col.int IntKind.i64 fun j => (S.at' x1 j).2.1,
 Col.int IntKind.i64 fun j => (S.at' x1 j).2.2]),
 (4, true,
 Blk.cells
 [PV.int IntKind.i64 ((S.at' x1 (Int.toNat x0)).1),
 PV.int IntKind.i64 ((S.at' x1 (Int.toNat x0)).2.1),
 PV.int IntKind.i64 ((S.at' x1 (Int.toNat x0)).2.2)]),
 (2, true, Blk.cols (List.length x2) [Col.bool fun j => S.at' x2 j]),
 (3, true,
 Blk.cols (List.length x3)
 [Col.int IntKind.i64 fun j => (S.at' x3 j).1,
 Col.int IntKind.i64 fun j => (S.at' x3 j).2.1,
 Col.int IntKind.i64 fun j => (S.at' x3 j).2.2.1,
 Col.int IntKind.i64 fun j => (S.at' x3 j).2.2.2.1,
 Col.int IntKind.i64 fun j =>
 (S.at' x3 j).2.2.2.2.1,
 Col.int IntKind.i64 fun j =>
 (S.at' x3 j).2.2.2.2.2])]]) (5))
 (False))
 (False))
 (False))
 (False))
 (False))
 (False))
 (Kret (PV.tup [PV.own (3) (6) (List.length x3), PV.int IntKind.i64 (0 : Int)]) ([[(0, false,
 Blk.cols mq [Col.str tq, Col.int IntKind.i64 vq, Col.int IntKind.i64 gq]),
 (3, true,
 Blk.cols (List.length x3)
 [Col.int IntKind.i64 fun j => (S.at' x3 j).1,
 Col.int IntKind.i64 fun j => (S.at' x3 j).2.1,
 Col.int IntKind.i64 fun j => (S.at' x3 j).2.2.1,
 Col.int IntKind.i64 fun j => (S.at' x3 j).2.2.2.1,
 Col.int IntKind.i64 fun j =>
 (S.at' x3 j).2.2.2.2.1,
 Col.int IntKind.i64 fun j =>
 (S.at' x3 j).2.2.2.2.2])]]) (4))
theorem t27_0 (test : Bool → Prop → Prop → Prop) (Kst : KS) (Kret : KR) (aq nq mq : Nat) (tq : Nat → ByteArray) (vq : Nat → Int) (gq : Nat → Int) (de : Int) (st : Int) (x0 : Int) (x1 : List (Int × Int × Int)) (x2 : List Bool) (x3 : List (Int × Int × Int × Int × Int × Int)) : run test Try.env true (xZ test) true 400 ⟨27, hd Try.f27 0, zipT [7, 8, 9, 11, 29, 30, 31, 39, 40, 41] [PV.own (3) (6) (List.length x3), PV.own (1) (3) (List.length x1),
 PV.own (2) (1) (List.length x2), PV.unk,
 PV.own (1) (3) (List.length x1),
 PV.int IntKind.i64 (↑(List.length (S.failL nq)) : Int), PV.int IntKind.i64 x0, PV.unk,
 PV.unk, PV.unk], [[(1, (true, Blk.cols (List.length x1)
 [Col.int IntKind.i64 fun j => (S.at' x1 j).1,
 Col.int IntKind.i64 fun j => (S.at' x1 j).2.1,
 Col.int IntKind.i64 fun j => (S.at' x1 j).2.2])), (2, (true, Blk.cols (List.length x2) [Col.bool fun j => S.at' x2 j])), (3, (true, Blk.cols (List.length x3)
 [Col.int IntKind.i64 fun j => (S.at' x3 j).1,
 Col.int IntKind.i64 fun j => (S.at' x3 j).2.1,
 Col.int IntKind.i64 fun j => (S.at' x3 j).2.2.1,
 Col.int IntKind.i64 fun j => (S.at' x3 j).2.2.2.1,
 Col.int IntKind.i64 fun j =>
 (S.at' x3 j).2.2.2.2.1,
 Col.int IntKind.i64 fun j =>
 (S.at' x3 j).2.2.2.2.2]))], [(0, (false, .cols mq [.str tq, .int .i64 vq, .int .i64 gq]))]], 4⟩ (proj 1 [7, 8, 9, 11, 29, 30, 31, 39, 40, 41] Kst Kret) =
  T27_0 test Kst Kret aq nq mq tq vq gq de st x0 x1 x2 x3 := by kernel_rfl
noncomputable def T27_1 (test : Bool → Prop → Prop → Prop) (Kst : KS) (Kret : KR) (aq nq mq : Nat) (tq : Nat → ByteArray) (vq : Nat → Int) (gq : Nat → Int) (de : Int) (st : Int) (x0 : Int) (x1 : Nat) (x2 : Nat) (x3 : Int) (x4 : Int) (x5 : List (Int × Int × Int)) (x6 : List Bool) (x7 : Int) (x8 : Int) (x9 : Int) (x10 : List (Int × Int × Int × Int × Int × Int)) : Prop :=
  test (decide (x4 < x3))
 (test (decide ((0 : Int) ≤ x4 ∧ x4 < (↑x2 : Int)))
 (test (decide (Int.toNat x4 + x1 < List.length x5))
 (test (decide (Int.toNat x4 + x1 < List.length x5))
 (test (decide (Int.toNat x4 + x1 < List.length x5))
 (test (decide
 (2 ≤ 2 ∧
 2 ≤ 1000000 ∧ 0 + List.length x6 ≤ List.length x6 ∧ List.length x6 ≤ 1000000))
 (test (S.safB (List.length x6) (fun j => S.at' x6 j) (2)
 (fun j => S.lit [x7, (S.at' x5 (Int.toNat x4 + x1)).1] (0 : Int) j)
 (fun j => S.lit [x8, (S.at' x5 (Int.toNat x4 + x1)).2.1] (0 : Int) j)
 fun j => S.lit [x9, (S.at' x5 (Int.toNat x4 + x1)).2.2] (0 : Int) j)
 (test (lim IntKind.i64 (x4 + (1 : Int)))
 (Kst (hd Try.f27 1) ([PV.own (4) (6) (List.length x10), PV.own (1) (3) (List.length x5),
 PV.own (2) (1) (List.length x6),
 PV.ptr (PA.mk (3) (0) (0) (0)),
 PV.own (1) (3) (List.length x5),
 PV.int IntKind.i64 (↑(List.length (S.failL nq)) : Int), PV.int IntKind.i64 x0,
 PV.loose (PA.mk (1) (3) x1 (0)) x2, PV.int IntKind.i64 x3,
 PV.int IntKind.i64 (x4 + (1 : Int))]) ([[(0, false,
 Blk.cols mq [Col.str tq, Col.int IntKind.i64 vq, Col.int IntKind.i64 gq]),
 (1, true,
 Blk.cols (List.length x5)
 [Col.int IntKind.i64 fun j => (S.at' x5 j).1,
 Col.int IntKind.i64 fun j => (S.at' x5 j).2.1,
 Col.int IntKind.i64 fun j => (S.at' x5 j).2.2]),
 (3, true,
 Blk.cells [PV.int IntKind.i64 x7, PV.int IntKind.i64 x8, PV.int IntKind.i64 x9]),
 (2, true, Blk.cols (List.length x6) [Col.bool fun j => S.at' x6 j]),
 (4, true,
 Blk.cols (List.length x10)
 [Col.int IntKind.i64 fun j => (S.at' x10 j).1,
 Col.int IntKind.i64 fun j => (S.at' x10 j).2.1,
 Col.int IntKind.i64 fun j => (S.at' x10 j).2.2.1,
 Col.int IntKind.i64 fun j => (S.at' x10 j).2.2.2.1,
 Col.int IntKind.i64 fun j =>
 (S.at' x10 j).2.2.2.2.1,
 Col.int IntKind.i64 fun j =>
 (S.at' x10 j).2.2.2.2.2])]]) (8))
 (False))
 (test (decide (List.length x10 + 1 ≤ 1000000))
 (test (decide (List.length x10 ≤ List.length x10))
 (test (true)
 (test (lim IntKind.i64 (x4 + (1 : Int)))
 (Kst (hd Try.f27 1) ([PV.own (9) (6) (List.length x10 + 1),
 PV.own (1) (3) (List.length x5), PV.own (2) (1) (List.length x6),
 PV.ptr (PA.mk (3) (0) (0) (0)),
 PV.own (1) (3) (List.length x5),
 PV.int IntKind.i64 (↑(List.length (S.failL nq)) : Int), PV.int IntKind.i64 x0,
 PV.loose (PA.mk (1) (3) x1 (0)) x2, PV.int IntKind.i64 x3,
 PV.int IntKind.i64 (x4 + (1 : Int))]) ([[(0, false,
 Blk.cols mq [Col.str tq, Col.int IntKind.i64 vq, Col.int IntKind.i64 gq]),
 (1, true,
 Blk.cols (List.length x5)
 [Col.int IntKind.i64 fun j => (S.at' x5 j).1,
 Col.int IntKind.i64 fun j => (S.at' x5 j).2.1,
 Col.int IntKind.i64 fun j => (S.at' x5 j).2.2]),
 (3, true,
 Blk.cells [PV.int IntKind.i64 x7, PV.int IntKind.i64 x8, PV.int IntKind.i64 x9]),
 (2, true, Blk.cols (List.length x6) [Col.bool fun j => S.at' x6 j]),
 (9, true,
 Blk.cols (List.length x10 + 1)
 [Col.int IntKind.i64 fun j =>
 bif Nat.blt j (List.length x10) then (S.at' x10 j).1 else x7,
 Col.int IntKind.i64 fun j =>
 bif Nat.blt j (List.length x10) then (S.at' x10 j).2.1 else x8,
 Col.int IntKind.i64 fun j =>
 bif Nat.blt j (List.length x10) then (S.at' x10 j).2.2.1 else x9,
 Col.int IntKind.i64 fun j =>
 bif Nat.blt j (List.length x10) then (S.at' x10 j).2.2.2.1
 else (S.at' x5 (Int.toNat x4 + x1)).1,
 Col.int IntKind.i64 fun j =>
 bif Nat.blt j (List.length x10) then
 (S.at' x10 j).2.2.2.2.1
 else (S.at' x5 (Int.toNat x4 + x1)).2.1,
 Col.int IntKind.i64 fun j =>
 bif Nat.blt j (List.length x10) then
 (S.at' x10 j).2.2.2.2.2
 else (S.at' x5 (Int.toNat x4 + x1)).2.2])]]) (10))
 (False))
 (False))
 (False))
 (False)))
 (False))
 (False))
 (False))
 (False))
 (False))
 (test (lim IntKind.i64 (x0 + (1 : Int)))
 (Kst (hd Try.f27 0) ([PV.own (4) (6) (List.length x10), PV.own (1) (3) (List.length x5),
 PV.own (2) (1) (List.length x6),
 PV.ptr (PA.mk (3) (0) (0) (0)),
 PV.own (1) (3) (List.length x5),
 PV.int IntKind.i64 (↑(List.length (S.failL nq)) : Int), PV.int IntKind.i64 (x0 + (1 : Int)),
 PV.loose (PA.mk (1) (3) x1 (0)) x2, PV.int IntKind.i64 x3,
 PV.int IntKind.i64 x4]) ([[(0, false,
 Blk.cols mq [Col.str tq, Col.int IntKind.i64 vq, Col.int IntKind.i64 gq]),
 (1, true,
 Blk.cols (List.length x5)
 [Col.int IntKind.i64 fun j => (S.at' x5 j).1,
 Col.int IntKind.i64 fun j => (S.at' x5 j).2.1,
 Col.int IntKind.i64 fun j => (S.at' x5 j).2.2]),
 (3, true,
 Blk.cells [PV.int IntKind.i64 x7, PV.int IntKind.i64 x8, PV.int IntKind.i64 x9]),
 (2, true, Blk.cols (List.length x6) [Col.bool fun j => S.at' x6 j]),
 (4, true,
 Blk.cols (List.length x10)
 [Col.int IntKind.i64 fun j => (S.at' x10 j).1,
 Col.int IntKind.i64 fun j => (S.at' x10 j).2.1,
 Col.int IntKind.i64 fun j => (S.at' x10 j).2.2.1,
 Col.int IntKind.i64 fun j => (S.at' x10 j).2.2.2.1,
 Col.int IntKind.i64 fun j =>
 (S.at' x10 j).2.2.2.2.1,
 Col.int IntKind.i64 fun j =>
 (S.at' x10 j).2.2.2.2.2])]]) (5))
 (False))
theorem t27_1 (test : Bool → Prop → Prop → Prop) (Kst : KS) (Kret : KR) (aq nq mq : Nat) (tq : Nat → ByteArray) (vq : Nat → Int) (gq : Nat → Int) (de : Int) (st : Int) (x0 : Int) (x1 : Nat) (x2 : Nat) (x3 : Int) (x4 : Int) (x5 : List (Int × Int × Int)) (x6 : List Bool) (x7 : Int) (x8 : Int) (x9 : Int) (x10 : List (Int × Int × Int × Int × Int × Int)) : run test Try.env true (xZ test) true 400 ⟨27, hd Try.f27 1, zipT [7, 8, 9, 11, 29, 30, 31, 39, 40, 41] [PV.own (4) (6) (List.length x10), PV.own (1) (3) (List.length x5),
 PV.own (2) (1) (List.length x6),
 PV.ptr (PA.mk (3) (0) (0) (0)),
 PV.own (1) (3) (List.length x5),
 PV.int IntKind.i64 (↑(List.length (S.failL nq)) : Int), PV.int IntKind.i64 x0,
 PV.loose (PA.mk (1) (3) x1 (0)) x2, PV.int IntKind.i64 x3,
 PV.int IntKind.i64 x4], [[(1, (true, Blk.cols (List.length x5)
 [Col.int IntKind.i64 fun j => (S.at' x5 j).1,
 Col.int IntKind.i64 fun j => (S.at' x5 j).2.1,
 Col.int IntKind.i64 fun j => (S.at' x5 j).2.2])), (2, (true, Blk.cols (List.length x6) [Col.bool fun j => S.at' x6 j])), (3, (true, Blk.cells [PV.int IntKind.i64 x7, PV.int IntKind.i64 x8, PV.int IntKind.i64 x9])), (4, (true, Blk.cols (List.length x10)
 [Col.int IntKind.i64 fun j => (S.at' x10 j).1,
 Col.int IntKind.i64 fun j => (S.at' x10 j).2.1,
 Col.int IntKind.i64 fun j => (S.at' x10 j).2.2.1,
 Col.int IntKind.i64 fun j => (S.at' x10 j).2.2.2.1,
 Col.int IntKind.i64 fun j =>
 (S.at' x10 j).2.2.2.2.1,
 Col.int IntKind.i64 fun j =>
 (S.at' x10 j).2.2.2.2.2]))], [(0, (false, .cols mq [.str tq, .int .i64 vq, .int .i64 gq]))]], 5⟩ (proj 1 [7, 8, 9, 11, 29, 30, 31, 39, 40, 41] Kst Kret) =
  T27_1 test Kst Kret aq nq mq tq vq gq de st x0 x1 x2 x3 x4 x5 x6 x7 x8 x9 x10 := by kernel_rfl
theorem be27 (aq nq mq : Nat) (tq : Nat → ByteArray) (vq : Nat → Int) (gq : Nat → Int) (de : Int) (st : Int) (Kst : KS) (Kret : KR) (x : St27 ⊕ Rt27) (hS : HS 1 400 ((I27 aq nq mq tq vq gq de st)) Kst x) (hR : HR 1 400 ((V27 aq nq mq tq vq gq de st)) (fun r => [newL (1 + 1) ((N27 aq nq mq tq vq gq de st) r) ++ [(0, (false, .cols mq [.str tq, .int .i64 vq, .int .i64 gq]))]]) Kret x) (h : (bif (decide (aq + nq ≤ mq ∧ nq ≤ 1000000))
 then (bif (S.netE nq (fun j => tq (j + aq)) (fun j => vq (j + aq)) (fun j => gq (j + aq)) de !=
 (0 : Int))
 then (some (.inr (S.netE nq (fun j => tq (j + aq)) (fun j => vq (j + aq)) (fun j => gq (j + aq)) de, [])))
 else (bif (decide (nq ≤ 1000000))
 then (bif (decide ((0 : Int) ≤ st ∧ st < (↑nq : Int)))
 then (bif (decide (nq ≤ 100000))
 then (bif (decide
 (1 ≤ 1 ∧
 1 ≤ 1000000 ∧
 nq ≤ 1000 ∧
 S.all
 (fun j =>
 decide ((0 : Int) ≤ S.lit [st] (0 : Int) j ∧ S.lit [st] (0 : Int) j < (↑nq : Int)))
 (1) =
 true))
 then (some (.inl (.h0 ((0 : Int)) (S.failL nq) (S.mkl nq fun (r : Nat) =>
 !S.any (fun j => decide (S.lit [st] (0 : Int) j = (↑r : Int))) (1)) ([]))))
 else (none))
 else (none))
 else (some (.inr ((6 : Int), []))))
 else (none)))
 else (none) : Option (St27 ⊕ Rt27)) = some x) : Te27 cond Kst Kret aq nq mq tq vq gq de st := by
  unfold Te27
  exact bif_split h
   (fun c0 h => bif_split h
   (fun c1 h => ret_at hR _ h (fun n => bif Nat.beq n 2 then 399 else n) rfl rfl rfl (rn_tup ⟨(rn_own_nils rfl), (rn_int rfl), trivial⟩) rfl (entl_fresh (use_own rfl) (fresh_ok rfl) (entl_bor (use_lo rfl) rfl rfl entl_nil)))
   (fun c1 h => bif_split h
   (fun c2 h => bif_split h
   (fun c3 h => bif_split h
   (fun c4 h => bif_split h
   (fun c5 h => stop_at hS _ h (fun n => bif Nat.beq n 1 then 5 else bif Nat.beq n 2 then 8 else bif Nat.beq n 3 then 399 else n) rfl rfl rfl ⟨(rn_own_nils rfl), ⟨(rn_own (use_own rfl) rfl rfl), ⟨(rn_own (use_own rfl) rfl rfl), ⟨(rn_unk _), ⟨(rn_own (use_own rfl) rfl rfl), ⟨(rn_int rfl), ⟨(rn_int rfl), ⟨(rn_unk _), ⟨(rn_unk _), ⟨(rn_unk _), trivial⟩⟩⟩⟩⟩⟩⟩⟩⟩⟩ rfl (entl_new (use_own rfl) rfl (Nat.le_of_eq rfl) (rcs_int (fun _ _ => rfl) (rcs_int (fun _ _ => rfl) (rcs_int (fun _ _ => rfl) rcs_nil))) (entl_new (use_own rfl) rfl (Nat.le_of_eq rfl) (rcs_bool (fun _ _ => rfl) rcs_nil) (entl_fresh (use_own rfl) (fresh_ok rfl) (entl_bor (use_lo rfl) rfl rfl entl_nil)))))
   (fun c5 h => no_some h))
   (fun c4 h => no_some h))
   (fun c3 h => ret_at hR _ h (fun n => bif Nat.beq n 2 then 399 else n) rfl rfl rfl (rn_tup ⟨(rn_own_nils rfl), (rn_int rfl), trivial⟩) rfl (entl_fresh (use_own rfl) (fresh_ok rfl) (entl_bor (use_lo rfl) rfl rfl entl_nil))))
   (fun c2 h => no_some h)))
   (fun c0 h => no_some h)
theorem b27_0 (aq nq mq : Nat) (tq : Nat → ByteArray) (vq : Nat → Int) (gq : Nat → Int) (de : Int) (st : Int) (Kst : KS) (Kret : KR) (x : St27 ⊕ Rt27) (hS : HS 1 400 ((I27 aq nq mq tq vq gq de st)) Kst x) (hR : HR 1 400 ((V27 aq nq mq tq vq gq de st)) (fun r => [newL (1 + 1) ((N27 aq nq mq tq vq gq de st) r) ++ [(0, (false, .cols mq [.str tq, .int .i64 vq, .int .i64 gq]))]]) Kret x) (x0 : Int) (x1 : List (Int × Int × Int)) (x2 : List Bool) (x3 : List (Int × Int × Int × Int × Int × Int)) (h : (bif (decide (x0 < (↑(List.length (S.failL nq)) : Int)))
 then (bif (decide ((0 : Int) ≤ x0 ∧ x0 < (↑(List.length x1) : Int)))
 then (bif (decide (Int.toNat x0 < List.length x1))
 then (bif (lim IntKind.i64 (x0 + (1 : Int)))
 then (bif (decide
 ((0 : Int) ≤ x0 + (1 : Int) ∧
 x0 + (1 : Int) ≤ (↑(List.length x1) : Int) ∧ (↑(List.length x1) : Int) ≤ (↑(List.length x1) : Int)))
 then (some (.inl (.h1 (x0) (Int.toNat (x0 + (1 : Int))) (List.length x1 - Int.toNat (x0 + (1 : Int))) ((↑(List.length x1 - Int.toNat (x0 + (1 : Int))) : Int)) ((0 : Int)) (x1) (x2) ((S.at' x1 (Int.toNat x0)).1) ((S.at' x1 (Int.toNat x0)).2.1) ((S.at' x1 (Int.toNat x0)).2.2) (x3))))
 else (none))
 else (none))
 else (none))
 else (none))
 else (some (.inr ((0 : Int), x3))) : Option (St27 ⊕ Rt27)) = some x) : T27_0 cond Kst Kret aq nq mq tq vq gq de st x0 x1 x2 x3 := by
  unfold T27_0
  exact bif_split h
   (fun c0 h => bif_split h
   (fun c1 h => bif_split h
   (fun c2 h => cond_yes c2 (cond_yes c2 (bif_split h
   (fun c3 h => bif_split h
   (fun c4 h => stop_at hS _ h (fun n => bif Nat.beq n 1 then 1 else bif Nat.beq n 2 then 2 else bif Nat.beq n 3 then 4 else bif Nat.beq n 4 then 3 else n) rfl rfl rfl ⟨(rn_own (use_own rfl) rfl rfl), ⟨(rn_own (use_own rfl) rfl rfl), ⟨(rn_own (use_own rfl) rfl rfl), ⟨(rn_ptr (use_own rfl) rfl rfl), ⟨(rn_own (use_own rfl) rfl rfl), ⟨(rn_int rfl), ⟨(rn_int rfl), ⟨(rn_loose (use_own rfl) rfl rfl rfl), ⟨(rn_int rfl), ⟨(rn_int rfl), trivial⟩⟩⟩⟩⟩⟩⟩⟩⟩⟩ rfl (entl_new (use_own rfl) rfl (Nat.le_of_eq rfl) (rcs_int (fun _ _ => rfl) (rcs_int (fun _ _ => rfl) (rcs_int (fun _ _ => rfl) rcs_nil))) (entl_new (use_own rfl) rfl (Nat.le_of_eq rfl) (rcs_bool (fun _ _ => rfl) rcs_nil) (entl_b (use_own rfl) rfl (by simp) (rb_cells ⟨(rn_int rfl), (rn_int rfl), (rn_int rfl), trivial⟩) (entl_new (use_own rfl) rfl (Nat.le_of_eq rfl) (rcs_int (fun _ _ => rfl) (rcs_int (fun _ _ => rfl) (rcs_int (fun _ _ => rfl) (rcs_int (fun _ _ => rfl) (rcs_int (fun _ _ => rfl) (rcs_int (fun _ _ => rfl) rcs_nil)))))) (entl_bor (use_lo rfl) rfl rfl entl_nil))))))
   (fun c4 h => no_some h))
   (fun c3 h => no_some h))))
   (fun c2 h => no_some h))
   (fun c1 h => no_some h))
   (fun c0 h => ret_at hR _ h (fun n => bif Nat.beq n 2 then 3 else n) rfl rfl rfl (rn_tup ⟨(rn_own (use_own rfl) rfl rfl), (rn_int rfl), trivial⟩) rfl (entl_new (use_own rfl) rfl (Nat.le_of_eq rfl) (rcs_int (fun _ _ => rfl) (rcs_int (fun _ _ => rfl) (rcs_int (fun _ _ => rfl) (rcs_int (fun _ _ => rfl) (rcs_int (fun _ _ => rfl) (rcs_int (fun _ _ => rfl) rcs_nil)))))) (entl_bor (use_lo rfl) rfl rfl entl_nil)))
theorem b27_1 (aq nq mq : Nat) (tq : Nat → ByteArray) (vq : Nat → Int) (gq : Nat → Int) (de : Int) (st : Int) (Kst : KS) (Kret : KR) (x : St27 ⊕ Rt27) (hS : HS 1 400 ((I27 aq nq mq tq vq gq de st)) Kst x) (hR : HR 1 400 ((V27 aq nq mq tq vq gq de st)) (fun r => [newL (1 + 1) ((N27 aq nq mq tq vq gq de st) r) ++ [(0, (false, .cols mq [.str tq, .int .i64 vq, .int .i64 gq]))]]) Kret x) (x0 : Int) (x1 : Nat) (x2 : Nat) (x3 : Int) (x4 : Int) (x5 : List (Int × Int × Int)) (x6 : List Bool) (x7 : Int) (x8 : Int) (x9 : Int) (x10 : List (Int × Int × Int × Int × Int × Int)) (h : (bif (decide (x4 < x3))
 then (bif (decide ((0 : Int) ≤ x4 ∧ x4 < (↑x2 : Int)))
 then (bif (decide (Int.toNat x4 + x1 < List.length x5))
 then (bif (decide
 (2 ≤ 2 ∧
 2 ≤ 1000000 ∧ 0 + List.length x6 ≤ List.length x6 ∧ List.length x6 ≤ 1000000))
 then (bif (S.safB (List.length x6) (fun j => S.at' x6 j) (2)
 (fun j => S.lit [x7, (S.at' x5 (Int.toNat x4 + x1)).1] (0 : Int) j)
 (fun j => S.lit [x8, (S.at' x5 (Int.toNat x4 + x1)).2.1] (0 : Int) j)
 fun j => S.lit [x9, (S.at' x5 (Int.toNat x4 + x1)).2.2] (0 : Int) j)
 then (bif (lim IntKind.i64 (x4 + (1 : Int)))
 then (some (.inl (.h1 (x0) (x1) (x2) (x3) (x4 + (1 : Int)) (x5) (x6) (x7) (x8) (x9) (x10))))
 else (none))
 else (bif (decide (List.length x10 + 1 ≤ 1000000))
 then (bif (decide (List.length x10 ≤ List.length x10))
 then (bif (lim IntKind.i64 (x4 + (1 : Int)))
 then (some (.inl (.h1 (x0) (x1) (x2) (x3) (x4 + (1 : Int)) (x5) (x6) (x7) (x8) (x9) (S.snoc x10
 (x7, x8, x9, (S.at' x5 (Int.toNat x4 + x1)).1, (S.at' x5 (Int.toNat x4 + x1)).2.1,
 (S.at' x5 (Int.toNat x4 + x1)).2.2)))))
 else (none))
 else (none))
 else (none)))
 else (none))
 else (none))
 else (none))
 else (bif (lim IntKind.i64 (x0 + (1 : Int)))
 then (some (.inl (.h0 (x0 + (1 : Int)) (x5) (x6) (x10))))
 else (none)) : Option (St27 ⊕ Rt27)) = some x) : T27_1 cond Kst Kret aq nq mq tq vq gq de st x0 x1 x2 x3 x4 x5 x6 x7 x8 x9 x10 := by
  unfold T27_1
  exact bif_split h
   (fun c0 h => bif_split h
   (fun c1 h => bif_split h
   (fun c2 h => cond_yes c2 (cond_yes c2 (bif_split h
   (fun c3 h => bif_split h
   (fun c4 h => bif_split h
   (fun c5 h => stop_at hS _ h (fun n => bif Nat.beq n 1 then 1 else bif Nat.beq n 2 then 2 else bif Nat.beq n 3 then 3 else bif Nat.beq n 4 then 4 else n) rfl rfl rfl ⟨(rn_own (use_own rfl) rfl rfl), ⟨(rn_own (use_own rfl) rfl rfl), ⟨(rn_own (use_own rfl) rfl rfl), ⟨(rn_ptr (use_own rfl) rfl rfl), ⟨(rn_own (use_own rfl) rfl rfl), ⟨(rn_int rfl), ⟨(rn_int rfl), ⟨(rn_loose (use_own rfl) rfl rfl rfl), ⟨(rn_int rfl), ⟨(rn_int rfl), trivial⟩⟩⟩⟩⟩⟩⟩⟩⟩⟩ rfl (entl_new (use_own rfl) rfl (Nat.le_of_eq rfl) (rcs_int (fun _ _ => rfl) (rcs_int (fun _ _ => rfl) (rcs_int (fun _ _ => rfl) rcs_nil))) (entl_new (use_own rfl) rfl (Nat.le_of_eq rfl) (rcs_bool (fun _ _ => rfl) rcs_nil) (entl_b (use_own rfl) rfl (by simp) (rb_cells ⟨(rn_int rfl), (rn_int rfl), (rn_int rfl), trivial⟩) (entl_new (use_own rfl) rfl (Nat.le_of_eq rfl) (rcs_int (fun _ _ => rfl) (rcs_int (fun _ _ => rfl) (rcs_int (fun _ _ => rfl) (rcs_int (fun _ _ => rfl) (rcs_int (fun _ _ => rfl) (rcs_int (fun _ _ => rfl) rcs_nil)))))) (entl_bor (use_lo rfl) rfl rfl entl_nil))))))
   (fun c5 h => no_some h))
   (fun c4 h => bif_split h
   (fun c5 h => bif_split h
   (fun c6 h => cond_yes rfl (bif_split h
   (fun c7 h => stop_at hS _ h (fun n => bif Nat.beq n 1 then 1 else bif Nat.beq n 2 then 2 else bif Nat.beq n 3 then 3 else bif Nat.beq n 4 then 9 else n) rfl rfl rfl ⟨(rn_own (use_own rfl) rfl (snoc_len' rfl)), ⟨(rn_own (use_own rfl) rfl rfl), ⟨(rn_own (use_own rfl) rfl rfl), ⟨(rn_ptr (use_own rfl) rfl rfl), ⟨(rn_own (use_own rfl) rfl rfl), ⟨(rn_int rfl), ⟨(rn_int rfl), ⟨(rn_loose (use_own rfl) rfl rfl rfl), ⟨(rn_int rfl), ⟨(rn_int rfl), trivial⟩⟩⟩⟩⟩⟩⟩⟩⟩⟩ rfl (entl_new (use_own rfl) rfl (Nat.le_of_eq rfl) (rcs_int (fun _ _ => rfl) (rcs_int (fun _ _ => rfl) (rcs_int (fun _ _ => rfl) rcs_nil))) (entl_new (use_own rfl) rfl (Nat.le_of_eq rfl) (rcs_bool (fun _ _ => rfl) rcs_nil) (entl_b (use_own rfl) rfl (by simp) (rb_cells ⟨(rn_int rfl), (rn_int rfl), (rn_int rfl), trivial⟩) (entl_new (use_own rfl) rfl (Nat.le_of_eq (snoc_len' rfl)) (rcs_int (col_snoc' (fun (t : Int × Int × Int × Int × Int × Int) => t.1) rfl (fun _ _ => rfl)) (rcs_int (col_snoc' (fun (t : Int × Int × Int × Int × Int × Int) => t.2.1) rfl (fun _ _ => rfl)) (rcs_int (col_snoc' (fun (t : Int × Int × Int × Int × Int × Int) => t.2.2.1) rfl (fun _ _ => rfl)) (rcs_int (col_snoc' (fun (t : Int × Int × Int × Int × Int × Int) => t.2.2.2.1) rfl (fun _ _ => rfl)) (rcs_int (col_snoc' (fun (t : Int × Int × Int × Int × Int × Int) => t.2.2.2.2.1) rfl (fun _ _ => rfl)) (rcs_int (col_snoc' (fun (t : Int × Int × Int × Int × Int × Int) => t.2.2.2.2.2) rfl (fun _ _ => rfl)) rcs_nil)))))) (entl_bor (use_lo rfl) rfl rfl entl_nil))))))
   (fun c7 h => no_some h)))
   (fun c6 h => no_some h))
   (fun c5 h => no_some h)))
   (fun c3 h => no_some h))))
   (fun c2 h => no_some h))
   (fun c1 h => no_some h))
   (fun c0 h => bif_split h
   (fun c1 h => stop_at hS _ h (fun n => bif Nat.beq n 1 then 1 else bif Nat.beq n 2 then 2 else bif Nat.beq n 3 then 4 else n) rfl rfl rfl ⟨(rn_own (use_own rfl) rfl rfl), ⟨(rn_own (use_own rfl) rfl rfl), ⟨(rn_own (use_own rfl) rfl rfl), ⟨(rn_unk _), ⟨(rn_own (use_own rfl) rfl rfl), ⟨(rn_int rfl), ⟨(rn_int rfl), ⟨(rn_unk _), ⟨(rn_unk _), ⟨(rn_unk _), trivial⟩⟩⟩⟩⟩⟩⟩⟩⟩⟩ rfl (entl_new (use_own rfl) rfl (Nat.le_of_eq rfl) (rcs_int (fun _ _ => rfl) (rcs_int (fun _ _ => rfl) (rcs_int (fun _ _ => rfl) rcs_nil))) (entl_new (use_own rfl) rfl (Nat.le_of_eq rfl) (rcs_bool (fun _ _ => rfl) rcs_nil) (entl_new (use_own rfl) rfl (Nat.le_of_eq rfl) (rcs_int (fun _ _ => rfl) (rcs_int (fun _ _ => rfl) (rcs_int (fun _ _ => rfl) (rcs_int (fun _ _ => rfl) (rcs_int (fun _ _ => rfl) (rcs_int (fun _ _ => rfl) rcs_nil)))))) (entl_bor (use_lo rfl) rfl rfl entl_nil)))))
   (fun c1 h => no_some h))
end Go.Ev
