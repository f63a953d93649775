/-
  The parts that the statement needs, 3 of 4.
-/
import Derived.Test.YtpnklpakehlbeaaV72
namespace Go.Ev
open Go.Proofs
open Go.IntWalk
set_option linter.unusedVariables false
set_option linter.unusedSimpArgs false
set_option maxRecDepth 100000
set_option maxHeartbeats 2000000
set_option maxHeartbeats 4000000
theorem te25 (test : Bool → Prop → Prop → Prop) (Kst : KS) (Kret : KR) (aq nq mq : Nat) (tq : Nat → ByteArray) (vq gq : Nat → Int) (de st k1 k2 k3 : Int) : run test Try.env true (xZ test) true 400 ⟨25, [.cd (mkFn Try.f25).body], argT 0 [.agg [.loose ⟨0, 3, aq, 0⟩ nq, .int .i64 de], .int .i64 st, .agg [.int .i64 k1, .int .i64 k2, .int .i64 k3]], [[], [(0, (false, .cols mq [.str tq, .int .i64 vq, .int .i64 gq]))]], 1⟩ (proj 1 [] Kst Kret) =
  Te25 test Kst Kret aq nq mq tq vq gq de st k1 k2 k3 := by kernel_rfl
theorem be25 (aq nq mq : Nat) (tq : Nat → ByteArray) (vq gq : Nat → Int) (de st k1 k2 k3 : Int) (Kst : KS) (Kret : KR) (x : St25 ⊕ Rt25) (hS : HS 1 400 ((I25 aq nq mq tq vq gq de st k1 k2 k3)) Kst x) (hR : HR 1 400 ((V25 aq nq mq tq vq gq de st k1 k2 k3)) (fun r => [newL (1 + 1) ((N25 aq nq mq tq vq gq de st k1 k2 k3) r) ++ [(0, (false, .cols mq [.str tq, .int .i64 vq, .int .i64 gq]))]]) Kret x) (h : p25 aq nq mq tq vq gq de st k1 k2 k3 = some x) : Te25 cond Kst Kret aq nq mq tq vq gq de st k1 k2 k3 := by
  unfold Te25
  unfold p25 at h
  refine bif_split h
   (fun c0 h => bif_split h
   (fun c1 h => ?_)
   (fun c1 h => bif_split h
   (fun c2 h => bif_split h
   (fun c3 h => bif_split h
   (fun c4 h => bif_split h
   (fun c5 h => ?_)
   (fun c5 h => bif_split h
   (fun c6 h => ?_)
   (fun c6 h => ?_)))
   (fun c4 h => ?_))
   (fun c3 h => ?_))
   (fun c2 h => ?_)))
   (fun c0 h => ?_)
  all_goals first
    | exact ret_at hR _ h (fun n => n) rfl rfl rfl (rn_tup ⟨(rn_int rfl), (rn_int rfl), trivial⟩) rfl (entl_bor (use_lo rfl) rfl rfl entl_nil)
    | exact no_some h
theorem a25 (aq nq mq : Nat) (tq : Nat → ByteArray) (vq gq : Nat → Int) (de st k1 k2 k3 : Int) {r : Rt25} (h : Goes ((q25 aq nq mq tq vq gq de st k1 k2 k3)) ((p25 aq nq mq tq vq gq de st k1 k2 k3)) r) : CallR Try.prog 25 [.agg [.loose ⟨0, 3, aq, 0⟩ nq, .int .i64 de], .int .i64 st, .agg [.int .i64 k1, .int .i64 k2, .int .i64 k3]] [[(0, (false, .cols mq [.str tq, .int .i64 vq, .int .i64 gq]))]] 1 ((V25 aq nq mq tq vq gq de st k1 k2 k3) r) ((fun r => [newL (1 + 1) ((N25 aq nq mq tq vq gq de st k1 k2 k3) r) ++ [(0, (false, .cols mq [.str tq, .int .i64 vq, .int .i64 gq]))]]) r) 400 ∧ ∃ F, Try.prog.funcs[25]? = some F ∧ F.body.isSome = true ∧ (F.name == "runtime.NumGoroutine") = false := by
  refine dec_calls (f := 25) (lo := 1) (hi := 400) (H := [[(0, (false, .cols mq [.str tq, .int .i64 vq, .int .i64 gq]))]]) (args := [.agg [.loose ⟨0, 3, aq, 0⟩ nq, .int .i64 de], .int .i64 st, .agg [.int .i64 k1, .int .i64 k2, .int .i64 k3]]) Try.envOk Try.mixed xZ_ok ((I25 aq nq mq tq vq gq de st k1 k2 k3)) ((V25 aq nq mq tq vq gq de st k1 k2 k3)) (fun r => [newL (1 + 1) ((N25 aq nq mq tq vq gq de st k1 k2 k3) r) ++ [(0, (false, .cols mq [.str tq, .int .i64 vq, .int .i64 gq]))]]) (fn := mkFn Try.f25) (ts := []) (n := 400) rfl (by decide) (by simp) (names_of rfl) ?_ ?_ ?_ h
  · intro s; exact s.elim
  · intro Kst Kret x hS hR h
    exact Holds.eq (te25 cond Kst Kret aq nq mq tq vq gq de st k1 k2 k3) (be25 aq nq mq tq vq gq de st k1 k2 k3 Kst Kret x hS hR h)
  · intro Kst Kret x hS hR s h; exact s.elim
noncomputable def k25  : Con := ⟨25, [.agg [.list [.str, .int .i64, .int .i64], .plain (.int .i64)], .one (.plain (.int .i64)), .agg [.plain (.int .i64), .plain (.int .i64), .plain (.int .i64)]], fun (x : ((Nat × Nat × Nat × (Nat → ByteArray) × (Nat → Int) × (Nat → Int) × Unit) × Int × Unit) × Int × (Int × Int × Int × Unit) × Unit) => (fun (aq nq mq : Nat) (tq : Nat → ByteArray) (vq : Nat → Int) (gq : Nat → Int) (de : Int) (st : Int) (k1 : Int) (k2 : Int) (k3 : Int) => decide (aq + nq ≤ mq ∧ nq ≤ 1000000)) x.1.1.1 x.1.1.2.1 x.1.1.2.2.1 x.1.1.2.2.2.1 x.1.1.2.2.2.2.1 x.1.1.2.2.2.2.2.1 x.1.2.1 x.2.1 x.2.2.1.1 x.2.2.1.2.1 x.2.2.1.2.2.1, fun (x : ((Nat × Nat × Nat × (Nat → ByteArray) × (Nat → Int) × (Nat → Int) × Unit) × Int × Unit) × Int × (Int × Int × Int × Unit) × Unit) => (fun (aq nq mq : Nat) (tq : Nat → ByteArray) (vq : Nat → Int) (gq : Nat → Int) (de : Int) (st : Int) (k1 : Int) (k2 : Int) (k3 : Int) => (V25 aq nq mq tq vq gq de st k1 k2 k3) (S.latS nq (fun j => vq (j + aq)) (fun j => gq (j + aq)) de (S.netE nq (fun j => tq (j + aq)) (fun j => vq (j + aq)) (fun j => gq (j + aq)) de) st k1 k2 k3)) x.1.1.1 x.1.1.2.1 x.1.1.2.2.1 x.1.1.2.2.2.1 x.1.1.2.2.2.2.1 x.1.1.2.2.2.2.2.1 x.1.2.1 x.2.1 x.2.2.1.1 x.2.2.1.2.1 x.2.2.1.2.2.1, fun (x : ((Nat × Nat × Nat × (Nat → ByteArray) × (Nat → Int) × (Nat → Int) × Unit) × Int × Unit) × Int × (Int × Int × Int × Unit) × Unit) => (fun (aq nq mq : Nat) (tq : Nat → ByteArray) (vq : Nat → Int) (gq : Nat → Int) (de : Int) (st : Int) (k1 : Int) (k2 : Int) (k3 : Int) => (N25 aq nq mq tq vq gq de st k1 k2 k3) (S.latS nq (fun j => vq (j + aq)) (fun j => gq (j + aq)) de (S.netE nq (fun j => tq (j + aq)) (fun j => vq (j + aq)) (fun j => gq (j + aq)) de) st k1 k2 k3)) x.1.1.1 x.1.1.2.1 x.1.1.2.2.1 x.1.1.2.2.2.1 x.1.1.2.2.2.2.1 x.1.1.2.2.2.2.2.1 x.1.2.1 x.2.1 x.2.2.1.1 x.2.2.1.2.1 x.2.2.1.2.2.1, fun _ _ => .dead⟩
theorem s25 (aq nq mq : Nat) (tq : Nat → ByteArray) (vq gq : Nat → Int) (de st k1 k2 k3 : Int) (hp : aq + nq ≤ mq ∧ nq ≤ 1000000) : Goes ((q25 aq nq mq tq vq gq de st k1 k2 k3)) ((p25 aq nq mq tq vq gq de st k1 k2 k3)) (S.latS nq (fun j => vq (j + aq)) (fun j => gq (j + aq)) de (S.netE nq (fun j => tq (j + aq)) (fun j => vq (j + aq)) (fun j => gq (j + aq)) de) st k1 k2 k3) := by
  obtain ⟨hp1, hp2⟩ := hp
  have hn : (S.netE nq (fun j => tq (j + aq)) (fun j => vq (j + aq)) (fun j => gq (j + aq)) de) = 0 → nq ≤ 12 := fun h => (net_ok h).1.2
  unfold p25 S.latS
  generalize (S.netE nq (fun j => tq (j + aq)) (fun j => vq (j + aq)) (fun j => gq (j + aq)) de) = e at *
  generalize S.latI nq (fun j => vq (j + aq)) (fun j => gq (j + aq)) de st k1 k2 k3 = LA at *
  generalize S.failE nq k1 k2 k3 = fe at *
  show Goes _ _ _
  repeat' first
    | with_reducible refine goes_if (fun h => ?_) (fun h => ?_) <;> (try simp only [SH] at h)
    | exact goes_none.mpr (by omega)
  all_goals first | (exfalso; omega) | exact goes_inr.mpr rfl | (refine goes_inr.mpr ?_; (repeat' split) <;> first | rfl | (exfalso; omega) | (exfalso; simp_all; done))
theorem k25_ok  : k25.ok Try.prog := by
  intro x hx
  obtain ⟨⟨⟨aq, nq, mq, tq, vq, gq, _⟩, de, _⟩, st, ⟨k1, k2, k3, _⟩, _⟩ := x
  obtain ⟨h1, h2⟩ := a25 aq nq mq tq vq gq de st k1 k2 k3 (s25 aq nq mq tq vq gq de st k1 k2 k3 (of_dec hx rfl))
  exact ⟨⟨400, (by decide : 1 + 1 + 0 ≤ 400), h1⟩, h2⟩
abbrev St24  := Empty
abbrev Rt24  := Bool × Bool × Int
noncomputable def V24 (aq nq mq : Nat) (tq : Nat → ByteArray) (vq gq : Nat → Int) (de : Int) (ao no mo : Nat) (to : Nat → Bool) (k1 k2 k3 : Int) (r : Rt24) : PV := PV.tup [PV.bool r.1, PV.bool r.2.1, PV.int IntKind.i64 r.2.2]
noncomputable def N24 (aq nq mq : Nat) (tq : Nat → ByteArray) (vq gq : Nat → Int) (de : Int) (ao no mo : Nat) (to : Nat → Bool) (k1 k2 k3 : Int) (r : Rt24) : List Blk := []
noncomputable def I24 (aq nq mq : Nat) (tq : Nat → ByteArray) (vq gq : Nat → Int) (de : Int) (ao no mo : Nat) (to : Nat → Bool) (k1 k2 k3 : Int) : St24 → Hd := fun s => s.elim
noncomputable def q24 (aq nq mq : Nat) (tq : Nat → ByteArray) (vq gq : Nat → Int) (de : Int) (ao no mo : Nat) (to : Nat → Bool) (k1 k2 k3 : Int) : St24 → Option (St24 ⊕ Rt24) := fun s => s.elim
noncomputable def p24 (aq nq mq : Nat) (tq : Nat → ByteArray) (vq gq : Nat → Int) (de : Int) (ao no mo : Nat) (to : Nat → Bool) (k1 k2 k3 : Int) : Option (St24 ⊕ Rt24) := bif (decide (aq + nq ≤ mq ∧ nq ≤ 1000000))
 then (bif (S.netE nq (fun j => tq (j + aq)) (fun j => vq (j + aq)) (fun j => gq (j + aq)) de !=
 (0 : Int))
 then (some (.inr (false, false, S.netE nq (fun j => tq (j + aq)) (fun j => vq (j + aq)) (fun j => gq (j + aq)) de)))
 else (bif ((↑no : Int) != (↑nq : Int))
 then (some (.inr (false, false, (6 : Int))))
 else (bif (decide (nq ≤ 100000))
 then (bif (S.failE nq k1 k2 k3 != (0 : Int))
 then (some (.inr (false, false, S.failE nq k1 k2 k3)))
 else (bif (decide (1 ≤ 1 ∧ 1 ≤ 1000000 ∧ ao + no ≤ mo ∧ no ≤ 1000000 ∧ nq ≤ no))
 then (bif (S.opnB (1 : Int) nq (fun j => to (j + ao)) (1) (fun j => S.lit [k1] (0 : Int) j)
 (fun j => S.lit [k2] (0 : Int) j) fun j => S.lit [k3] (0 : Int) j)
 then (bif (S.opnB (2 : Int) nq (fun j => to (j + ao)) (1) (fun j => S.lit [k1] (0 : Int) j)
 (fun j => S.lit [k2] (0 : Int) j) fun j => S.lit [k3] (0 : Int) j)
 then (some (.inr (false, false, (0 : Int))))
 else (some (.inr (false, true, (0 : Int)))))
 else (bif (S.opnB (2 : Int) nq (fun j => to (j + ao)) (1) (fun j => S.lit [k1] (0 : Int) j)
 (fun j => S.lit [k2] (0 : Int) j) fun j => S.lit [k3] (0 : Int) j)
 then (some (.inr (true, false, (0 : Int))))
 else (some (.inr (true, true, (0 : Int))))))
 else (none)))
 else (none))))
 else (none)
noncomputable def Te24 (test : Bool → Prop → Prop → Prop) (Kst : KS) (Kret : KR) (aq nq mq : Nat) (tq : Nat → ByteArray) (vq gq : Nat → Int) (de : Int) (ao no mo : Nat) (to : Nat → Bool) (k1 k2 k3 : Int) : Prop :=
  test (decide (aq + nq ≤ mq ∧ nq ≤ 1000000))
 (test (S.netE nq (fun j => tq (j + aq)) (fun j => vq (j + aq)) (fun j => gq (j + aq)) de !=
 (0 : Int))
 (Kret (PV.tup
 [PV.tf false, PV.tf false,
 PV.int IntKind.i64
 (S.netE nq (fun j => tq (j + aq)) (fun j => vq (j + aq)) (fun j => gq (j + aq)) de)]) ([[(1, false, Blk.cols mo [Col.bool to]),
 (0, false,
 Blk.cols mq [Col.str tq, Col.int IntKind.i64 vq, Col.int IntKind.i64 gq])]]) (5))
 (test ((↑no : Int) != (↑nq : Int))
 (Kret (PV.tup [PV.tf false, PV.tf false, PV.int IntKind.i64 (6 : Int)]) ([[(1, false, Blk.cols mo [Col.bool to]),
 (0, false,
 Blk.cols mq [Col.str tq, Col.int IntKind.i64 vq, Col.int IntKind.i64 gq])]]) (5))
 (test (decide (nq ≤ 100000))
 (test (S.failE nq k1 k2 k3 != (0 : Int))
 (Kret (PV.tup [PV.tf false, PV.tf false, PV.int IntKind.i64 (S.failE nq k1 k2 k3)]) ([[(1, false, Blk.cols mo [Col.bool to]),
 (0, false,
 Blk.cols mq [Col.str tq, Col.int IntKind.i64 vq, Col.int IntKind.i64 gq])]]) (6))
 (test (decide (1 ≤ 1 ∧ 1 ≤ 1000000 ∧ ao + no ≤ mo ∧ no ≤ 1000000 ∧ nq ≤ no))
 (test (S.opnB (1 : Int) nq (fun j => to (j + ao)) (1) (fun j => S.lit [k1] (0 : Int) j)
 (fun j => S.lit [k2] (0 : Int) j) fun j => S.lit [k3] (0 : Int) j)
 (test (decide (1 ≤ 1 ∧ 1 ≤ 1000000 ∧ ao + no ≤ mo ∧ no ≤ 1000000 ∧ nq ≤ no))
 (test (S.opnB (2 : Int) nq (fun j => to (j + ao)) (1) (fun j => S.lit [k1] (0 : Int) j)
 (fun j => S.lit [k2] (0 : Int) j) fun j => S.lit [k3] (0 : Int) j)
 (Kret (PV.tup [PV.tf false, PV.tf false, PV.int IntKind.i64 (0 : Int)]) ([[(1, false, Blk.cols mo [Col.bool to]),
 (0, false,
 Blk.cols mq [Col.str tq, Col.int IntKind.i64 vq, Col.int IntKind.i64 gq])]]) (9))
 (Kret (PV.tup [PV.tf false, PV.tf true, PV.int IntKind.i64 (0 : Int)]) ([[(1, false, Blk.cols mo [Col.bool to]),
 (0, false,
 Blk.cols mq [Col.str tq, Col.int IntKind.i64 vq, Col.int IntKind.i64 gq])]]) (9)))
 (False))
 (test (decide (1 ≤ 1 ∧ 1 ≤ 1000000 ∧ ao + no ≤ mo ∧ no ≤ 1000000 ∧ nq ≤ no))
 (test (S.opnB (2 : Int) nq (fun j => to (j + ao)) (1) (fun j => S.lit [k1] (0 : Int) j)
 (fun j => S.lit [k2] (0 : Int) j) fun j => S.lit [k3] (0 : Int) j)
 (Kret (PV.tup [PV.tf true, PV.tf false, PV.int IntKind.i64 (0 : Int)]) ([[(1, false, Blk.cols mo [Col.bool to]),
 (0, false,
 Blk.cols mq [Col.str tq, Col.int IntKind.i64 vq, Col.int IntKind.i64 gq])]]) (9))
 (Kret (PV.tup [PV.tf true, PV.tf true, PV.int IntKind.i64 (0 : Int)]) ([[(1, false, Blk.cols mo [Col.bool to]),
 (0, false,
 Blk.cols mq [Col.str tq, Col.int IntKind.i64 vq, Col.int IntKind.i64 gq])]]) (9)))
 (False)))
 (False)))
 (False))))
 (False)
theorem te24 (test : Bool → Prop → Prop → Prop) (Kst : KS) (Kret : KR) (aq nq mq : Nat) (tq : Nat → ByteArray) (vq gq : Nat → Int) (de : Int) (ao no mo : Nat) (to : Nat → Bool) (k1 k2 k3 : Int) : run test Try.env true (xZ test) true 400 ⟨24, [.cd (mkFn Try.f24).body], argT 0 [.agg [.loose ⟨0, 3, aq, 0⟩ nq, .int .i64 de], .loose ⟨1, 1, ao, 0⟩ no, .agg [.int .i64 k1, .int .i64 k2, .int .i64 k3]], [[], [(0, (false, .cols mq [.str tq, .int .i64 vq, .int .i64 gq])), (1, (false, .cols mo [.bool to]))]], 2⟩ (proj 2 [] Kst Kret) =
  Te24 test Kst Kret aq nq mq tq vq gq de ao no mo to k1 k2 k3 := by kernel_rfl
theorem be24 (aq nq mq : Nat) (tq : Nat → ByteArray) (vq gq : Nat → Int) (de : Int) (ao no mo : Nat) (to : Nat → Bool) (k1 k2 k3 : Int) (Kst : KS) (Kret : KR) (x : St24 ⊕ Rt24) (hS : HS 2 400 ((I24 aq nq mq tq vq gq de ao no mo to k1 k2 k3)) Kst x) (hR : HR 2 400 ((V24 aq nq mq tq vq gq de ao no mo to k1 k2 k3)) (fun r => [newL (2 + 1) ((N24 aq nq mq tq vq gq de ao no mo to k1 k2 k3) r) ++ [(0, (false, .cols mq [.str tq, .int .i64 vq, .int .i64 gq])), (1, (false, .cols mo [.bool to]))]]) Kret x) (h : p24 aq nq mq tq vq gq de ao no mo to k1 k2 k3 = some x) : Te24 cond Kst Kret aq nq mq tq vq gq de ao no mo to k1 k2 k3 := by
  unfold Te24
  unfold p24 at h
  refine bif_split h
   (fun c0 h => bif_split h
   (fun c1 h => ?_)
   (fun c1 h => bif_split h
   (fun c2 h => ?_)
   (fun c2 h => bif_split h
   (fun c3 h => bif_split h
   (fun c4 h => ?_)
   (fun c4 h => bif_split h
   (fun c5 h => bif_split h
   (fun c6 h => cond_yes c5 (bif_split h
   (fun c7 h => ?_)
   (fun c7 h => ?_)))
   (fun c6 h => cond_yes c5 (bif_split h
   (fun c7 h => ?_)
   (fun c7 h => ?_))))
   (fun c5 h => ?_)))
   (fun c3 h => ?_))))
   (fun c0 h => ?_)
  all_goals first
    | exact ret_at hR _ h (fun n => n) rfl rfl rfl (rn_tup ⟨(rn_bool_tf rfl), (rn_bool_tf rfl), (rn_int rfl), trivial⟩) rfl (entl_bor (use_lo rfl) rfl rfl (entl_bor (use_lo rfl) rfl rfl entl_nil))
    | exact no_some h
theorem a24 (aq nq mq : Nat) (tq : Nat → ByteArray) (vq gq : Nat → Int) (de : Int) (ao no mo : Nat) (to : Nat → Bool) (k1 k2 k3 : Int) {r : Rt24} (h : Goes ((q24 aq nq mq tq vq gq de ao no mo to k1 k2 k3)) ((p24 aq nq mq tq vq gq de ao no mo to k1 k2 k3)) r) : CallR Try.prog 24 [.agg [.loose ⟨0, 3, aq, 0⟩ nq, .int .i64 de], .loose ⟨1, 1, ao, 0⟩ no, .agg [.int .i64 k1, .int .i64 k2, .int .i64 k3]] [[(0, (false, .cols mq [.str tq, .int .i64 vq, .int .i64 gq])), (1, (false, .cols mo [.bool to]))]] 2 ((V24 aq nq mq tq vq gq de ao no mo to k1 k2 k3) r) ((fun r => [newL (2 + 1) ((N24 aq nq mq tq vq gq de ao no mo to k1 k2 k3) r) ++ [(0, (false, .cols mq [.str tq, .int .i64 vq, .int .i64 gq])), (1, (false, .cols mo [.bool to]))]]) r) 400 ∧ ∃ F, Try.prog.funcs[24]? = some F ∧ F.body.isSome = true ∧ (F.name == "runtime.NumGoroutine") = false := by
  refine dec_calls (f := 24) (lo := 2) (hi := 400) (H := [[(0, (false, .cols mq [.str tq, .int .i64 vq, .int .i64 gq])), (1, (false, .cols mo [.bool to]))]]) (args := [.agg [.loose ⟨0, 3, aq, 0⟩ nq, .int .i64 de], .loose ⟨1, 1, ao, 0⟩ no, .agg [.int .i64 k1, .int .i64 k2, .int .i64 k3]]) Try.envOk Try.mixed xZ_ok ((I24 aq nq mq tq vq gq de ao no mo to k1 k2 k3)) ((V24 aq nq mq tq vq gq de ao no mo to k1 k2 k3)) (fun r => [newL (2 + 1) ((N24 aq nq mq tq vq gq de ao no mo to k1 k2 k3) r) ++ [(0, (false, .cols mq [.str tq, .int .i64 vq, .int .i64 gq])), (1, (false, .cols mo [.bool to]))]]) (fn := mkFn Try.f24) (ts := []) (n := 400) rfl (by decide) (by simp) (names_of rfl) ?_ ?_ ?_ h
  · intro s; exact s.elim
  · intro Kst Kret x hS hR h
    exact Holds.eq (te24 cond Kst Kret aq nq mq tq vq gq de ao no mo to k1 k2 k3) (be24 aq nq mq tq vq gq de ao no mo to k1 k2 k3 Kst Kret x hS hR h)
  · intro Kst Kret x hS hR s h; exact s.elim
noncomputable def k24  : Con := ⟨24, [.agg [.list [.str, .int .i64, .int .i64], .plain (.int .i64)], .one (.list [.bool]), .agg [.plain (.int .i64), .plain (.int .i64), .plain (.int .i64)]], fun (x : ((Nat × Nat × Nat × (Nat → ByteArray) × (Nat → Int) × (Nat → Int) × Unit) × Int × Unit) × (Nat × Nat × Nat × (Nat → Bool) × Unit) × (Int × Int × Int × Unit) × Unit) => (fun (aq nq mq : Nat) (tq : Nat → ByteArray) (vq : Nat → Int) (gq : Nat → Int) (de : Int) (ao no mo : Nat) (to : Nat → Bool) (k1 : Int) (k2 : Int) (k3 : Int) => decide (aq + nq ≤ mq ∧ nq ≤ 1000000 ∧ ao + no ≤ mo)) x.1.1.1 x.1.1.2.1 x.1.1.2.2.1 x.1.1.2.2.2.1 x.1.1.2.2.2.2.1 x.1.1.2.2.2.2.2.1 x.1.2.1 x.2.1.1 x.2.1.2.1 x.2.1.2.2.1 x.2.1.2.2.2.1 x.2.2.1.1 x.2.2.1.2.1 x.2.2.1.2.2.1, fun (x : ((Nat × Nat × Nat × (Nat → ByteArray) × (Nat → Int) × (Nat → Int) × Unit) × Int × Unit) × (Nat × Nat × Nat × (Nat → Bool) × Unit) × (Int × Int × Int × Unit) × Unit) => (fun (aq nq mq : Nat) (tq : Nat → ByteArray) (vq : Nat → Int) (gq : Nat → Int) (de : Int) (ao no mo : Nat) (to : Nat → Bool) (k1 : Int) (k2 : Int) (k3 : Int) => (V24 aq nq mq tq vq gq de ao no mo to k1 k2 k3) (S.looS nq no (S.netE nq (fun j => tq (j + aq)) (fun j => vq (j + aq)) (fun j => gq (j + aq)) de) (fun j => to (j + ao)) k1 k2 k3)) x.1.1.1 x.1.1.2.1 x.1.1.2.2.1 x.1.1.2.2.2.1 x.1.1.2.2.2.2.1 x.1.1.2.2.2.2.2.1 x.1.2.1 x.2.1.1 x.2.1.2.1 x.2.1.2.2.1 x.2.1.2.2.2.1 x.2.2.1.1 x.2.2.1.2.1 x.2.2.1.2.2.1, fun (x : ((Nat × Nat × Nat × (Nat → ByteArray) × (Nat → Int) × (Nat → Int) × Unit) × Int × Unit) × (Nat × Nat × Nat × (Nat → Bool) × Unit) × (Int × Int × Int × Unit) × Unit) => (fun (aq nq mq : Nat) (tq : Nat → ByteArray) (vq : Nat → Int) (gq : Nat → Int) (de : Int) (ao no mo : Nat) (to : Nat → Bool) (k1 : Int) (k2 : Int) (k3 : Int) => (N24 aq nq mq tq vq gq de ao no mo to k1 k2 k3) (S.looS nq no (S.netE nq (fun j => tq (j + aq)) (fun j => vq (j + aq)) (fun j => gq (j + aq)) de) (fun j => to (j + ao)) k1 k2 k3)) x.1.1.1 x.1.1.2.1 x.1.1.2.2.1 x.1.1.2.2.2.1 x.1.1.2.2.2.2.1 x.1.1.2.2.2.2.2.1 x.1.2.1 x.2.1.1 x.2.1.2.1 x.2.1.2.2.1 x.2.1.2.2.2.1 x.2.2.1.1 x.2.2.1.2.1 x.2.2.1.2.2.1, fun _ _ => .dead⟩
theorem s24 (aq nq mq : Nat) (tq : Nat → ByteArray) (vq gq : Nat → Int) (de : Int) (ao no mo : Nat) (to : Nat → Bool) (k1 k2 k3 : Int) (hp : aq + nq ≤ mq ∧ nq ≤ 1000000 ∧ ao + no ≤ mo) : Goes ((q24 aq nq mq tq vq gq de ao no mo to k1 k2 k3)) ((p24 aq nq mq tq vq gq de ao no mo to k1 k2 k3)) (S.looS nq no (S.netE nq (fun j => tq (j + aq)) (fun j => vq (j + aq)) (fun j => gq (j + aq)) de) (fun j => to (j + ao)) k1 k2 k3) := by
  obtain ⟨hp1, hp2, hp3⟩ := hp
  have hn : (S.netE nq (fun j => tq (j + aq)) (fun j => vq (j + aq)) (fun j => gq (j + aq)) de) = 0 → nq ≤ 12 := fun h => (net_ok h).1.2
  unfold p24 S.looS
  simp only [op1_eq]
  by_cases hx : no = nq
  · skip
    generalize (S.netE nq (fun j => tq (j + aq)) (fun j => vq (j + aq)) (fun j => gq (j + aq)) de) = e at *
    generalize S.failE nq k1 k2 k3 = fe at *
    generalize S.op1 1 nq (fun j => to (j + ao)) k1 k2 k3 = A at *
    generalize S.op1 2 nq (fun j => to (j + ao)) k1 k2 k3 = B at *
    show Goes _ _ _
    cases A <;> cases B
    all_goals
     repeat' first
      | with_reducible refine goes_if (fun h => ?_) (fun h => ?_) <;> (try simp only [SH] at h)
      | exact goes_none.mpr (by omega)
     all_goals first | (exfalso; omega) | exact goes_inr.mpr rfl | (refine goes_inr.mpr ?_; (repeat' split) <;> first | rfl | (exfalso; omega) | (exfalso; simp_all; done))
  · generalize (S.netE nq (fun j => tq (j + aq)) (fun j => vq (j + aq)) (fun j => gq (j + aq)) de) = e at *
    show Goes _ _ _
    repeat' first
      | with_reducible refine goes_if (fun h => ?_) (fun h => ?_) <;> (try simp only [SH] at h)
      | exact goes_none.mpr (by omega)
    all_goals first | (exfalso; omega) | exact goes_inr.mpr rfl | (refine goes_inr.mpr ?_; (repeat' split) <;> first | rfl | (exfalso; omega) | (exfalso; simp_all; done))
theorem k24_ok  : k24.ok Try.prog := by
  intro x hx
  obtain ⟨⟨⟨aq, nq, mq, tq, vq, gq, _⟩, de, _⟩, ⟨ao, no, mo, to, _⟩, ⟨k1, k2, k3, _⟩, _⟩ := x
  obtain ⟨h1, h2⟩ := a24 aq nq mq tq vq gq de ao no mo to k1 k2 k3 (s24 aq nq mq tq vq gq de ao no mo to k1 k2 k3 (of_dec hx rfl))
  exact ⟨⟨400, (by decide : 2 + 1 + 0 ≤ 400), h1⟩, h2⟩
namespace S
def stE (n no : Nat) (e : Int) (loc : Nat → Bool) (k l p : Int) (la lb : Bool) : Int := if e = 0 then (if no = n then (if failE n k l p = 0 then (if ((op1 1 n loc k l p && !la) || (op1 2 n loc k l p && !lb)) = true then 1 else 0) else failE n k l p) else 6) else e
end S
theorem eqS_iff  {a b : ByteArray} : S.eqS a b = true ↔ a = b := by
  show (a.toList == b.toList) = true ↔ _
  rw [beq_iff_eq, ByteArray.toList_eq, ByteArray.toList_eq]
  constructor
  · intro h; exact ByteArray.ext (Array.toList_inj.mp h)
  · intro h; rw [h]
noncomputable def xD (test : Bool → Prop → Prop → Prop) : Ext := consX test [k45, k23, k24, k55, k53, k19, k20, k54, k57, k59]
theorem xD_ok  : ExtOk Try.prog (xD cond) := consX_ok ⟨k45_ok, k23_ok, k24_ok, k55_ok, k53_ok, k19_ok, k20_ok, k54_ok, k57_ok, k59_ok, trivial⟩
namespace S
def fold  {α : Type} (g : α → Nat → α) : Nat → Nat → α → α
  | _, 0, a => a
  | i, c + 1, a => fold g (i + 1) c (g a i)
abbrev A5  := Int × Int × Int × Int × Int
abbrev P6  := Int × Int × Int × Int × Int × Int
def allF (n : Nat) : List (Int × Int × Int) := (0, 0, 0) :: failL n
def worT (lat : Int → Int → Int → Int → Int) (L : List (Int × Int × Int)) (st : Nat) (a : A5) (j : Nat) : A5 := if a.1 < lat st (at' L j).1 (at' L j).2.1 (at' L j).2.2 then (lat st (at' L j).1 (at' L j).2.1 (at' L j).2.2, (st : Int), (at' L j).1, (at' L j).2.1, (at' L j).2.2) else a
def worS (lat : Int → Int → Int → Int → Int) (L : List (Int × Int × Int)) (n : Nat) : A5 := fold (fun a st => fold (worT lat L st) 0 L.length a) 0 n (-1, 0, 0, 0, 0)
def worE (n : Nat) (e : Int) (v g : Nat → Int) (de : Int) : P6 := if e = 0 then (let a := worS (latI n v g de) (allF n) n; (a.1, a.2.1, a.2.2.1, a.2.2.2.1, a.2.2.2.2, 0)) else (0, 0, 0, 0, 0, e)
end S
theorem all_mkl  {n : Nat} : (S.mkl (1 + (S.failL n).length) fun j => (bif Nat.blt j 1 then (0 : Int) else (S.at' (S.failL n) (j - 1)).1, bif Nat.blt j 1 then (0 : Int) else (S.at' (S.failL n) (j - 1)).2.1, bif Nat.blt j 1 then (0 : Int) else (S.at' (S.failL n) (j - 1)).2.2)) = S.allF n := by
  refine mkl_eq (by show _ = (S.failL n).length + 1; omega) fun j hj => ?_
  cases j with
  | zero => rfl
  | succ j =>
    have : Nat.blt (j + 1) 1 = false := by cases hb : Nat.blt (j + 1) 1; rfl; exact absurd (lt_ok hb) (by omega)
    simp only [this, cond_false, Nat.add_sub_cancel]
    rfl
inductive St17 where
  | h0 (x0 : Int) (x1 : Int) (x2 : Int) (x3 : Int) (x4 : Int) (x5 : Int)
  | h1 (x0 : Int) (x1 : Int) (x2 : Int) (x3 : Int) (x4 : Int) (x5 : Int) (x6 : Int) (x7 : Int) (x8 : List (Int × Int × Int))
abbrev Rt17  := Int × Int × Int × Int × Int × Int
noncomputable def V17 (aq nq mq : Nat) (tq : Nat → ByteArray) (vq gq : Nat → Int) (de : Int) (r : Rt17) : PV := PV.tup
 [PV.int IntKind.i64 r.1, PV.int IntKind.i64 r.2.1,
 PV.agg [PV.int IntKind.i64 r.2.2.1, PV.int IntKind.i64 r.2.2.2.1, PV.int IntKind.i64 r.2.2.2.2.1],
 PV.int IntKind.i64 r.2.2.2.2.2]
noncomputable def N17 (aq nq mq : Nat) (tq : Nat → ByteArray) (vq gq : Nat → Int) (de : Int) (r : Rt17) : List Blk := []
noncomputable def I17 (aq nq mq : Nat) (tq : Nat → ByteArray) (vq gq : Nat → Int) (de : Int) : St17 → Hd
  | .h0 x0 x1 x2 x3 x4 x5 => ⟨hd Try.f17 0, [PV.ptr (PA.mk (1) (0) (0) (0)),
 PV.ptr (PA.mk (2) (0) (0) (0)), PV.int IntKind.i64 x0,
 PV.int IntKind.i64 x1, PV.ptr (PA.mk (3) (0) (0) (0)),
 PV.unk, PV.int IntKind.i64 (↑nq : Int), PV.int IntKind.i64 x2, PV.unk, PV.unk,
 PV.unk], [[(1, (true, Blk.cells [PV.loose (PA.mk (0) (3) aq (0)) nq, PV.int IntKind.i64 de])), (2, (true, Blk.cells
 [PV.int IntKind.i64 (0 : Int), PV.int IntKind.i64 (0 : Int), PV.int IntKind.i64 (0 : Int)])), (3, (true, Blk.cells [PV.int IntKind.i64 x3, PV.int IntKind.i64 x4, PV.int IntKind.i64 x5]))], [(0, (false, .cols mq [.str tq, .int .i64 vq, .int .i64 gq]))]], 4⟩
  | .h1 x0 x1 x2 x3 x4 x5 x6 x7 x8 => ⟨hd Try.f17 1, [PV.ptr (PA.mk (1) (0) (0) (0)),
 PV.ptr (PA.mk (2) (0) (0) (0)), PV.int IntKind.i64 x0,
 PV.int IntKind.i64 x1, PV.ptr (PA.mk (3) (0) (0) (0)),
 PV.int IntKind.i64 x2, PV.int IntKind.i64 (↑nq : Int), PV.int IntKind.i64 x3,
 PV.own (4) (3) (List.length x8),
 PV.int IntKind.i64 (↑(1 + List.length (S.failL nq)) : Int), PV.int IntKind.i64 x4], [[(1, (true, Blk.cells [PV.loose (PA.mk (0) (3) aq (0)) nq, PV.int IntKind.i64 de])), (2, (true, Blk.cells
 [PV.int IntKind.i64 (0 : Int), PV.int IntKind.i64 (0 : Int), PV.int IntKind.i64 (0 : Int)])), (3, (true, Blk.cells [PV.int IntKind.i64 x5, PV.int IntKind.i64 x6, PV.int IntKind.i64 x7])), (4, (true, Blk.cols (List.length x8)
 [Col.int IntKind.i64 fun j => (S.at' x8 j).1,
 Col.int IntKind.i64 fun j => (S.at' x8 j).2.1,
 Col.int IntKind.i64 fun j => (S.at' x8 j).2.2]))], [(0, (false, .cols mq [.str tq, .int .i64 vq, .int .i64 gq]))]], 5⟩
noncomputable def q17 (aq nq mq : Nat) (tq : Nat → ByteArray) (vq gq : Nat → Int) (de : Int) : St17 → Option (St17 ⊕ Rt17)
  | .h0 x0 x1 x2 x3 x4 x5 => bif (decide (x2 < (↑nq : Int)))
 then (bif (decide (nq ≤ 100000))
 then (bif (decide (1 + List.length (S.failL nq) ≤ 1000000))
 then (bif (decide (0 + List.length (S.failL nq) ≤ List.length (S.failL nq)))
 then (some (.inl (.h1 (x0) (x1) (x2) (x2) ((0 : Int)) (x3) (x4) (x5) (S.mkl (1 + List.length (S.failL nq)) fun j =>
 (bif Nat.blt j (1) then (0 : Int) else (S.at' (S.failL nq) (j - 1)).1,
 bif Nat.blt j (1) then (0 : Int) else (S.at' (S.failL nq) (j - 1)).2.1,
 bif Nat.blt j (1) then (0 : Int) else (S.at' (S.failL nq) (j - 1)).2.2)))))
 else (none))
 else (none))
 else (none))
 else (some (.inr (x0, x1, x3, x4, x5, (0 : Int))))
  | .h1 x0 x1 x2 x3 x4 x5 x6 x7 x8 => bif (decide (x4 < (↑(1 + List.length (S.failL nq)) : Int)))
 then (bif (decide ((0 : Int) ≤ x4 ∧ x4 < (↑(List.length x8) : Int)))
 then (bif (decide (Int.toNat x4 < List.length x8))
 then (bif (decide
 (aq + nq ≤ mq ∧
 S.netE nq (fun j => tq (j + aq)) (fun j => vq (j + aq)) (fun j => gq (j + aq)) de =
 (0 : Int) ∧
 (0 : Int) ≤ x2 ∧ x2 < (↑nq : Int)))
 then (bif (decide
 (S.latI nq (fun j => vq (j + aq)) (fun j => gq (j + aq)) de x2
 ((S.at' x8 (Int.toNat x4)).1) ((S.at' x8 (Int.toNat x4)).2.1)
 ((S.at' x8 (Int.toNat x4)).2.2) >
 x0))
 then (bif (lim IntKind.i64 (x4 + (1 : Int)))
 then (some (.inl (.h1 (S.latI nq (fun j => vq (j + aq)) (fun j => gq (j + aq)) de x2
 ((S.at' x8 (Int.toNat x4)).1) ((S.at' x8 (Int.toNat x4)).2.1)
 ((S.at' x8 (Int.toNat x4)).2.2)) (x2) (x2) (x3) (x4 + (1 : Int)) ((S.at' x8 (Int.toNat x4)).1) ((S.at' x8 (Int.toNat x4)).2.1) ((S.at' x8 (Int.toNat x4)).2.2) (x8))))
 else (none))
 else (bif (lim IntKind.i64 (x4 + (1 : Int)))
 then (some (.inl (.h1 (x0) (x1) (x2) (x3) (x4 + (1 : Int)) (x5) (x6) (x7) (x8))))
 else (none)))
 else (none))
 else (none))
 else (none))
 else (bif (lim IntKind.i64 (x3 + (1 : Int)))
 then (some (.inl (.h0 (x0) (x1) (x3 + (1 : Int)) (x5) (x6) (x7))))
 else (none))
noncomputable def p17 (aq nq mq : Nat) (tq : Nat → ByteArray) (vq gq : Nat → Int) (de : Int) : Option (St17 ⊕ Rt17) := bif (decide (aq + nq ≤ mq ∧ nq ≤ 1000000))
 then (bif (S.netE nq (fun j => tq (j + aq)) (fun j => vq (j + aq)) (fun j => gq (j + aq)) de !=
 (0 : Int))
 then (some (.inr ((0 : Int), (0 : Int), (0 : Int), (0 : Int), (0 : Int), S.netE nq (fun j => tq (j + aq)) (fun j => vq (j + aq)) (fun j => gq (j + aq)) de)))
 else (some (.inl (.h0 ((-1 : Int)) ((0 : Int)) ((0 : Int)) ((0 : Int)) ((0 : Int)) ((0 : Int))))))
 else (none)
noncomputable def Te17 (test : Bool → Prop → Prop → Prop) (Kst : KS) (Kret : KR) (aq nq mq : Nat) (tq : Nat → ByteArray) (vq gq : Nat → Int) (de : Int) : Prop :=
  test (decide (aq + nq ≤ mq ∧ nq ≤ 1000000))
 (test (S.netE nq (fun j => tq (j + aq)) (fun j => vq (j + aq)) (fun j => gq (j + aq)) de !=
 (0 : Int))
 (Kret (PV.tup
 [PV.int IntKind.i64 (0 : Int), PV.int IntKind.i64 (0 : Int),
 PV.agg
 [PV.int IntKind.i64 (0 : Int), PV.int IntKind.i64 (0 : Int),
 PV.int IntKind.i64 (0 : Int)],
 PV.int IntKind.i64
 (S.netE nq (fun j => tq (j + aq)) (fun j => vq (j + aq)) (fun j => gq (j + aq)) de)]) ([[(0, false,
 Blk.cols mq [Col.str tq, Col.int IntKind.i64 vq, Col.int IntKind.i64 gq])]]) (4))
 (Kst (hd Try.f17 0) ([PV.ptr (PA.mk (1) (0) (0) (0)),
 PV.ptr (PA.mk (2) (0) (0) (0)), PV.int IntKind.i64 (-1 : Int),
 PV.int IntKind.i64 (0 : Int), PV.ptr (PA.mk (4) (0) (0) (0)),
 PV.unk, PV.int IntKind.i64 (↑nq : Int), PV.int IntKind.i64 (0 : Int), PV.unk,
 PV.unk, PV.unk]) ([[(0, false,
 Blk.cols mq [Col.str tq, Col.int IntKind.i64 vq, Col.int IntKind.i64 gq]),
 (4, true,
 Blk.cells
 [PV.int IntKind.i64 (0 : Int), PV.int IntKind.i64 (0 : Int),
 PV.int IntKind.i64 (0 : Int)]),
 (2, true,
 Blk.cells
 [PV.int IntKind.i64 (0 : Int), PV.int IntKind.i64 (0 : Int),
 PV.int IntKind.i64 (0 : Int)]),
 (1, true,
 Blk.cells
 [PV.loose (PA.mk (0) (3) aq (0)) nq, PV.int IntKind.i64 de])]]) (5)))
 (False)
theorem te17 (test : Bool → Prop → Prop → Prop) (Kst : KS) (Kret : KR) (aq nq mq : Nat) (tq : Nat → ByteArray) (vq gq : Nat → Int) (de : Int) : run test Try.env true (xZ test) true 400 ⟨17, [.cd (mkFn Try.f17).body], argT 0 [.agg [.loose ⟨0, 3, aq, 0⟩ nq, .int .i64 de]], [[], [(0, (false, .cols mq [.str tq, .int .i64 vq, .int .i64 gq]))]], 1⟩ (proj 1 [1, 4, 7, 8, 9, 10, 23, 24, 31, 32, 33] Kst Kret) =
  Te17 test Kst Kret aq nq mq tq vq gq de := by kernel_rfl
noncomputable def T17_0 (test : Bool → Prop → Prop → Prop) (Kst : KS) (Kret : KR) (aq nq mq : Nat) (tq : Nat → ByteArray) (vq gq : Nat → Int) (de x0 x1 x2 x3 x4 x5 : Int) : Prop :=
  test (decide (x2 < (↑nq : Int)))
 (test (decide (nq ≤ 100000))
 (test (decide (1 + List.length (S.failL nq) ≤ 1000000))
 (test (true)
 (test (decide (0 + List.length (S.failL nq) ≤ List.length (S.failL nq)))
 (Kst (hd Try.f17 1) ([PV.ptr (PA.mk (1) (0) (0) (0)),
 PV.ptr (PA.mk (2) (0) (0) (0)), PV.int IntKind.i64 x0,
 PV.int IntKind.i64 x1, PV.ptr (PA.mk (3) (0) (0) (0)),
 PV.int IntKind.i64 x2, PV.int IntKind.i64 (↑nq : Int), PV.int IntKind.i64 x2,
 PV.own (7) (3) (1 + List.length (S.failL nq)),
 PV.int IntKind.i64 (↑(1 + List.length (S.failL nq)) : Int),
 PV.int IntKind.i64 (0 : Int)]) ([[(0, false,
 Blk.cols mq [Col.str tq, Col.int IntKind.i64 vq, Col.int IntKind.i64 gq]),
 (7, true,
 Blk.cols (1 + List.length (S.failL nq))
 [Col.int IntKind.i64 fun j =>
 bif Nat.blt j (1) then (0 : Int) else (S.at' (S.failL nq) (j - 1)).1,
 Col.int IntKind.i64 fun j =>
 bif Nat.blt j (1) then (0 : Int)
 else (S.at' (S.failL nq) (j - 1)).2.1,
 Col.int IntKind.i64 fun j =>
 bif Nat.blt j (1) then (0 : Int)
 else (S.at' (S.failL nq) (j - 1)).2.2]),
 (3, true,
 Blk.cells [PV.int IntKind.i64 x3, PV.int IntKind.i64 x4, PV.int IntKind.i64 x5]),
 (2, true,
 Blk.cells
 [PV.int IntKind.i64 (0 : Int), PV.int IntKind.i64 (0 : Int),
 PV.int IntKind.i64 (0 : Int)]),
 (1, true,
 Blk.cells
 [PV.loose (PA.mk (0) (3) aq (0)) nq, PV.int IntKind.i64 de])]]) (8))
 (False))
 (False))
 (False))
 (False))
 (Kret (PV.tup
 [PV.int IntKind.i64 x0, PV.int IntKind.i64 x1,
 PV.agg [PV.int IntKind.i64 x3, PV.int IntKind.i64 x4, PV.int IntKind.i64 x5],
 PV.int IntKind.i64 (0 : Int)]) ([[(0, false,
 Blk.cols mq [Col.str tq, Col.int IntKind.i64 vq, Col.int IntKind.i64 gq])]]) (4))
theorem t17_0 (test : Bool → Prop → Prop → Prop) (Kst : KS) (Kret : KR) (aq nq mq : Nat) (tq : Nat → ByteArray) (vq gq : Nat → Int) (de x0 x1 x2 x3 x4 x5 : Int) : run test Try.env true (xZ test) true 400 ⟨17, hd Try.f17 0, zipT [1, 4, 7, 8, 9, 10, 23, 24, 31, 32, 33] [PV.ptr (PA.mk (1) (0) (0) (0)),
 PV.ptr (PA.mk (2) (0) (0) (0)), PV.int IntKind.i64 x0,
 PV.int IntKind.i64 x1, PV.ptr (PA.mk (3) (0) (0) (0)),
 PV.unk, PV.int IntKind.i64 (↑nq : Int), PV.int IntKind.i64 x2, PV.unk, PV.unk,
 PV.unk], [[(1, (true, Blk.cells [PV.loose (PA.mk (0) (3) aq (0)) nq, PV.int IntKind.i64 de])), (2, (true, Blk.cells
 [PV.int IntKind.i64 (0 : Int), PV.int IntKind.i64 (0 : Int), PV.int IntKind.i64 (0 : Int)])), (3, (true, Blk.cells [PV.int IntKind.i64 x3, PV.int IntKind.i64 x4, PV.int IntKind.i64 x5]))], [(0, (false, .cols mq [.str tq, .int .i64 vq, .int .i64 gq]))]], 4⟩ (proj 1 [1, 4, 7, 8, 9, 10, 23, 24, 31, 32, 33] Kst Kret) =
  T17_0 test Kst Kret aq nq mq tq vq gq de x0 x1 x2 x3 x4 x5 := by kernel_rfl
noncomputable def T17_1 (test : Bool → Prop → Prop → Prop) (Kst : KS) (Kret : KR) (aq nq mq : Nat) (tq : Nat → ByteArray) (vq gq : Nat → Int) (de x0 x1 x2 x3 x4 x5 x6 x7 : Int) (x8 : List (Int × Int × Int)) : Prop :=
  test (decide (x4 < (↑(1 + List.length (S.failL nq)) : Int)))
 (test (decide ((0 : Int) ≤ x4 ∧ x4 < (↑(List.length x8) : Int)))
 (test (decide (Int.toNat x4 < List.length x8))
 (test (decide (Int.toNat x4 < List.length x8))
 (test (decide (Int.toNat x4 < List.length x8))
 (test (decide
 (aq + nq ≤ mq ∧
 S.netE nq (fun j => tq (j + aq)) (fun j => vq (j + aq)) (fun j => gq (j + aq)) de =
 (0 : Int) ∧
 (0 : Int) ≤ x2 ∧ x2 < (↑nq : Int)))
 (test (decide
 (S.latI nq (fun j => vq (j + aq)) (fun j => gq (j + aq)) de x2
 ((S.at' x8 (Int.toNat x4)).1) ((S.at' x8 (Int.toNat x4)).2.1)
 ((S.at' x8 (Int.toNat x4)).2.2) >
 x0))
 (test (lim IntKind.i64 (x4 + (1 : Int)))
 (Kst (hd Try.f17 1) ([PV.ptr (PA.mk (1) (0) (0) (0)),
 PV.ptr (PA.mk (2) (0) (0) (0)),
 PV.int IntKind.i64
 (S.latI nq (fun j => vq (j + aq)) (fun j => gq (j + aq)) de x2
 ((S.at' x8 (Int.toNat x4)).1) ((S.at' x8 (Int.toNat x4)).2.1)
 ((S.at' x8 (Int.toNat x4)).2.2)),
 PV.int IntKind.i64 x2, PV.ptr (PA.mk (3) (0) (0) (0)),
 PV.int IntKind.i64 x2, PV.int IntKind.i64 (↑nq : Int), PV.int IntKind.i64 x3,
 PV.own (4) (3) (List.length x8),
 PV.int IntKind.i64 (↑(1 + List.length (S.failL nq)) : Int),
 PV.int IntKind.i64 (x4 + (1 : Int))]) ([[(0, false,
 Blk.cols mq [Col.str tq, Col.int IntKind.i64 vq, Col.int IntKind.i64 gq]),
 (4, true,
 Blk.cols (List.length x8)
 [Col.int IntKind.i64 fun j => (S.at' x8 j).1,
 Col.int IntKind.i64 fun j => (S.at' x8 j).2.1,
 Col.int IntKind.i64 fun j => (S.at' x8 j).2.2]),
 (3, true,
 Blk.cells
 [PV.int IntKind.i64 ((S.at' x8 (Int.toNat x4)).1),
 PV.int IntKind.i64 ((S.at' x8 (Int.toNat x4)).2.1),
 PV.int IntKind.i64 ((S.at' x8 (Int.toNat x4)).2.2)]),
 (2, true,
 Blk.cells
 [PV.int IntKind.i64 (0 : Int), PV.int IntKind.i64 (0 : Int),
 PV.int IntKind.i64 (0 : Int)]),
 (1, true,
 Blk.cells
 [PV.loose (PA.mk (0) (3) aq (0)) nq, PV.int IntKind.i64 de])]]) (7))
 (False))
 (test (lim IntKind.i64 (x4 + (1 : Int)))
 (Kst (hd Try.f17 1) ([PV.ptr (PA.mk (1) (0) (0) (0)),
 PV.ptr (PA.mk (2) (0) (0) (0)), PV.int IntKind.i64 x0,
 PV.int IntKind.i64 x1, PV.ptr (PA.mk (3) (0) (0) (0)),
 PV.int IntKind.i64 x2, PV.int IntKind.i64 (↑nq : Int), PV.int IntKind.i64 x3,
 PV.own (4) (3) (List.length x8),
 PV.int IntKind.i64 (↑(1 + List.length (S.failL nq)) : Int),
 PV.int IntKind.i64 (x4 + (1 : Int))]) ([[(0, false,
 Blk.cols mq [Col.str tq, Col.int IntKind.i64 vq, Col.int IntKind.i64 gq]),
 (4, true,
 Blk.cols (List.length x8)
 [Col.int IntKind.i64 fun j => (S.at' x8 j).1,
 Col.int IntKind.i64 fun j => (S.at' x8 j).2.1,
 Col.int IntKind.i64 fun j => (S.at' x8 j).2.2]),
 (3, true,
 Blk.cells [PV.int IntKind.i64 x5, PV.int IntKind.i64 x6, PV.int IntKind.i64 x7]),
 (2, true,
 Blk.cells
 [PV.int IntKind.i64 (0 : Int), PV.int IntKind.i64 (0 : Int),
 PV.int IntKind.i64 (0 : Int)]),
 (1, true,
 Blk.cells
 [PV.loose (PA.mk (0) (3) aq (0)) nq, PV.int IntKind.i64 de])]]) (7))
 (False)))
 (False))
 (False))
 (False))
 (False))
 (False))
 (test (lim IntKind.i64 (x3 + (1 : Int)))
 (Kst (hd Try.f17 0) ([PV.ptr (PA.mk (1) (0) (0) (0)),
 PV.ptr (PA.mk (2) (0) (0) (0)), PV.int IntKind.i64 x0,
 PV.int IntKind.i64 x1, PV.ptr (PA.mk (3) (0) (0) (0)),
 PV.int IntKind.i64 x2, PV.int IntKind.i64 (↑nq : Int), PV.int IntKind.i64 (x3 + (1 : Int)),
 PV.own (4) (3) (List.length x8),
 PV.int IntKind.i64 (↑(1 + List.length (S.failL nq)) : Int), PV.int IntKind.i64 x4]) ([[(0, false,
 Blk.cols mq [Col.str tq, Col.int IntKind.i64 vq, Col.int IntKind.i64 gq]),
 (4, true,
 Blk.cols (List.length x8)
 [Col.int IntKind.i64 fun j => (S.at' x8 j).1,
 Col.int IntKind.i64 fun j => (S.at' x8 j).2.1,
 Col.int IntKind.i64 fun j => (S.at' x8 j).2.2]),
 (3, true,
 Blk.cells [PV.int IntKind.i64 x5, PV.int IntKind.i64 x6, PV.int IntKind.i64 x7]),
 (2, true,
 Blk.cells
 [PV.int IntKind.i64 (0 : Int), PV.int IntKind.i64 (0 : Int),
 PV.int IntKind.i64 (0 : Int)]),
 (1, true,
 Blk.cells
 [PV.loose (PA.mk (0) (3) aq (0)) nq, PV.int IntKind.i64 de])]]) (5))
 (False))
theorem t17_1 (test : Bool → Prop → Prop → Prop) (Kst : KS) (Kret : KR) (aq nq mq : Nat) (tq : Nat → ByteArray) (vq gq : Nat → Int) (de x0 x1 x2 x3 x4 x5 x6 x7 : Int) (x8 : List (Int × Int × Int)) : run test Try.env true (xZ test) true 400 ⟨17, hd Try.f17 1, zipT [1, 4, 7, 8, 9, 10, 23, 24, 31, 32, 33] [PV.ptr (PA.mk (1) (0) (0) (0)),
 PV.ptr (PA.mk (2) (0) (0) (0)), PV.int IntKind.i64 x0,
 PV.int IntKind.i64 x1, PV.ptr (PA.mk (3) (0) (0) (0)),
 PV.int IntKind.i64 x2, PV.int IntKind.i64 (↑nq : Int), PV.int IntKind.i64 x3,
 PV.own (4) (3) (List.length x8),
 PV.int IntKind.i64 (↑(1 + List.length (S.failL nq)) : Int), PV.int IntKind.i64 x4], [[(1, (true, Blk.cells [PV.loose (PA.mk (0) (3) aq (0)) nq, PV.int IntKind.i64 de])), (2, (true, Blk.cells
 [PV.int IntKind.i64 (0 : Int), PV.int IntKind.i64 (0 : Int), PV.int IntKind.i64 (0 : Int)])), (3, (true, Blk.cells [PV.int IntKind.i64 x5, PV.int IntKind.i64 x6, PV.int IntKind.i64 x7])), (4, (true, Blk.cols (List.length x8)
 [Col.int IntKind.i64 fun j => (S.at' x8 j).1,
 Col.int IntKind.i64 fun j => (S.at' x8 j).2.1,
 Col.int IntKind.i64 fun j => (S.at' x8 j).2.2]))], [(0, (false, .cols mq [.str tq, .int .i64 vq, .int .i64 gq]))]], 5⟩ (proj 1 [1, 4, 7, 8, 9, 10, 23, 24, 31, 32, 33] Kst Kret) =
  T17_1 test Kst Kret aq nq mq tq vq gq de x0 x1 x2 x3 x4 x5 x6 x7 x8 := by kernel_rfl
theorem be17 (aq nq mq : Nat) (tq : Nat → ByteArray) (vq gq : Nat → Int) (de : Int) (Kst : KS) (Kret : KR) (x : St17 ⊕ Rt17) (hS : HS 1 400 ((I17 aq nq mq tq vq gq de)) Kst x) (hR : HR 1 400 ((V17 aq nq mq tq vq gq de)) (fun r => [newL (1 + 1) ((N17 aq nq mq tq vq gq de) r) ++ [(0, (false, .cols mq [.str tq, .int .i64 vq, .int .i64 gq]))]]) Kret x) (h : p17 aq nq mq tq vq gq de = some x) : Te17 cond Kst Kret aq nq mq tq vq gq de := by
  unfold Te17
  unfold p17 at h
  refine bif_split h
   (fun c0 h => bif_split h
   (fun c1 h => ret_at hR _ h (fun n => n) rfl rfl rfl (rn_tup ⟨(rn_int rfl), (rn_int rfl), (rn_agg ⟨(rn_int rfl), (rn_int rfl), (rn_int rfl), trivial⟩), (rn_int rfl), trivial⟩) rfl (entl_bor (use_lo rfl) rfl rfl entl_nil))
   (fun c1 h => stop_at hS _ h (fun n => bif Nat.beq n 1 then 1 else bif Nat.beq n 2 then 2 else bif Nat.beq n 3 then 4 else n) rfl rfl rfl ⟨(rn_ptr (use_own rfl) rfl rfl), ⟨(rn_ptr (use_own rfl) rfl rfl), ⟨(rn_int rfl), ⟨(rn_int rfl), ⟨(rn_ptr (use_own rfl) rfl rfl), ⟨(rn_unk _), ⟨(rn_int rfl), ⟨(rn_int rfl), ⟨(rn_unk _), ⟨(rn_unk _), ⟨(rn_unk _), trivial⟩⟩⟩⟩⟩⟩⟩⟩⟩⟩⟩ rfl (entl_b (use_own rfl) rfl (by simp) (rb_cells ⟨(rn_loose (use_lo rfl) rfl rfl rfl), (rn_int rfl), trivial⟩) (entl_b (use_own rfl) rfl (by simp) (rb_cells ⟨(rn_int rfl), (rn_int rfl), (rn_int rfl), trivial⟩) (entl_b (use_own rfl) rfl (by simp) (rb_cells ⟨(rn_int rfl), (rn_int rfl), (rn_int rfl), trivial⟩) (entl_bor (use_lo rfl) rfl rfl entl_nil))))))
   (fun c0 h => no_some h)
theorem b17_0 (aq nq mq : Nat) (tq : Nat → ByteArray) (vq gq : Nat → Int) (de : Int) (Kst : KS) (Kret : KR) (x : St17 ⊕ Rt17) (hS : HS 1 400 ((I17 aq nq mq tq vq gq de)) Kst x) (hR : HR 1 400 ((V17 aq nq mq tq vq gq de)) (fun r => [newL (1 + 1) ((N17 aq nq mq tq vq gq de) r) ++ [(0, (false, .cols mq [.str tq, .int .i64 vq, .int .i64 gq]))]]) Kret x) (x0 x1 x2 x3 x4 x5 : Int) (h : (bif (decide (x2 < (↑nq : Int)))
 then (bif (decide (nq ≤ 100000))
 then (bif (decide (1 + List.length (S.failL nq) ≤ 1000000))
 then (bif (decide (0 + List.length (S.failL nq) ≤ List.length (S.failL nq)))
 then (some (.inl (.h1 (x0) (x1) (x2) (x2) ((0 : Int)) (x3) (x4) (x5) (S.mkl (1 + List.length (S.failL nq)) fun j =>
 (bif Nat.blt j (1) then (0 : Int) else (S.at' (S.failL nq) (j - 1)).1,
 bif Nat.blt j (1) then (0 : Int) else (S.at' (S.failL nq) (j - 1)).2.1,
 bif Nat.blt j (1) then (0 : Int) else (S.at' (S.failL nq) (j - 1)).2.2)))))
 else (none))
 else (none))
 else (none))
 else (some (.inr (x0, x1, x3, x4, x5, (0 : Int)))) : Option (St17 ⊕ Rt17)) = some x) : T17_0 cond Kst Kret aq nq mq tq vq gq de x0 x1 x2 x3 x4 x5 := by
  unfold T17_0
  exact bif_split h
   (fun c0 h => bif_split h
   (fun c1 h => bif_split h
   (fun c2 h => cond_yes rfl (bif_split h
   (fun c3 h => stop_at hS _ h (fun n => bif Nat.beq n 1 then 1 else bif Nat.beq n 2 then 2 else bif Nat.beq n 3 then 3 else bif Nat.beq n 4 then 7 else n) rfl rfl rfl ⟨(rn_ptr (use_own rfl) rfl rfl), ⟨(rn_ptr (use_own rfl) rfl rfl), ⟨(rn_int rfl), ⟨(rn_int rfl), ⟨(rn_ptr (use_own rfl) rfl rfl), ⟨(rn_int rfl), ⟨(rn_int rfl), ⟨(rn_int rfl), ⟨(rn_own (use_own rfl) rfl mkl_len), ⟨(rn_int rfl), ⟨(rn_int rfl), trivial⟩⟩⟩⟩⟩⟩⟩⟩⟩⟩⟩ rfl (entl_b (use_own rfl) rfl (by simp) (rb_cells ⟨(rn_loose (use_lo rfl) rfl rfl rfl), (rn_int rfl), trivial⟩) (entl_b (use_own rfl) rfl (by simp) (rb_cells ⟨(rn_int rfl), (rn_int rfl), (rn_int rfl), trivial⟩) (entl_b (use_own rfl) rfl (by simp) (rb_cells ⟨(rn_int rfl), (rn_int rfl), (rn_int rfl), trivial⟩) (entl_new (use_own rfl) rfl (Nat.le_of_eq mkl_len) (rcs_int (fun _ hj => col_mkl (fun (t : Int × Int × Int) => t.1) hj) (rcs_int (fun _ hj => col_mkl (fun (t : Int × Int × Int) => t.2.1) hj) (rcs_int (fun _ hj => col_mkl (fun (t : Int × Int × Int) => t.2.2) hj) rcs_nil))) (entl_bor (use_lo rfl) rfl rfl entl_nil))))))
   (fun c3 h => no_some h)))
   (fun c2 h => no_some h))
   (fun c1 h => no_some h))
   (fun c0 h => ret_at hR _ h (fun n => n) rfl rfl rfl (rn_tup ⟨(rn_int rfl), (rn_int rfl), (rn_agg ⟨(rn_int rfl), (rn_int rfl), (rn_int rfl), trivial⟩), (rn_int rfl), trivial⟩) rfl (entl_bor (use_lo rfl) rfl rfl entl_nil))
theorem b17_1 (aq nq mq : Nat) (tq : Nat → ByteArray) (vq gq : Nat → Int) (de : Int) (Kst : KS) (Kret : KR) (x : St17 ⊕ Rt17) (hS : HS 1 400 ((I17 aq nq mq tq vq gq de)) Kst x) (hR : HR 1 400 ((V17 aq nq mq tq vq gq de)) (fun r => [newL (1 + 1) ((N17 aq nq mq tq vq gq de) r) ++ [(0, (false, .cols mq [.str tq, .int .i64 vq, .int .i64 gq]))]]) Kret x) (x0 x1 x2 x3 x4 x5 x6 x7 : Int) (x8 : List (Int × Int × Int)) (h : (bif (decide (x4 < (↑(1 + List.length (S.failL nq)) : Int)))
 then (bif (decide ((0 : Int) ≤ x4 ∧ x4 < (↑(List.length x8) : Int)))
 then (bif (decide (Int.toNat x4 < List.length x8))
 then (bif (decide
 (aq + nq ≤ mq ∧
 S.netE nq (fun j => tq (j + aq)) (fun j => vq (j + aq)) (fun j => gq (j + aq)) de =
 (0 : Int) ∧
 (0 : Int) ≤ x2 ∧ x2 < (↑nq : Int)))
 then (bif (decide
 (S.latI nq (fun j => vq (j + aq)) (fun j => gq (j + aq)) de x2
 ((S.at' x8 (Int.toNat x4)).1) ((S.at' x8 (Int.toNat x4)).2.1)
 ((S.at' x8 (Int.toNat x4)).2.2) >
 x0))
 then (bif (lim IntKind.i64 (x4 + (1 : Int)))
 then (some (.inl (.h1 (S.latI nq (fun j => vq (j + aq)) (fun j => gq (j + aq)) de x2
 ((S.at' x8 (Int.toNat x4)).1) ((S.at' x8 (Int.toNat x4)).2.1)
 ((S.at' x8 (Int.toNat x4)).2.2)) (x2) (x2) (x3) (x4 + (1 : Int)) ((S.at' x8 (Int.toNat x4)).1) ((S.at' x8 (Int.toNat x4)).2.1) ((S.at' x8 (Int.toNat x4)).2.2) (x8))))
 else (none))
 else (bif (lim IntKind.i64 (x4 + (1 : Int)))
 then (some (.inl (.h1 (x0) (x1) (x2) (x3) (x4 + (1 : Int)) (x5) (x6) (x7) (x8))))
 else (none)))
 else (none))
 else (none))
 else (none))
 else (bif (lim IntKind.i64 (x3 + (1 : Int)))
 then (some (.inl (.h0 (x0) (x1) (x3 + (1 : Int)) (x5) (x6) (x7))))
 else (none)) : Option (St17 ⊕ Rt17)) = some x) : T17_1 cond Kst Kret aq nq mq tq vq gq de x0 x1 x2 x3 x4 x5 x6 x7 x8 := by
  unfold T17_1
  refine bif_split h
   (fun c0 h => bif_split h
   (fun c1 h => bif_split h
   (fun c2 h => cond_yes c2 (cond_yes c2 (bif_split h
   (fun c3 h => bif_split h
   (fun c4 h => bif_split h
   (fun c5 h => ?_)
   (fun c5 h => ?_))
   (fun c4 h => bif_split h
   (fun c5 h => ?_)
   (fun c5 h => ?_)))
   (fun c3 h => ?_))))
   (fun c2 h => ?_))
   (fun c1 h => ?_))
   (fun c0 h => bif_split h
   (fun c1 h => stop_at hS _ h (fun n => bif Nat.beq n 1 then 1 else bif Nat.beq n 2 then 2 else bif Nat.beq n 3 then 3 else n) rfl rfl rfl ⟨(rn_ptr (use_own rfl) rfl rfl), ⟨(rn_ptr (use_own rfl) rfl rfl), ⟨(rn_int rfl), ⟨(rn_int rfl), ⟨(rn_ptr (use_own rfl) rfl rfl), ⟨(rn_unk _), ⟨(rn_int rfl), ⟨(rn_int rfl), ⟨(rn_unk _), ⟨(rn_unk _), ⟨(rn_unk _), trivial⟩⟩⟩⟩⟩⟩⟩⟩⟩⟩⟩ rfl (entl_b (use_own rfl) rfl (by simp) (rb_cells ⟨(rn_loose (use_lo rfl) rfl rfl rfl), (rn_int rfl), trivial⟩) (entl_b (use_own rfl) rfl (by simp) (rb_cells ⟨(rn_int rfl), (rn_int rfl), (rn_int rfl), trivial⟩) (entl_b (use_own rfl) rfl (by simp) (rb_cells ⟨(rn_int rfl), (rn_int rfl), (rn_int rfl), trivial⟩) (entl_bor (use_lo rfl) rfl rfl entl_nil)))))
   (fun c1 h => ?_))
  all_goals first
    | exact no_some h
    | exact stop_at hS _ h (fun n => bif Nat.beq n 1 then 1 else bif Nat.beq n 2 then 2 else bif Nat.beq n 3 then 3 else bif Nat.beq n 4 then 4 else n) rfl rfl rfl ⟨(rn_ptr (use_own rfl) rfl rfl), ⟨(rn_ptr (use_own rfl) rfl rfl), ⟨(rn_int rfl), ⟨(rn_int rfl), ⟨(rn_ptr (use_own rfl) rfl rfl), ⟨(rn_int rfl), ⟨(rn_int rfl), ⟨(rn_int rfl), ⟨(rn_own (use_own rfl) rfl rfl), ⟨(rn_int rfl), ⟨(rn_int rfl), trivial⟩⟩⟩⟩⟩⟩⟩⟩⟩⟩⟩ rfl (entl_b (use_own rfl) rfl (by simp) (rb_cells ⟨(rn_loose (use_lo rfl) rfl rfl rfl), (rn_int rfl), trivial⟩) (entl_b (use_own rfl) rfl (by simp) (rb_cells ⟨(rn_int rfl), (rn_int rfl), (rn_int rfl), trivial⟩) (entl_b (use_own rfl) rfl (by simp) (rb_cells ⟨(rn_int rfl), (rn_int rfl), (rn_int rfl), trivial⟩) (entl_new (use_own rfl) rfl (Nat.le_of_eq rfl) (rcs_int (fun _ _ => rfl) (rcs_int (fun _ _ => rfl) (rcs_int (fun _ _ => rfl) rcs_nil))) (entl_bor (use_lo rfl) rfl rfl entl_nil)))))
theorem a17 (aq nq mq : Nat) (tq : Nat → ByteArray) (vq gq : Nat → Int) (de : Int) {r : Rt17} (h : Goes ((q17 aq nq mq tq vq gq de)) ((p17 aq nq mq tq vq gq de)) r) : CallR Try.prog 17 [.agg [.loose ⟨0, 3, aq, 0⟩ nq, .int .i64 de]] [[(0, (false, .cols mq [.str tq, .int .i64 vq, .int .i64 gq]))]] 1 ((V17 aq nq mq tq vq gq de) r) ((fun r => [newL (1 + 1) ((N17 aq nq mq tq vq gq de) r) ++ [(0, (false, .cols mq [.str tq, .int .i64 vq, .int .i64 gq]))]]) r) 400 ∧ ∃ F, Try.prog.funcs[17]? = some F ∧ F.body.isSome = true ∧ (F.name == "runtime.NumGoroutine") = false := by
  refine dec_calls (f := 17) (lo := 1) (hi := 400) (H := [[(0, (false, .cols mq [.str tq, .int .i64 vq, .int .i64 gq]))]]) (args := [.agg [.loose ⟨0, 3, aq, 0⟩ nq, .int .i64 de]]) Try.envOk Try.mixed xZ_ok ((I17 aq nq mq tq vq gq de)) ((V17 aq nq mq tq vq gq de)) (fun r => [newL (1 + 1) ((N17 aq nq mq tq vq gq de) r) ++ [(0, (false, .cols mq [.str tq, .int .i64 vq, .int .i64 gq]))]]) (fn := mkFn Try.f17) (ts := [1, 4, 7, 8, 9, 10, 23, 24, 31, 32, 33]) (n := 400) rfl (by decide) (by simp) (names_of rfl) ?_ ?_ ?_ h
  · intro s; cases s <;> exact ⟨hd_ok _ _, by simp [I17], names_of rfl, Nat.le_of_ble_eq_true rfl⟩
  · intro Kst Kret x hS hR h
    exact Holds.eq (te17 cond Kst Kret aq nq mq tq vq gq de) (be17 aq nq mq tq vq gq de Kst Kret x hS hR h)
  · intro Kst Kret x hS hR s h
    cases s with
    | h0 x0 x1 x2 x3 x4 x5 => exact Holds.eq (t17_0 cond Kst Kret aq nq mq tq vq gq de x0 x1 x2 x3 x4 x5) (b17_0 aq nq mq tq vq gq de Kst Kret x hS hR x0 x1 x2 x3 x4 x5 h)
    | h1 x0 x1 x2 x3 x4 x5 x6 x7 x8 => exact Holds.eq (t17_1 cond Kst Kret aq nq mq tq vq gq de x0 x1 x2 x3 x4 x5 x6 x7 x8) (b17_1 aq nq mq tq vq gq de Kst Kret x hS hR x0 x1 x2 x3 x4 x5 x6 x7 x8 h)
noncomputable def k17  : Con := ⟨17, [.agg [.list [.str, .int .i64, .int .i64], .plain (.int .i64)]], fun (x : ((Nat × Nat × Nat × (Nat → ByteArray) × (Nat → Int) × (Nat → Int) × Unit) × Int × Unit) × Unit) => (fun (aq nq mq : Nat) (tq : Nat → ByteArray) (vq : Nat → Int) (gq : Nat → Int) (de : Int) => decide (aq + nq ≤ mq ∧ nq ≤ 1000000)) x.1.1.1 x.1.1.2.1 x.1.1.2.2.1 x.1.1.2.2.2.1 x.1.1.2.2.2.2.1 x.1.1.2.2.2.2.2.1 x.1.2.1, fun (x : ((Nat × Nat × Nat × (Nat → ByteArray) × (Nat → Int) × (Nat → Int) × Unit) × Int × Unit) × Unit) => (fun (aq nq mq : Nat) (tq : Nat → ByteArray) (vq : Nat → Int) (gq : Nat → Int) (de : Int) => (V17 aq nq mq tq vq gq de) (S.worE nq (S.netE nq (fun j => tq (j + aq)) (fun j => vq (j + aq)) (fun j => gq (j + aq)) de) (fun j => vq (j + aq)) (fun j => gq (j + aq)) de)) x.1.1.1 x.1.1.2.1 x.1.1.2.2.1 x.1.1.2.2.2.1 x.1.1.2.2.2.2.1 x.1.1.2.2.2.2.2.1 x.1.2.1, fun (x : ((Nat × Nat × Nat × (Nat → ByteArray) × (Nat → Int) × (Nat → Int) × Unit) × Int × Unit) × Unit) => (fun (aq nq mq : Nat) (tq : Nat → ByteArray) (vq : Nat → Int) (gq : Nat → Int) (de : Int) => (N17 aq nq mq tq vq gq de) (S.worE nq (S.netE nq (fun j => tq (j + aq)) (fun j => vq (j + aq)) (fun j => gq (j + aq)) de) (fun j => vq (j + aq)) (fun j => gq (j + aq)) de)) x.1.1.1 x.1.1.2.1 x.1.1.2.2.1 x.1.1.2.2.2.1 x.1.1.2.2.2.2.1 x.1.1.2.2.2.2.2.1 x.1.2.1, fun _ _ => .dead⟩
theorem s17i (aq nq mq : Nat) (tq : Nat → ByteArray) (vq gq : Nat → Int) (de : Int) (hp : aq + nq ≤ mq ∧ nq ≤ 1000000) (hv : (S.netE nq (fun j => tq (j + aq)) (fun j => vq (j + aq)) (fun j => gq (j + aq)) de) = 0) (i : Nat) (hi : i < nq) (R : Rt17) (L : List (Int × Int × Int)) (hL : Holds (L = S.allF nq)) : ∀ (c j : Nat) (a : S.A5), j + c = L.length → Comes (q17 aq nq mq tq vq gq de) (match S.fold (S.worT (S.latI nq (fun j => vq (j + aq)) (fun j => gq (j + aq)) de) L i) j c a with | (be, at', k, l, p) => .h0 be at' ((i + 1 : Nat) : Int) k l p) R → Comes (q17 aq nq mq tq vq gq de) (match a with | (be, at', k, l, p) => .h1 be at' (i : Int) (i : Int) (j : Int) k l p L) R := by
  obtain ⟨hp1, hp2⟩ := hp
  obtain ⟨v1, v2, v3⟩ := net_ok hv
  have hl : L.length = 5 * nq + 3 := by rw [hL.get]; show (S.failL nq).length + 1 = _; rw [fail_len]
  have hf := fail_len (n := nq)
  intro c
  induction c with
  | zero =>
    rintro j ⟨be, ba, k, l, p⟩ hj hm
    have hm : Comes (q17 aq nq mq tq vq gq de) (.h0 be ba (((i + 1 : Nat)) : Int) k l p) R := hm
    rw [Int.natCast_add, Int.natCast_one] at hm
    apply Comes.of
    show Goes _ _ _
    (first | rw [q17] | unfold q17)
    repeat' first
      | with_reducible refine goes_if (fun h => ?_) (fun h => ?_) <;> (try simp only [SH] at h)
      | exact goes_none.mpr (by omega)
    all_goals first | (exfalso; omega) | exact hm
  | succ c ih =>
    rintro j ⟨be, ba, k, l, p⟩ hj hm
    have hm : Comes (q17 aq nq mq tq vq gq de) _ R := hm
    have ih := ih (j + 1) (S.worT (S.latI nq (fun j => vq (j + aq)) (fun j => gq (j + aq)) de) L i (be, ba, k, l, p) j) (by omega) hm
    clear hm
    unfold S.worT at ih
    dsimp only at ih
    obtain ⟨xk, xl, xp, hx⟩ : ∃ xk xl xp, S.at' L j = (xk, xl, xp) := ⟨_, _, _, rfl⟩
    rw [hx] at ih
    dsimp only at ih
    by_cases hlt : be < S.latI nq (fun j => vq (j + aq)) (fun j => gq (j + aq)) de (i : Int) xk xl xp
    · rw [if_pos hlt] at ih
      have ih : Comes (q17 aq nq mq tq vq gq de) (.h1 (S.latI nq (fun j => vq (j + aq)) (fun j => gq (j + aq)) de (i : Int) xk xl xp) (i : Int) (i : Int) (i : Int) (((j + 1 : Nat)) : Int) xk xl xp L) R := ih
      apply Comes.of
      show Goes _ _ _
      rw [q17]
      simp only [Int.toNat_natCast, hv, eq_self, true_and]
      simp only [hx]
      generalize S.latI nq (fun j => vq (j + aq)) (fun j => gq (j + aq)) de (i : Int) xk xl xp = la at *
      show Goes _ _ _
      repeat' first
        | with_reducible refine goes_if (fun h => ?_) (fun h => ?_) <;> (try simp only [SH] at h)
        | exact goes_none.mpr (by omega)
      all_goals first | (exfalso; omega) | exact ih
    · rw [if_neg hlt] at ih
      have ih : Comes (q17 aq nq mq tq vq gq de) (.h1 be ba (i : Int) (i : Int) (((j + 1 : Nat)) : Int) k l p L) R := ih
      apply Comes.of
      show Goes _ _ _
      rw [q17]
      simp only [Int.toNat_natCast, hv, eq_self, true_and]
      simp only [hx]
      generalize S.latI nq (fun j => vq (j + aq)) (fun j => gq (j + aq)) de (i : Int) xk xl xp = la at *
      show Goes _ _ _
      repeat' first
        | with_reducible refine goes_if (fun h => ?_) (fun h => ?_) <;> (try simp only [SH] at h)
        | exact goes_none.mpr (by omega)
      all_goals first | (exfalso; omega) | exact ih
theorem s17' (aq nq mq : Nat) (tq : Nat → ByteArray) (vq gq : Nat → Int) (de : Int) (hp : aq + nq ≤ mq ∧ nq ≤ 1000000) (hv : (S.netE nq (fun j => tq (j + aq)) (fun j => vq (j + aq)) (fun j => gq (j + aq)) de) = 0) : ∀ (c i : Nat) (a : S.A5), i + c = nq → Comes (q17 aq nq mq tq vq gq de) (match a with | (be, at', k, l, p) => .h0 be at' (i : Int) k l p) (match S.fold (fun a st => S.fold (S.worT (S.latI nq (fun j => vq (j + aq)) (fun j => gq (j + aq)) de) (S.allF nq) st) 0 (S.allF nq).length a) i c a with | (be, at', k, l, p) => (be, at', k, l, p, 0)) := by
  have hf := fail_len (n := nq)
  intro c
  induction c with
  | zero =>
    rintro i ⟨be, ba, k, l, p⟩ hi
    show Comes (q17 aq nq mq tq vq gq de) (.h0 be ba (i : Int) k l p) (be, ba, k, l, p, 0)
    apply Comes.of
    show Goes _ _ _
    (first | rw [q17] | unfold q17)
    repeat' first
      | with_reducible refine goes_if (fun h => ?_) (fun h => ?_) <;> (try simp only [SH] at h)
      | exact goes_none.mpr (by omega)
    all_goals first | (exfalso; omega) | exact goes_inr.mpr rfl
  | succ c ih =>
    rintro i ⟨be, ba, k, l, p⟩ hi
    have hm := s17i aq nq mq tq vq gq de hp hv i (by omega) _ (S.allF nq) ⟨rfl⟩ (S.allF nq).length 0 (be, ba, k, l, p) (Nat.zero_add _) (ih (i + 1) _ (by omega))
    obtain ⟨v1, v2, v3⟩ := net_ok hv
    obtain ⟨hp1, hp2⟩ := hp
    have hm : Comes (q17 aq nq mq tq vq gq de) (.h1 be ba (i : Int) (i : Int) 0 k l p (S.allF nq)) _ := hm
    show Comes (q17 aq nq mq tq vq gq de) (.h0 be ba (i : Int) k l p) _
    apply Comes.of
    show Goes _ _ _
    (first | rw [q17] | unfold q17)
    try simp only [all_mkl]
    try show Goes _ _ _
    repeat' first
      | with_reducible refine goes_if (fun h => ?_) (fun h => ?_) <;> (try simp only [SH] at h)
      | exact goes_none.mpr (by omega)
    all_goals first | (exfalso; omega) | exact hm
theorem s17 (aq nq mq : Nat) (tq : Nat → ByteArray) (vq gq : Nat → Int) (de : Int) (hp : aq + nq ≤ mq ∧ nq ≤ 1000000) : Goes ((q17 aq nq mq tq vq gq de)) ((p17 aq nq mq tq vq gq de)) (S.worE nq (S.netE nq (fun j => tq (j + aq)) (fun j => vq (j + aq)) (fun j => gq (j + aq)) de) (fun j => vq (j + aq)) (fun j => gq (j + aq)) de) := by
  unfold S.worE
  by_cases h0 : (S.netE nq (fun j => tq (j + aq)) (fun j => vq (j + aq)) (fun j => gq (j + aq)) de) = 0
  · have hm := s17' aq nq mq tq vq gq de hp h0 nq 0 (-1, 0, 0, 0, 0) (Nat.zero_add _)
    have hm : Comes (q17 aq nq mq tq vq gq de) (.h0 (-1) 0 0 0 0 0) _ := hm
    obtain ⟨hp1, hp2⟩ := hp
    rw [if_pos h0]
    unfold p17
    simp only [h0]
    show Goes _ _ _
    repeat' first
      | with_reducible refine goes_if (fun h => ?_) (fun h => ?_) <;> (try simp only [SH] at h)
      | exact goes_none.mpr (by omega)
    all_goals first | (exfalso; omega) | exact hm | (exfalso; simp_all; done)
  · obtain ⟨hp1, hp2⟩ := hp
    rw [if_neg h0]
    show Goes _ _ _
    unfold p17
    repeat' first
      | with_reducible refine goes_if (fun h => ?_) (fun h => ?_) <;> (try simp only [SH] at h)
      | exact goes_none.mpr (by omega)
    all_goals first | (exfalso; omega) | exact goes_inr.mpr rfl | (exfalso; simp_all; done)
theorem k17_ok  : k17.ok Try.prog := by
  intro x hx
  obtain ⟨⟨⟨aq, nq, mq, tq, vq, gq, _⟩, de, _⟩, _⟩ := x
  obtain ⟨h1, h2⟩ := a17 aq nq mq tq vq gq de (s17 aq nq mq tq vq gq de (of_dec hx rfl))
  exact ⟨⟨400, (by decide : 1 + 1 + 0 ≤ 400), h1⟩, h2⟩
namespace S
def abc  : ByteArray := ByteArray.mk #[97, 98, 99, 100, 101, 102, 103, 104]
def nameI (i : Nat) : ByteArray := subS abc i (i + 1)
def madeL (n : Nat) (t v : Nat → Int) : List (ByteArray × Int × Int) := if n = 0 then [(nameI 0, 1, 1)] else mkl (min n 8) fun i => (nameI i, t i, v i)
def byB (t : Nat → Int) (n : Nat) : Bool := all (fun j => decide (0 ≤ t j ∧ t j ≤ 255)) n
end S
inductive St38 where
  | h0 (x0 : Int) (x1 : List (Int × Int)) (x2 : List (ByteArray × Int × Int))
  | h1 (x0 : Int) (x1 : List (ByteArray × Int × Int))
abbrev Rt38  := List (ByteArray × Int × Int)
noncomputable def V38 (al nl ml : Nat) (tl vl : Nat → Int) (de : Int) (r : Rt38) : PV := PV.agg [PV.own (2) (3) (List.length r), PV.int IntKind.i64 de]
noncomputable def N38 (al nl ml : Nat) (tl vl : Nat → Int) (de : Int) (r : Rt38) : List Blk := [Blk.cols (List.length r)
 [Col.str fun j => (S.at' r j).1,
 Col.int IntKind.i64 fun j => (S.at' r j).2.1,
 Col.int IntKind.i64 fun j => (S.at' r j).2.2]]
noncomputable def I38 (al nl ml : Nat) (tl vl : Nat → Int) (de : Int) : St38 → Hd
  | .h0 x0 x1 x2 => ⟨hd Try.f38 0, [PV.own (1) (2) (List.length x1),
 PV.ptr (PA.mk (2) (0) (0) (0)),
 PV.ptr (PA.mk (3) (0) (0) (0)), PV.int IntKind.i64 x0], [[(1, (true, Blk.cols (List.length x1)
 [Col.int IntKind.u8 fun j => (S.at' x1 j).1,
 Col.int IntKind.u8 fun j => (S.at' x1 j).2])), (2, (true, Blk.cells [PV.nils, PV.int IntKind.i64 (0 : Int)])), (3, (true, Blk.cells [PV.own (4) (3) (List.length x2), PV.int IntKind.i64 de])), (4, (true, Blk.cols (List.length x2)
 [Col.str fun j => (S.at' x2 j).1,
 Col.int IntKind.i64 fun j => (S.at' x2 j).2.1,
 Col.int IntKind.i64 fun j => (S.at' x2 j).2.2]))], [(0, (false, .cols ml [.int .u8 tl, .int .u8 vl]))]], 5⟩
  | .h1 x0 x1 => ⟨hd Try.f38 0, [PV.loose (PA.mk (0) (2) al (0)) nl,
 PV.ptr (PA.mk (1) (0) (0) (0)),
 PV.ptr (PA.mk (2) (0) (0) (0)), PV.int IntKind.i64 x0], [[(1, (true, Blk.cells [PV.nils, PV.int IntKind.i64 (0 : Int)])), (2, (true, Blk.cells [PV.own (3) (3) (List.length x1), PV.int IntKind.i64 de])), (3, (true, Blk.cols (List.length x1)
 [Col.str fun j => (S.at' x1 j).1,
 Col.int IntKind.i64 fun j => (S.at' x1 j).2.1,
 Col.int IntKind.i64 fun j => (S.at' x1 j).2.2]))], [(0, (false, .cols ml [.int .u8 tl, .int .u8 vl]))]], 4⟩
noncomputable def q38 (al nl ml : Nat) (tl vl : Nat → Int) (de : Int) : St38 → Option (St38 ⊕ Rt38)
  | .h0 x0 x1 x2 => bif (decide (x0 < (↑(List.length x1) : Int)))
 then (bif (decide (x0 < (8 : Int)))
 then (bif (lim IntKind.i64 (x0 + (1 : Int)))
 then (bif (decide ((0 : Int) ≤ x0 ∧ x0 ≤ x0 + (1 : Int) ∧ x0 + (1 : Int) ≤ (8 : Int)))
 then (bif (decide ((0 : Int) ≤ x0 ∧ x0 < (↑(List.length x1) : Int)))
 then (bif (decide (Int.toNat x0 < List.length x1))
 then (bif (lim IntKind.i64 ((S.at' x1 (Int.toNat x0)).1))
 then (bif (lim IntKind.i64 ((S.at' x1 (Int.toNat x0)).2))
 then (bif (decide (List.length x2 + 1 ≤ 1000000))
 then (bif (decide (List.length x2 ≤ List.length x2))
 then (some (.inl (.h0 (x0 + (1 : Int)) (x1) (S.snoc x2
 (S.subS
 (ByteArray.mk
 #[(97 : UInt8), (98 : UInt8), (99 : UInt8), (100 : UInt8), (101 : UInt8), (102 : UInt8), (103 : UInt8),
 (104 : UInt8)])
 (Int.toNat x0) (Int.toNat (x0 + (1 : Int))),
 (S.at' x1 (Int.toNat x0)).1, (S.at' x1 (Int.toNat x0)).2)))))
 else (none))
 else (none))
 else (none))
 else (none))
 else (none))
 else (none))
 else (none))
 else (none))
 else (some (.inr (x2))))
 else (some (.inr (x2)))
  | .h1 x0 x1 => bif (decide (x0 < (↑nl : Int)))
 then (bif (decide (x0 < (8 : Int)))
 then (bif (lim IntKind.i64 (x0 + (1 : Int)))
 then (bif (decide ((0 : Int) ≤ x0 ∧ x0 ≤ x0 + (1 : Int) ∧ x0 + (1 : Int) ≤ (8 : Int)))
 then (bif (decide ((0 : Int) ≤ x0 ∧ x0 < (↑nl : Int)))
 then (bif (decide (Int.toNat x0 + al < ml))
 then (bif (lim IntKind.i64 (tl (Int.toNat x0 + al)))
 then (bif (lim IntKind.i64 (vl (Int.toNat x0 + al)))
 then (bif (decide (List.length x1 + 1 ≤ 1000000))
 then (bif (decide (List.length x1 ≤ List.length x1))
 then (some (.inl (.h1 (x0 + (1 : Int)) (S.snoc x1
 (S.subS
 (ByteArray.mk
 #[(97 : UInt8), (98 : UInt8), (99 : UInt8), (100 : UInt8), (101 : UInt8), (102 : UInt8), (103 : UInt8),
 (104 : UInt8)])
 (Int.toNat x0) (Int.toNat (x0 + (1 : Int))),
 tl (Int.toNat x0 + al), vl (Int.toNat x0 + al))))))
 else (none))
 else (none))
 else (none))
 else (none))
 else (none))
 else (none))
 else (none))
 else (none))
 else (some (.inr (x1))))
 else (some (.inr (x1)))
noncomputable def p38 (al nl ml : Nat) (tl vl : Nat → Int) (de : Int) : Option (St38 ⊕ Rt38) := bif (lim IntKind.i64 de)
 then (bif ((↑nl : Int) == (0 : Int))
 then (some (.inl (.h0 ((0 : Int)) ([((1 : Int), (1 : Int))]) ([]))))
 else (some (.inl (.h1 ((0 : Int)) ([])))))
 else (none)
noncomputable def Te38 (test : Bool → Prop → Prop → Prop) (Kst : KS) (Kret : KR) (al nl ml : Nat) (tl vl : Nat → Int) (de : Int) : Prop :=
  test (lim IntKind.i64 de)
 (test ((↑nl : Int) == (0 : Int))
 (Kst (hd Try.f38 0) ([PV.own (3) (2) (1),
 PV.ptr (PA.mk (1) (0) (0) (0)),
 PV.ptr (PA.mk (2) (0) (0) (0)), PV.int IntKind.i64 (0 : Int)]) ([[(0, false, Blk.cols ml [Col.int IntKind.u8 tl, Col.int IntKind.u8 vl]),
 (2, true, Blk.cells [PV.nils, PV.int IntKind.i64 de]),
 (1, true, Blk.cells [PV.nils, PV.int IntKind.i64 (0 : Int)]),
 (3, true,
 Blk.cells [PV.int IntKind.u8 (1 : Int), PV.int IntKind.u8 (1 : Int)])]]) (4))
 (Kst (hd Try.f38 0) ([PV.loose (PA.mk (0) (2) al (0)) nl,
 PV.ptr (PA.mk (1) (0) (0) (0)),
 PV.ptr (PA.mk (2) (0) (0) (0)), PV.int IntKind.i64 (0 : Int)]) ([[(0, false, Blk.cols ml [Col.int IntKind.u8 tl, Col.int IntKind.u8 vl]),
 (2, true, Blk.cells [PV.nils, PV.int IntKind.i64 de]),
 (1, true, Blk.cells [PV.nils, PV.int IntKind.i64 (0 : Int)])]]) (3)))
 (False)
theorem te38 (test : Bool → Prop → Prop → Prop) (Kst : KS) (Kret : KR) (al nl ml : Nat) (tl vl : Nat → Int) (de : Int) : run test Try.env true noX true 400 ⟨38, [.cd (mkFn Try.f38).body], argT 0 [.loose ⟨0, 2, al, 0⟩ nl, .int .u8 de], [[], [(0, (false, .cols ml [.int .u8 tl, .int .u8 vl]))]], 1⟩ (proj 1 [0, 4, 5, 6] Kst Kret) =
  Te38 test Kst Kret al nl ml tl vl de := by kernel_rfl
noncomputable def T38_0 (test : Bool → Prop → Prop → Prop) (Kst : KS) (Kret : KR) (al nl ml : Nat) (tl vl : Nat → Int) (de x0 : Int) (x1 : List (Int × Int)) (x2 : List (ByteArray × Int × Int)) : Prop :=
  test (decide (x0 < (↑(List.length x1) : Int)))
 (test (decide (x0 < (8 : Int)))
 (test (lim IntKind.i64 (x0 + (1 : Int)))
 (test (decide ((0 : Int) ≤ x0 ∧ x0 ≤ x0 + (1 : Int) ∧ x0 + (1 : Int) ≤ (8 : Int)))
 (test (decide ((0 : Int) ≤ x0 ∧ x0 < (↑(List.length x1) : Int)))
 (test (true)
 (test (decide (Int.toNat x0 < List.length x1))
 (test (lim IntKind.i64 ((S.at' x1 (Int.toNat x0)).1))
 (test (decide ((0 : Int) ≤ x0 ∧ x0 < (↑(List.length x1) : Int)))
 (test (true)
 (test (decide (Int.toNat x0 < List.length x1))
 (test (lim IntKind.i64 ((S.at' x1 (Int.toNat x0)).2))
 (test (decide (List.length x2 + 1 ≤ 1000000))
 (test (decide (List.length x2 ≤ List.length x2))
 (test (true)
 (test (lim IntKind.i64 (x0 + (1 : Int)))
 (Kst (hd Try.f38 0) ([PV.own (1) (2) (List.length x1),
 PV.ptr (PA.mk (2) (0) (0) (0)),
 PV.ptr (PA.mk (3) (0) (0) (0)),
 PV.int IntKind.i64 (x0 + (1 : Int))]) ([[(0, false, Blk.cols ml [Col.int IntKind.u8 tl, Col.int IntKind.u8 vl]),
 (3, true,
 Blk.cells
 [PV.own (6) (3) (List.length x2 + 1), PV.int IntKind.i64 de]),
 (2, true, Blk.cells [PV.nils, PV.int IntKind.i64 (0 : Int)]),
 (1, true,
 Blk.cols (List.length x1)
 [Col.int IntKind.u8 fun j => (S.at' x1 j).1,
 Col.int IntKind.u8 fun j => (S.at' x1 j).2]),
 (6, true,
 Blk.cols (List.length x2 + 1)
 [Col.str fun j =>
 bif Nat.blt j (List.length x2) then (S.at' x2 j).1
 else
 S.subS
 (ByteArray.mk
 #[(97 : UInt8), (98 : UInt8), (99 : UInt8), (100 : UInt8), (101 : UInt8), (102 : UInt8),
 (103 : UInt8), (104 : UInt8)])
 (Int.toNat x0) (Int.toNat (x0 + (1 : Int))),
 Col.int IntKind.i64 fun j =>
 bif Nat.blt j (List.length x2) then (S.at' x2 j).2.1
 else (S.at' x1 (Int.toNat x0)).1,
 Col.int IntKind.i64 fun j =>
 bif Nat.blt j (List.length x2) then (S.at' x2 j).2.2
 else (S.at' x1 (Int.toNat x0)).2])]]) (7))
 (False))
 (False))
 (False))
 (False))
 (False))
 (False))
 (False))
 (False))
 (False))
 (False))
 (False))
 (False))
 (False))
 (False))
 (Kret (PV.agg [PV.own (4) (3) (List.length x2), PV.int IntKind.i64 de]) ([[(0, false, Blk.cols ml [Col.int IntKind.u8 tl, Col.int IntKind.u8 vl]),
 (4, true,
 Blk.cols (List.length x2)
 [Col.str fun j => (S.at' x2 j).1,
 Col.int IntKind.i64 fun j => (S.at' x2 j).2.1,
 Col.int IntKind.i64 fun j => (S.at' x2 j).2.2])]]) (5)))
 (Kret (PV.agg [PV.own (4) (3) (List.length x2), PV.int IntKind.i64 de]) ([[(0, false, Blk.cols ml [Col.int IntKind.u8 tl, Col.int IntKind.u8 vl]),
 (4, true,
 Blk.cols (List.length x2)
 [Col.str fun j => (S.at' x2 j).1,
 Col.int IntKind.i64 fun j => (S.at' x2 j).2.1,
 Col.int IntKind.i64 fun j => (S.at' x2 j).2.2])]]) (5))
theorem t38_0 (test : Bool → Prop → Prop → Prop) (Kst : KS) (Kret : KR) (al nl ml : Nat) (tl vl : Nat → Int) (de x0 : Int) (x1 : List (Int × Int)) (x2 : List (ByteArray × Int × Int)) : run test Try.env true noX true 400 ⟨38, hd Try.f38 0, zipT [0, 4, 5, 6] [PV.own (1) (2) (List.length x1),
 PV.ptr (PA.mk (2) (0) (0) (0)),
 PV.ptr (PA.mk (3) (0) (0) (0)), PV.int IntKind.i64 x0], [[(1, (true, Blk.cols (List.length x1)
 [Col.int IntKind.u8 fun j => (S.at' x1 j).1,
 Col.int IntKind.u8 fun j => (S.at' x1 j).2])), (2, (true, Blk.cells [PV.nils, PV.int IntKind.i64 (0 : Int)])), (3, (true, Blk.cells [PV.own (4) (3) (List.length x2), PV.int IntKind.i64 de])), (4, (true, Blk.cols (List.length x2)
 [Col.str fun j => (S.at' x2 j).1,
 Col.int IntKind.i64 fun j => (S.at' x2 j).2.1,
 Col.int IntKind.i64 fun j => (S.at' x2 j).2.2]))], [(0, (false, .cols ml [.int .u8 tl, .int .u8 vl]))]], 5⟩ (proj 1 [0, 4, 5, 6] Kst Kret) =
  T38_0 test Kst Kret al nl ml tl vl de x0 x1 x2 := by kernel_rfl
noncomputable def T38_1 (test : Bool → Prop → Prop → Prop) (Kst : KS) (Kret : KR) (al nl ml : Nat) (tl vl : Nat → Int) (de x0 : Int) (x1 : List (ByteArray × Int × Int)) : Prop :=
  test (decide (x0 < (↑nl : Int)))
 (test (decide (x0 < (8 : Int)))
 (test (lim IntKind.i64 (x0 + (1 : Int)))
 (test (decide ((0 : Int) ≤ x0 ∧ x0 ≤ x0 + (1 : Int) ∧ x0 + (1 : Int) ≤ (8 : Int)))
 (test (decide ((0 : Int) ≤ x0 ∧ x0 < (↑nl : Int)))
 (test (true)
 (test (decide (Int.toNat x0 + al < ml))
 (test (lim IntKind.i64 (tl (Int.toNat x0 + al)))
 (test (decide ((0 : Int) ≤ x0 ∧ x0 < (↑nl : Int)))
 (test (true)
 (test (decide (Int.toNat x0 + al < ml))
 (test (lim IntKind.i64 (vl (Int.toNat x0 + al)))
 (test (decide (List.length x1 + 1 ≤ 1000000))
 (test (decide (List.length x1 ≤ List.length x1))
 (test (true)
 (test (lim IntKind.i64 (x0 + (1 : Int)))
 (Kst (hd Try.f38 0) ([PV.loose (PA.mk (0) (2) al (0)) nl,
 PV.ptr (PA.mk (1) (0) (0) (0)),
 PV.ptr (PA.mk (2) (0) (0) (0)),
 PV.int IntKind.i64 (x0 + (1 : Int))]) ([[(0, false, Blk.cols ml [Col.int IntKind.u8 tl, Col.int IntKind.u8 vl]),
 (2, true,
 Blk.cells
 [PV.own (5) (3) (List.length x1 + 1), PV.int IntKind.i64 de]),
 (1, true, Blk.cells [PV.nils, PV.int IntKind.i64 (0 : Int)]),
 (5, true,
 Blk.cols (List.length x1 + 1)
 [Col.str fun j =>
 bif Nat.blt j (List.length x1) then (S.at' x1 j).1
 else
 S.subS
 (ByteArray.mk
 #[(97 : UInt8), (98 : UInt8), (99 : UInt8), (100 : UInt8), (101 : UInt8), (102 : UInt8),
 (103 : UInt8), (104 : UInt8)])
 (Int.toNat x0) (Int.toNat (x0 + (1 : Int))),
 Col.int IntKind.i64 fun j =>
 bif Nat.blt j (List.length x1) then (S.at' x1 j).2.1 else tl (Int.toNat x0 + al),
 Col.int IntKind.i64 fun j =>
 bif Nat.blt j (List.length x1) then (S.at' x1 j).2.2 else vl (Int.toNat x0 + al)])]]) (6))
 (False))
 (False))
 (False))
 (False))
 (False))
 (False))
 (False))
 (False))
 (False))
 (False))
 (False))
 (False))
 (False))
 (False))
 (Kret (PV.agg [PV.own (3) (3) (List.length x1), PV.int IntKind.i64 de]) ([[(0, false, Blk.cols ml [Col.int IntKind.u8 tl, Col.int IntKind.u8 vl]),
 (3, true,
 Blk.cols (List.length x1)
 [Col.str fun j => (S.at' x1 j).1,
 Col.int IntKind.i64 fun j => (S.at' x1 j).2.1,
 Col.int IntKind.i64 fun j => (S.at' x1 j).2.2])]]) (4)))
 (Kret (PV.agg [PV.own (3) (3) (List.length x1), PV.int IntKind.i64 de]) ([[(0, false, Blk.cols ml [Col.int IntKind.u8 tl, Col.int IntKind.u8 vl]),
 (3, true,
 Blk.cols (List.length x1)
 [Col.str fun j => (S.at' x1 j).1,
 Col.int IntKind.i64 fun j => (S.at' x1 j).2.1,
 Col.int IntKind.i64 fun j => (S.at' x1 j).2.2])]]) (4))
theorem t38_1 (test : Bool → Prop → Prop → Prop) (Kst : KS) (Kret : KR) (al nl ml : Nat) (tl vl : Nat → Int) (de x0 : Int) (x1 : List (ByteArray × Int × Int)) : run test Try.env true noX true 400 ⟨38, hd Try.f38 0, zipT [0, 4, 5, 6] [PV.loose (PA.mk (0) (2) al (0)) nl,
 PV.ptr (PA.mk (1) (0) (0) (0)),
 PV.ptr (PA.mk (2) (0) (0) (0)), PV.int IntKind.i64 x0], [[(1, (true, Blk.cells [PV.nils, PV.int IntKind.i64 (0 : Int)])), (2, (true, Blk.cells [PV.own (3) (3) (List.length x1), PV.int IntKind.i64 de])), (3, (true, Blk.cols (List.length x1)
 [Col.str fun j => (S.at' x1 j).1,
 Col.int IntKind.i64 fun j => (S.at' x1 j).2.1,
 Col.int IntKind.i64 fun j => (S.at' x1 j).2.2]))], [(0, (false, .cols ml [.int .u8 tl, .int .u8 vl]))]], 4⟩ (proj 1 [0, 4, 5, 6] Kst Kret) =
  T38_1 test Kst Kret al nl ml tl vl de x0 x1 := by kernel_rfl
theorem be38 (al nl ml : Nat) (tl vl : Nat → Int) (de : Int) (Kst : KS) (Kret : KR) (x : St38 ⊕ Rt38) (hS : HS 1 400 ((I38 al nl ml tl vl de)) Kst x) (hR : HR 1 400 ((V38 al nl ml tl vl de)) (fun r => [newL (1 + 1) ((N38 al nl ml tl vl de) r) ++ [(0, (false, .cols ml [.int .u8 tl, .int .u8 vl]))]]) Kret x) (h : p38 al nl ml tl vl de = some x) : Te38 cond Kst Kret al nl ml tl vl de := by
  unfold Te38
  unfold p38 at h
  refine bif_split h
   (fun c0 h => bif_split h
   (fun c1 h => stop_at hS _ h (fun n => bif Nat.beq n 1 then 3 else bif Nat.beq n 2 then 1 else bif Nat.beq n 3 then 2 else bif Nat.beq n 4 then 399 else n) rfl rfl rfl ⟨(rn_own (use_own rfl) rfl rfl), ⟨(rn_ptr (use_own rfl) rfl rfl), ⟨(rn_ptr (use_own rfl) rfl rfl), ⟨(rn_int rfl), trivial⟩⟩⟩⟩ rfl (entl_b (use_own rfl) rfl (by simp) (rb_lit (fun j hj i hi => (match j, hj with | 0, _ => (match i, hi with | 0, _ => ⟨_, rfl, rn_int rfl⟩ | 1, _ => ⟨_, rfl, rn_int rfl⟩ | _ + 2, h => absurd h (by simp [lenc])) | _ + 1, h => absurd h (by simp)))) (entl_b (use_own rfl) rfl (by simp) (rb_cells ⟨rn_nils, (rn_int rfl), trivial⟩) (entl_b (use_own rfl) rfl (by simp) (rb_cells ⟨(rn_own_nils rfl), (rn_int rfl), trivial⟩) (entl_fresh (use_own rfl) (fresh_ok rfl) (entl_bor (use_lo rfl) rfl rfl entl_nil))))))
   (fun c1 h => stop_at hS _ h (fun n => bif Nat.beq n 1 then 1 else bif Nat.beq n 2 then 2 else bif Nat.beq n 3 then 399 else n) rfl rfl rfl ⟨(rn_loose (use_lo rfl) rfl rfl rfl), ⟨(rn_ptr (use_own rfl) rfl rfl), ⟨(rn_ptr (use_own rfl) rfl rfl), ⟨(rn_int rfl), trivial⟩⟩⟩⟩ rfl (entl_b (use_own rfl) rfl (by simp) (rb_cells ⟨rn_nils, (rn_int rfl), trivial⟩) (entl_b (use_own rfl) rfl (by simp) (rb_cells ⟨(rn_own_nils rfl), (rn_int rfl), trivial⟩) (entl_fresh (use_own rfl) (fresh_ok rfl) (entl_bor (use_lo rfl) rfl rfl entl_nil))))))
   (fun c0 h => no_some h)
theorem b38_0 (al nl ml : Nat) (tl vl : Nat → Int) (de : Int) (Kst : KS) (Kret : KR) (x : St38 ⊕ Rt38) (hS : HS 1 400 ((I38 al nl ml tl vl de)) Kst x) (hR : HR 1 400 ((V38 al nl ml tl vl de)) (fun r => [newL (1 + 1) ((N38 al nl ml tl vl de) r) ++ [(0, (false, .cols ml [.int .u8 tl, .int .u8 vl]))]]) Kret x) (x0 : Int) (x1 : List (Int × Int)) (x2 : List (ByteArray × Int × Int)) (h : (bif (decide (x0 < (↑(List.length x1) : Int)))
 then (bif (decide (x0 < (8 : Int)))
 then (bif (lim IntKind.i64 (x0 + (1 : Int)))
 then (bif (decide ((0 : Int) ≤ x0 ∧ x0 ≤ x0 + (1 : Int) ∧ x0 + (1 : Int) ≤ (8 : Int)))
 then (bif (decide ((0 : Int) ≤ x0 ∧ x0 < (↑(List.length x1) : Int)))
 then (bif (decide (Int.toNat x0 < List.length x1))
 then (bif (lim IntKind.i64 ((S.at' x1 (Int.toNat x0)).1))
 then (bif (lim IntKind.i64 ((S.at' x1 (Int.toNat x0)).2))
 then (bif (decide (List.length x2 + 1 ≤ 1000000))
 then (bif (decide (List.length x2 ≤ List.length x2))
 then (some (.inl (.h0 (x0 + (1 : Int)) (x1) (S.snoc x2
 (S.subS
 (ByteArray.mk
 #[(97 : UInt8), (98 : UInt8), (99 : UInt8), (100 : UInt8), (101 : UInt8), (102 : UInt8), (103 : UInt8),
 (104 : UInt8)])
 (Int.toNat x0) (Int.toNat (x0 + (1 : Int))),
 (S.at' x1 (Int.toNat x0)).1, (S.at' x1 (Int.toNat x0)).2)))))
 else (none))
 else (none))
 else (none))
 else (none))
 else (none))
 else (none))
 else (none))
 else (none))
 else (some (.inr (x2))))
 else (some (.inr (x2))) : Option (St38 ⊕ Rt38)) = some x) : T38_0 cond Kst Kret al nl ml tl vl de x0 x1 x2 := by
  unfold T38_0
  refine bif_split h
   (fun c0 h => bif_split h
   (fun c1 h => bif_split h
   (fun c2 h => bif_split h
   (fun c3 h => bif_split h
   (fun c4 h => cond_yes rfl (bif_split h
   (fun c5 h => bif_split h
   (fun c6 h => cond_yes c4 (cond_yes rfl (cond_yes c5 (bif_split h
   (fun c7 h => bif_split h
   (fun c8 h => bif_split h
   (fun c9 h => cond_yes rfl (cond_yes c2 (stop_at hS _ h (fun n => bif Nat.beq n 1 then 1 else bif Nat.beq n 2 then 2 else bif Nat.beq n 3 then 3 else bif Nat.beq n 4 then 6 else n) rfl rfl rfl ⟨(rn_own (use_own rfl) rfl rfl), ⟨(rn_ptr (use_own rfl) rfl rfl), ⟨(rn_ptr (use_own rfl) rfl rfl), ⟨(rn_int rfl), trivial⟩⟩⟩⟩ rfl (entl_new (use_own rfl) rfl (Nat.le_of_eq rfl) (rcs_int (fun _ _ => rfl) (rcs_int (fun _ _ => rfl) rcs_nil)) (entl_b (use_own rfl) rfl (by simp) (rb_cells ⟨rn_nils, (rn_int rfl), trivial⟩) (entl_b (use_own rfl) rfl (by simp) (rb_cells ⟨(rn_own (use_own rfl) rfl (snoc_len' rfl)), (rn_int rfl), trivial⟩) (entl_new (use_own rfl) rfl (Nat.le_of_eq (snoc_len' rfl)) (rcs_str (col_snoc' (fun (t : ByteArray × Int × Int) => t.1) rfl (fun _ _ => rfl)) (rcs_int (col_snoc' (fun (t : ByteArray × Int × Int) => t.2.1) rfl (fun _ _ => rfl)) (rcs_int (col_snoc' (fun (t : ByteArray × Int × Int) => t.2.2) rfl (fun _ _ => rfl)) rcs_nil))) (entl_bor (use_lo rfl) rfl rfl entl_nil))))))))
   (fun c9 h => ?_))
   (fun c8 h => ?_))
   (fun c7 h => ?_)))))
   (fun c6 h => ?_))
   (fun c5 h => ?_)))
   (fun c4 h => ?_))
   (fun c3 h => ?_))
   (fun c2 h => ?_))
   (fun c1 h => ?_))
   (fun c0 h => ?_)
  all_goals first
    | exact no_some h
    | exact ret_at hR _ h (fun n => bif Nat.beq n 2 then 4 else n) rfl rfl rfl (rn_agg ⟨(rn_own (use_own rfl) rfl rfl), (rn_int rfl), trivial⟩) rfl (entl_new (use_own rfl) rfl (Nat.le_of_eq rfl) (rcs_str (fun _ _ => rfl) (rcs_int (fun _ _ => rfl) (rcs_int (fun _ _ => rfl) rcs_nil))) (entl_bor (use_lo rfl) rfl rfl entl_nil))
theorem b38_1 (al nl ml : Nat) (tl vl : Nat → Int) (de : Int) (Kst : KS) (Kret : KR) (x : St38 ⊕ Rt38) (hS : HS 1 400 ((I38 al nl ml tl vl de)) Kst x) (hR : HR 1 400 ((V38 al nl ml tl vl de)) (fun r => [newL (1 + 1) ((N38 al nl ml tl vl de) r) ++ [(0, (false, .cols ml [.int .u8 tl, .int .u8 vl]))]]) Kret x) (x0 : Int) (x1 : List (ByteArray × Int × Int)) (h : (bif (decide (x0 < (↑nl : Int)))
 then (bif (decide (x0 < (8 : Int)))
 then (bif (lim IntKind.i64 (x0 + (1 : Int)))
 then (bif (decide ((0 : Int) ≤ x0 ∧ x0 ≤ x0 + (1 : Int) ∧ x0 + (1 : Int) ≤ (8 : Int)))
 then (bif (decide ((0 : Int) ≤ x0 ∧ x0 < (↑nl : Int)))
 then (bif (decide (Int.toNat x0 + al < ml))
 then (bif (lim IntKind.i64 (tl (Int.toNat x0 + al)))
 then (bif (lim IntKind.i64 (vl (Int.toNat x0 + al)))
 then (bif (decide (List.length x1 + 1 ≤ 1000000))
 then (bif (decide (List.length x1 ≤ List.length x1))
 then (some (.inl (.h1 (x0 + (1 : Int)) (S.snoc x1
 (S.subS
 (ByteArray.mk
 #[(97 : UInt8), (98 : UInt8), (99 : UInt8), (100 : UInt8), (101 : UInt8), (102 : UInt8), (103 : UInt8),
 (104 : UInt8)])
 (Int.toNat x0) (Int.toNat (x0 + (1 : Int))),
 tl (Int.toNat x0 + al), vl (Int.toNat x0 + al))))))
 else (none))
 else (none))
 else (none))
 else (none))
 else (none))
 else (none))
 else (none))
 else (none))
 else (some (.inr (x1))))
 else (some (.inr (x1))) : Option (St38 ⊕ Rt38)) = some x) : T38_1 cond Kst Kret al nl ml tl vl de x0 x1 := by
  unfold T38_1
  refine bif_split h
   (fun c0 h => bif_split h
   (fun c1 h => bif_split h
   (fun c2 h => bif_split h
   (fun c3 h => bif_split h
   (fun c4 h => cond_yes rfl (bif_split h
   (fun c5 h => bif_split h
   (fun c6 h => cond_yes c4 (cond_yes rfl (cond_yes c5 (bif_split h
   (fun c7 h => bif_split h
   (fun c8 h => bif_split h
   (fun c9 h => cond_yes rfl (cond_yes c2 (stop_at hS _ h (fun n => bif Nat.beq n 1 then 1 else bif Nat.beq n 2 then 2 else bif Nat.beq n 3 then 5 else n) rfl rfl rfl ⟨(rn_loose (use_lo rfl) rfl rfl rfl), ⟨(rn_ptr (use_own rfl) rfl rfl), ⟨(rn_ptr (use_own rfl) rfl rfl), ⟨(rn_int rfl), trivial⟩⟩⟩⟩ rfl (entl_b (use_own rfl) rfl (by simp) (rb_cells ⟨rn_nils, (rn_int rfl), trivial⟩) (entl_b (use_own rfl) rfl (by simp) (rb_cells ⟨(rn_own (use_own rfl) rfl (snoc_len' rfl)), (rn_int rfl), trivial⟩) (entl_new (use_own rfl) rfl (Nat.le_of_eq (snoc_len' rfl)) (rcs_str (col_snoc' (fun (t : ByteArray × Int × Int) => t.1) rfl (fun _ _ => rfl)) (rcs_int (col_snoc' (fun (t : ByteArray × Int × Int) => t.2.1) rfl (fun _ _ => rfl)) (rcs_int (col_snoc' (fun (t : ByteArray × Int × Int) => t.2.2) rfl (fun _ _ => rfl)) rcs_nil))) (entl_bor (use_lo rfl) rfl rfl entl_nil)))))))
   (fun c9 h => ?_))
   (fun c8 h => ?_))
   (fun c7 h => ?_)))))
   (fun c6 h => ?_))
   (fun c5 h => ?_)))
   (fun c4 h => ?_))
   (fun c3 h => ?_))
   (fun c2 h => ?_))
   (fun c1 h => ?_))
   (fun c0 h => ?_)
  all_goals first
    | exact no_some h
    | exact ret_at hR _ h (fun n => bif Nat.beq n 2 then 3 else n) rfl rfl rfl (rn_agg ⟨(rn_own (use_own rfl) rfl rfl), (rn_int rfl), trivial⟩) rfl (entl_new (use_own rfl) rfl (Nat.le_of_eq rfl) (rcs_str (fun _ _ => rfl) (rcs_int (fun _ _ => rfl) (rcs_int (fun _ _ => rfl) rcs_nil))) (entl_bor (use_lo rfl) rfl rfl entl_nil))
theorem a38 (al nl ml : Nat) (tl vl : Nat → Int) (de : Int) {r : Rt38} (h : Goes ((q38 al nl ml tl vl de)) ((p38 al nl ml tl vl de)) r) : CallR Try.prog 38 [.loose ⟨0, 2, al, 0⟩ nl, .int .u8 de] [[(0, (false, .cols ml [.int .u8 tl, .int .u8 vl]))]] 1 ((V38 al nl ml tl vl de) r) ((fun r => [newL (1 + 1) ((N38 al nl ml tl vl de) r) ++ [(0, (false, .cols ml [.int .u8 tl, .int .u8 vl]))]]) r) 400 ∧ ∃ F, Try.prog.funcs[38]? = some F ∧ F.body.isSome = true ∧ (F.name == "runtime.NumGoroutine") = false := by
  refine dec_calls (f := 38) (lo := 1) (hi := 400) (H := [[(0, (false, .cols ml [.int .u8 tl, .int .u8 vl]))]]) (args := [.loose ⟨0, 2, al, 0⟩ nl, .int .u8 de]) Try.envOk Try.mixed noX_ok ((I38 al nl ml tl vl de)) ((V38 al nl ml tl vl de)) (fun r => [newL (1 + 1) ((N38 al nl ml tl vl de) r) ++ [(0, (false, .cols ml [.int .u8 tl, .int .u8 vl]))]]) (fn := mkFn Try.f38) (ts := [0, 4, 5, 6]) (n := 400) rfl (by decide) (by simp) (names_of rfl) ?_ ?_ ?_ h
  · intro s; cases s <;> exact ⟨hd_ok _ _, by simp [I38], names_of rfl, Nat.le_of_ble_eq_true rfl⟩
  · intro Kst Kret x hS hR h
    exact Holds.eq (te38 cond Kst Kret al nl ml tl vl de) (be38 al nl ml tl vl de Kst Kret x hS hR h)
  · intro Kst Kret x hS hR s h
    cases s with
    | h0 x0 x1 x2 => exact Holds.eq (t38_0 cond Kst Kret al nl ml tl vl de x0 x1 x2) (b38_0 al nl ml tl vl de Kst Kret x hS hR x0 x1 x2 h)
    | h1 x0 x1 => exact Holds.eq (t38_1 cond Kst Kret al nl ml tl vl de x0 x1) (b38_1 al nl ml tl vl de Kst Kret x hS hR x0 x1 h)
noncomputable def k38  : Con := ⟨38, [.one (.list [.int .u8, .int .u8]), .one (.plain (.int .u8))], fun (x : (Nat × Nat × Nat × (Nat → Int) × (Nat → Int) × Unit) × Int × Unit) => (fun (al nl ml : Nat) (tl : Nat → Int) (vl : Nat → Int) (de : Int) => decide ((al + nl ≤ ml ∧ nl ≤ 1000000) ∧ (0 ≤ de ∧ de ≤ 255) ∧ S.byB (fun j => tl (j + al)) nl = true ∧ S.byB (fun j => vl (j + al)) nl = true)) x.1.1 x.1.2.1 x.1.2.2.1 x.1.2.2.2.1 x.1.2.2.2.2.1 x.2.1, fun (x : (Nat × Nat × Nat × (Nat → Int) × (Nat → Int) × Unit) × Int × Unit) => (fun (al nl ml : Nat) (tl : Nat → Int) (vl : Nat → Int) (de : Int) => (V38 al nl ml tl vl de) (S.madeL nl (fun j => tl (j + al)) (fun j => vl (j + al)))) x.1.1 x.1.2.1 x.1.2.2.1 x.1.2.2.2.1 x.1.2.2.2.2.1 x.2.1, fun (x : (Nat × Nat × Nat × (Nat → Int) × (Nat → Int) × Unit) × Int × Unit) => (fun (al nl ml : Nat) (tl : Nat → Int) (vl : Nat → Int) (de : Int) => (N38 al nl ml tl vl de) (S.madeL nl (fun j => tl (j + al)) (fun j => vl (j + al)))) x.1.1 x.1.2.1 x.1.2.2.1 x.1.2.2.2.1 x.1.2.2.2.2.1 x.2.1, fun _ _ => .dead⟩
theorem s38' (al nl ml : Nat) (tl vl : Nat → Int) (de : Int) (hp : (al + nl ≤ ml ∧ nl ≤ 1000000) ∧ (0 ≤ de ∧ de ≤ 255) ∧ S.byB (fun j => tl (j + al)) nl = true ∧ S.byB (fun j => vl (j + al)) nl = true) : ∀ (k i : Nat) (L : List (ByteArray × Int × Int)), i + k = min nl 8 → Holds (L = S.mkl (i) (fun i => (S.nameI i, tl (i + al), vl (i + al)))) → Comes (q38 al nl ml tl vl de) (.h1 (i : Int) L) (S.mkl (min nl 8) (fun i => (S.nameI i, tl (i + al), vl (i + al)))) := by
  obtain ⟨⟨hp1, hp2⟩, hp3, hp4, hp5⟩ := hp
  intro k
  induction k with
  | zero =>
    intro i L hi eL
    have e := eL.get
    rw [show i = min nl 8 by omega] at e
    apply Comes.of
    show Goes _ _ _
    (first | rw [q38] | unfold q38)
    repeat' first
      | with_reducible refine goes_if (fun h => ?_) (fun h => ?_) <;> (try simp only [SH] at h)
      | exact goes_none.mpr (by omega)
    all_goals first | (exfalso; omega) | exact goes_inr.mpr e
  | succ k ih =>
    intro i L hi eL
    have h1 := of_decide_eq_true (all_iff.mp hp4 i (by omega))
    have h2 := of_decide_eq_true (all_iff.mp hp5 i (by omega))
    try dsimp only at h1 h2
    have hL : L.length = i := by rw [eL.get, mkl_len]
    have ih := ih (i + 1) (S.snoc L (S.nameI i, tl (i + al), vl (i + al))) (by omega) ⟨by rw [mkl_succ, eL.get]⟩
    have e1 : ((i : Int) + 1).toNat = i + 1 := by omega
    apply Comes.of
    show Goes _ _ _
    (first | rw [q38] | unfold q38)
    try simp only [e1, Int.toNat_natCast]
    try show Goes _ _ _
    repeat' first
      | with_reducible refine goes_if (fun h => ?_) (fun h => ?_) <;> (try simp only [SH] at h)
      | exact goes_none.mpr (by omega)
    all_goals first | (exfalso; omega) | exact ih
theorem s38 (al nl ml : Nat) (tl vl : Nat → Int) (de : Int) (hp : (al + nl ≤ ml ∧ nl ≤ 1000000) ∧ (0 ≤ de ∧ de ≤ 255) ∧ S.byB (fun j => tl (j + al)) nl = true ∧ S.byB (fun j => vl (j + al)) nl = true) : Goes ((q38 al nl ml tl vl de)) ((p38 al nl ml tl vl de)) (S.madeL nl (fun j => tl (j + al)) (fun j => vl (j + al))) := by
  unfold S.madeL
  by_cases h0 : nl = 0
  · have e : (q38 al nl ml tl vl de) (.h0 0 [(1, 1)] []) = some (.inl (.h0 1 [(1, 1)] [(S.nameI 0, 1, 1)])) := rfl
    have e2 : (q38 al nl ml tl vl de) (.h0 1 [(1, 1)] [(S.nameI 0, 1, 1)]) = some (.inr [(S.nameI 0, 1, 1)]) := rfl
    rw [if_pos h0]
    obtain ⟨⟨hp1, hp2⟩, hp3, hp4, hp5⟩ := hp
    show Goes _ _ _
    unfold p38
    repeat' first
      | with_reducible refine goes_if (fun h => ?_) (fun h => ?_) <;> (try simp only [SH] at h)
      | exact goes_none.mpr (by omega)
    all_goals first | (exfalso; omega) | exact Comes.next e (Comes.done e2)
  · rw [if_neg h0]
    have hm := s38' al nl ml tl vl de hp (min nl 8) 0 [] (Nat.zero_add _) ⟨rfl⟩
    obtain ⟨⟨hp1, hp2⟩, hp3, hp4, hp5⟩ := hp
    show Goes _ _ _
    unfold p38
    repeat' first
      | with_reducible refine goes_if (fun h => ?_) (fun h => ?_) <;> (try simp only [SH] at h)
      | exact goes_none.mpr (by omega)
    all_goals first | (exfalso; omega) | exact hm
theorem k38_ok  : k38.ok Try.prog := by
  intro x hx
  obtain ⟨⟨al, nl, ml, tl, vl, _⟩, de, _⟩ := x
  obtain ⟨h1, h2⟩ := a38 al nl ml tl vl de (s38 al nl ml tl vl de (of_dec hx rfl))
  exact ⟨⟨400, (by decide : 1 + 1 + 1 ≤ 400), h1⟩, h2⟩
noncomputable def xM (test : Bool → Prop → Prop → Prop) : Ext := consX test [k38, k25, k17]
theorem xM_ok  : ExtOk Try.prog (xM cond) := consX_ok ⟨k38_ok, k25_ok, k17_ok, trivial⟩
abbrev St12  := Empty
abbrev Rt12  := Bool
noncomputable def V12   (r : Rt12) : PV := PV.bool r
noncomputable def N12   (r : Rt12) : List Blk := []
noncomputable def I12   : St12 → Hd := fun s => s.elim
noncomputable def q12   : St12 → Option (St12 ⊕ Rt12) := fun s => s.elim
noncomputable def p12   : Option (St12 ⊕ Rt12) := some (.inr (true))
noncomputable def Te12 (test : Bool → Prop → Prop → Prop) (Kst : KS) (Kret : KR)  : Prop :=
  test (true)
 (test (true)
 (test (true)
 (test (true)
 (test (true)
 (test (true)
 (test (true)
 (test (true)
 (test (true)
 (test (true)
 (test (true)
 (test (true)
 (Kret (PV.tf true) ([[]]) (8))
 (Kret (PV.tf false) ([[]]) (8)))
 (Kret (PV.tf false) ([[]]) (8)))
 (Kret (PV.tf false) ([[]]) (8)))
 (Kret (PV.tf false) ([[]]) (8)))
 (Kret (PV.tf false) ([[]]) (8)))
 (Kret (PV.tf false) ([[]]) (8)))
 (Kret (PV.tf false) ([[]]) (8)))
 (Kret (PV.tf false) ([[]]) (8)))
 (False))
 (False))
 (False))
 (False)
theorem te12 (test : Bool → Prop → Prop → Prop) (Kst : KS) (Kret : KR)  : run test Try.env true (xM test) true 400 ⟨12, [.cd (mkFn Try.f12).body], argT 0 [], [[], []], 0⟩ (proj 0 [] Kst Kret) =
  Te12 test Kst Kret  := by kernel_rfl
theorem be12   (Kst : KS) (Kret : KR) (x : St12 ⊕ Rt12) (hS : HS 0 400 (I12) Kst x) (hR : HR 0 400 (V12) (fun r => [newL (0 + 1) (N12 r) ++ []]) Kret x) (h : (some (.inr (true)) : Option (St12 ⊕ Rt12)) = some x) : Te12 cond Kst Kret  := by
  unfold Te12
  exact cond_yes rfl (cond_yes rfl (cond_yes rfl (cond_yes rfl (cond_yes rfl (cond_yes rfl (cond_yes rfl (cond_yes rfl (cond_yes rfl (cond_yes rfl (cond_yes rfl (cond_yes rfl (ret_at hR _ h (fun n => n) rfl rfl rfl (rn_bool_tf rfl) rfl entl_nil))))))))))))
theorem a12   {r : Rt12} (h : Goes (q12) (p12) r) : CallR Try.prog 12 [] [[]] 0 (V12 r) ((fun r => [newL (0 + 1) (N12 r) ++ []]) r) 400 ∧ ∃ F, Try.prog.funcs[12]? = some F ∧ F.body.isSome = true ∧ (F.name == "runtime.NumGoroutine") = false := by
  refine dec_calls (f := 12) (lo := 0) (hi := 400) (H := [[]]) (args := []) Try.envOk Try.mixed xM_ok (I12) (V12) (fun r => [newL (0 + 1) (N12 r) ++ []]) (fn := mkFn Try.f12) (ts := []) (n := 400) rfl (by decide) (by simp) (names_of rfl) ?_ ?_ ?_ h
  · intro s; exact s.elim
  · intro Kst Kret x hS hR h
    exact Holds.eq (te12 cond Kst Kret ) (be12  Kst Kret x hS hR h)
  · intro Kst Kret x hS hR s h; exact s.elim
noncomputable def k12  : Con := ⟨12, [], fun (x : Unit) => decide (True), fun (x : Unit) => V12 (true), fun (x : Unit) => N12 (true), fun _ _ => .dead⟩
theorem s12   (hp : True) : Goes (q12) (p12) (true) := by
  exact goes_inr.mpr rfl
theorem k12_ok  : k12.ok Try.prog := by
  intro x hx
  obtain _ := x
  obtain ⟨h1, h2⟩ := a12  (s12  (of_dec hx rfl))
  exact ⟨⟨400, (by decide : 0 + 1 + 0 ≤ 400), h1⟩, h2⟩
abbrev St61  := Empty
abbrev Rt61  := Int
noncomputable def V61 (aq nq mq : Nat) (tq : Nat → ByteArray) (vq gq : Nat → Int) (de : Int) (ao no mo : Nat) (to : Nat → Bool) (k1 k2 k3 : Int) (la lb : Bool) (r : Rt61) : PV := PV.int IntKind.i64 r
noncomputable def N61 (aq nq mq : Nat) (tq : Nat → ByteArray) (vq gq : Nat → Int) (de : Int) (ao no mo : Nat) (to : Nat → Bool) (k1 k2 k3 : Int) (la lb : Bool) (r : Rt61) : List Blk := []
noncomputable def I61 (aq nq mq : Nat) (tq : Nat → ByteArray) (vq gq : Nat → Int) (de : Int) (ao no mo : Nat) (to : Nat → Bool) (k1 k2 k3 : Int) (la lb : Bool) : St61 → Hd := fun s => s.elim
noncomputable def q61 (aq nq mq : Nat) (tq : Nat → ByteArray) (vq gq : Nat → Int) (de : Int) (ao no mo : Nat) (to : Nat → Bool) (k1 k2 k3 : Int) (la lb : Bool) : St61 → Option (St61 ⊕ Rt61) := fun s => s.elim
noncomputable def p61 (aq nq mq : Nat) (tq : Nat → ByteArray) (vq gq : Nat → Int) (de : Int) (ao no mo : Nat) (to : Nat → Bool) (k1 k2 k3 : Int) (la lb : Bool) : Option (St61 ⊕ Rt61) := bif (decide (aq + nq ≤ mq ∧ nq ≤ 1000000))
 then (bif (S.netE nq (fun j => tq (j + aq)) (fun j => vq (j + aq)) (fun j => gq (j + aq)) de !=
 (0 : Int))
 then (some (.inr (S.netE nq (fun j => tq (j + aq)) (fun j => vq (j + aq)) (fun j => gq (j + aq)) de)))
 else (bif ((↑no : Int) != (↑nq : Int))
 then (some (.inr ((6 : Int))))
 else (bif (decide (nq ≤ 100000))
 then (bif (S.failE nq k1 k2 k3 != (0 : Int))
 then (some (.inr (S.failE nq k1 k2 k3)))
 else (bif (decide (1 ≤ 1 ∧ 1 ≤ 1000000 ∧ ao + no ≤ mo ∧ no ≤ 1000000))
 then (bif (S.opnB (1 : Int) no (fun j => to (j + ao)) (1) (fun j => S.lit [k1] (0 : Int) j)
 (fun j => S.lit [k2] (0 : Int) j) fun j => S.lit [k3] (0 : Int) j)
 then (bif (la)
 then (bif (S.opnB (2 : Int) no (fun j => to (j + ao)) (1) (fun j => S.lit [k1] (0 : Int) j)
 (fun j => S.lit [k2] (0 : Int) j) fun j => S.lit [k3] (0 : Int) j)
 then (bif (lb)
 then (some (.inr ((0 : Int))))
 else (some (.inr ((1 : Int)))))
 else (some (.inr ((0 : Int)))))
 else (some (.inr ((1 : Int)))))
 else (bif (S.opnB (2 : Int) no (fun j => to (j + ao)) (1) (fun j => S.lit [k1] (0 : Int) j)
 (fun j => S.lit [k2] (0 : Int) j) fun j => S.lit [k3] (0 : Int) j)
 then (bif (lb)
 then (some (.inr ((0 : Int))))
 else (some (.inr ((1 : Int)))))
 else (some (.inr ((0 : Int))))))
 else (none)))
 else (none))))
 else (none)
noncomputable def Te61 (test : Bool → Prop → Prop → Prop) (Kst : KS) (Kret : KR) (aq nq mq : Nat) (tq : Nat → ByteArray) (vq gq : Nat → Int) (de : Int) (ao no mo : Nat) (to : Nat → Bool) (k1 k2 k3 : Int) (la lb : Bool) : Prop :=
  test (decide (aq + nq ≤ mq ∧ nq ≤ 1000000))
 (test (S.netE nq (fun j => tq (j + aq)) (fun j => vq (j + aq)) (fun j => gq (j + aq)) de !=
 (0 : Int))
 (Kret (PV.int IntKind.i64
 (S.netE nq (fun j => tq (j + aq)) (fun j => vq (j + aq)) (fun j => gq (j + aq)) de)) ([[(1, false, Blk.cols mo [Col.bool to]),
 (0, false,
 Blk.cols mq [Col.str tq, Col.int IntKind.i64 vq, Col.int IntKind.i64 gq])]]) (4))
 (test ((↑no : Int) != (↑nq : Int))
 (Kret (PV.int IntKind.i64 (6 : Int)) ([[(1, false, Blk.cols mo [Col.bool to]),
 (0, false,
 Blk.cols mq [Col.str tq, Col.int IntKind.i64 vq, Col.int IntKind.i64 gq])]]) (4))
 (test (decide (nq ≤ 100000))
 (test (S.failE nq k1 k2 k3 != (0 : Int))
 (Kret (PV.int IntKind.i64 (S.failE nq k1 k2 k3)) ([[(1, false, Blk.cols mo [Col.bool to]),
 (0, false,
 Blk.cols mq [Col.str tq, Col.int IntKind.i64 vq, Col.int IntKind.i64 gq])]]) (5))
 (test (decide (1 ≤ 1 ∧ 1 ≤ 1000000 ∧ ao + no ≤ mo ∧ no ≤ 1000000))
 (test (S.opnB (1 : Int) no (fun j => to (j + ao)) (1) (fun j => S.lit [k1] (0 : Int) j)
 (fun j => S.lit [k2] (0 : Int) j) fun j => S.lit [k3] (0 : Int) j)
 (test (la)
 (test (decide (1 ≤ 1 ∧ 1 ≤ 1000000 ∧ ao + no ≤ mo ∧ no ≤ 1000000))
 (test (S.opnB (2 : Int) no (fun j => to (j + ao)) (1) (fun j => S.lit [k1] (0 : Int) j)
 (fun j => S.lit [k2] (0 : Int) j) fun j => S.lit [k3] (0 : Int) j)
 (test (lb)
 (Kret (PV.int IntKind.i64 (0 : Int)) ([[(1, false, Blk.cols mo [Col.bool to]),
 (0, false,
 Blk.cols mq [Col.str tq, Col.int IntKind.i64 vq, Col.int IntKind.i64 gq])]]) (9))
 (Kret (PV.int IntKind.i64 (1 : Int)) ([[(1, false, Blk.cols mo [Col.bool to]),
 (0, false,
 Blk.cols mq [Col.str tq, Col.int IntKind.i64 vq, Col.int IntKind.i64 gq])]]) (9)))
 (Kret (PV.int IntKind.i64 (0 : Int)) ([[(1, false, Blk.cols mo [Col.bool to]),
 (0, false,
 Blk.cols mq [Col.str tq, Col.int IntKind.i64 vq, Col.int IntKind.i64 gq])]]) (9)))
 (False))
 (Kret (PV.int IntKind.i64 (1 : Int)) ([[(1, false, Blk.cols mo [Col.bool to]),
 (0, false,
 Blk.cols mq [Col.str tq, Col.int IntKind.i64 vq, Col.int IntKind.i64 gq])]]) (7)))
 (test (decide (1 ≤ 1 ∧ 1 ≤ 1000000 ∧ ao + no ≤ mo ∧ no ≤ 1000000))
 (test (S.opnB (2 : Int) no (fun j => to (j + ao)) (1) (fun j => S.lit [k1] (0 : Int) j)
 (fun j => S.lit [k2] (0 : Int) j) fun j => S.lit [k3] (0 : Int) j)
 (test (lb)
 (Kret (PV.int IntKind.i64 (0 : Int)) ([[(1, false, Blk.cols mo [Col.bool to]),
 (0, false,
 Blk.cols mq [Col.str tq, Col.int IntKind.i64 vq, Col.int IntKind.i64 gq])]]) (9))
 (Kret (PV.int IntKind.i64 (1 : Int)) ([[(1, false, Blk.cols mo [Col.bool to]),
 (0, false,
 Blk.cols mq [Col.str tq, Col.int IntKind.i64 vq, Col.int IntKind.i64 gq])]]) (9)))
 (Kret (PV.int IntKind.i64 (0 : Int)) ([[(1, false, Blk.cols mo [Col.bool to]),
 (0, false,
 Blk.cols mq [Col.str tq, Col.int IntKind.i64 vq, Col.int IntKind.i64 gq])]]) (9)))
 (False)))
 (False)))
 (False))))
 (False)
theorem te61 (test : Bool → Prop → Prop → Prop) (Kst : KS) (Kret : KR) (aq nq mq : Nat) (tq : Nat → ByteArray) (vq gq : Nat → Int) (de : Int) (ao no mo : Nat) (to : Nat → Bool) (k1 k2 k3 : Int) (la lb : Bool) : run test Try.env true (xD test) true 400 ⟨61, [.cd (mkFn Try.f61).body], argT 0 [.agg [.loose ⟨0, 3, aq, 0⟩ nq, .int .i64 de, .loose ⟨1, 1, ao, 0⟩ no, .int .i64 k1, .int .i64 k2, .int .i64 k3, .bool la, .bool lb]], [[], [(0, (false, .cols mq [.str tq, .int .i64 vq, .int .i64 gq])), (1, (false, .cols mo [.bool to]))]], 2⟩ (proj 2 [] Kst Kret) =
  Te61 test Kst Kret aq nq mq tq vq gq de ao no mo to k1 k2 k3 la lb := by kernel_rfl
theorem be61 (aq nq mq : Nat) (tq : Nat → ByteArray) (vq gq : Nat → Int) (de : Int) (ao no mo : Nat) (to : Nat → Bool) (k1 k2 k3 : Int) (la lb : Bool) (Kst : KS) (Kret : KR) (x : St61 ⊕ Rt61) (hS : HS 2 400 ((I61 aq nq mq tq vq gq de ao no mo to k1 k2 k3 la lb)) Kst x) (hR : HR 2 400 ((V61 aq nq mq tq vq gq de ao no mo to k1 k2 k3 la lb)) (fun r => [newL (2 + 1) ((N61 aq nq mq tq vq gq de ao no mo to k1 k2 k3 la lb) r) ++ [(0, (false, .cols mq [.str tq, .int .i64 vq, .int .i64 gq])), (1, (false, .cols mo [.bool to]))]]) Kret x) (h : p61 aq nq mq tq vq gq de ao no mo to k1 k2 k3 la lb = some x) : Te61 cond Kst Kret aq nq mq tq vq gq de ao no mo to k1 k2 k3 la lb := by
  unfold Te61
  unfold p61 at h
  refine bif_split h
   (fun c0 h => bif_split h
   (fun c1 h => ?_)
   (fun c1 h => bif_split h
   (fun c2 h => ?_)
   (fun c2 h => bif_split h
   (fun c3 h => bif_split h
   (fun c4 h => ?_)
   (fun c4 h => bif_split h
   (fun c5 h => bif_split h
   (fun c6 h => bif_split h
   (fun c7 h => cond_yes c5 (bif_split h
   (fun c8 h => bif_split h
   (fun c9 h => ?_)
   (fun c9 h => ?_))
   (fun c8 h => ?_)))
   (fun c7 h => ?_))
   (fun c6 h => cond_yes c5 (bif_split h
   (fun c7 h => bif_split h
   (fun c8 h => ?_)
   (fun c8 h => ?_))
   (fun c7 h => ?_))))
   (fun c5 h => ?_)))
   (fun c3 h => ?_))))
   (fun c0 h => ?_)
  all_goals first
    | exact ret_at hR _ h (fun n => n) rfl rfl rfl (rn_int rfl) rfl (entl_bor (use_lo rfl) rfl rfl (entl_bor (use_lo rfl) rfl rfl entl_nil))
    | exact no_some h
theorem a61 (aq nq mq : Nat) (tq : Nat → ByteArray) (vq gq : Nat → Int) (de : Int) (ao no mo : Nat) (to : Nat → Bool) (k1 k2 k3 : Int) (la lb : Bool) {r : Rt61} (h : Goes ((q61 aq nq mq tq vq gq de ao no mo to k1 k2 k3 la lb)) ((p61 aq nq mq tq vq gq de ao no mo to k1 k2 k3 la lb)) r) : CallR Try.prog 61 [.agg [.loose ⟨0, 3, aq, 0⟩ nq, .int .i64 de, .loose ⟨1, 1, ao, 0⟩ no, .int .i64 k1, .int .i64 k2, .int .i64 k3, .bool la, .bool lb]] [[(0, (false, .cols mq [.str tq, .int .i64 vq, .int .i64 gq])), (1, (false, .cols mo [.bool to]))]] 2 ((V61 aq nq mq tq vq gq de ao no mo to k1 k2 k3 la lb) r) ((fun r => [newL (2 + 1) ((N61 aq nq mq tq vq gq de ao no mo to k1 k2 k3 la lb) r) ++ [(0, (false, .cols mq [.str tq, .int .i64 vq, .int .i64 gq])), (1, (false, .cols mo [.bool to]))]]) r) 400 ∧ ∃ F, Try.prog.funcs[61]? = some F ∧ F.body.isSome = true ∧ (F.name == "runtime.NumGoroutine") = false := by
  refine dec_calls (f := 61) (lo := 2) (hi := 400) (H := [[(0, (false, .cols mq [.str tq, .int .i64 vq, .int .i64 gq])), (1, (false, .cols mo [.bool to]))]]) (args := [.agg [.loose ⟨0, 3, aq, 0⟩ nq, .int .i64 de, .loose ⟨1, 1, ao, 0⟩ no, .int .i64 k1, .int .i64 k2, .int .i64 k3, .bool la, .bool lb]]) Try.envOk Try.mixed xD_ok ((I61 aq nq mq tq vq gq de ao no mo to k1 k2 k3 la lb)) ((V61 aq nq mq tq vq gq de ao no mo to k1 k2 k3 la lb)) (fun r => [newL (2 + 1) ((N61 aq nq mq tq vq gq de ao no mo to k1 k2 k3 la lb) r) ++ [(0, (false, .cols mq [.str tq, .int .i64 vq, .int .i64 gq])), (1, (false, .cols mo [.bool to]))]]) (fn := mkFn Try.f61) (ts := []) (n := 400) rfl (by decide) (by simp) (names_of rfl) ?_ ?_ ?_ h
  · intro s; exact s.elim
  · intro Kst Kret x hS hR h
    exact Holds.eq (te61 cond Kst Kret aq nq mq tq vq gq de ao no mo to k1 k2 k3 la lb) (be61 aq nq mq tq vq gq de ao no mo to k1 k2 k3 la lb Kst Kret x hS hR h)
  · intro Kst Kret x hS hR s h; exact s.elim
noncomputable def k61  : Con := ⟨61, [.agg [.list [.str, .int .i64, .int .i64], .plain (.int .i64), .list [.bool], .plain (.int .i64), .plain (.int .i64), .plain (.int .i64), .plain (.bool), .plain (.bool)]], fun (x : ((Nat × Nat × Nat × (Nat → ByteArray) × (Nat → Int) × (Nat → Int) × Unit) × Int × (Nat × Nat × Nat × (Nat → Bool) × Unit) × Int × Int × Int × Bool × Bool × Unit) × Unit) => (fun (aq nq mq : Nat) (tq : Nat → ByteArray) (vq : Nat → Int) (gq : Nat → Int) (de : Int) (ao no mo : Nat) (to : Nat → Bool) (k1 : Int) (k2 : Int) (k3 : Int) (la : Bool) (lb : Bool) => decide (aq + nq ≤ mq ∧ nq ≤ 1000000 ∧ ao + no ≤ mo)) x.1.1.1 x.1.1.2.1 x.1.1.2.2.1 x.1.1.2.2.2.1 x.1.1.2.2.2.2.1 x.1.1.2.2.2.2.2.1 x.1.2.1 x.1.2.2.1.1 x.1.2.2.1.2.1 x.1.2.2.1.2.2.1 x.1.2.2.1.2.2.2.1 x.1.2.2.2.1 x.1.2.2.2.2.1 x.1.2.2.2.2.2.1 x.1.2.2.2.2.2.2.1 x.1.2.2.2.2.2.2.2.1, fun (x : ((Nat × Nat × Nat × (Nat → ByteArray) × (Nat → Int) × (Nat → Int) × Unit) × Int × (Nat × Nat × Nat × (Nat → Bool) × Unit) × Int × Int × Int × Bool × Bool × Unit) × Unit) => (fun (aq nq mq : Nat) (tq : Nat → ByteArray) (vq : Nat → Int) (gq : Nat → Int) (de : Int) (ao no mo : Nat) (to : Nat → Bool) (k1 : Int) (k2 : Int) (k3 : Int) (la : Bool) (lb : Bool) => (V61 aq nq mq tq vq gq de ao no mo to k1 k2 k3 la lb) (S.stE nq no (S.netE nq (fun j => tq (j + aq)) (fun j => vq (j + aq)) (fun j => gq (j + aq)) de) (fun j => to (j + ao)) k1 k2 k3 la lb)) x.1.1.1 x.1.1.2.1 x.1.1.2.2.1 x.1.1.2.2.2.1 x.1.1.2.2.2.2.1 x.1.1.2.2.2.2.2.1 x.1.2.1 x.1.2.2.1.1 x.1.2.2.1.2.1 x.1.2.2.1.2.2.1 x.1.2.2.1.2.2.2.1 x.1.2.2.2.1 x.1.2.2.2.2.1 x.1.2.2.2.2.2.1 x.1.2.2.2.2.2.2.1 x.1.2.2.2.2.2.2.2.1, fun (x : ((Nat × Nat × Nat × (Nat → ByteArray) × (Nat → Int) × (Nat → Int) × Unit) × Int × (Nat × Nat × Nat × (Nat → Bool) × Unit) × Int × Int × Int × Bool × Bool × Unit) × Unit) => (fun (aq nq mq : Nat) (tq : Nat → ByteArray) (vq : Nat → Int) (gq : Nat → Int) (de : Int) (ao no mo : Nat) (to : Nat → Bool) (k1 : Int) (k2 : Int) (k3 : Int) (la : Bool) (lb : Bool) => (N61 aq nq mq tq vq gq de ao no mo to k1 k2 k3 la lb) (S.stE nq no (S.netE nq (fun j => tq (j + aq)) (fun j => vq (j + aq)) (fun j => gq (j + aq)) de) (fun j => to (j + ao)) k1 k2 k3 la lb)) x.1.1.1 x.1.1.2.1 x.1.1.2.2.1 x.1.1.2.2.2.1 x.1.1.2.2.2.2.1 x.1.1.2.2.2.2.2.1 x.1.2.1 x.1.2.2.1.1 x.1.2.2.1.2.1 x.1.2.2.1.2.2.1 x.1.2.2.1.2.2.2.1 x.1.2.2.2.1 x.1.2.2.2.2.1 x.1.2.2.2.2.2.1 x.1.2.2.2.2.2.2.1 x.1.2.2.2.2.2.2.2.1, fun _ _ => .dead⟩
theorem s61 (aq nq mq : Nat) (tq : Nat → ByteArray) (vq gq : Nat → Int) (de : Int) (ao no mo : Nat) (to : Nat → Bool) (k1 k2 k3 : Int) (la lb : Bool) (hp : aq + nq ≤ mq ∧ nq ≤ 1000000 ∧ ao + no ≤ mo) : Goes ((q61 aq nq mq tq vq gq de ao no mo to k1 k2 k3 la lb)) ((p61 aq nq mq tq vq gq de ao no mo to k1 k2 k3 la lb)) (S.stE nq no (S.netE nq (fun j => tq (j + aq)) (fun j => vq (j + aq)) (fun j => gq (j + aq)) de) (fun j => to (j + ao)) k1 k2 k3 la lb) := by
  obtain ⟨hp1, hp2, hp3⟩ := hp
  have hn : (S.netE nq (fun j => tq (j + aq)) (fun j => vq (j + aq)) (fun j => gq (j + aq)) de) = 0 → nq ≤ 12 := fun h => (net_ok h).1.2
  unfold p61 S.stE
  simp only [op1_eq]
  by_cases hx : no = nq
  · rw [show S.op1 1 no = S.op1 1 nq by rw [hx], show S.op1 2 no = S.op1 2 nq by rw [hx]]
    generalize (S.netE nq (fun j => tq (j + aq)) (fun j => vq (j + aq)) (fun j => gq (j + aq)) de) = e at *
    generalize S.failE nq k1 k2 k3 = fe at *
    generalize S.op1 1 nq (fun j => to (j + ao)) k1 k2 k3 = A at *
    generalize S.op1 2 nq (fun j => to (j + ao)) k1 k2 k3 = B at *
    show Goes _ _ _
    cases A <;> cases B <;> cases la <;> cases lb
    all_goals
     repeat' first
      | with_reducible refine goes_if (fun h => ?_) (fun h => ?_) <;> (try simp only [SH] at h)
      | exact goes_none.mpr (by omega)
     all_goals first | (exfalso; omega) | exact goes_inr.mpr rfl | (refine goes_inr.mpr ?_; (repeat' split) <;> first | rfl | (exfalso; omega) | (exfalso; simp_all; done))
  · generalize (S.netE nq (fun j => tq (j + aq)) (fun j => vq (j + aq)) (fun j => gq (j + aq)) de) = e at *
    show Goes _ _ _
    repeat' first
      | with_reducible refine goes_if (fun h => ?_) (fun h => ?_) <;> (try simp only [SH] at h)
      | exact goes_none.mpr (by omega)
    all_goals first | (exfalso; omega) | exact goes_inr.mpr rfl | (refine goes_inr.mpr ?_; (repeat' split) <;> first | rfl | (exfalso; omega) | (exfalso; simp_all; done))
theorem k61_ok  : k61.ok Try.prog := by
  intro x hx
  obtain ⟨⟨⟨aq, nq, mq, tq, vq, gq, _⟩, de, ⟨ao, no, mo, to, _⟩, k1, k2, k3, la, lb, _⟩, _⟩ := x
  obtain ⟨h1, h2⟩ := a61 aq nq mq tq vq gq de ao no mo to k1 k2 k3 la lb (s61 aq nq mq tq vq gq de ao no mo to k1 k2 k3 la lb (of_dec hx rfl))
  exact ⟨⟨400, (by decide : 2 + 1 + 0 ≤ 400), h1⟩, h2⟩
abbrev St63  := Empty
abbrev Rt63  := Int
noncomputable def V63 (aq nq mq : Nat) (tq : Nat → ByteArray) (vq gq : Nat → Int) (de : Int) (ao no mo : Nat) (to : Nat → Bool) (k1 k2 k3 : Int) (la lb : Bool) (r : Rt63) : PV := PV.int IntKind.i64 r
noncomputable def N63 (aq nq mq : Nat) (tq : Nat → ByteArray) (vq gq : Nat → Int) (de : Int) (ao no mo : Nat) (to : Nat → Bool) (k1 k2 k3 : Int) (la lb : Bool) (r : Rt63) : List Blk := []
noncomputable def I63 (aq nq mq : Nat) (tq : Nat → ByteArray) (vq gq : Nat → Int) (de : Int) (ao no mo : Nat) (to : Nat → Bool) (k1 k2 k3 : Int) (la lb : Bool) : St63 → Hd := fun s => s.elim
noncomputable def q63 (aq nq mq : Nat) (tq : Nat → ByteArray) (vq gq : Nat → Int) (de : Int) (ao no mo : Nat) (to : Nat → Bool) (k1 k2 k3 : Int) (la lb : Bool) : St63 → Option (St63 ⊕ Rt63) := fun s => s.elim
noncomputable def p63 (aq nq mq : Nat) (tq : Nat → ByteArray) (vq gq : Nat → Int) (de : Int) (ao no mo : Nat) (to : Nat → Bool) (k1 k2 k3 : Int) (la lb : Bool) : Option (St63 ⊕ Rt63) := bif (decide (aq + nq ≤ mq ∧ nq ≤ 1000000 ∧ ao + no ≤ mo))
 then (bif (Prod.fst
 (S.looS nq no
 (S.netE nq (fun j => tq (j + aq)) (fun j => vq (j + aq)) (fun j => gq (j + aq)) de)
 (fun j => to (j + ao)) k1 k2 k3))
 then (bif (Prod.fst
 (Prod.snd
 (S.looS nq no
 (S.netE nq (fun j => tq (j + aq)) (fun j => vq (j + aq)) (fun j => gq (j + aq)) de)
 (fun j => to (j + ao)) k1 k2 k3)))
 then (bif (Prod.snd
 (Prod.snd
 (S.looS nq no
 (S.netE nq (fun j => tq (j + aq)) (fun j => vq (j + aq)) (fun j => gq (j + aq))
 de)
 (fun j => to (j + ao)) k1 k2 k3)) !=
 (0 : Int))
 then (some (.inr (Prod.snd
 (Prod.snd
 (S.looS nq no
 (S.netE nq (fun j => tq (j + aq)) (fun j => vq (j + aq)) (fun j => gq (j + aq)) de)
 (fun j => to (j + ao)) k1 k2 k3)))))
 else (some (.inr ((0 : Int)))))
 else (bif (Prod.snd
 (Prod.snd
 (S.looS nq no
 (S.netE nq (fun j => tq (j + aq)) (fun j => vq (j + aq)) (fun j => gq (j + aq))
 de)
 (fun j => to (j + ao)) k1 k2 k3)) !=
 (0 : Int))
 then (some (.inr (Prod.snd
 (Prod.snd
 (S.looS nq no
 (S.netE nq (fun j => tq (j + aq)) (fun j => vq (j + aq)) (fun j => gq (j + aq)) de)
 (fun j => to (j + ao)) k1 k2 k3)))))
 else (bif (lb)
 then (some (.inr ((0 : Int))))
 else (some (.inr ((1 : Int)))))))
 else (bif (Prod.fst
 (Prod.snd
 (S.looS nq no
 (S.netE nq (fun j => tq (j + aq)) (fun j => vq (j + aq)) (fun j => gq (j + aq)) de)
 (fun j => to (j + ao)) k1 k2 k3)))
 then (bif (Prod.snd
 (Prod.snd
 (S.looS nq no
 (S.netE nq (fun j => tq (j + aq)) (fun j => vq (j + aq)) (fun j => gq (j + aq))
 de)
 (fun j => to (j + ao)) k1 k2 k3)) !=
 (0 : Int))
 then (some (.inr (Prod.snd
 (Prod.snd
 (S.looS nq no
 (S.netE nq (fun j => tq (j + aq)) (fun j => vq (j + aq)) (fun j => gq (j + aq)) de)
 (fun j => to (j + ao)) k1 k2 k3)))))
 else (bif (la)
 then (some (.inr ((0 : Int))))
 else (some (.inr ((1 : Int))))))
 else (bif (Prod.snd
 (Prod.snd
 (S.looS nq no
 (S.netE nq (fun j => tq (j + aq)) (fun j => vq (j + aq)) (fun j => gq (j + aq))
 de)
 (fun j => to (j + ao)) k1 k2 k3)) !=
 (0 : Int))
 then (some (.inr (Prod.snd
 (Prod.snd
 (S.looS nq no
 (S.netE nq (fun j => tq (j + aq)) (fun j => vq (j + aq)) (fun j => gq (j + aq)) de)
 (fun j => to (j + ao)) k1 k2 k3)))))
 else (bif (la)
 then (bif (lb)
 then (some (.inr ((0 : Int))))
 else (some (.inr ((1 : Int)))))
 else (some (.inr ((1 : Int))))))))
 else (none)
noncomputable def Te63 (test : Bool → Prop → Prop → Prop) (Kst : KS) (Kret : KR) (aq nq mq : Nat) (tq : Nat → ByteArray) (vq gq : Nat → Int) (de : Int) (ao no mo : Nat) (to : Nat → Bool) (k1 k2 k3 : Int) (la lb : Bool) : Prop :=
  test (decide (aq + nq ≤ mq ∧ nq ≤ 1000000 ∧ ao + no ≤ mo))
 (test (Prod.fst
 (S.looS nq no
 (S.netE nq (fun j => tq (j + aq)) (fun j => vq (j + aq)) (fun j => gq (j + aq)) de)
 (fun j => to (j + ao)) k1 k2 k3))
 (test (Prod.fst
 (Prod.snd
 (S.looS nq no
 (S.netE nq (fun j => tq (j + aq)) (fun j => vq (j + aq)) (fun j => gq (j + aq)) de)
 (fun j => to (j + ao)) k1 k2 k3)))
 (test (Prod.snd
 (Prod.snd
 (S.looS nq no
 (S.netE nq (fun j => tq (j + aq)) (fun j => vq (j + aq)) (fun j => gq (j + aq))
 de)
 (fun j => to (j + ao)) k1 k2 k3)) !=
 (0 : Int))
 (Kret (PV.int IntKind.i64
 (Prod.snd
 (Prod.snd
 (S.looS nq no
 (S.netE nq (fun j => tq (j + aq)) (fun j => vq (j + aq)) (fun j => gq (j + aq))
 de)
 (fun j => to (j + ao)) k1 k2 k3)))) ([[(1, false, Blk.cols mo [Col.bool to]),
 (0, false,
 Blk.cols mq [Col.str tq, Col.int IntKind.i64 vq, Col.int IntKind.i64 gq])]]) (4))
 (Kret (PV.int IntKind.i64 (0 : Int)) ([[(1, false, Blk.cols mo [Col.bool to]),
 (0, false,
 Blk.cols mq [Col.str tq, Col.int IntKind.i64 vq, Col.int IntKind.i64 gq])]]) (4)))
 (test (Prod.snd
 (Prod.snd
 (S.looS nq no
 (S.netE nq (fun j => tq (j + aq)) (fun j => vq (j + aq)) (fun j => gq (j + aq))
 de)
 (fun j => to (j + ao)) k1 k2 k3)) !=
 (0 : Int))
 (Kret (PV.int IntKind.i64
 (Prod.snd
 (Prod.snd
 (S.looS nq no
 (S.netE nq (fun j => tq (j + aq)) (fun j => vq (j + aq)) (fun j => gq (j + aq))
 de)
 (fun j => to (j + ao)) k1 k2 k3)))) ([[(1, false, Blk.cols mo [Col.bool to]),
 (0, false,
 Blk.cols mq [Col.str tq, Col.int IntKind.i64 vq, Col.int IntKind.i64 gq])]]) (4))
 (test (lb)
 (Kret (PV.int IntKind.i64 (0 : Int)) ([[(1, false, Blk.cols mo [Col.bool to]),
 (0, false,
 Blk.cols mq [Col.str tq, Col.int IntKind.i64 vq, Col.int IntKind.i64 gq])]]) (4))
 (Kret (PV.int IntKind.i64 (1 : Int)) ([[(1, false, Blk.cols mo [Col.bool to]),
 (0, false,
 Blk.cols mq [Col.str tq, Col.int IntKind.i64 vq, Col.int IntKind.i64 gq])]]) (4)))))
 (test (Prod.fst
 (Prod.snd
 (S.looS nq no
 (S.netE nq (fun j => tq (j + aq)) (fun j => vq (j + aq)) (fun j => gq (j + aq)) de)
 (fun j => to (j + ao)) k1 k2 k3)))
 (test (Prod.snd
 (Prod.snd
 (S.looS nq no
 (S.netE nq (fun j => tq (j + aq)) (fun j => vq (j + aq)) (fun j => gq (j + aq))
 de)
 (fun j => to (j + ao)) k1 k2 k3)) !=
 (0 : Int))
 (Kret (PV.int IntKind.i64
 (Prod.snd
 (Prod.snd
 (S.looS nq no
 (S.netE nq (fun j => tq (j + aq)) (fun j => vq (j + aq)) (fun j => gq (j + aq))
 de)
 (fun j => to (j + ao)) k1 k2 k3)))) ([[(1, false, Blk.cols mo [Col.bool to]),
 (0, false,
 Blk.cols mq [Col.str tq, Col.int IntKind.i64 vq, Col.int IntKind.i64 gq])]]) (4))
 (test (la)
 (Kret (PV.int IntKind.i64 (0 : Int)) ([[(1, false, Blk.cols mo [Col.bool to]),
 (0, false,
 Blk.cols mq [Col.str tq, Col.int IntKind.i64 vq, Col.int IntKind.i64 gq])]]) (4))
 (Kret (PV.int IntKind.i64 (1 : Int)) ([[(1, false, Blk.cols mo [Col.bool to]),
 (0, false,
 Blk.cols mq [Col.str tq, Col.int IntKind.i64 vq, Col.int IntKind.i64 gq])]]) (4))))
 (test (Prod.snd
 (Prod.snd
 (S.looS nq no
 (S.netE nq (fun j => tq (j + aq)) (fun j => vq (j + aq)) (fun j => gq (j + aq))
 de)
 (fun j => to (j + ao)) k1 k2 k3)) !=
 (0 : Int))
 (Kret (PV.int IntKind.i64
 (Prod.snd
 (Prod.snd
 (S.looS nq no
 (S.netE nq (fun j => tq (j + aq)) (fun j => vq (j + aq)) (fun j => gq (j + aq))
 de)
 (fun j => to (j + ao)) k1 k2 k3)))) ([[(1, false, Blk.cols mo [Col.bool to]),
 (0, false,
 Blk.cols mq [Col.str tq, Col.int IntKind.i64 vq, Col.int IntKind.i64 gq])]]) (4))
 (test (la)
 (test (lb)
 (Kret (PV.int IntKind.i64 (0 : Int)) ([[(1, false, Blk.cols mo [Col.bool to]),
 (0, false,
 Blk.cols mq [Col.str tq, Col.int IntKind.i64 vq, Col.int IntKind.i64 gq])]]) (4))
 (Kret (PV.int IntKind.i64 (1 : Int)) ([[(1, false, Blk.cols mo [Col.bool to]),
 (0, false,
 Blk.cols mq [Col.str tq, Col.int IntKind.i64 vq, Col.int IntKind.i64 gq])]]) (4)))
 (Kret (PV.int IntKind.i64 (1 : Int)) ([[(1, false, Blk.cols mo [Col.bool to]),
 (0, false,
 Blk.cols mq [Col.str tq, Col.int IntKind.i64 vq, Col.int IntKind.i64 gq])]]) (4))))))
 (False)
theorem te63 (test : Bool → Prop → Prop → Prop) (Kst : KS) (Kret : KR) (aq nq mq : Nat) (tq : Nat → ByteArray) (vq gq : Nat → Int) (de : Int) (ao no mo : Nat) (to : Nat → Bool) (k1 k2 k3 : Int) (la lb : Bool) : run test Try.env true (xD test) true 400 ⟨63, [.cd (mkFn Try.f63).body], argT 0 [.agg [.loose ⟨0, 3, aq, 0⟩ nq, .int .i64 de, .loose ⟨1, 1, ao, 0⟩ no, .int .i64 k1, .int .i64 k2, .int .i64 k3, .bool la, .bool lb]], [[], [(0, (false, .cols mq [.str tq, .int .i64 vq, .int .i64 gq])), (1, (false, .cols mo [.bool to]))]], 2⟩ (proj 2 [] Kst Kret) =
  Te63 test Kst Kret aq nq mq tq vq gq de ao no mo to k1 k2 k3 la lb := by kernel_rfl
theorem be63 (aq nq mq : Nat) (tq : Nat → ByteArray) (vq gq : Nat → Int) (de : Int) (ao no mo : Nat) (to : Nat → Bool) (k1 k2 k3 : Int) (la lb : Bool) (Kst : KS) (Kret : KR) (x : St63 ⊕ Rt63) (hS : HS 2 400 ((I63 aq nq mq tq vq gq de ao no mo to k1 k2 k3 la lb)) Kst x) (hR : HR 2 400 ((V63 aq nq mq tq vq gq de ao no mo to k1 k2 k3 la lb)) (fun r => [newL (2 + 1) ((N63 aq nq mq tq vq gq de ao no mo to k1 k2 k3 la lb) r) ++ [(0, (false, .cols mq [.str tq, .int .i64 vq, .int .i64 gq])), (1, (false, .cols mo [.bool to]))]]) Kret x) (h : p63 aq nq mq tq vq gq de ao no mo to k1 k2 k3 la lb = some x) : Te63 cond Kst Kret aq nq mq tq vq gq de ao no mo to k1 k2 k3 la lb := by
  unfold Te63
  unfold p63 at h
  refine bif_split h
   (fun c0 h => bif_split h
   (fun c1 h => bif_split h
   (fun c2 h => bif_split h
   (fun c3 h => ?_)
   (fun c3 h => ?_))
   (fun c2 h => bif_split h
   (fun c3 h => ?_)
   (fun c3 h => bif_split h
   (fun c4 h => ?_)
   (fun c4 h => ?_))))
   (fun c1 h => bif_split h
   (fun c2 h => bif_split h
   (fun c3 h => ?_)
   (fun c3 h => bif_split h
   (fun c4 h => ?_)
   (fun c4 h => ?_)))
   (fun c2 h => bif_split h
   (fun c3 h => ?_)
   (fun c3 h => bif_split h
   (fun c4 h => bif_split h
   (fun c5 h => ?_)
   (fun c5 h => ?_))
   (fun c4 h => ?_)))))
   (fun c0 h => no_some h)
  all_goals first
    | exact ret_at hR _ h (fun n => n) rfl rfl rfl (rn_int rfl) rfl (entl_bor (use_lo rfl) rfl rfl (entl_bor (use_lo rfl) rfl rfl entl_nil))
theorem a63 (aq nq mq : Nat) (tq : Nat → ByteArray) (vq gq : Nat → Int) (de : Int) (ao no mo : Nat) (to : Nat → Bool) (k1 k2 k3 : Int) (la lb : Bool) {r : Rt63} (h : Goes ((q63 aq nq mq tq vq gq de ao no mo to k1 k2 k3 la lb)) ((p63 aq nq mq tq vq gq de ao no mo to k1 k2 k3 la lb)) r) : CallR Try.prog 63 [.agg [.loose ⟨0, 3, aq, 0⟩ nq, .int .i64 de, .loose ⟨1, 1, ao, 0⟩ no, .int .i64 k1, .int .i64 k2, .int .i64 k3, .bool la, .bool lb]] [[(0, (false, .cols mq [.str tq, .int .i64 vq, .int .i64 gq])), (1, (false, .cols mo [.bool to]))]] 2 ((V63 aq nq mq tq vq gq de ao no mo to k1 k2 k3 la lb) r) ((fun r => [newL (2 + 1) ((N63 aq nq mq tq vq gq de ao no mo to k1 k2 k3 la lb) r) ++ [(0, (false, .cols mq [.str tq, .int .i64 vq, .int .i64 gq])), (1, (false, .cols mo [.bool to]))]]) r) 400 ∧ ∃ F, Try.prog.funcs[63]? = some F ∧ F.body.isSome = true ∧ (F.name == "runtime.NumGoroutine") = false := by
  refine dec_calls (f := 63) (lo := 2) (hi := 400) (H := [[(0, (false, .cols mq [.str tq, .int .i64 vq, .int .i64 gq])), (1, (false, .cols mo [.bool to]))]]) (args := [.agg [.loose ⟨0, 3, aq, 0⟩ nq, .int .i64 de, .loose ⟨1, 1, ao, 0⟩ no, .int .i64 k1, .int .i64 k2, .int .i64 k3, .bool la, .bool lb]]) Try.envOk Try.mixed xD_ok ((I63 aq nq mq tq vq gq de ao no mo to k1 k2 k3 la lb)) ((V63 aq nq mq tq vq gq de ao no mo to k1 k2 k3 la lb)) (fun r => [newL (2 + 1) ((N63 aq nq mq tq vq gq de ao no mo to k1 k2 k3 la lb) r) ++ [(0, (false, .cols mq [.str tq, .int .i64 vq, .int .i64 gq])), (1, (false, .cols mo [.bool to]))]]) (fn := mkFn Try.f63) (ts := []) (n := 400) rfl (by decide) (by simp) (names_of rfl) ?_ ?_ ?_ h
  · intro s; exact s.elim
  · intro Kst Kret x hS hR h
    exact Holds.eq (te63 cond Kst Kret aq nq mq tq vq gq de ao no mo to k1 k2 k3 la lb) (be63 aq nq mq tq vq gq de ao no mo to k1 k2 k3 la lb Kst Kret x hS hR h)
  · intro Kst Kret x hS hR s h; exact s.elim
noncomputable def k63  : Con := ⟨63, [.agg [.list [.str, .int .i64, .int .i64], .plain (.int .i64), .list [.bool], .plain (.int .i64), .plain (.int .i64), .plain (.int .i64), .plain (.bool), .plain (.bool)]], fun (x : ((Nat × Nat × Nat × (Nat → ByteArray) × (Nat → Int) × (Nat → Int) × Unit) × Int × (Nat × Nat × Nat × (Nat → Bool) × Unit) × Int × Int × Int × Bool × Bool × Unit) × Unit) => (fun (aq nq mq : Nat) (tq : Nat → ByteArray) (vq : Nat → Int) (gq : Nat → Int) (de : Int) (ao no mo : Nat) (to : Nat → Bool) (k1 : Int) (k2 : Int) (k3 : Int) (la : Bool) (lb : Bool) => decide (aq + nq ≤ mq ∧ nq ≤ 1000000 ∧ ao + no ≤ mo)) x.1.1.1 x.1.1.2.1 x.1.1.2.2.1 x.1.1.2.2.2.1 x.1.1.2.2.2.2.1 x.1.1.2.2.2.2.2.1 x.1.2.1 x.1.2.2.1.1 x.1.2.2.1.2.1 x.1.2.2.1.2.2.1 x.1.2.2.1.2.2.2.1 x.1.2.2.2.1 x.1.2.2.2.2.1 x.1.2.2.2.2.2.1 x.1.2.2.2.2.2.2.1 x.1.2.2.2.2.2.2.2.1, fun (x : ((Nat × Nat × Nat × (Nat → ByteArray) × (Nat → Int) × (Nat → Int) × Unit) × Int × (Nat × Nat × Nat × (Nat → Bool) × Unit) × Int × Int × Int × Bool × Bool × Unit) × Unit) => (fun (aq nq mq : Nat) (tq : Nat → ByteArray) (vq : Nat → Int) (gq : Nat → Int) (de : Int) (ao no mo : Nat) (to : Nat → Bool) (k1 : Int) (k2 : Int) (k3 : Int) (la : Bool) (lb : Bool) => (V63 aq nq mq tq vq gq de ao no mo to k1 k2 k3 la lb) (S.stE nq no (S.netE nq (fun j => tq (j + aq)) (fun j => vq (j + aq)) (fun j => gq (j + aq)) de) (fun j => to (j + ao)) k1 k2 k3 la lb)) x.1.1.1 x.1.1.2.1 x.1.1.2.2.1 x.1.1.2.2.2.1 x.1.1.2.2.2.2.1 x.1.1.2.2.2.2.2.1 x.1.2.1 x.1.2.2.1.1 x.1.2.2.1.2.1 x.1.2.2.1.2.2.1 x.1.2.2.1.2.2.2.1 x.1.2.2.2.1 x.1.2.2.2.2.1 x.1.2.2.2.2.2.1 x.1.2.2.2.2.2.2.1 x.1.2.2.2.2.2.2.2.1, fun (x : ((Nat × Nat × Nat × (Nat → ByteArray) × (Nat → Int) × (Nat → Int) × Unit) × Int × (Nat × Nat × Nat × (Nat → Bool) × Unit) × Int × Int × Int × Bool × Bool × Unit) × Unit) => (fun (aq nq mq : Nat) (tq : Nat → ByteArray) (vq : Nat → Int) (gq : Nat → Int) (de : Int) (ao no mo : Nat) (to : Nat → Bool) (k1 : Int) (k2 : Int) (k3 : Int) (la : Bool) (lb : Bool) => (N63 aq nq mq tq vq gq de ao no mo to k1 k2 k3 la lb) (S.stE nq no (S.netE nq (fun j => tq (j + aq)) (fun j => vq (j + aq)) (fun j => gq (j + aq)) de) (fun j => to (j + ao)) k1 k2 k3 la lb)) x.1.1.1 x.1.1.2.1 x.1.1.2.2.1 x.1.1.2.2.2.1 x.1.1.2.2.2.2.1 x.1.1.2.2.2.2.2.1 x.1.2.1 x.1.2.2.1.1 x.1.2.2.1.2.1 x.1.2.2.1.2.2.1 x.1.2.2.1.2.2.2.1 x.1.2.2.2.1 x.1.2.2.2.2.1 x.1.2.2.2.2.2.1 x.1.2.2.2.2.2.2.1 x.1.2.2.2.2.2.2.2.1, fun _ _ => .dead⟩
theorem s63 (aq nq mq : Nat) (tq : Nat → ByteArray) (vq gq : Nat → Int) (de : Int) (ao no mo : Nat) (to : Nat → Bool) (k1 k2 k3 : Int) (la lb : Bool) (hp : aq + nq ≤ mq ∧ nq ≤ 1000000 ∧ ao + no ≤ mo) : Goes ((q63 aq nq mq tq vq gq de ao no mo to k1 k2 k3 la lb)) ((p63 aq nq mq tq vq gq de ao no mo to k1 k2 k3 la lb)) (S.stE nq no (S.netE nq (fun j => tq (j + aq)) (fun j => vq (j + aq)) (fun j => gq (j + aq)) de) (fun j => to (j + ao)) k1 k2 k3 la lb) := by
  unfold p63 S.stE
  rw [decide_eq_true hp, S.looS]
  generalize (S.netE nq (fun j => tq (j + aq)) (fun j => vq (j + aq)) (fun j => gq (j + aq)) de) = e at *
  generalize S.failE nq k1 k2 k3 = fe at *
  generalize S.op1 1 nq (fun j => to (j + ao)) k1 k2 k3 = A at *
  generalize S.op1 2 nq (fun j => to (j + ao)) k1 k2 k3 = B at *
  by_cases he : e = 0
  · simp only [if_pos he]
    by_cases hx : no = nq
    · simp only [if_pos hx]
      by_cases hf : fe = 0
      · simp only [if_pos hf]
        cases A <;> cases B <;> cases la <;> cases lb <;> exact goes_inr.mpr rfl
      · simp only [if_neg hf]
        have hb : (fe != 0) = true := bne_iff_ne.mpr hf
        simp only [hb]
        exact goes_inr.mpr rfl
    · simp only [if_neg hx]
      exact goes_inr.mpr rfl
  · simp only [if_neg he]
    have hb : (e != 0) = true := bne_iff_ne.mpr he
    simp only [hb]
    exact goes_inr.mpr rfl
theorem k63_ok  : k63.ok Try.prog := by
  intro x hx
  obtain ⟨⟨⟨aq, nq, mq, tq, vq, gq, _⟩, de, ⟨ao, no, mo, to, _⟩, k1, k2, k3, la, lb, _⟩, _⟩ := x
  obtain ⟨h1, h2⟩ := a63 aq nq mq tq vq gq de ao no mo to k1 k2 k3 la lb (s63 aq nq mq tq vq gq de ao no mo to k1 k2 k3 la lb (of_dec hx rfl))
  exact ⟨⟨400, (by decide : 2 + 1 + 0 ≤ 400), h1⟩, h2⟩
abbrev St62  := Empty
abbrev Rt62  := List (ByteArray × Int × Int) × List Bool
noncomputable def V62 (aq nq mq : Nat) (tq : Nat → ByteArray) (vq gq : Nat → Int) (de : Int) (ao no mo : Nat) (to : Nat → Bool) (k1 k2 k3 : Int) (la lb : Bool) (r : Rt62) : PV := PV.agg
 [PV.own (3) (3) (List.length r.1), PV.int IntKind.i64 de,
 PV.own (4) (1) (List.length r.2), PV.int IntKind.i64 k1,
 PV.int IntKind.i64 k2, PV.int IntKind.i64 k3, PV.bool la, PV.bool lb]
noncomputable def N62 (aq nq mq : Nat) (tq : Nat → ByteArray) (vq gq : Nat → Int) (de : Int) (ao no mo : Nat) (to : Nat → Bool) (k1 k2 k3 : Int) (la lb : Bool) (r : Rt62) : List Blk := [Blk.cols (List.length r.1)
 [Col.str fun j => (S.at' r.1 j).1,
 Col.int IntKind.i64 fun j => (S.at' r.1 j).2.1,
 Col.int IntKind.i64 fun j => (S.at' r.1 j).2.2], Blk.cols (List.length r.2) [Col.bool fun j => S.at' r.2 j]]
noncomputable def I62 (aq nq mq : Nat) (tq : Nat → ByteArray) (vq gq : Nat → Int) (de : Int) (ao no mo : Nat) (to : Nat → Bool) (k1 k2 k3 : Int) (la lb : Bool) : St62 → Hd := fun s => s.elim
noncomputable def q62 (aq nq mq : Nat) (tq : Nat → ByteArray) (vq gq : Nat → Int) (de : Int) (ao no mo : Nat) (to : Nat → Bool) (k1 k2 k3 : Int) (la lb : Bool) : St62 → Option (St62 ⊕ Rt62) := fun s => s.elim
noncomputable def p62 (aq nq mq : Nat) (tq : Nat → ByteArray) (vq gq : Nat → Int) (de : Int) (ao no mo : Nat) (to : Nat → Bool) (k1 k2 k3 : Int) (la lb : Bool) : Option (St62 ⊕ Rt62) := bif (decide (aq + nq ≤ mq ∧ nq ≤ 1000000))
 then (bif (decide (ao + no ≤ mo ∧ no ≤ 1000000))
 then (some (.inr (S.mkl nq fun j => (tq (j + aq), vq (j + aq), gq (j + aq)), S.mkl no fun j => to (j + ao))))
 else (none))
 else (none)
noncomputable def Te62 (test : Bool → Prop → Prop → Prop) (Kst : KS) (Kret : KR) (aq nq mq : Nat) (tq : Nat → ByteArray) (vq gq : Nat → Int) (de : Int) (ao no mo : Nat) (to : Nat → Bool) (k1 k2 k3 : Int) (la lb : Bool) : Prop :=
  test (decide (aq + nq ≤ mq ∧ nq ≤ 1000000))
 (test (decide (ao + no ≤ mo ∧ no ≤ 1000000))
 (Kret (PV.agg
 [PV.own (7) (3) nq, PV.int IntKind.i64 de, PV.own (9) (1) no,
 PV.int IntKind.i64 k1, PV.int IntKind.i64 k2, PV.int IntKind.i64 k3, PV.bool la,
 PV.bool lb]) ([[(1, false, Blk.cols mo [Col.bool to]),
 (0, false,
 Blk.cols mq [Col.str tq, Col.int IntKind.i64 vq, Col.int IntKind.i64 gq]),
 (9, true, Blk.cols no [Col.bool fun j => to (j + ao)]),
 (7, true,
 Blk.cols nq
 [Col.str fun j => tq (j + aq), Col.int IntKind.i64 fun j => vq (j + aq),
 Col.int IntKind.i64 fun j => gq (j + aq)])]]) (10))
 (False))
 (False)
theorem te62 (test : Bool → Prop → Prop → Prop) (Kst : KS) (Kret : KR) (aq nq mq : Nat) (tq : Nat → ByteArray) (vq gq : Nat → Int) (de : Int) (ao no mo : Nat) (to : Nat → Bool) (k1 k2 k3 : Int) (la lb : Bool) : run test Try.env true (xD test) true 400 ⟨62, [.cd (mkFn Try.f62).body], argT 0 [.agg [.loose ⟨0, 3, aq, 0⟩ nq, .int .i64 de, .loose ⟨1, 1, ao, 0⟩ no, .int .i64 k1, .int .i64 k2, .int .i64 k3, .bool la, .bool lb]], [[], [(0, (false, .cols mq [.str tq, .int .i64 vq, .int .i64 gq])), (1, (false, .cols mo [.bool to]))]], 2⟩ (proj 2 [] Kst Kret) =
  Te62 test Kst Kret aq nq mq tq vq gq de ao no mo to k1 k2 k3 la lb := by kernel_rfl
theorem be62 (aq nq mq : Nat) (tq : Nat → ByteArray) (vq gq : Nat → Int) (de : Int) (ao no mo : Nat) (to : Nat → Bool) (k1 k2 k3 : Int) (la lb : Bool) (Kst : KS) (Kret : KR) (x : St62 ⊕ Rt62) (hS : HS 2 400 ((I62 aq nq mq tq vq gq de ao no mo to k1 k2 k3 la lb)) Kst x) (hR : HR 2 400 ((V62 aq nq mq tq vq gq de ao no mo to k1 k2 k3 la lb)) (fun r => [newL (2 + 1) ((N62 aq nq mq tq vq gq de ao no mo to k1 k2 k3 la lb) r) ++ [(0, (false, .cols mq [.str tq, .int .i64 vq, .int .i64 gq])), (1, (false, .cols mo [.bool to]))]]) Kret x) (h : p62 aq nq mq tq vq gq de ao no mo to k1 k2 k3 la lb = some x) : Te62 cond Kst Kret aq nq mq tq vq gq de ao no mo to k1 k2 k3 la lb := by
  unfold Te62
  unfold p62 at h
  refine bif_split h
   (fun c0 h => bif_split h
   (fun c1 h => ret_at hR _ h (fun n => bif Nat.beq n 3 then 7 else bif Nat.beq n 4 then 9 else n) rfl rfl rfl (rn_agg ⟨(rn_own (use_own rfl) rfl mkl_len), (rn_int rfl), (rn_own (use_own rfl) rfl mkl_len), (rn_int rfl), (rn_int rfl), (rn_int rfl), (rn_bool rfl), (rn_bool rfl), trivial⟩) rfl (entl_new (use_own rfl) rfl (Nat.le_of_eq mkl_len) (rcs_str (fun _ hj => col_mkl (fun (t : ByteArray × Int × Int) => t.1) hj) (rcs_int (fun _ hj => col_mkl (fun (t : ByteArray × Int × Int) => t.2.1) hj) (rcs_int (fun _ hj => col_mkl (fun (t : ByteArray × Int × Int) => t.2.2) hj) rcs_nil))) (entl_new (use_own rfl) rfl (Nat.le_of_eq mkl_len) (rcs_bool (fun _ hj => col_mkl (fun (t : Bool) => t) hj) rcs_nil) (entl_bor (use_lo rfl) rfl rfl (entl_bor (use_lo rfl) rfl rfl entl_nil)))))
   (fun c1 h => no_some h))
   (fun c0 h => no_some h)
theorem a62 (aq nq mq : Nat) (tq : Nat → ByteArray) (vq gq : Nat → Int) (de : Int) (ao no mo : Nat) (to : Nat → Bool) (k1 k2 k3 : Int) (la lb : Bool) {r : Rt62} (h : Goes ((q62 aq nq mq tq vq gq de ao no mo to k1 k2 k3 la lb)) ((p62 aq nq mq tq vq gq de ao no mo to k1 k2 k3 la lb)) r) : CallR Try.prog 62 [.agg [.loose ⟨0, 3, aq, 0⟩ nq, .int .i64 de, .loose ⟨1, 1, ao, 0⟩ no, .int .i64 k1, .int .i64 k2, .int .i64 k3, .bool la, .bool lb]] [[(0, (false, .cols mq [.str tq, .int .i64 vq, .int .i64 gq])), (1, (false, .cols mo [.bool to]))]] 2 ((V62 aq nq mq tq vq gq de ao no mo to k1 k2 k3 la lb) r) ((fun r => [newL (2 + 1) ((N62 aq nq mq tq vq gq de ao no mo to k1 k2 k3 la lb) r) ++ [(0, (false, .cols mq [.str tq, .int .i64 vq, .int .i64 gq])), (1, (false, .cols mo [.bool to]))]]) r) 400 ∧ ∃ F, Try.prog.funcs[62]? = some F ∧ F.body.isSome = true ∧ (F.name == "runtime.NumGoroutine") = false := by
  refine dec_calls (f := 62) (lo := 2) (hi := 400) (H := [[(0, (false, .cols mq [.str tq, .int .i64 vq, .int .i64 gq])), (1, (false, .cols mo [.bool to]))]]) (args := [.agg [.loose ⟨0, 3, aq, 0⟩ nq, .int .i64 de, .loose ⟨1, 1, ao, 0⟩ no, .int .i64 k1, .int .i64 k2, .int .i64 k3, .bool la, .bool lb]]) Try.envOk Try.mixed xD_ok ((I62 aq nq mq tq vq gq de ao no mo to k1 k2 k3 la lb)) ((V62 aq nq mq tq vq gq de ao no mo to k1 k2 k3 la lb)) (fun r => [newL (2 + 1) ((N62 aq nq mq tq vq gq de ao no mo to k1 k2 k3 la lb) r) ++ [(0, (false, .cols mq [.str tq, .int .i64 vq, .int .i64 gq])), (1, (false, .cols mo [.bool to]))]]) (fn := mkFn Try.f62) (ts := []) (n := 400) rfl (by decide) (by simp) (names_of rfl) ?_ ?_ ?_ h
  · intro s; exact s.elim
  · intro Kst Kret x hS hR h
    exact Holds.eq (te62 cond Kst Kret aq nq mq tq vq gq de ao no mo to k1 k2 k3 la lb) (be62 aq nq mq tq vq gq de ao no mo to k1 k2 k3 la lb Kst Kret x hS hR h)
  · intro Kst Kret x hS hR s h; exact s.elim
noncomputable def k62  : Con := ⟨62, [.agg [.list [.str, .int .i64, .int .i64], .plain (.int .i64), .list [.bool], .plain (.int .i64), .plain (.int .i64), .plain (.int .i64), .plain (.bool), .plain (.bool)]], fun (x : ((Nat × Nat × Nat × (Nat → ByteArray) × (Nat → Int) × (Nat → Int) × Unit) × Int × (Nat × Nat × Nat × (Nat → Bool) × Unit) × Int × Int × Int × Bool × Bool × Unit) × Unit) => (fun (aq nq mq : Nat) (tq : Nat → ByteArray) (vq : Nat → Int) (gq : Nat → Int) (de : Int) (ao no mo : Nat) (to : Nat → Bool) (k1 : Int) (k2 : Int) (k3 : Int) (la : Bool) (lb : Bool) => decide (aq + nq ≤ mq ∧ nq ≤ 1000000 ∧ ao + no ≤ mo ∧ no ≤ 1000000)) x.1.1.1 x.1.1.2.1 x.1.1.2.2.1 x.1.1.2.2.2.1 x.1.1.2.2.2.2.1 x.1.1.2.2.2.2.2.1 x.1.2.1 x.1.2.2.1.1 x.1.2.2.1.2.1 x.1.2.2.1.2.2.1 x.1.2.2.1.2.2.2.1 x.1.2.2.2.1 x.1.2.2.2.2.1 x.1.2.2.2.2.2.1 x.1.2.2.2.2.2.2.1 x.1.2.2.2.2.2.2.2.1, fun (x : ((Nat × Nat × Nat × (Nat → ByteArray) × (Nat → Int) × (Nat → Int) × Unit) × Int × (Nat × Nat × Nat × (Nat → Bool) × Unit) × Int × Int × Int × Bool × Bool × Unit) × Unit) => (fun (aq nq mq : Nat) (tq : Nat → ByteArray) (vq : Nat → Int) (gq : Nat → Int) (de : Int) (ao no mo : Nat) (to : Nat → Bool) (k1 : Int) (k2 : Int) (k3 : Int) (la : Bool) (lb : Bool) => (V62 aq nq mq tq vq gq de ao no mo to k1 k2 k3 la lb) (((S.mkl nq fun j => (tq (j + aq), vq (j + aq), gq (j + aq))), (S.mkl no fun j => to (j + ao))))) x.1.1.1 x.1.1.2.1 x.1.1.2.2.1 x.1.1.2.2.2.1 x.1.1.2.2.2.2.1 x.1.1.2.2.2.2.2.1 x.1.2.1 x.1.2.2.1.1 x.1.2.2.1.2.1 x.1.2.2.1.2.2.1 x.1.2.2.1.2.2.2.1 x.1.2.2.2.1 x.1.2.2.2.2.1 x.1.2.2.2.2.2.1 x.1.2.2.2.2.2.2.1 x.1.2.2.2.2.2.2.2.1, fun (x : ((Nat × Nat × Nat × (Nat → ByteArray) × (Nat → Int) × (Nat → Int) × Unit) × Int × (Nat × Nat × Nat × (Nat → Bool) × Unit) × Int × Int × Int × Bool × Bool × Unit) × Unit) => (fun (aq nq mq : Nat) (tq : Nat → ByteArray) (vq : Nat → Int) (gq : Nat → Int) (de : Int) (ao no mo : Nat) (to : Nat → Bool) (k1 : Int) (k2 : Int) (k3 : Int) (la : Bool) (lb : Bool) => (N62 aq nq mq tq vq gq de ao no mo to k1 k2 k3 la lb) (((S.mkl nq fun j => (tq (j + aq), vq (j + aq), gq (j + aq))), (S.mkl no fun j => to (j + ao))))) x.1.1.1 x.1.1.2.1 x.1.1.2.2.1 x.1.1.2.2.2.1 x.1.1.2.2.2.2.1 x.1.1.2.2.2.2.2.1 x.1.2.1 x.1.2.2.1.1 x.1.2.2.1.2.1 x.1.2.2.1.2.2.1 x.1.2.2.1.2.2.2.1 x.1.2.2.2.1 x.1.2.2.2.2.1 x.1.2.2.2.2.2.1 x.1.2.2.2.2.2.2.1 x.1.2.2.2.2.2.2.2.1, fun _ _ => .dead⟩
theorem s62 (aq nq mq : Nat) (tq : Nat → ByteArray) (vq gq : Nat → Int) (de : Int) (ao no mo : Nat) (to : Nat → Bool) (k1 k2 k3 : Int) (la lb : Bool) (hp : aq + nq ≤ mq ∧ nq ≤ 1000000 ∧ ao + no ≤ mo ∧ no ≤ 1000000) : Goes ((q62 aq nq mq tq vq gq de ao no mo to k1 k2 k3 la lb)) ((p62 aq nq mq tq vq gq de ao no mo to k1 k2 k3 la lb)) (((S.mkl nq fun j => (tq (j + aq), vq (j + aq), gq (j + aq))), (S.mkl no fun j => to (j + ao)))) := by
  obtain ⟨hp1, hp2, hp3, hp4⟩ := hp
  show Goes _ _ _
  unfold p62
  repeat' first
    | with_reducible refine goes_if (fun h => ?_) (fun h => ?_) <;> (try simp only [SH] at h)
    | exact goes_none.mpr (by omega)
  all_goals first | (exfalso; omega) | exact goes_inr.mpr rfl
theorem k62_ok  : k62.ok Try.prog := by
  intro x hx
  obtain ⟨⟨⟨aq, nq, mq, tq, vq, gq, _⟩, de, ⟨ao, no, mo, to, _⟩, k1, k2, k3, la, lb, _⟩, _⟩ := x
  obtain ⟨h1, h2⟩ := a62 aq nq mq tq vq gq de ao no mo to k1 k2 k3 la lb (s62 aq nq mq tq vq gq de ao no mo to k1 k2 k3 la lb (of_dec hx rfl))
  exact ⟨⟨400, (by decide : 2 + 1 + 2 ≤ 400), h1⟩, h2⟩
abbrev St15  := Empty
abbrev Rt15  := List (ByteArray × Int × Int)
noncomputable def V15 (aq nq mq : Nat) (tq : Nat → ByteArray) (vq gq : Nat → Int) (de : Int) (r : Rt15) : PV := PV.agg [PV.own (2) (3) (List.length r), PV.int IntKind.i64 de]
noncomputable def N15 (aq nq mq : Nat) (tq : Nat → ByteArray) (vq gq : Nat → Int) (de : Int) (r : Rt15) : List Blk := [Blk.cols (List.length r)
 [Col.str fun j => (S.at' r j).1,
 Col.int IntKind.i64 fun j => (S.at' r j).2.1,
 Col.int IntKind.i64 fun j => (S.at' r j).2.2]]
noncomputable def I15 (aq nq mq : Nat) (tq : Nat → ByteArray) (vq gq : Nat → Int) (de : Int) : St15 → Hd := fun s => s.elim
noncomputable def q15 (aq nq mq : Nat) (tq : Nat → ByteArray) (vq gq : Nat → Int) (de : Int) : St15 → Option (St15 ⊕ Rt15) := fun s => s.elim
noncomputable def p15 (aq nq mq : Nat) (tq : Nat → ByteArray) (vq gq : Nat → Int) (de : Int) : Option (St15 ⊕ Rt15) := bif (decide (aq + nq ≤ mq ∧ nq ≤ 1000000))
 then (some (.inr (S.mkl nq fun j => (tq (j + aq), vq (j + aq), gq (j + aq)))))
 else (none)
noncomputable def Te15 (test : Bool → Prop → Prop → Prop) (Kst : KS) (Kret : KR) (aq nq mq : Nat) (tq : Nat → ByteArray) (vq gq : Nat → Int) (de : Int) : Prop :=
  test (decide (aq + nq ≤ mq ∧ nq ≤ 1000000))
 (Kret (PV.agg [PV.own (4) (3) nq, PV.int IntKind.i64 de]) ([[(0, false,
 Blk.cols mq [Col.str tq, Col.int IntKind.i64 vq, Col.int IntKind.i64 gq]),
 (4, true,
 Blk.cols nq
 [Col.str fun j => tq (j + aq), Col.int IntKind.i64 fun j => vq (j + aq),
 Col.int IntKind.i64 fun j => gq (j + aq)])]]) (5))
 (False)
theorem te15 (test : Bool → Prop → Prop → Prop) (Kst : KS) (Kret : KR) (aq nq mq : Nat) (tq : Nat → ByteArray) (vq gq : Nat → Int) (de : Int) : run test Try.env true (xD test) true 400 ⟨15, [.cd (mkFn Try.f15).body], argT 0 [.agg [.loose ⟨0, 3, aq, 0⟩ nq, .int .i64 de]], [[], [(0, (false, .cols mq [.str tq, .int .i64 vq, .int .i64 gq]))]], 1⟩ (proj 1 [] Kst Kret) =
  Te15 test Kst Kret aq nq mq tq vq gq de := by kernel_rfl
theorem be15 (aq nq mq : Nat) (tq : Nat → ByteArray) (vq gq : Nat → Int) (de : Int) (Kst : KS) (Kret : KR) (x : St15 ⊕ Rt15) (hS : HS 1 400 ((I15 aq nq mq tq vq gq de)) Kst x) (hR : HR 1 400 ((V15 aq nq mq tq vq gq de)) (fun r => [newL (1 + 1) ((N15 aq nq mq tq vq gq de) r) ++ [(0, (false, .cols mq [.str tq, .int .i64 vq, .int .i64 gq]))]]) Kret x) (h : p15 aq nq mq tq vq gq de = some x) : Te15 cond Kst Kret aq nq mq tq vq gq de := by
  unfold Te15
  unfold p15 at h
  refine bif_split h
   (fun c0 h => ret_at hR _ h (fun n => bif Nat.beq n 2 then 4 else n) rfl rfl rfl (rn_agg ⟨(rn_own (use_own rfl) rfl mkl_len), (rn_int rfl), trivial⟩) rfl (entl_new (use_own rfl) rfl (Nat.le_of_eq mkl_len) (rcs_str (fun _ hj => col_mkl (fun (t : ByteArray × Int × Int) => t.1) hj) (rcs_int (fun _ hj => col_mkl (fun (t : ByteArray × Int × Int) => t.2.1) hj) (rcs_int (fun _ hj => col_mkl (fun (t : ByteArray × Int × Int) => t.2.2) hj) rcs_nil))) (entl_bor (use_lo rfl) rfl rfl entl_nil)))
   (fun c0 h => no_some h)
theorem a15 (aq nq mq : Nat) (tq : Nat → ByteArray) (vq gq : Nat → Int) (de : Int) {r : Rt15} (h : Goes ((q15 aq nq mq tq vq gq de)) ((p15 aq nq mq tq vq gq de)) r) : CallR Try.prog 15 [.agg [.loose ⟨0, 3, aq, 0⟩ nq, .int .i64 de]] [[(0, (false, .cols mq [.str tq, .int .i64 vq, .int .i64 gq]))]] 1 ((V15 aq nq mq tq vq gq de) r) ((fun r => [newL (1 + 1) ((N15 aq nq mq tq vq gq de) r) ++ [(0, (false, .cols mq [.str tq, .int .i64 vq, .int .i64 gq]))]]) r) 400 ∧ ∃ F, Try.prog.funcs[15]? = some F ∧ F.body.isSome = true ∧ (F.name == "runtime.NumGoroutine") = false := by
  refine dec_calls (f := 15) (lo := 1) (hi := 400) (H := [[(0, (false, .cols mq [.str tq, .int .i64 vq, .int .i64 gq]))]]) (args := [.agg [.loose ⟨0, 3, aq, 0⟩ nq, .int .i64 de]]) Try.envOk Try.mixed xD_ok ((I15 aq nq mq tq vq gq de)) ((V15 aq nq mq tq vq gq de)) (fun r => [newL (1 + 1) ((N15 aq nq mq tq vq gq de) r) ++ [(0, (false, .cols mq [.str tq, .int .i64 vq, .int .i64 gq]))]]) (fn := mkFn Try.f15) (ts := []) (n := 400) rfl (by decide) (by simp) (names_of rfl) ?_ ?_ ?_ h
  · intro s; exact s.elim
  · intro Kst Kret x hS hR h
    exact Holds.eq (te15 cond Kst Kret aq nq mq tq vq gq de) (be15 aq nq mq tq vq gq de Kst Kret x hS hR h)
  · intro Kst Kret x hS hR s h; exact s.elim
noncomputable def k15  : Con := ⟨15, [.agg [.list [.str, .int .i64, .int .i64], .plain (.int .i64)]], fun (x : ((Nat × Nat × Nat × (Nat → ByteArray) × (Nat → Int) × (Nat → Int) × Unit) × Int × Unit) × Unit) => (fun (aq nq mq : Nat) (tq : Nat → ByteArray) (vq : Nat → Int) (gq : Nat → Int) (de : Int) => decide (aq + nq ≤ mq ∧ nq ≤ 1000000)) x.1.1.1 x.1.1.2.1 x.1.1.2.2.1 x.1.1.2.2.2.1 x.1.1.2.2.2.2.1 x.1.1.2.2.2.2.2.1 x.1.2.1, fun (x : ((Nat × Nat × Nat × (Nat → ByteArray) × (Nat → Int) × (Nat → Int) × Unit) × Int × Unit) × Unit) => (fun (aq nq mq : Nat) (tq : Nat → ByteArray) (vq : Nat → Int) (gq : Nat → Int) (de : Int) => (V15 aq nq mq tq vq gq de) ((S.mkl nq fun j => (tq (j + aq), vq (j + aq), gq (j + aq))))) x.1.1.1 x.1.1.2.1 x.1.1.2.2.1 x.1.1.2.2.2.1 x.1.1.2.2.2.2.1 x.1.1.2.2.2.2.2.1 x.1.2.1, fun (x : ((Nat × Nat × Nat × (Nat → ByteArray) × (Nat → Int) × (Nat → Int) × Unit) × Int × Unit) × Unit) => (fun (aq nq mq : Nat) (tq : Nat → ByteArray) (vq : Nat → Int) (gq : Nat → Int) (de : Int) => (N15 aq nq mq tq vq gq de) ((S.mkl nq fun j => (tq (j + aq), vq (j + aq), gq (j + aq))))) x.1.1.1 x.1.1.2.1 x.1.1.2.2.1 x.1.1.2.2.2.1 x.1.1.2.2.2.2.1 x.1.1.2.2.2.2.2.1 x.1.2.1, fun _ _ => .dead⟩
theorem s15 (aq nq mq : Nat) (tq : Nat → ByteArray) (vq gq : Nat → Int) (de : Int) (hp : aq + nq ≤ mq ∧ nq ≤ 1000000) : Goes ((q15 aq nq mq tq vq gq de)) ((p15 aq nq mq tq vq gq de)) ((S.mkl nq fun j => (tq (j + aq), vq (j + aq), gq (j + aq)))) := by
  obtain ⟨hp1, hp2⟩ := hp
  show Goes _ _ _
  unfold p15
  repeat' first
    | with_reducible refine goes_if (fun h => ?_) (fun h => ?_) <;> (try simp only [SH] at h)
    | exact goes_none.mpr (by omega)
  all_goals first | (exfalso; omega) | exact goes_inr.mpr rfl
theorem k15_ok  : k15.ok Try.prog := by
  intro x hx
  obtain ⟨⟨⟨aq, nq, mq, tq, vq, gq, _⟩, de, _⟩, _⟩ := x
  obtain ⟨h1, h2⟩ := a15 aq nq mq tq vq gq de (s15 aq nq mq tq vq gq de (of_dec hx rfl))
  exact ⟨⟨400, (by decide : 1 + 1 + 1 ≤ 400), h1⟩, h2⟩
inductive St64 where
  | h0 (x0 : Int)
abbrev Rt64  := Bool
noncomputable def V64 (aa na ma : Nat) (ta : Nat → ByteArray) (va ga : Nat → Int) (c0 : Int) (ab nb mb : Nat) (tb : Nat → ByteArray) (vb gb : Nat → Int) (c1 : Int) (r : Rt64) : PV := PV.bool r
noncomputable def N64 (aa na ma : Nat) (ta : Nat → ByteArray) (va ga : Nat → Int) (c0 : Int) (ab nb mb : Nat) (tb : Nat → ByteArray) (vb gb : Nat → Int) (c1 : Int) (r : Rt64) : List Blk := []
noncomputable def I64 (aa na ma : Nat) (ta : Nat → ByteArray) (va ga : Nat → Int) (c0 : Int) (ab nb mb : Nat) (tb : Nat → ByteArray) (vb gb : Nat → Int) (c1 : Int) : St64 → Hd
  | .h0 x0 => ⟨hd Try.f64 0, [PV.ptr (PA.mk (2) (0) (0) (0)),
 PV.ptr (PA.mk (3) (0) (0) (0)), PV.int IntKind.i64 x0], [[(2, (true, Blk.cells [PV.loose (PA.mk (0) (3) aa (0)) na, PV.int IntKind.i64 c0])), (3, (true, Blk.cells [PV.loose (PA.mk (1) (3) ab (0)) nb, PV.int IntKind.i64 c1]))], [(0, (false, .cols ma [.str ta, .int .i64 va, .int .i64 ga])), (1, (false, .cols mb [.str tb, .int .i64 vb, .int .i64 gb]))]], 4⟩
noncomputable def q64 (aa na ma : Nat) (ta : Nat → ByteArray) (va ga : Nat → Int) (c0 : Int) (ab nb mb : Nat) (tb : Nat → ByteArray) (vb gb : Nat → Int) (c1 : Int) : St64 → Option (St64 ⊕ Rt64)
  | .h0 x0 => bif (decide (x0 < (↑na : Int)))
 then (bif (decide ((0 : Int) ≤ x0 ∧ x0 < (↑na : Int)))
 then (bif (decide (Int.toNat x0 + aa < ma))
 then (bif (decide ((0 : Int) ≤ x0 ∧ x0 < (↑nb : Int)))
 then (bif (decide (Int.toNat x0 + ab < mb))
 then (bif (!(S.eqS (ta (Int.toNat x0 + aa)) (tb (Int.toNat x0 + ab)) &&
 (va (Int.toNat x0 + aa) == vb (Int.toNat x0 + ab) &&
 (ga (Int.toNat x0 + aa) == gb (Int.toNat x0 + ab) && true))))
 then (some (.inr (false)))
 else (bif (lim IntKind.i64 (x0 + (1 : Int)))
 then (some (.inl (.h0 (x0 + (1 : Int)))))
 else (none)))
 else (none))
 else (none))
 else (none))
 else (none))
 else (some (.inr (true)))
noncomputable def p64 (aa na ma : Nat) (ta : Nat → ByteArray) (va ga : Nat → Int) (c0 : Int) (ab nb mb : Nat) (tb : Nat → ByteArray) (vb gb : Nat → Int) (c1 : Int) : Option (St64 ⊕ Rt64) := bif (c0 != c1)
 then (some (.inr (false)))
 else (bif ((↑na : Int) != (↑nb : Int))
 then (some (.inr (false)))
 else (some (.inl (.h0 ((0 : Int))))))
noncomputable def Te64 (test : Bool → Prop → Prop → Prop) (Kst : KS) (Kret : KR) (aa na ma : Nat) (ta : Nat → ByteArray) (va ga : Nat → Int) (c0 : Int) (ab nb mb : Nat) (tb : Nat → ByteArray) (vb gb : Nat → Int) (c1 : Int) : Prop :=
  test (c0 != c1)
 (Kret (PV.tf false) ([[(1, false,
 Blk.cols mb [Col.str tb, Col.int IntKind.i64 vb, Col.int IntKind.i64 gb]),
 (0, false,
 Blk.cols ma [Col.str ta, Col.int IntKind.i64 va, Col.int IntKind.i64 ga])]]) (4))
 (test ((↑na : Int) != (↑nb : Int))
 (Kret (PV.tf false) ([[(1, false,
 Blk.cols mb [Col.str tb, Col.int IntKind.i64 vb, Col.int IntKind.i64 gb]),
 (0, false,
 Blk.cols ma [Col.str ta, Col.int IntKind.i64 va, Col.int IntKind.i64 ga])]]) (4))
 (Kst (hd Try.f64 0) ([PV.ptr (PA.mk (2) (0) (0) (0)),
 PV.ptr (PA.mk (3) (0) (0) (0)), PV.int IntKind.i64 (0 : Int)]) ([[(1, false,
 Blk.cols mb [Col.str tb, Col.int IntKind.i64 vb, Col.int IntKind.i64 gb]),
 (0, false,
 Blk.cols ma [Col.str ta, Col.int IntKind.i64 va, Col.int IntKind.i64 ga]),
 (3, true,
 Blk.cells
 [PV.loose (PA.mk (1) (3) ab (0)) nb, PV.int IntKind.i64 c1]),
 (2, true,
 Blk.cells
 [PV.loose (PA.mk (0) (3) aa (0)) na, PV.int IntKind.i64 c0])]]) (4)))
theorem te64 (test : Bool → Prop → Prop → Prop) (Kst : KS) (Kret : KR) (aa na ma : Nat) (ta : Nat → ByteArray) (va ga : Nat → Int) (c0 : Int) (ab nb mb : Nat) (tb : Nat → ByteArray) (vb gb : Nat → Int) (c1 : Int) : run test Try.env true noX true 400 ⟨64, [.cd (mkFn Try.f64).body], argT 0 [.agg [.loose ⟨0, 3, aa, 0⟩ na, .int .i64 c0], .agg [.loose ⟨1, 3, ab, 0⟩ nb, .int .i64 c1]], [[], [(0, (false, .cols ma [.str ta, .int .i64 va, .int .i64 ga])), (1, (false, .cols mb [.str tb, .int .i64 vb, .int .i64 gb]))]], 2⟩ (proj 2 [2, 3, 5] Kst Kret) =
  Te64 test Kst Kret aa na ma ta va ga c0 ab nb mb tb vb gb c1 := by kernel_rfl
noncomputable def T64_0 (test : Bool → Prop → Prop → Prop) (Kst : KS) (Kret : KR) (aa na ma : Nat) (ta : Nat → ByteArray) (va ga : Nat → Int) (c0 : Int) (ab nb mb : Nat) (tb : Nat → ByteArray) (vb gb : Nat → Int) (c1 x0 : Int) : Prop :=
  test (decide (x0 < (↑na : Int)))
 (test (decide ((0 : Int) ≤ x0 ∧ x0 < (↑na : Int)))
 (test (decide (Int.toNat x0 + aa < ma))
 (test (decide (Int.toNat x0 + aa < ma))
 (test (decide (Int.toNat x0 + aa < ma))
 (test (decide ((0 : Int) ≤ x0 ∧ x0 < (↑nb : Int)))
 (test (decide (Int.toNat x0 + ab < mb))
 (test (decide (Int.toNat x0 + ab < mb))
 (test (decide (Int.toNat x0 + ab < mb))
 (test (!(S.eqS (ta (Int.toNat x0 + aa)) (tb (Int.toNat x0 + ab)) &&
 (va (Int.toNat x0 + aa) == vb (Int.toNat x0 + ab) &&
 (ga (Int.toNat x0 + aa) == gb (Int.toNat x0 + ab) && true))))
 (Kret (PV.tf false) ([[(1, false,
 Blk.cols mb [Col.str tb, Col.int IntKind.i64 vb, Col.int IntKind.i64 gb]),
 (0, false,
 Blk.cols ma [Col.str ta, Col.int IntKind.i64 va, Col.int IntKind.i64 ga])]]) (4))
 (test (lim IntKind.i64 (x0 + (1 : Int)))
 (Kst (hd Try.f64 0) ([PV.ptr (PA.mk (2) (0) (0) (0)),
 PV.ptr (PA.mk (3) (0) (0) (0)),
 PV.int IntKind.i64 (x0 + (1 : Int))]) ([[(1, false,
 Blk.cols mb [Col.str tb, Col.int IntKind.i64 vb, Col.int IntKind.i64 gb]),
 (0, false,
 Blk.cols ma [Col.str ta, Col.int IntKind.i64 va, Col.int IntKind.i64 ga]),
 (3, true,
 Blk.cells
 [PV.loose (PA.mk (1) (3) ab (0)) nb, PV.int IntKind.i64 c1]),
 (2, true,
 Blk.cells
 [PV.loose (PA.mk (0) (3) aa (0)) na, PV.int IntKind.i64 c0])]]) (4))
 (False)))
 (False))
 (False))
 (False))
 (False))
 (False))
 (False))
 (False))
 (False))
 (Kret (PV.tf true) ([[(1, false,
 Blk.cols mb [Col.str tb, Col.int IntKind.i64 vb, Col.int IntKind.i64 gb]),
 (0, false,
 Blk.cols ma [Col.str ta, Col.int IntKind.i64 va, Col.int IntKind.i64 ga])]]) (4))
theorem t64_0 (test : Bool → Prop → Prop → Prop) (Kst : KS) (Kret : KR) (aa na ma : Nat) (ta : Nat → ByteArray) (va ga : Nat → Int) (c0 : Int) (ab nb mb : Nat) (tb : Nat → ByteArray) (vb gb : Nat → Int) (c1 x0 : Int) : run test Try.env true noX true 400 ⟨64, hd Try.f64 0, zipT [2, 3, 5] [PV.ptr (PA.mk (2) (0) (0) (0)),
 PV.ptr (PA.mk (3) (0) (0) (0)), PV.int IntKind.i64 x0], [[(2, (true, Blk.cells [PV.loose (PA.mk (0) (3) aa (0)) na, PV.int IntKind.i64 c0])), (3, (true, Blk.cells [PV.loose (PA.mk (1) (3) ab (0)) nb, PV.int IntKind.i64 c1]))], [(0, (false, .cols ma [.str ta, .int .i64 va, .int .i64 ga])), (1, (false, .cols mb [.str tb, .int .i64 vb, .int .i64 gb]))]], 4⟩ (proj 2 [2, 3, 5] Kst Kret) =
  T64_0 test Kst Kret aa na ma ta va ga c0 ab nb mb tb vb gb c1 x0 := by kernel_rfl
theorem be64 (aa na ma : Nat) (ta : Nat → ByteArray) (va ga : Nat → Int) (c0 : Int) (ab nb mb : Nat) (tb : Nat → ByteArray) (vb gb : Nat → Int) (c1 : Int) (Kst : KS) (Kret : KR) (x : St64 ⊕ Rt64) (hS : HS 2 400 ((I64 aa na ma ta va ga c0 ab nb mb tb vb gb c1)) Kst x) (hR : HR 2 400 ((V64 aa na ma ta va ga c0 ab nb mb tb vb gb c1)) (fun r => [newL (2 + 1) ((N64 aa na ma ta va ga c0 ab nb mb tb vb gb c1) r) ++ [(0, (false, .cols ma [.str ta, .int .i64 va, .int .i64 ga])), (1, (false, .cols mb [.str tb, .int .i64 vb, .int .i64 gb]))]]) Kret x) (h : p64 aa na ma ta va ga c0 ab nb mb tb vb gb c1 = some x) : Te64 cond Kst Kret aa na ma ta va ga c0 ab nb mb tb vb gb c1 := by
  unfold Te64
  unfold p64 at h
  refine bif_split h
   (fun c0 h => ret_at hR _ h (fun n => n) rfl rfl rfl (rn_bool_tf rfl) rfl (entl_bor (use_lo rfl) rfl rfl (entl_bor (use_lo rfl) rfl rfl entl_nil)))
   (fun c0 h => bif_split h
   (fun c1 h => ret_at hR _ h (fun n => n) rfl rfl rfl (rn_bool_tf rfl) rfl (entl_bor (use_lo rfl) rfl rfl (entl_bor (use_lo rfl) rfl rfl entl_nil)))
   (fun c1 h => stop_at hS _ h (fun n => bif Nat.beq n 2 then 2 else bif Nat.beq n 3 then 3 else n) rfl rfl rfl ⟨(rn_ptr (use_own rfl) rfl rfl), ⟨(rn_ptr (use_own rfl) rfl rfl), ⟨(rn_int rfl), trivial⟩⟩⟩ rfl (entl_b (use_own rfl) rfl (by simp) (rb_cells ⟨(rn_loose (use_lo rfl) rfl rfl rfl), (rn_int rfl), trivial⟩) (entl_b (use_own rfl) rfl (by simp) (rb_cells ⟨(rn_loose (use_lo rfl) rfl rfl rfl), (rn_int rfl), trivial⟩) (entl_bor (use_lo rfl) rfl rfl (entl_bor (use_lo rfl) rfl rfl entl_nil))))))
theorem b64_0 (aa na ma : Nat) (ta : Nat → ByteArray) (va ga : Nat → Int) (c0 : Int) (ab nb mb : Nat) (tb : Nat → ByteArray) (vb gb : Nat → Int) (c1 : Int) (Kst : KS) (Kret : KR) (x : St64 ⊕ Rt64) (hS : HS 2 400 ((I64 aa na ma ta va ga c0 ab nb mb tb vb gb c1)) Kst x) (hR : HR 2 400 ((V64 aa na ma ta va ga c0 ab nb mb tb vb gb c1)) (fun r => [newL (2 + 1) ((N64 aa na ma ta va ga c0 ab nb mb tb vb gb c1) r) ++ [(0, (false, .cols ma [.str ta, .int .i64 va, .int .i64 ga])), (1, (false, .cols mb [.str tb, .int .i64 vb, .int .i64 gb]))]]) Kret x) (x0 : Int) (h : (bif (decide (x0 < (↑na : Int)))
 then (bif (decide ((0 : Int) ≤ x0 ∧ x0 < (↑na : Int)))
 then (bif (decide (Int.toNat x0 + aa < ma))
 then (bif (decide ((0 : Int) ≤ x0 ∧ x0 < (↑nb : Int)))
 then (bif (decide (Int.toNat x0 + ab < mb))
 then (bif (!(S.eqS (ta (Int.toNat x0 + aa)) (tb (Int.toNat x0 + ab)) &&
 (va (Int.toNat x0 + aa) == vb (Int.toNat x0 + ab) &&
 (ga (Int.toNat x0 + aa) == gb (Int.toNat x0 + ab) && true))))
 then (some (.inr (false)))
 else (bif (lim IntKind.i64 (x0 + (1 : Int)))
 then (some (.inl (.h0 (x0 + (1 : Int)))))
 else (none)))
 else (none))
 else (none))
 else (none))
 else (none))
 else (some (.inr (true))) : Option (St64 ⊕ Rt64)) = some x) : T64_0 cond Kst Kret aa na ma ta va ga c0 ab nb mb tb vb gb c1 x0 := by
  unfold T64_0
  exact bif_split h
   (fun c0 h => bif_split h
   (fun c1 h => bif_split h
   (fun c2 h => cond_yes c2 (cond_yes c2 (bif_split h
   (fun c3 h => bif_split h
   (fun c4 h => cond_yes c4 (cond_yes c4 (bif_split h
   (fun c5 h => ret_at hR _ h (fun n => n) rfl rfl rfl (rn_bool_tf rfl) rfl (entl_bor (use_lo rfl) rfl rfl (entl_bor (use_lo rfl) rfl rfl entl_nil)))
   (fun c5 h => bif_split h
   (fun c6 h => stop_at hS _ h (fun n => bif Nat.beq n 2 then 2 else bif Nat.beq n 3 then 3 else n) rfl rfl rfl ⟨(rn_ptr (use_own rfl) rfl rfl), ⟨(rn_ptr (use_own rfl) rfl rfl), ⟨(rn_int rfl), trivial⟩⟩⟩ rfl (entl_b (use_own rfl) rfl (by simp) (rb_cells ⟨(rn_loose (use_lo rfl) rfl rfl rfl), (rn_int rfl), trivial⟩) (entl_b (use_own rfl) rfl (by simp) (rb_cells ⟨(rn_loose (use_lo rfl) rfl rfl rfl), (rn_int rfl), trivial⟩) (entl_bor (use_lo rfl) rfl rfl (entl_bor (use_lo rfl) rfl rfl entl_nil)))))
   (fun c6 h => no_some h)))))
   (fun c4 h => no_some h))
   (fun c3 h => no_some h))))
   (fun c2 h => no_some h))
   (fun c1 h => no_some h))
   (fun c0 h => ret_at hR _ h (fun n => n) rfl rfl rfl (rn_bool_tf rfl) rfl (entl_bor (use_lo rfl) rfl rfl (entl_bor (use_lo rfl) rfl rfl entl_nil)))
theorem a64 (aa na ma : Nat) (ta : Nat → ByteArray) (va ga : Nat → Int) (c0 : Int) (ab nb mb : Nat) (tb : Nat → ByteArray) (vb gb : Nat → Int) (c1 : Int) {r : Rt64} (h : Goes ((q64 aa na ma ta va ga c0 ab nb mb tb vb gb c1)) ((p64 aa na ma ta va ga c0 ab nb mb tb vb gb c1)) r) : CallR Try.prog 64 [.agg [.loose ⟨0, 3, aa, 0⟩ na, .int .i64 c0], .agg [.loose ⟨1, 3, ab, 0⟩ nb, .int .i64 c1]] [[(0, (false, .cols ma [.str ta, .int .i64 va, .int .i64 ga])), (1, (false, .cols mb [.str tb, .int .i64 vb, .int .i64 gb]))]] 2 ((V64 aa na ma ta va ga c0 ab nb mb tb vb gb c1) r) ((fun r => [newL (2 + 1) ((N64 aa na ma ta va ga c0 ab nb mb tb vb gb c1) r) ++ [(0, (false, .cols ma [.str ta, .int .i64 va, .int .i64 ga])), (1, (false, .cols mb [.str tb, .int .i64 vb, .int .i64 gb]))]]) r) 400 ∧ ∃ F, Try.prog.funcs[64]? = some F ∧ F.body.isSome = true ∧ (F.name == "runtime.NumGoroutine") = false := by
  refine dec_calls (f := 64) (lo := 2) (hi := 400) (H := [[(0, (false, .cols ma [.str ta, .int .i64 va, .int .i64 ga])), (1, (false, .cols mb [.str tb, .int .i64 vb, .int .i64 gb]))]]) (args := [.agg [.loose ⟨0, 3, aa, 0⟩ na, .int .i64 c0], .agg [.loose ⟨1, 3, ab, 0⟩ nb, .int .i64 c1]]) Try.envOk Try.mixed noX_ok ((I64 aa na ma ta va ga c0 ab nb mb tb vb gb c1)) ((V64 aa na ma ta va ga c0 ab nb mb tb vb gb c1)) (fun r => [newL (2 + 1) ((N64 aa na ma ta va ga c0 ab nb mb tb vb gb c1) r) ++ [(0, (false, .cols ma [.str ta, .int .i64 va, .int .i64 ga])), (1, (false, .cols mb [.str tb, .int .i64 vb, .int .i64 gb]))]]) (fn := mkFn Try.f64) (ts := [2, 3, 5]) (n := 400) rfl (by decide) (by simp) (names_of rfl) ?_ ?_ ?_ h
  · intro s; cases s <;> exact ⟨hd_ok _ _, by simp [I64], names_of rfl, Nat.le_of_ble_eq_true rfl⟩
  · intro Kst Kret x hS hR h
    exact Holds.eq (te64 cond Kst Kret aa na ma ta va ga c0 ab nb mb tb vb gb c1) (be64 aa na ma ta va ga c0 ab nb mb tb vb gb c1 Kst Kret x hS hR h)
  · intro Kst Kret x hS hR s h
    cases s with
    | h0 x0 => exact Holds.eq (t64_0 cond Kst Kret aa na ma ta va ga c0 ab nb mb tb vb gb c1 x0) (b64_0 aa na ma ta va ga c0 ab nb mb tb vb gb c1 Kst Kret x hS hR x0 h)
noncomputable def k64  : Con := ⟨64, [.agg [.list [.str, .int .i64, .int .i64], .plain (.int .i64)], .agg [.list [.str, .int .i64, .int .i64], .plain (.int .i64)]], fun (x : ((Nat × Nat × Nat × (Nat → ByteArray) × (Nat → Int) × (Nat → Int) × Unit) × Int × Unit) × ((Nat × Nat × Nat × (Nat → ByteArray) × (Nat → Int) × (Nat → Int) × Unit) × Int × Unit) × Unit) => (fun (aa na ma : Nat) (ta : Nat → ByteArray) (va : Nat → Int) (ga : Nat → Int) (c0 : Int) (ab nb mb : Nat) (tb : Nat → ByteArray) (vb : Nat → Int) (gb : Nat → Int) (c1 : Int) => decide (aa + na ≤ ma ∧ na ≤ 1000000 ∧ ab + nb ≤ mb ∧ nb ≤ 1000000)) x.1.1.1 x.1.1.2.1 x.1.1.2.2.1 x.1.1.2.2.2.1 x.1.1.2.2.2.2.1 x.1.1.2.2.2.2.2.1 x.1.2.1 x.2.1.1.1 x.2.1.1.2.1 x.2.1.1.2.2.1 x.2.1.1.2.2.2.1 x.2.1.1.2.2.2.2.1 x.2.1.1.2.2.2.2.2.1 x.2.1.2.1, fun (x : ((Nat × Nat × Nat × (Nat → ByteArray) × (Nat → Int) × (Nat → Int) × Unit) × Int × Unit) × ((Nat × Nat × Nat × (Nat → ByteArray) × (Nat → Int) × (Nat → Int) × Unit) × Int × Unit) × Unit) => (fun (aa na ma : Nat) (ta : Nat → ByteArray) (va : Nat → Int) (ga : Nat → Int) (c0 : Int) (ab nb mb : Nat) (tb : Nat → ByteArray) (vb : Nat → Int) (gb : Nat → Int) (c1 : Int) => (V64 aa na ma ta va ga c0 ab nb mb tb vb gb c1) (decide (c0 = c1 ∧ (S.mkl na fun j => (ta (j + aa), va (j + aa), ga (j + aa))) = (S.mkl nb fun j => (tb (j + ab), vb (j + ab), gb (j + ab)))))) x.1.1.1 x.1.1.2.1 x.1.1.2.2.1 x.1.1.2.2.2.1 x.1.1.2.2.2.2.1 x.1.1.2.2.2.2.2.1 x.1.2.1 x.2.1.1.1 x.2.1.1.2.1 x.2.1.1.2.2.1 x.2.1.1.2.2.2.1 x.2.1.1.2.2.2.2.1 x.2.1.1.2.2.2.2.2.1 x.2.1.2.1, fun (x : ((Nat × Nat × Nat × (Nat → ByteArray) × (Nat → Int) × (Nat → Int) × Unit) × Int × Unit) × ((Nat × Nat × Nat × (Nat → ByteArray) × (Nat → Int) × (Nat → Int) × Unit) × Int × Unit) × Unit) => (fun (aa na ma : Nat) (ta : Nat → ByteArray) (va : Nat → Int) (ga : Nat → Int) (c0 : Int) (ab nb mb : Nat) (tb : Nat → ByteArray) (vb : Nat → Int) (gb : Nat → Int) (c1 : Int) => (N64 aa na ma ta va ga c0 ab nb mb tb vb gb c1) (decide (c0 = c1 ∧ (S.mkl na fun j => (ta (j + aa), va (j + aa), ga (j + aa))) = (S.mkl nb fun j => (tb (j + ab), vb (j + ab), gb (j + ab)))))) x.1.1.1 x.1.1.2.1 x.1.1.2.2.1 x.1.1.2.2.2.1 x.1.1.2.2.2.2.1 x.1.1.2.2.2.2.2.1 x.1.2.1 x.2.1.1.1 x.2.1.1.2.1 x.2.1.1.2.2.1 x.2.1.1.2.2.2.1 x.2.1.1.2.2.2.2.1 x.2.1.1.2.2.2.2.2.1 x.2.1.2.1, fun _ _ => .dead⟩
theorem s64' (aa na ma : Nat) (ta : Nat → ByteArray) (va ga : Nat → Int) (c0 : Int) (ab nb mb : Nat) (tb : Nat → ByteArray) (vb gb : Nat → Int) (c1 : Int) (hp : aa + na ≤ ma ∧ na ≤ 1000000 ∧ ab + nb ≤ mb ∧ nb ≤ 1000000) (he : na = nb) : ∀ k i : Nat, i + k = na → (∀ j, j < i → (ta (j + aa) = tb (j + ab) ∧ va (j + aa) = vb (j + ab) ∧ ga (j + aa) = gb (j + ab))) → Comes (q64 aa na ma ta va ga c0 ab nb mb tb vb gb c1) (.h0 (i : Int)) (decide ((S.mkl na fun j => (ta (j + aa), va (j + aa), ga (j + aa))) = (S.mkl nb fun j => (tb (j + ab), vb (j + ab), gb (j + ab))))) := by
  obtain ⟨hp1, hp2, hp3, hp4⟩ := hp
  have hq : decide ((S.mkl na fun j => (ta (j + aa), va (j + aa), ga (j + aa))) = (S.mkl nb fun j => (tb (j + ab), vb (j + ab), gb (j + ab)))) = true ↔ ∀ j, j < na → (ta (j + aa) = tb (j + ab) ∧ va (j + aa) = vb (j + ab) ∧ ga (j + aa) = gb (j + ab)) := by
    rw [decide_eq_true_eq, mkl_inj]; simp only [he, true_and, Prod.mk.injEq]
  generalize decide ((S.mkl na fun j => (ta (j + aa), va (j + aa), ga (j + aa))) = (S.mkl nb fun j => (tb (j + ab), vb (j + ab), gb (j + ab)))) = R at hq ⊢
  intro k
  induction k with
  | zero =>
    intro i hi hj
    obtain rfl : na = i := by omega
    apply Comes.of
    show Goes _ _ _
    (first | rw [q64] | unfold q64)
    repeat' first
      | with_reducible refine goes_if (fun h => ?_) (fun h => ?_) <;> (try simp only [SH] at h)
      | exact goes_none.mpr (by omega)
    all_goals first | (exfalso; omega) | (exact goes_inr.mpr (hq.mpr hj).symm)
  | succ k ih =>
    intro i hi hj
    have hcmp : (S.eqS (ta (i + aa)) (tb (i + ab)) && (va (i + aa) == vb (i + ab) && (ga (i + aa) == gb (i + ab) && true))) = decide ((ta (i + aa) = tb (i + ab) ∧ va (i + aa) = vb (i + ab) ∧ ga (i + aa) = gb (i + ab))) := by
      rw [Bool.eq_iff_iff, decide_eq_true_eq]
      rw [Bool.and_eq_true, Bool.and_eq_true, Bool.and_eq_true, eqS_iff, beq_iff_eq, beq_iff_eq]
      simp only [and_true]
    have hw : ∀ {P : Prop}, (R = true → P) → ¬ P → false = R := fun h1 h2 => by cases R; rfl; exact absurd (h1 rfl) h2
    by_cases hc : (ta (i + aa) = tb (i + ab) ∧ va (i + aa) = vb (i + ab) ∧ ga (i + aa) = gb (i + ab))
    · rw [decide_eq_true hc] at hcmp
      have ih := ih (i + 1) (by omega) (fun j hlt => by
        rcases Nat.lt_or_eq_of_le (Nat.le_of_lt_succ hlt) with h1 | h1
        · exact hj j h1
        · subst h1; exact hc)
      apply Comes.of
      show Goes _ _ _
      (first | rw [q64] | unfold q64)
      try simp only [Int.toNat_natCast, hcmp]
      try show Goes _ _ _
      repeat' first
        | with_reducible refine goes_if (fun h => ?_) (fun h => ?_) <;> (try simp only [SH] at h)
        | exact goes_none.mpr (by omega)
      all_goals first | (exfalso; omega) | exact ih | (exfalso; simp_all; done)
    · rw [decide_eq_false hc] at hcmp
      have hf := hw (fun e => hq.mp e i (by omega)) hc
      apply Comes.of
      show Goes _ _ _
      (first | rw [q64] | unfold q64)
      try simp only [Int.toNat_natCast, hcmp]
      try show Goes _ _ _
      repeat' first
        | with_reducible refine goes_if (fun h => ?_) (fun h => ?_) <;> (try simp only [SH] at h)
        | exact goes_none.mpr (by omega)
      all_goals first | (exfalso; omega) | exact goes_inr.mpr hf | (exfalso; simp_all; done)
theorem s64 (aa na ma : Nat) (ta : Nat → ByteArray) (va ga : Nat → Int) (c0 : Int) (ab nb mb : Nat) (tb : Nat → ByteArray) (vb gb : Nat → Int) (c1 : Int) (hp : aa + na ≤ ma ∧ na ≤ 1000000 ∧ ab + nb ≤ mb ∧ nb ≤ 1000000) : Goes ((q64 aa na ma ta va ga c0 ab nb mb tb vb gb c1)) ((p64 aa na ma ta va ga c0 ab nb mb tb vb gb c1)) (decide (c0 = c1 ∧ (S.mkl na fun j => (ta (j + aa), va (j + aa), ga (j + aa))) = (S.mkl nb fun j => (tb (j + ab), vb (j + ab), gb (j + ab))))) := by
  by_cases h1 : c0 = c1
  · have e : decide (c0 = c1 ∧ (S.mkl na fun j => (ta (j + aa), va (j + aa), ga (j + aa))) = (S.mkl nb fun j => (tb (j + ab), vb (j + ab), gb (j + ab)))) = decide ((S.mkl na fun j => (ta (j + aa), va (j + aa), ga (j + aa))) = (S.mkl nb fun j => (tb (j + ab), vb (j + ab), gb (j + ab)))) := by simp only [h1, true_and]
    rw [e]
    by_cases he : na = nb
    · have hm := s64' aa na ma ta va ga c0 ab nb mb tb vb gb c1 hp he na 0 (Nat.zero_add _) (fun j hj => absurd hj (Nat.not_lt_zero j))
      show Goes _ _ _
      unfold p64
      repeat' first
        | with_reducible refine goes_if (fun h => ?_) (fun h => ?_) <;> (try simp only [SH] at h)
        | exact goes_none.mpr (by omega)
      all_goals first | (exfalso; omega) | exact hm | (exfalso; simp_all; done)
    · have hd : decide ((S.mkl na fun j => (ta (j + aa), va (j + aa), ga (j + aa))) = (S.mkl nb fun j => (tb (j + ab), vb (j + ab), gb (j + ab)))) = false := decide_eq_false (fun e => he (mkl_inj.mp e).1)
      rw [hd]
      show Goes _ _ _
      unfold p64
      repeat' first
        | with_reducible refine goes_if (fun h => ?_) (fun h => ?_) <;> (try simp only [SH] at h)
        | exact goes_none.mpr (by omega)
      all_goals first | (exfalso; omega) | exact goes_inr.mpr rfl | (exfalso; simp_all; done)
  · rw [decide_eq_false (fun h => h1 h.1)]
    show Goes _ _ _
    unfold p64
    repeat' first
      | with_reducible refine goes_if (fun h => ?_) (fun h => ?_) <;> (try simp only [SH] at h)
      | exact goes_none.mpr (by omega)
    all_goals first | (exfalso; omega) | exact goes_inr.mpr rfl | (exfalso; simp_all; done)
theorem k64_ok  : k64.ok Try.prog := by
  intro x hx
  obtain ⟨⟨⟨aa, na, ma, ta, va, ga, _⟩, c0, _⟩, ⟨⟨ab, nb, mb, tb, vb, gb, _⟩, c1, _⟩, _⟩ := x
  obtain ⟨h1, h2⟩ := a64 aa na ma ta va ga c0 ab nb mb tb vb gb c1 (s64 aa na ma ta va ga c0 ab nb mb tb vb gb c1 (of_dec hx rfl))
  exact ⟨⟨400, (by decide : 2 + 1 + 0 ≤ 400), h1⟩, h2⟩
noncomputable def xO (test : Bool → Prop → Prop → Prop) : Ext := consX test [k61, k62, k63, k57, k53, k41, k59, k54, k24, k55, k64]
theorem xO_ok  : ExtOk Try.prog (xO cond) := consX_ok ⟨k61_ok, k62_ok, k63_ok, k57_ok, k53_ok, k41_ok, k59_ok, k54_ok, k24_ok, k55_ok, k64_ok, trivial⟩
namespace S
abbrev D9  := Int × Int × Int × Int × Bool × Bool × Int × List (ByteArray × Int × Int) × List Bool
def doErr (e : Int) : D9 := (0, 0, 0, 0, false, false, e, [], [])
def doRes (n : Nat) (de : Int) (Q : List (ByteArray × Int × Int)) (L : List Bool) (k l p : Int) (la lb : Bool) : D9 := (de, k, l, p, la || op1 1 n (fun j => at' L j) k l p, lb || op1 2 n (fun j => at' L j) k l p, 0, Q, L)
def updB (n : Nat) (to : Nat → Bool) (s : Nat) (v : Bool) : List Bool := mkl n fun j => bif Nat.beq j s then v else to j
def doS (n : Nat) (e de : Int) (Q : List (ByteArray × Int × Int)) (to : Nat → Bool) (k l p : Int) (la lb : Bool) (ki ss f1 f2 f3 : Int) : D9 :=
  if e = 0 then
    if ki = 1 ∨ ki = 2 then (if 0 ≤ ss ∧ ss < (n : Int) then doRes n de Q (updB n to ss.toNat (decide (ki = 2))) k l p la lb else doErr 6)
    else if ki = 3 then (if failE n f1 f2 f3 = 0 then doRes n de Q (mkl n to) f1 f2 f3 la lb else doErr (failE n f1 f2 f3))
    else if ki = 4 then doRes n de Q (mkl n to) 0 0 0 la lb
    else if ki = 5 then (if any (fun j => !to j) n = true ∨ op1 1 n to k l p = true ∨ op1 2 n to k l p = true then doErr 8 else doRes n de Q (mkl n to) k l p false false)
    else doErr 1
  else doErr e
end S
theorem ste_ok  {n no : Nat} {e k l p : Int} {to : Nat → Bool} {la lb : Bool} (h : S.stE n no e to k l p la lb = 0) : e = 0 ∧ no = n ∧ S.failE n k l p = 0 ∧ (S.op1 1 n to k l p = true → la = true) ∧ (S.op1 2 n to k l p = true → lb = true) := by
  unfold S.stE at h
  split at h
  · split at h
    · split at h
      · rename_i h1 h2 h3
        refine ⟨h1, h2, h3, ?_, ?_⟩
        · intro h4
          cases la
          · rw [h4] at h; simp at h
          · rfl
        · intro h4
          cases lb
          · rw [h4] at h; simp at h
          · rfl
      · contradiction
    · cases h
  · contradiction
theorem op1_mkl  {lp : Int} {n : Nat} {to : Nat → Bool} {k l p : Int} : S.op1 lp n (fun j => S.at' (S.mkl n to) j) k l p = S.op1 lp n to k l p :=
  opnB_congr (fun j hj => at_mkl hj) (fun j hj => ⟨rfl, rfl, rfl⟩)
noncomputable abbrev c34_e_0 (aq nq : Nat) (tq : Nat → ByteArray) (vq gq : Nat → Int) :=
 (7, true,
 Blk.cols (List.length (S.mkl nq fun j => (tq (j + aq), vq (j + aq), gq (j + aq))))
 [Col.str fun j =>
 (S.at' (S.mkl nq fun j => (tq (j + aq), vq (j + aq), gq (j + aq))) j).1,
 Col.int IntKind.i64 fun j =>
 Prod.fst
 ((S.at' (S.mkl nq fun j => (tq (j + aq), vq (j + aq), gq (j + aq))) j).2),
 Col.int IntKind.i64 fun j =>
 Prod.snd
 ((S.at' (S.mkl nq fun j => (tq (j + aq), vq (j + aq), gq (j + aq))) j).2)])
noncomputable abbrev c34_e_1 (ao no : Nat) (to : Nat → Bool) :=
 decide
 (1 ≤ 1 ∧
 1 ≤ 1000000 ∧
 0 + List.length (S.mkl no fun j => to (j + ao)) ≤
 List.length (S.mkl no fun j => to (j + ao)) ∧
 List.length (S.mkl no fun j => to (j + ao)) ≤ 1000000)
noncomputable abbrev c34_e_2 (aq nq mq : Nat) (tq : Nat → ByteArray) (vq gq : Nat → Int) (ao no mo : Nat) (to : Nat → Bool) :=
 ([[(1, false, Blk.cols mo [Col.bool to]),
 (0, false,
 Blk.cols mq [Col.str tq, Col.int IntKind.i64 vq, Col.int IntKind.i64 gq]),
 (8, true,
 Blk.cols (List.length (S.mkl no fun j => to (j + ao)))
 [Col.bool fun j => S.at' (S.mkl no fun j => to (j + ao)) j]),
 (c34_e_0 aq nq tq vq gq)]])
noncomputable abbrev c34_e_3 (aq nq mq : Nat) (tq : Nat → ByteArray) (vq gq : Nat → Int) (ao no mo : Nat) (to : Nat → Bool) (ss : Int) :=
 ([[(1, false, Blk.cols mo [Col.bool to]),
 (0, false,
 Blk.cols mq [Col.str tq, Col.int IntKind.i64 vq, Col.int IntKind.i64 gq]),
 (8, true,
 Blk.cols (List.length (S.mkl no fun j => to (j + ao)))
 [Col.bool fun j =>
 bif Nat.beq j (Int.toNat ss) then false
 else S.at' (S.mkl no fun j => to (j + ao)) j]),
 (c34_e_0 aq nq tq vq gq)]])
noncomputable abbrev c34_e_4 (aq nq mq : Nat) (tq : Nat → ByteArray) (vq gq : Nat → Int) (ao no mo : Nat) (to : Nat → Bool) (ss : Int) :=
 ([[(1, false, Blk.cols mo [Col.bool to]),
 (0, false,
 Blk.cols mq [Col.str tq, Col.int IntKind.i64 vq, Col.int IntKind.i64 gq]),
 (8, true,
 Blk.cols (List.length (S.mkl no fun j => to (j + ao)))
 [Col.bool fun j =>
 bif Nat.beq j (Int.toNat ss) then true
 else S.at' (S.mkl no fun j => to (j + ao)) j]),
 (c34_e_0 aq nq tq vq gq)]])
noncomputable abbrev c34_e_5 (aq nq : Nat) (tq : Nat → ByteArray) (vq gq : Nat → Int) (de : Int) (ao no : Nat) (to : Nat → Bool) (k1 k2 k3 : Int) :=
 (PV.tup
 [PV.agg
 [PV.own (7) (3)
 (List.length (S.mkl nq fun j => (tq (j + aq), vq (j + aq), gq (j + aq)))),
 PV.int IntKind.i64 de,
 PV.own (8) (1) (List.length (S.mkl no fun j => to (j + ao))),
 PV.int IntKind.i64 k1, PV.int IntKind.i64 k2, PV.int IntKind.i64 k3,
 PV.tf true, PV.tf true],
 PV.int IntKind.i64 (0 : Int)])
noncomputable abbrev c34_e_6 (ao no : Nat) (to : Nat → Bool) (k1 k2 k3 ss : Int) :=
 S.opnB (2 : Int) (List.length (S.mkl no fun j => to (j + ao)))
 (fun j =>
 bif Nat.beq j (Int.toNat ss) then true else S.at' (S.mkl no fun j => to (j + ao)) j)
 (1) (fun j => S.lit [k1] (0 : Int) j) (fun j => S.lit [k2] (0 : Int) j)
 fun j => S.lit [k3] (0 : Int) j
noncomputable abbrev c34_e_7 (aq nq : Nat) (tq : Nat → ByteArray) (vq gq : Nat → Int) (de : Int) (ao no : Nat) (to : Nat → Bool) (k1 k2 k3 : Int) :=
 (PV.tup
 [PV.agg
 [PV.own (7) (3)
 (List.length (S.mkl nq fun j => (tq (j + aq), vq (j + aq), gq (j + aq)))),
 PV.int IntKind.i64 de,
 PV.own (8) (1) (List.length (S.mkl no fun j => to (j + ao))),
 PV.int IntKind.i64 k1, PV.int IntKind.i64 k2, PV.int IntKind.i64 k3,
 PV.tf true, PV.tf false],
 PV.int IntKind.i64 (0 : Int)])
noncomputable abbrev c34_e_8 (aq nq : Nat) (tq : Nat → ByteArray) (vq gq : Nat → Int) (de : Int) (ao no : Nat) (to : Nat → Bool) (k1 k2 k3 : Int) :=
 (PV.tup
 [PV.agg
 [PV.own (7) (3)
 (List.length (S.mkl nq fun j => (tq (j + aq), vq (j + aq), gq (j + aq)))),
 PV.int IntKind.i64 de,
 PV.own (8) (1) (List.length (S.mkl no fun j => to (j + ao))),
 PV.int IntKind.i64 k1, PV.int IntKind.i64 k2, PV.int IntKind.i64 k3,
 PV.tf false, PV.tf true],
 PV.int IntKind.i64 (0 : Int)])
noncomputable abbrev c34_e_9 (ao no : Nat) (to : Nat → Bool) (k1 k2 k3 ss : Int) :=
 S.opnB (2 : Int) (List.length (S.mkl no fun j => to (j + ao)))
 (fun j =>
 bif Nat.beq j (Int.toNat ss) then false else S.at' (S.mkl no fun j => to (j + ao)) j)
 (1) (fun j => S.lit [k1] (0 : Int) j) (fun j => S.lit [k2] (0 : Int) j)
 fun j => S.lit [k3] (0 : Int) j
noncomputable abbrev c34_e_10 (aq nq : Nat) (tq : Nat → ByteArray) (vq gq : Nat → Int) (de : Int) (ao no : Nat) (to : Nat → Bool) (k1 k2 k3 ss : Int) :=
 (de, k1, k2, k3, true, true, (0 : Int), S.mkl nq fun j => (tq (j + aq), vq (j + aq), gq (j + aq)), S.mkl (List.length (S.mkl no fun j => to (j + ao))) fun j =>
 bif Nat.beq j (Int.toNat ss) then true else S.at' (S.mkl no fun j => to (j + ao)) j)
noncomputable abbrev c34_e_11 (ao no : Nat) (to : Nat → Bool) :=
 S.opnB (2 : Int) (List.length (S.mkl no fun j => to (j + ao)))
 (fun j => S.at' (S.mkl no fun j => to (j + ao)) j) (1)
 (fun j => S.lit [(0 : Int)] (0 : Int) j) (fun j => S.lit [(0 : Int)] (0 : Int) j)
 fun j => S.lit [(0 : Int)] (0 : Int) j
noncomputable abbrev c34_e_12 (aq nq : Nat) (tq : Nat → ByteArray) (vq gq : Nat → Int) (de : Int) (ao no : Nat) (to : Nat → Bool) (k1 k2 k3 : Int) :=
 (PV.tup
 [PV.agg
 [PV.own (7) (3)
 (List.length (S.mkl nq fun j => (tq (j + aq), vq (j + aq), gq (j + aq)))),
 PV.int IntKind.i64 de,
 PV.own (8) (1) (List.length (S.mkl no fun j => to (j + ao))),
 PV.int IntKind.i64 k1, PV.int IntKind.i64 k2, PV.int IntKind.i64 k3,
 PV.tf false, PV.tf false],
 PV.int IntKind.i64 (0 : Int)])
noncomputable abbrev c34_e_13 (ao no : Nat) (to : Nat → Bool) (f1 f2 f3 : Int) :=
 S.opnB (2 : Int) (List.length (S.mkl no fun j => to (j + ao)))
 (fun j => S.at' (S.mkl no fun j => to (j + ao)) j) (1)
 (fun j => S.lit [f1] (0 : Int) j) (fun j => S.lit [f2] (0 : Int) j) fun j =>
 S.lit [f3] (0 : Int) j
noncomputable abbrev c34_e_14 (aq nq : Nat) (tq : Nat → ByteArray) (vq gq : Nat → Int) (de : Int) (ao no : Nat) (to : Nat → Bool) :=
 (PV.tup
 [PV.agg
 [PV.own (7) (3)
 (List.length (S.mkl nq fun j => (tq (j + aq), vq (j + aq), gq (j + aq)))),
 PV.int IntKind.i64 de,
 PV.own (8) (1) (List.length (S.mkl no fun j => to (j + ao))),
 PV.int IntKind.i64 (0 : Int), PV.int IntKind.i64 (0 : Int),
 PV.int IntKind.i64 (0 : Int), PV.tf true, PV.tf true],
 PV.int IntKind.i64 (0 : Int)])
noncomputable abbrev c34_e_15 (aq nq : Nat) (tq : Nat → ByteArray) (vq gq : Nat → Int) (de : Int) (ao no : Nat) (to : Nat → Bool) (f1 f2 f3 : Int) :=
 (PV.tup
 [PV.agg
 [PV.own (7) (3)
 (List.length (S.mkl nq fun j => (tq (j + aq), vq (j + aq), gq (j + aq)))),
 PV.int IntKind.i64 de,
 PV.own (8) (1) (List.length (S.mkl no fun j => to (j + ao))),
 PV.int IntKind.i64 f1, PV.int IntKind.i64 f2, PV.int IntKind.i64 f3,
 PV.tf true, PV.tf true],
 PV.int IntKind.i64 (0 : Int)])
noncomputable abbrev c34_e_16 (ao no : Nat) (to : Nat → Bool) (k1 k2 k3 ss : Int) :=
 S.opnB (1 : Int) (List.length (S.mkl no fun j => to (j + ao)))
 (fun j =>
 bif Nat.beq j (Int.toNat ss) then true else S.at' (S.mkl no fun j => to (j + ao)) j)
 (1) (fun j => S.lit [k1] (0 : Int) j) (fun j => S.lit [k2] (0 : Int) j)
 fun j => S.lit [k3] (0 : Int) j
noncomputable abbrev c34_e_17 (aq nq : Nat) (tq : Nat → ByteArray) (vq gq : Nat → Int) (de : Int) (ao no : Nat) (to : Nat → Bool) (k1 k2 k3 ss : Int) :=
 (de, k1, k2, k3, true, false, (0 : Int), S.mkl nq fun j => (tq (j + aq), vq (j + aq), gq (j + aq)), S.mkl (List.length (S.mkl no fun j => to (j + ao))) fun j =>
 bif Nat.beq j (Int.toNat ss) then true else S.at' (S.mkl no fun j => to (j + ao)) j)
noncomputable abbrev c34_e_18 (aq nq : Nat) (tq : Nat → ByteArray) (vq gq : Nat → Int) (de : Int) (ao no : Nat) (to : Nat → Bool) (k1 k2 k3 ss : Int) :=
 (de, k1, k2, k3, false, true, (0 : Int), S.mkl nq fun j => (tq (j + aq), vq (j + aq), gq (j + aq)), S.mkl (List.length (S.mkl no fun j => to (j + ao))) fun j =>
 bif Nat.beq j (Int.toNat ss) then true else S.at' (S.mkl no fun j => to (j + ao)) j)
noncomputable abbrev c34_e_19 (aq nq : Nat) (tq : Nat → ByteArray) (vq gq : Nat → Int) (de : Int) (ao no : Nat) (to : Nat → Bool) (k1 k2 k3 ss : Int) :=
 (de, k1, k2, k3, true, true, (0 : Int), S.mkl nq fun j => (tq (j + aq), vq (j + aq), gq (j + aq)), S.mkl (List.length (S.mkl no fun j => to (j + ao))) fun j =>
 bif Nat.beq j (Int.toNat ss) then false else S.at' (S.mkl no fun j => to (j + ao)) j)
noncomputable abbrev c34_e_20 (ao no : Nat) (to : Nat → Bool) (k1 k2 k3 : Int) :=
 S.opnB (2 : Int) (List.length (S.mkl no fun j => to (j + ao)))
 (fun j => S.at' (S.mkl no fun j => to (j + ao)) j) (1)
 (fun j => S.lit [k1] (0 : Int) j) (fun j => S.lit [k2] (0 : Int) j) fun j =>
 S.lit [k3] (0 : Int) j
abbrev St34  := Empty
abbrev Rt34  := Int × Int × Int × Int × Bool × Bool × Int × List (ByteArray × Int × Int) × List Bool
noncomputable def V34 (aq nq mq : Nat) (tq : Nat → ByteArray) (vq gq : Nat → Int) (de : Int) (ao no mo : Nat) (to : Nat → Bool) (k1 k2 k3 : Int) (la lb : Bool) (ki ss f1 f2 f3 : Int) (r : Rt34) : PV := PV.tup
 [PV.agg
 [PV.own (3) (3) (List.length r.2.2.2.2.2.2.2.1), PV.int IntKind.i64 r.1,
 PV.own (4) (1) (List.length r.2.2.2.2.2.2.2.2), PV.int IntKind.i64 r.2.1,
 PV.int IntKind.i64 r.2.2.1, PV.int IntKind.i64 r.2.2.2.1, PV.bool r.2.2.2.2.1, PV.bool r.2.2.2.2.2.1],
 PV.int IntKind.i64 r.2.2.2.2.2.2.1]
noncomputable def N34 (aq nq mq : Nat) (tq : Nat → ByteArray) (vq gq : Nat → Int) (de : Int) (ao no mo : Nat) (to : Nat → Bool) (k1 k2 k3 : Int) (la lb : Bool) (ki ss f1 f2 f3 : Int) (r : Rt34) : List Blk := [Blk.cols (List.length r.2.2.2.2.2.2.2.1)
 [Col.str fun j => (S.at' r.2.2.2.2.2.2.2.1 j).1,
 Col.int IntKind.i64 fun j => (S.at' r.2.2.2.2.2.2.2.1 j).2.1,
 Col.int IntKind.i64 fun j => (S.at' r.2.2.2.2.2.2.2.1 j).2.2], Blk.cols (List.length r.2.2.2.2.2.2.2.2) [Col.bool fun j => S.at' r.2.2.2.2.2.2.2.2 j]]
noncomputable def I34 (aq nq mq : Nat) (tq : Nat → ByteArray) (vq gq : Nat → Int) (de : Int) (ao no mo : Nat) (to : Nat → Bool) (k1 k2 k3 : Int) (la lb : Bool) (ki ss f1 f2 f3 : Int) : St34 → Hd := fun s => s.elim
noncomputable def q34 (aq nq mq : Nat) (tq : Nat → ByteArray) (vq gq : Nat → Int) (de : Int) (ao no mo : Nat) (to : Nat → Bool) (k1 k2 k3 : Int) (la lb : Bool) (ki ss f1 f2 f3 : Int) : St34 → Option (St34 ⊕ Rt34) := fun s => s.elim
noncomputable def p34 (aq nq mq : Nat) (tq : Nat → ByteArray) (vq gq : Nat → Int) (de : Int) (ao no mo : Nat) (to : Nat → Bool) (k1 k2 k3 : Int) (la lb : Bool) (ki ss f1 f2 f3 : Int) : Option (St34 ⊕ Rt34) := bif (decide (aq + nq ≤ mq ∧ nq ≤ 1000000 ∧ ao + no ≤ mo))
 then (bif (S.stE nq no
 (S.netE nq (fun j => tq (j + aq)) (fun j => vq (j + aq)) (fun j => gq (j + aq)) de)
 (fun j => to (j + ao)) k1 k2 k3 la lb !=
 (0 : Int))
 then (some (.inr ((0 : Int), (0 : Int), (0 : Int), (0 : Int), false, false, S.stE nq no
 (S.netE nq (fun j => tq (j + aq)) (fun j => vq (j + aq)) (fun j => gq (j + aq)) de)
 (fun j => to (j + ao)) k1 k2 k3 la lb, [], [])))
 else (bif (decide (aq + nq ≤ mq ∧ nq ≤ 1000000 ∧ ao + no ≤ mo ∧ no ≤ 1000000))
 then (bif (ki == (1 : Int))
 then (bif (decide (nq ≤ 1000000))
 then (bif (decide ((0 : Int) ≤ ss ∧ ss < (↑nq : Int)))
 then (bif (ki == (2 : Int))
 then (bif (decide ((0 : Int) ≤ ss ∧ ss < (↑(List.length (S.mkl no fun j => to (j + ao))) : Int)))
 then (bif (decide (Int.toNat ss < List.length (S.mkl no fun j => to (j + ao))))
 then (bif (la)
 then (bif (lb)
 then (some (.inr (c34_e_10 aq nq tq vq gq de ao no to k1 k2 k3 ss)))
 else (bif (c34_e_1 ao no to)
 then (bif (c34_e_6 ao no to k1 k2 k3 ss)
 then (some (.inr (c34_e_10 aq nq tq vq gq de ao no to k1 k2 k3 ss)))
 else (some (.inr (c34_e_17 aq nq tq vq gq de ao no to k1 k2 k3 ss))))
 else (none)))
 else (bif (c34_e_1 ao no to)
 then (bif (c34_e_16 ao no to k1 k2 k3 ss)
 then (bif (lb)
 then (some (.inr (c34_e_10 aq nq tq vq gq de ao no to k1 k2 k3 ss)))
 else (bif (c34_e_6 ao no to k1 k2 k3 ss)
 then (some (.inr (c34_e_10 aq nq tq vq gq de ao no to k1 k2 k3 ss)))
 else (some (.inr (c34_e_17 aq nq tq vq gq de ao no to k1 k2 k3 ss)))))
 else (bif (lb)
 then (some (.inr (c34_e_18 aq nq tq vq gq de ao no to k1 k2 k3 ss)))
 else (bif (c34_e_6 ao no to k1 k2 k3 ss)
 then (some (.inr (c34_e_18 aq nq tq vq gq de ao no to k1 k2 k3 ss)))
 else (some (.inr (de, k1, k2, k3, false, false, (0 : Int), S.mkl nq fun j => (tq (j + aq), vq (j + aq), gq (j + aq)), S.mkl (List.length (S.mkl no fun j => to (j + ao))) fun j =>
 bif Nat.beq j (Int.toNat ss) then true else S.at' (S.mkl no fun j => to (j + ao)) j))))))
 else (none)))
 else (none))
 else (none))
 else (bif (decide ((0 : Int) ≤ ss ∧ ss < (↑(List.length (S.mkl no fun j => to (j + ao))) : Int)))
 then (bif (decide (Int.toNat ss < List.length (S.mkl no fun j => to (j + ao))))
 then (bif (la)
 then (bif (lb)
 then (some (.inr (c34_e_19 aq nq tq vq gq de ao no to k1 k2 k3 ss)))
 else (bif (c34_e_1 ao no to)
 then (bif (c34_e_9 ao no to k1 k2 k3 ss)
 then (some (.inr (c34_e_19 aq nq tq vq gq de ao no to k1 k2 k3 ss)))
 else (some (.inr (de, k1, k2, k3, true, false, (0 : Int), S.mkl nq fun j => (tq (j + aq), vq (j + aq), gq (j + aq)), S.mkl (List.length (S.mkl no fun j => to (j + ao))) fun j =>
 bif Nat.beq j (Int.toNat ss) then false else S.at' (S.mkl no fun j => to (j + ao)) j))))
 else (none)))
 else (bif (c34_e_1 ao no to)
 then (bif (S.opnB (1 : Int) (List.length (S.mkl no fun j => to (j + ao)))
 (fun j =>
 bif Nat.beq j (Int.toNat ss) then false else S.at' (S.mkl no fun j => to (j + ao)) j)
 (1) (fun j => S.lit [k1] (0 : Int) j) (fun j => S.lit [k2] (0 : Int) j)
 fun j => S.lit [k3] (0 : Int) j)
 then (bif (lb)
 then (some (.inr (c34_e_19 aq nq tq vq gq de ao no to k1 k2 k3 ss)))
 else (bif (c34_e_9 ao no to k1 k2 k3 ss)
 then (some (.inr (c34_e_19 aq nq tq vq gq de ao no to k1 k2 k3 ss)))
 else (some (.inr (de, k1, k2, k3, true, false, (0 : Int), S.mkl nq fun j => (tq (j + aq), vq (j + aq), gq (j + aq)), S.mkl (List.length (S.mkl no fun j => to (j + ao))) fun j =>
 bif Nat.beq j (Int.toNat ss) then false else S.at' (S.mkl no fun j => to (j + ao)) j)))))
 else (bif (lb)
 then (some (.inr (de, k1, k2, k3, false, true, (0 : Int), S.mkl nq fun j => (tq (j + aq), vq (j + aq), gq (j + aq)), S.mkl (List.length (S.mkl no fun j => to (j + ao))) fun j =>
 bif Nat.beq j (Int.toNat ss) then false else S.at' (S.mkl no fun j => to (j + ao)) j)))
 else (bif (c34_e_9 ao no to k1 k2 k3 ss)
 then (some (.inr (de, k1, k2, k3, false, true, (0 : Int), S.mkl nq fun j => (tq (j + aq), vq (j + aq), gq (j + aq)), S.mkl (List.length (S.mkl no fun j => to (j + ao))) fun j =>
 bif Nat.beq j (Int.toNat ss) then false else S.at' (S.mkl no fun j => to (j + ao)) j)))
 else (some (.inr (de, k1, k2, k3, false, false, (0 : Int), S.mkl nq fun j => (tq (j + aq), vq (j + aq), gq (j + aq)), S.mkl (List.length (S.mkl no fun j => to (j + ao))) fun j =>
 bif Nat.beq j (Int.toNat ss) then false else S.at' (S.mkl no fun j => to (j + ao)) j))))))
 else (none)))
 else (none))
 else (none)))
 else (some (.inr ((0 : Int), (0 : Int), (0 : Int), (0 : Int), false, false, (6 : Int), [], []))))
 else (none))
 else (bif (ki == (2 : Int))
 then (bif (decide (nq ≤ 1000000))
 then (bif (decide ((0 : Int) ≤ ss ∧ ss < (↑nq : Int)))
 then (bif (decide ((0 : Int) ≤ ss ∧ ss < (↑(List.length (S.mkl no fun j => to (j + ao))) : Int)))
 then (bif (decide (Int.toNat ss < List.length (S.mkl no fun j => to (j + ao))))
 then (bif (la)
 then (bif (lb)
 then (some (.inr (c34_e_10 aq nq tq vq gq de ao no to k1 k2 k3 ss)))
 else (bif (c34_e_1 ao no to)
 then (bif (c34_e_6 ao no to k1 k2 k3 ss)
 then (some (.inr (c34_e_10 aq nq tq vq gq de ao no to k1 k2 k3 ss)))
 else (some (.inr (c34_e_17 aq nq tq vq gq de ao no to k1 k2 k3 ss))))
 else (none)))
 else (bif (c34_e_1 ao no to)
 then (bif (c34_e_16 ao no to k1 k2 k3 ss)
 then (bif (lb)
 then (some (.inr (c34_e_10 aq nq tq vq gq de ao no to k1 k2 k3 ss)))
 else (bif (c34_e_6 ao no to k1 k2 k3 ss)
 then (some (.inr (c34_e_10 aq nq tq vq gq de ao no to k1 k2 k3 ss)))
 else (some (.inr (c34_e_17 aq nq tq vq gq de ao no to k1 k2 k3 ss)))))
 else (bif (lb)
 then (some (.inr (c34_e_18 aq nq tq vq gq de ao no to k1 k2 k3 ss)))
 else (bif (c34_e_6 ao no to k1 k2 k3 ss)
 then (some (.inr (c34_e_18 aq nq tq vq gq de ao no to k1 k2 k3 ss)))
 else (some (.inr (de, k1, k2, k3, false, false, (0 : Int), S.mkl nq fun j => (tq (j + aq), vq (j + aq), gq (j + aq)), S.mkl (List.length (S.mkl no fun j => to (j + ao))) fun j =>
 bif Nat.beq j (Int.toNat ss) then true else S.at' (S.mkl no fun j => to (j + ao)) j))))))
 else (none)))
 else (none))
 else (none))
 else (some (.inr ((0 : Int), (0 : Int), (0 : Int), (0 : Int), false, false, (6 : Int), [], []))))
 else (none))
 else (bif (ki == (3 : Int))
 then (bif (decide (nq ≤ 100000))
 then (bif (S.failE nq f1 f2 f3 != (0 : Int))
 then (some (.inr ((0 : Int), (0 : Int), (0 : Int), (0 : Int), false, false, S.failE nq f1 f2 f3, [], [])))
 else (bif (la)
 then (bif (lb)
 then (some (.inr (de, f1, f2, f3, true, true, (0 : Int), S.mkl nq fun j => (tq (j + aq), vq (j + aq), gq (j + aq)), S.mkl no fun j => to (j + ao))))
 else (bif (c34_e_1 ao no to)
 then (bif (c34_e_13 ao no to f1 f2 f3)
 then (some (.inr (de, f1, f2, f3, true, true, (0 : Int), S.mkl nq fun j => (tq (j + aq), vq (j + aq), gq (j + aq)), S.mkl no fun j => to (j + ao))))
 else (some (.inr (de, f1, f2, f3, true, false, (0 : Int), S.mkl nq fun j => (tq (j + aq), vq (j + aq), gq (j + aq)), S.mkl no fun j => to (j + ao)))))
 else (none)))
 else (bif (c34_e_1 ao no to)
 then (bif (S.opnB (1 : Int) (List.length (S.mkl no fun j => to (j + ao)))
 (fun j => S.at' (S.mkl no fun j => to (j + ao)) j) (1)
 (fun j => S.lit [f1] (0 : Int) j) (fun j => S.lit [f2] (0 : Int) j) fun j =>
 S.lit [f3] (0 : Int) j)
 then (bif (lb)
 then (some (.inr (de, f1, f2, f3, true, true, (0 : Int), S.mkl nq fun j => (tq (j + aq), vq (j + aq), gq (j + aq)), S.mkl no fun j => to (j + ao))))
 else (bif (c34_e_13 ao no to f1 f2 f3)
 then (some (.inr (de, f1, f2, f3, true, true, (0 : Int), S.mkl nq fun j => (tq (j + aq), vq (j + aq), gq (j + aq)), S.mkl no fun j => to (j + ao))))
 else (some (.inr (de, f1, f2, f3, true, false, (0 : Int), S.mkl nq fun j => (tq (j + aq), vq (j + aq), gq (j + aq)), S.mkl no fun j => to (j + ao))))))
 else (bif (lb)
 then (some (.inr (de, f1, f2, f3, false, true, (0 : Int), S.mkl nq fun j => (tq (j + aq), vq (j + aq), gq (j + aq)), S.mkl no fun j => to (j + ao))))
 else (bif (c34_e_13 ao no to f1 f2 f3)
 then (some (.inr (de, f1, f2, f3, false, true, (0 : Int), S.mkl nq fun j => (tq (j + aq), vq (j + aq), gq (j + aq)), S.mkl no fun j => to (j + ao))))
 else (some (.inr (de, f1, f2, f3, false, false, (0 : Int), S.mkl nq fun j => (tq (j + aq), vq (j + aq), gq (j + aq)), S.mkl no fun j => to (j + ao)))))))
 else (none))))
 else (none))
 else (bif (ki == (4 : Int))
 then (bif (la)
 then (bif (lb)
 then (some (.inr (de, (0 : Int), (0 : Int), (0 : Int), true, true, (0 : Int), S.mkl nq fun j => (tq (j + aq), vq (j + aq), gq (j + aq)), S.mkl no fun j => to (j + ao))))
 else (bif (c34_e_1 ao no to)
 then (bif (c34_e_11 ao no to)
 then (some (.inr (de, (0 : Int), (0 : Int), (0 : Int), true, true, (0 : Int), S.mkl nq fun j => (tq (j + aq), vq (j + aq), gq (j + aq)), S.mkl no fun j => to (j + ao))))
 else (some (.inr (de, (0 : Int), (0 : Int), (0 : Int), true, false, (0 : Int), S.mkl nq fun j => (tq (j + aq), vq (j + aq), gq (j + aq)), S.mkl no fun j => to (j + ao)))))
 else (none)))
 else (bif (c34_e_1 ao no to)
 then (bif (S.opnB (1 : Int) (List.length (S.mkl no fun j => to (j + ao)))
 (fun j => S.at' (S.mkl no fun j => to (j + ao)) j) (1)
 (fun j => S.lit [(0 : Int)] (0 : Int) j) (fun j => S.lit [(0 : Int)] (0 : Int) j)
 fun j => S.lit [(0 : Int)] (0 : Int) j)
 then (bif (lb)
 then (some (.inr (de, (0 : Int), (0 : Int), (0 : Int), true, true, (0 : Int), S.mkl nq fun j => (tq (j + aq), vq (j + aq), gq (j + aq)), S.mkl no fun j => to (j + ao))))
 else (bif (c34_e_11 ao no to)
 then (some (.inr (de, (0 : Int), (0 : Int), (0 : Int), true, true, (0 : Int), S.mkl nq fun j => (tq (j + aq), vq (j + aq), gq (j + aq)), S.mkl no fun j => to (j + ao))))
 else (some (.inr (de, (0 : Int), (0 : Int), (0 : Int), true, false, (0 : Int), S.mkl nq fun j => (tq (j + aq), vq (j + aq), gq (j + aq)), S.mkl no fun j => to (j + ao))))))
 else (bif (lb)
 then (some (.inr (de, (0 : Int), (0 : Int), (0 : Int), false, true, (0 : Int), S.mkl nq fun j => (tq (j + aq), vq (j + aq), gq (j + aq)), S.mkl no fun j => to (j + ao))))
 else (bif (c34_e_11 ao no to)
 then (some (.inr (de, (0 : Int), (0 : Int), (0 : Int), false, true, (0 : Int), S.mkl nq fun j => (tq (j + aq), vq (j + aq), gq (j + aq)), S.mkl no fun j => to (j + ao))))
 else (some (.inr (de, (0 : Int), (0 : Int), (0 : Int), false, false, (0 : Int), S.mkl nq fun j => (tq (j + aq), vq (j + aq), gq (j + aq)), S.mkl no fun j => to (j + ao)))))))
 else (none)))
 else (bif (ki == (5 : Int))
 then (bif (decide (ao + no ≤ mo ∧ no ≤ 1000000))
 then (bif (S.any (fun j => to (j + ao) == false) no)
 then (some (.inr ((0 : Int), (0 : Int), (0 : Int), (0 : Int), false, false, (8 : Int), [], [])))
 else (bif (decide (1 ≤ 1 ∧ 1 ≤ 1000000 ∧ ao + no ≤ mo ∧ no ≤ 1000000))
 then (bif (S.safB no (fun j => to (j + ao)) (1) (fun j => S.lit [k1] (0 : Int) j)
 (fun j => S.lit [k2] (0 : Int) j) fun j => S.lit [k3] (0 : Int) j)
 then (some (.inr ((0 : Int), (0 : Int), (0 : Int), (0 : Int), false, false, (8 : Int), [], [])))
 else (bif (c34_e_1 ao no to)
 then (bif (S.opnB (1 : Int) (List.length (S.mkl no fun j => to (j + ao)))
 (fun j => S.at' (S.mkl no fun j => to (j + ao)) j) (1)
 (fun j => S.lit [k1] (0 : Int) j) (fun j => S.lit [k2] (0 : Int) j) fun j =>
 S.lit [k3] (0 : Int) j)
 then (bif (c34_e_20 ao no to k1 k2 k3)
 then (some (.inr (de, k1, k2, k3, true, true, (0 : Int), S.mkl nq fun j => (tq (j + aq), vq (j + aq), gq (j + aq)), S.mkl no fun j => to (j + ao))))
 else (some (.inr (de, k1, k2, k3, true, false, (0 : Int), S.mkl nq fun j => (tq (j + aq), vq (j + aq), gq (j + aq)), S.mkl no fun j => to (j + ao)))))
 else (bif (c34_e_20 ao no to k1 k2 k3)
 then (some (.inr (de, k1, k2, k3, false, true, (0 : Int), S.mkl nq fun j => (tq (j + aq), vq (j + aq), gq (j + aq)), S.mkl no fun j => to (j + ao))))
 else (some (.inr (de, k1, k2, k3, false, false, (0 : Int), S.mkl nq fun j => (tq (j + aq), vq (j + aq), gq (j + aq)), S.mkl no fun j => to (j + ao))))))
 else (none)))
 else (none)))
 else (none))
 else (some (.inr ((0 : Int), (0 : Int), (0 : Int), (0 : Int), false, false, (1 : Int), [], []))))))))
 else (none)))
 else (none)
noncomputable def Te34 (test : Bool → Prop → Prop → Prop) (Kst : KS) (Kret : KR) (aq nq mq : Nat) (tq : Nat → ByteArray) (vq gq : Nat → Int) (de : Int) (ao no mo : Nat) (to : Nat → Bool) (k1 k2 k3 : Int) (la lb : Bool) (ki ss f1 f2 f3 : Int) : Prop :=
  test (decide (aq + nq ≤ mq ∧ nq ≤ 1000000 ∧ ao + no ≤ mo))
 (test (S.stE nq no
 (S.netE nq (fun j => tq (j + aq)) (fun j => vq (j + aq)) (fun j => gq (j + aq)) de)
 (fun j => to (j + ao)) k1 k2 k3 la lb !=
 (0 : Int))
 (Kret (PV.tup
 [PV.agg
 [PV.nils, PV.int IntKind.i64 (0 : Int), PV.nils, PV.int IntKind.i64 (0 : Int),
 PV.int IntKind.i64 (0 : Int), PV.int IntKind.i64 (0 : Int), PV.tf false,
 PV.tf false],
 PV.int IntKind.i64
 (S.stE nq no
 (S.netE nq (fun j => tq (j + aq)) (fun j => vq (j + aq)) (fun j => gq (j + aq))
 de)
 (fun j => to (j + ao)) k1 k2 k3 la lb)]) ([[(1, false, Blk.cols mo [Col.bool to]),
 (0, false,
 Blk.cols mq [Col.str tq, Col.int IntKind.i64 vq, Col.int IntKind.i64 gq])]]) (6))
 (test (decide (aq + nq ≤ mq ∧ nq ≤ 1000000 ∧ ao + no ≤ mo ∧ no ≤ 1000000))
 (test (ki == (1 : Int))
 (test (decide (nq ≤ 1000000))
 (test (decide ((0 : Int) ≤ ss ∧ ss < (↑nq : Int)))
 (test (ki == (2 : Int))
 (test (decide ((0 : Int) ≤ ss ∧ ss < (↑(List.length (S.mkl no fun j => to (j + ao))) : Int)))
 (test (decide (Int.toNat ss < List.length (S.mkl no fun j => to (j + ao))))
 (test (la)
 (test (lb)
 (Kret (c34_e_5 aq nq tq vq gq de ao no to k1 k2 k3) (c34_e_4 aq nq mq tq vq gq ao no mo to ss) (11))
 (test (c34_e_1 ao no to)
 (test (c34_e_6 ao no to k1 k2 k3 ss)
 (Kret (c34_e_5 aq nq tq vq gq de ao no to k1 k2 k3) (c34_e_4 aq nq mq tq vq gq ao no mo to ss) (13))
 (Kret (c34_e_7 aq nq tq vq gq de ao no to k1 k2 k3) (c34_e_4 aq nq mq tq vq gq ao no mo to ss) (13)))
 (False)))
 (test (c34_e_1 ao no to)
 (test (c34_e_16 ao no to k1 k2 k3 ss)
 (test (lb)
 (Kret (c34_e_5 aq nq tq vq gq de ao no to k1 k2 k3) (c34_e_4 aq nq mq tq vq gq ao no mo to ss) (13))
 (test (c34_e_1 ao no to)
 (test (c34_e_6 ao no to k1 k2 k3 ss)
 (Kret (c34_e_5 aq nq tq vq gq de ao no to k1 k2 k3) (c34_e_4 aq nq mq tq vq gq ao no mo to ss) (15))
 (Kret (c34_e_7 aq nq tq vq gq de ao no to k1 k2 k3) (c34_e_4 aq nq mq tq vq gq ao no mo to ss) (15)))
 (False)))
 (test (lb)
 (Kret (c34_e_8 aq nq tq vq gq de ao no to k1 k2 k3) (c34_e_4 aq nq mq tq vq gq ao no mo to ss) (13))
 (test (c34_e_1 ao no to)
 (test (c34_e_6 ao no to k1 k2 k3 ss)
 (Kret (c34_e_8 aq nq tq vq gq de ao no to k1 k2 k3) (c34_e_4 aq nq mq tq vq gq ao no mo to ss) (15))
 (Kret (c34_e_12 aq nq tq vq gq de ao no to k1 k2 k3) (c34_e_4 aq nq mq tq vq gq ao no mo to ss) (15)))
 (False))))
 (False)))
 (False))
 (False))
 (test (decide ((0 : Int) ≤ ss ∧ ss < (↑(List.length (S.mkl no fun j => to (j + ao))) : Int)))
 (test (decide (Int.toNat ss < List.length (S.mkl no fun j => to (j + ao))))
 (test (la)
 (test (lb)
 (Kret (c34_e_5 aq nq tq vq gq de ao no to k1 k2 k3) (c34_e_3 aq nq mq tq vq gq ao no mo to ss) (11))
 (test (c34_e_1 ao no to)
 (test (c34_e_9 ao no to k1 k2 k3 ss)
 (Kret (c34_e_5 aq nq tq vq gq de ao no to k1 k2 k3) (c34_e_3 aq nq mq tq vq gq ao no mo to ss) (13))
 (Kret (c34_e_7 aq nq tq vq gq de ao no to k1 k2 k3) (c34_e_3 aq nq mq tq vq gq ao no mo to ss) (13)))
 (False)))
 (test (c34_e_1 ao no to)
 (test (S.opnB (1 : Int) (List.length (S.mkl no fun j => to (j + ao)))
 (fun j =>
 bif Nat.beq j (Int.toNat ss) then false else S.at' (S.mkl no fun j => to (j + ao)) j)
 (1) (fun j => S.lit [k1] (0 : Int) j) (fun j => S.lit [k2] (0 : Int) j)
 fun j => S.lit [k3] (0 : Int) j)
 (test (lb)
 (Kret (c34_e_5 aq nq tq vq gq de ao no to k1 k2 k3) (c34_e_3 aq nq mq tq vq gq ao no mo to ss) (13))
 (test (c34_e_1 ao no to)
 (test (c34_e_9 ao no to k1 k2 k3 ss)
 (Kret (c34_e_5 aq nq tq vq gq de ao no to k1 k2 k3) (c34_e_3 aq nq mq tq vq gq ao no mo to ss) (15))
 (Kret (c34_e_7 aq nq tq vq gq de ao no to k1 k2 k3) (c34_e_3 aq nq mq tq vq gq ao no mo to ss) (15)))
 (False)))
 (test (lb)
 (Kret (c34_e_8 aq nq tq vq gq de ao no to k1 k2 k3) (c34_e_3 aq nq mq tq vq gq ao no mo to ss) (13))
 (test (c34_e_1 ao no to)
 (test (c34_e_9 ao no to k1 k2 k3 ss)
 (Kret (c34_e_8 aq nq tq vq gq de ao no to k1 k2 k3) (c34_e_3 aq nq mq tq vq gq ao no mo to ss) (15))
 (Kret (c34_e_12 aq nq tq vq gq de ao no to k1 k2 k3) (c34_e_3 aq nq mq tq vq gq ao no mo to ss) (15)))
 (False))))
 (False)))
 (False))
 (False)))
 (Kret (PV.tup
 [PV.agg
 [PV.nils, PV.int IntKind.i64 (0 : Int), PV.nils, PV.int IntKind.i64 (0 : Int),
 PV.int IntKind.i64 (0 : Int), PV.int IntKind.i64 (0 : Int), PV.tf false,
 PV.tf false],
 PV.int IntKind.i64 (6 : Int)]) ([[(1, false, Blk.cols mo [Col.bool to]),
 (0, false,
 Blk.cols mq [Col.str tq, Col.int IntKind.i64 vq, Col.int IntKind.i64 gq])]]) (11)))
 (False))
 (test (ki == (2 : Int))
 (test (decide (nq ≤ 1000000))
 (test (decide ((0 : Int) ≤ ss ∧ ss < (↑nq : Int)))
 (test (ki == (2 : Int))
 (test (decide ((0 : Int) ≤ ss ∧ ss < (↑(List.length (S.mkl no fun j => to (j + ao))) : Int)))
 (test (decide (Int.toNat ss < List.length (S.mkl no fun j => to (j + ao))))
 (test (la)
 (test (lb)
 (Kret (c34_e_5 aq nq tq vq gq de ao no to k1 k2 k3) (c34_e_4 aq nq mq tq vq gq ao no mo to ss) (11))
 (test (c34_e_1 ao no to)
 (test (c34_e_6 ao no to k1 k2 k3 ss)
 (Kret (c34_e_5 aq nq tq vq gq de ao no to k1 k2 k3) (c34_e_4 aq nq mq tq vq gq ao no mo to ss) (13))
 (Kret (c34_e_7 aq nq tq vq gq de ao no to k1 k2 k3) (c34_e_4 aq nq mq tq vq gq ao no mo to ss) (13)))
 (False)))
 (test (c34_e_1 ao no to)
 (test (c34_e_16 ao no to k1 k2 k3 ss)
 (test (lb)
 (Kret (c34_e_5 aq nq tq vq gq de ao no to k1 k2 k3) (c34_e_4 aq nq mq tq vq gq ao no mo to ss) (13))
 (test (c34_e_1 ao no to)
 (test (c34_e_6 ao no to k1 k2 k3 ss)
 (Kret (c34_e_5 aq nq tq vq gq de ao no to k1 k2 k3) (c34_e_4 aq nq mq tq vq gq ao no mo to ss) (15))
 (Kret (c34_e_7 aq nq tq vq gq de ao no to k1 k2 k3) (c34_e_4 aq nq mq tq vq gq ao no mo to ss) (15)))
 (False)))
 (test (lb)
 (Kret (c34_e_8 aq nq tq vq gq de ao no to k1 k2 k3) (c34_e_4 aq nq mq tq vq gq ao no mo to ss) (13))
 (test (c34_e_1 ao no to)
 (test (c34_e_6 ao no to k1 k2 k3 ss)
 (Kret (c34_e_8 aq nq tq vq gq de ao no to k1 k2 k3) (c34_e_4 aq nq mq tq vq gq ao no mo to ss) (15))
 (Kret (c34_e_12 aq nq tq vq gq de ao no to k1 k2 k3) (c34_e_4 aq nq mq tq vq gq ao no mo to ss) (15)))
 (False))))
 (False)))
 (False))
 (False))
 (test (decide ((0 : Int) ≤ ss ∧ ss < (↑(List.length (S.mkl no fun j => to (j + ao))) : Int)))
 (test (decide (Int.toNat ss < List.length (S.mkl no fun j => to (j + ao))))
 (test (la)
 (test (lb)
 (Kret (c34_e_5 aq nq tq vq gq de ao no to k1 k2 k3) (c34_e_3 aq nq mq tq vq gq ao no mo to ss) (11))
 (test (c34_e_1 ao no to)
 (test (c34_e_9 ao no to k1 k2 k3 ss)
 (Kret (c34_e_5 aq nq tq vq gq de ao no to k1 k2 k3) (c34_e_3 aq nq mq tq vq gq ao no mo to ss) (13))
 (Kret (c34_e_7 aq nq tq vq gq de ao no to k1 k2 k3) (c34_e_3 aq nq mq tq vq gq ao no mo to ss) (13)))
 (False)))
 (test (c34_e_1 ao no to)
 (test (S.opnB (1 : Int) (List.length (S.mkl no fun j => to (j + ao)))
 (fun j =>
 bif Nat.beq j (Int.toNat ss) then false else S.at' (S.mkl no fun j => to (j + ao)) j)
 (1) (fun j => S.lit [k1] (0 : Int) j) (fun j => S.lit [k2] (0 : Int) j)
 fun j => S.lit [k3] (0 : Int) j)
 (test (lb)
 (Kret (c34_e_5 aq nq tq vq gq de ao no to k1 k2 k3) (c34_e_3 aq nq mq tq vq gq ao no mo to ss) (13))
 (test (c34_e_1 ao no to)
 (test (c34_e_9 ao no to k1 k2 k3 ss)
 (Kret (c34_e_5 aq nq tq vq gq de ao no to k1 k2 k3) (c34_e_3 aq nq mq tq vq gq ao no mo to ss) (15))
 (Kret (c34_e_7 aq nq tq vq gq de ao no to k1 k2 k3) (c34_e_3 aq nq mq tq vq gq ao no mo to ss) (15)))
 (False)))
 (test (lb)
 (Kret (c34_e_8 aq nq tq vq gq de ao no to k1 k2 k3) (c34_e_3 aq nq mq tq vq gq ao no mo to ss) (13))
 (test (c34_e_1 ao no to)
 (test (c34_e_9 ao no to k1 k2 k3 ss)
 (Kret (c34_e_8 aq nq tq vq gq de ao no to k1 k2 k3) (c34_e_3 aq nq mq tq vq gq ao no mo to ss) (15))
 (Kret (c34_e_12 aq nq tq vq gq de ao no to k1 k2 k3) (c34_e_3 aq nq mq tq vq gq ao no mo to ss) (15)))
 (False))))
 (False)))
 (False))
 (False)))
 (Kret (PV.tup
 [PV.agg
 [PV.nils, PV.int IntKind.i64 (0 : Int), PV.nils, PV.int IntKind.i64 (0 : Int),
 PV.int IntKind.i64 (0 : Int), PV.int IntKind.i64 (0 : Int), PV.tf false,
 PV.tf false],
 PV.int IntKind.i64 (6 : Int)]) ([[(1, false, Blk.cols mo [Col.bool to]),
 (0, false,
 Blk.cols mq [Col.str tq, Col.int IntKind.i64 vq, Col.int IntKind.i64 gq])]]) (11)))
 (False))
 (test (ki == (3 : Int))
 (test (decide (nq ≤ 100000))
 (test (S.failE nq f1 f2 f3 != (0 : Int))
 (Kret (PV.tup
 [PV.agg
 [PV.nils, PV.int IntKind.i64 (0 : Int), PV.nils, PV.int IntKind.i64 (0 : Int),
 PV.int IntKind.i64 (0 : Int), PV.int IntKind.i64 (0 : Int), PV.tf false,
 PV.tf false],
 PV.int IntKind.i64 (S.failE nq f1 f2 f3)]) ([[(1, false, Blk.cols mo [Col.bool to]),
 (0, false,
 Blk.cols mq [Col.str tq, Col.int IntKind.i64 vq, Col.int IntKind.i64 gq])]]) (11))
 (test (la)
 (test (lb)
 (Kret (c34_e_15 aq nq tq vq gq de ao no to f1 f2 f3) (c34_e_2 aq nq mq tq vq gq ao no mo to) (11))
 (test (c34_e_1 ao no to)
 (test (c34_e_13 ao no to f1 f2 f3)
 (Kret (c34_e_15 aq nq tq vq gq de ao no to f1 f2 f3) (c34_e_2 aq nq mq tq vq gq ao no mo to) (13))
 (Kret (PV.tup
 [PV.agg
 [PV.own (7) (3)
 (List.length (S.mkl nq fun j => (tq (j + aq), vq (j + aq), gq (j + aq)))),
 PV.int IntKind.i64 de,
 PV.own (8) (1) (List.length (S.mkl no fun j => to (j + ao))),
 PV.int IntKind.i64 f1, PV.int IntKind.i64 f2, PV.int IntKind.i64 f3,
 PV.tf true, PV.tf false],
 PV.int IntKind.i64 (0 : Int)]) (c34_e_2 aq nq mq tq vq gq ao no mo to) (13)))
 (False)))
 (test (c34_e_1 ao no to)
 (test (S.opnB (1 : Int) (List.length (S.mkl no fun j => to (j + ao)))
 (fun j => S.at' (S.mkl no fun j => to (j + ao)) j) (1)
 (fun j => S.lit [f1] (0 : Int) j) (fun j => S.lit [f2] (0 : Int) j) fun j =>
 S.lit [f3] (0 : Int) j)
 (test (lb)
 (Kret (c34_e_15 aq nq tq vq gq de ao no to f1 f2 f3) (c34_e_2 aq nq mq tq vq gq ao no mo to) (13))
 (test (c34_e_1 ao no to)
 (test (c34_e_13 ao no to f1 f2 f3)
 (Kret (c34_e_15 aq nq tq vq gq de ao no to f1 f2 f3) (c34_e_2 aq nq mq tq vq gq ao no mo to) (15))
 (Kret (PV.tup
 [PV.agg
 [PV.own (7) (3)
 (List.length (S.mkl nq fun j => (tq (j + aq), vq (j + aq), gq (j + aq)))),
 PV.int IntKind.i64 de,
 PV.own (8) (1) (List.length (S.mkl no fun j => to (j + ao))),
 PV.int IntKind.i64 f1, PV.int IntKind.i64 f2, PV.int IntKind.i64 f3,
 PV.tf true, PV.tf false],
 PV.int IntKind.i64 (0 : Int)]) (c34_e_2 aq nq mq tq vq gq ao no mo to) (15)))
 (False)))
 (test (lb)
 (Kret (PV.tup
 [PV.agg
 [PV.own (7) (3)
 (List.length (S.mkl nq fun j => (tq (j + aq), vq (j + aq), gq (j + aq)))),
 PV.int IntKind.i64 de,
 PV.own (8) (1) (List.length (S.mkl no fun j => to (j + ao))),
 PV.int IntKind.i64 f1, PV.int IntKind.i64 f2, PV.int IntKind.i64 f3,
 PV.tf false, PV.tf true],
 PV.int IntKind.i64 (0 : Int)]) (c34_e_2 aq nq mq tq vq gq ao no mo to) (13))
 (test (c34_e_1 ao no to)
 (test (c34_e_13 ao no to f1 f2 f3)
 (Kret (PV.tup
 [PV.agg
 [PV.own (7) (3)
 (List.length (S.mkl nq fun j => (tq (j + aq), vq (j + aq), gq (j + aq)))),
 PV.int IntKind.i64 de,
 PV.own (8) (1) (List.length (S.mkl no fun j => to (j + ao))),
 PV.int IntKind.i64 f1, PV.int IntKind.i64 f2, PV.int IntKind.i64 f3,
 PV.tf false, PV.tf true],
 PV.int IntKind.i64 (0 : Int)]) (c34_e_2 aq nq mq tq vq gq ao no mo to) (15))
 (Kret (PV.tup
 [PV.agg
 [PV.own (7) (3)
 (List.length (S.mkl nq fun j => (tq (j + aq), vq (j + aq), gq (j + aq)))),
 PV.int IntKind.i64 de,
 PV.own (8) (1) (List.length (S.mkl no fun j => to (j + ao))),
 PV.int IntKind.i64 f1, PV.int IntKind.i64 f2, PV.int IntKind.i64 f3,
 PV.tf false, PV.tf false],
 PV.int IntKind.i64 (0 : Int)]) (c34_e_2 aq nq mq tq vq gq ao no mo to) (15)))
 (False))))
 (False))))
 (False))
 (test (ki == (4 : Int))
 (test (la)
 (test (lb)
 (Kret (c34_e_14 aq nq tq vq gq de ao no to) (c34_e_2 aq nq mq tq vq gq ao no mo to) (10))
 (test (c34_e_1 ao no to)
 (test (c34_e_11 ao no to)
 (Kret (c34_e_14 aq nq tq vq gq de ao no to) (c34_e_2 aq nq mq tq vq gq ao no mo to) (12))
 (Kret (PV.tup
 [PV.agg
 [PV.own (7) (3)
 (List.length (S.mkl nq fun j => (tq (j + aq), vq (j + aq), gq (j + aq)))),
 PV.int IntKind.i64 de,
 PV.own (8) (1) (List.length (S.mkl no fun j => to (j + ao))),
 PV.int IntKind.i64 (0 : Int), PV.int IntKind.i64 (0 : Int),
 PV.int IntKind.i64 (0 : Int), PV.tf true, PV.tf false],
 PV.int IntKind.i64 (0 : Int)]) (c34_e_2 aq nq mq tq vq gq ao no mo to) (12)))
 (False)))
 (test (c34_e_1 ao no to)
 (test (S.opnB (1 : Int) (List.length (S.mkl no fun j => to (j + ao)))
 (fun j => S.at' (S.mkl no fun j => to (j + ao)) j) (1)
 (fun j => S.lit [(0 : Int)] (0 : Int) j) (fun j => S.lit [(0 : Int)] (0 : Int) j)
 fun j => S.lit [(0 : Int)] (0 : Int) j)
 (test (lb)
 (Kret (c34_e_14 aq nq tq vq gq de ao no to) (c34_e_2 aq nq mq tq vq gq ao no mo to) (12))
 (test (c34_e_1 ao no to)
 (test (c34_e_11 ao no to)
 (Kret (c34_e_14 aq nq tq vq gq de ao no to) (c34_e_2 aq nq mq tq vq gq ao no mo to) (14))
 (Kret (PV.tup
 [PV.agg
 [PV.own (7) (3)
 (List.length (S.mkl nq fun j => (tq (j + aq), vq (j + aq), gq (j + aq)))),
 PV.int IntKind.i64 de,
 PV.own (8) (1) (List.length (S.mkl no fun j => to (j + ao))),
 PV.int IntKind.i64 (0 : Int), PV.int IntKind.i64 (0 : Int),
 PV.int IntKind.i64 (0 : Int), PV.tf true, PV.tf false],
 PV.int IntKind.i64 (0 : Int)]) (c34_e_2 aq nq mq tq vq gq ao no mo to) (14)))
 (False)))
 (test (lb)
 (Kret (PV.tup
 [PV.agg
 [PV.own (7) (3)
 (List.length (S.mkl nq fun j => (tq (j + aq), vq (j + aq), gq (j + aq)))),
 PV.int IntKind.i64 de,
 PV.own (8) (1) (List.length (S.mkl no fun j => to (j + ao))),
 PV.int IntKind.i64 (0 : Int), PV.int IntKind.i64 (0 : Int),
 PV.int IntKind.i64 (0 : Int), PV.tf false, PV.tf true],
 PV.int IntKind.i64 (0 : Int)]) (c34_e_2 aq nq mq tq vq gq ao no mo to) (12))
 (test (c34_e_1 ao no to)
 (test (c34_e_11 ao no to)
 (Kret (PV.tup
 [PV.agg
 [PV.own (7) (3)
 (List.length (S.mkl nq fun j => (tq (j + aq), vq (j + aq), gq (j + aq)))),
 PV.int IntKind.i64 de,
 PV.own (8) (1) (List.length (S.mkl no fun j => to (j + ao))),
 PV.int IntKind.i64 (0 : Int), PV.int IntKind.i64 (0 : Int),
 PV.int IntKind.i64 (0 : Int), PV.tf false, PV.tf true],
 PV.int IntKind.i64 (0 : Int)]) (c34_e_2 aq nq mq tq vq gq ao no mo to) (14))
 (Kret (PV.tup
 [PV.agg
 [PV.own (7) (3)
 (List.length (S.mkl nq fun j => (tq (j + aq), vq (j + aq), gq (j + aq)))),
 PV.int IntKind.i64 de,
 PV.own (8) (1) (List.length (S.mkl no fun j => to (j + ao))),
 PV.int IntKind.i64 (0 : Int), PV.int IntKind.i64 (0 : Int),
 PV.int IntKind.i64 (0 : Int), PV.tf false, PV.tf false],
 PV.int IntKind.i64 (0 : Int)]) (c34_e_2 aq nq mq tq vq gq ao no mo to) (14)))
 (False))))
 (False)))
 (test (ki == (5 : Int))
 (test (decide (ao + no ≤ mo ∧ no ≤ 1000000))
 (test (S.any (fun j => to (j + ao) == false) no)
 (Kret (PV.tup
 [PV.agg
 [PV.nils, PV.int IntKind.i64 (0 : Int), PV.nils, PV.int IntKind.i64 (0 : Int),
 PV.int IntKind.i64 (0 : Int), PV.int IntKind.i64 (0 : Int), PV.tf false,
 PV.tf false],
 PV.int IntKind.i64 (8 : Int)]) ([[(1, false, Blk.cols mo [Col.bool to]),
 (0, false,
 Blk.cols mq [Col.str tq, Col.int IntKind.i64 vq, Col.int IntKind.i64 gq])]]) (11))
 (test (decide (1 ≤ 1 ∧ 1 ≤ 1000000 ∧ ao + no ≤ mo ∧ no ≤ 1000000))
 (test (S.safB no (fun j => to (j + ao)) (1) (fun j => S.lit [k1] (0 : Int) j)
 (fun j => S.lit [k2] (0 : Int) j) fun j => S.lit [k3] (0 : Int) j)
 (Kret (PV.tup
 [PV.agg
 [PV.nils, PV.int IntKind.i64 (0 : Int), PV.nils, PV.int IntKind.i64 (0 : Int),
 PV.int IntKind.i64 (0 : Int), PV.int IntKind.i64 (0 : Int), PV.tf false,
 PV.tf false],
 PV.int IntKind.i64 (8 : Int)]) ([[(1, false, Blk.cols mo [Col.bool to]),
 (0, false,
 Blk.cols mq [Col.str tq, Col.int IntKind.i64 vq, Col.int IntKind.i64 gq])]]) (13))
 (test (c34_e_1 ao no to)
 (test (S.opnB (1 : Int) (List.length (S.mkl no fun j => to (j + ao)))
 (fun j => S.at' (S.mkl no fun j => to (j + ao)) j) (1)
 (fun j => S.lit [k1] (0 : Int) j) (fun j => S.lit [k2] (0 : Int) j) fun j =>
 S.lit [k3] (0 : Int) j)
 (test (c34_e_1 ao no to)
 (test (c34_e_20 ao no to k1 k2 k3)
 (Kret (c34_e_5 aq nq tq vq gq de ao no to k1 k2 k3) (c34_e_2 aq nq mq tq vq gq ao no mo to) (17))
 (Kret (c34_e_7 aq nq tq vq gq de ao no to k1 k2 k3) (c34_e_2 aq nq mq tq vq gq ao no mo to) (17)))
 (False))
 (test (c34_e_1 ao no to)
 (test (c34_e_20 ao no to k1 k2 k3)
 (Kret (c34_e_8 aq nq tq vq gq de ao no to k1 k2 k3) (c34_e_2 aq nq mq tq vq gq ao no mo to) (17))
 (Kret (c34_e_12 aq nq tq vq gq de ao no to k1 k2 k3) (c34_e_2 aq nq mq tq vq gq ao no mo to) (17)))
 (False)))
 (False)))
 (False)))
 (False))
 (Kret (PV.tup
 [PV.agg
 [PV.nils, PV.int IntKind.i64 (0 : Int), PV.nils, PV.int IntKind.i64 (0 : Int),
 PV.int IntKind.i64 (0 : Int), PV.int IntKind.i64 (0 : Int), PV.tf false,
 PV.tf false],
 PV.int IntKind.i64 (1 : Int)]) ([[(1, false, Blk.cols mo [Col.bool to]),
 (0, false,
 Blk.cols mq [Col.str tq, Col.int IntKind.i64 vq, Col.int IntKind.i64 gq])]]) (10)))))))
 (False)))
 (False)
theorem te34 (test : Bool → Prop → Prop → Prop) (Kst : KS) (Kret : KR) (aq nq mq : Nat) (tq : Nat → ByteArray) (vq gq : Nat → Int) (de : Int) (ao no mo : Nat) (to : Nat → Bool) (k1 k2 k3 : Int) (la lb : Bool) (ki ss f1 f2 f3 : Int) : run test Try.env true (xO test) true 400 ⟨34, [.cd (mkFn Try.f34).body], argT 0 [.agg [.loose ⟨0, 3, aq, 0⟩ nq, .int .i64 de, .loose ⟨1, 1, ao, 0⟩ no, .int .i64 k1, .int .i64 k2, .int .i64 k3, .bool la, .bool lb], .agg [.int .i64 ki, .int .i64 ss, .int .i64 f1, .int .i64 f2, .int .i64 f3]], [[], [(0, (false, .cols mq [.str tq, .int .i64 vq, .int .i64 gq])), (1, (false, .cols mo [.bool to]))]], 2⟩ (proj 2 [] Kst Kret) =
  Te34 test Kst Kret aq nq mq tq vq gq de ao no mo to k1 k2 k3 la lb ki ss f1 f2 f3 := by kernel_rfl
theorem be34 (aq nq mq : Nat) (tq : Nat → ByteArray) (vq gq : Nat → Int) (de : Int) (ao no mo : Nat) (to : Nat → Bool) (k1 k2 k3 : Int) (la lb : Bool) (ki ss f1 f2 f3 : Int) (Kst : KS) (Kret : KR) (x : St34 ⊕ Rt34) (hS : HS 2 400 ((I34 aq nq mq tq vq gq de ao no mo to k1 k2 k3 la lb ki ss f1 f2 f3)) Kst x) (hR : HR 2 400 ((V34 aq nq mq tq vq gq de ao no mo to k1 k2 k3 la lb ki ss f1 f2 f3)) (fun r => [newL (2 + 1) ((N34 aq nq mq tq vq gq de ao no mo to k1 k2 k3 la lb ki ss f1 f2 f3) r) ++ [(0, (false, .cols mq [.str tq, .int .i64 vq, .int .i64 gq])), (1, (false, .cols mo [.bool to]))]]) Kret x) (h : p34 aq nq mq tq vq gq de ao no mo to k1 k2 k3 la lb ki ss f1 f2 f3 = some x) : Te34 cond Kst Kret aq nq mq tq vq gq de ao no mo to k1 k2 k3 la lb ki ss f1 f2 f3 := by
  unfold Te34
  unfold p34 at h
  refine bif_split h
   (fun c0 h => bif_split h
   (fun c1 h => ?_)
   (fun c1 h => bif_split h
   (fun c2 h => bif_split h
   (fun c3 h => bif_split h
   (fun c4 h => bif_split h
   (fun c5 h => bif_split h
   (fun c6 h => bif_split h
   (fun c7 h => bif_split h
   (fun c8 h => bif_split h
   (fun c9 h => bif_split h
   (fun c10 h => ?_)
   (fun c10 h => bif_split h
   (fun c11 h => bif_split h
   (fun c12 h => ?_)
   (fun c12 h => ?_))
   (fun c11 h => ?_)))
   (fun c9 h => bif_split h
   (fun c10 h => bif_split h
   (fun c11 h => bif_split h
   (fun c12 h => ?_)
   (fun c12 h => cond_yes c10 (bif_split h
   (fun c13 h => ?_)
   (fun c13 h => ?_))))
   (fun c11 h => bif_split h
   (fun c12 h => ?_)
   (fun c12 h => cond_yes c10 (bif_split h
   (fun c13 h => ?_)
   (fun c13 h => ?_)))))
   (fun c10 h => ?_)))
   (fun c8 h => ?_))
   (fun c7 h => ?_))
   (fun c6 h => bif_split h
   (fun c7 h => bif_split h
   (fun c8 h => bif_split h
   (fun c9 h => bif_split h
   (fun c10 h => ?_)
   (fun c10 h => bif_split h
   (fun c11 h => bif_split h
   (fun c12 h => ?_)
   (fun c12 h => ?_))
   (fun c11 h => ?_)))
   (fun c9 h => bif_split h
   (fun c10 h => bif_split h
   (fun c11 h => bif_split h
   (fun c12 h => ?_)
   (fun c12 h => cond_yes c10 (bif_split h
   (fun c13 h => ?_)
   (fun c13 h => ?_))))
   (fun c11 h => bif_split h
   (fun c12 h => ?_)
   (fun c12 h => cond_yes c10 (bif_split h
   (fun c13 h => ?_)
   (fun c13 h => ?_)))))
   (fun c10 h => ?_)))
   (fun c8 h => ?_))
   (fun c7 h => ?_)))
   (fun c5 h => ?_))
   (fun c4 h => ?_))
   (fun c3 h => bif_split h
   (fun c4 h => bif_split h
   (fun c5 h => bif_split h
   (fun c6 h => cond_yes c4 (bif_split h
   (fun c7 h => bif_split h
   (fun c8 h => bif_split h
   (fun c9 h => bif_split h
   (fun c10 h => ?_)
   (fun c10 h => bif_split h
   (fun c11 h => bif_split h
   (fun c12 h => ?_)
   (fun c12 h => ?_))
   (fun c11 h => ?_)))
   (fun c9 h => bif_split h
   (fun c10 h => bif_split h
   (fun c11 h => bif_split h
   (fun c12 h => ?_)
   (fun c12 h => cond_yes c10 (bif_split h
   (fun c13 h => ?_)
   (fun c13 h => ?_))))
   (fun c11 h => bif_split h
   (fun c12 h => ?_)
   (fun c12 h => cond_yes c10 (bif_split h
   (fun c13 h => ?_)
   (fun c13 h => ?_)))))
   (fun c10 h => ?_)))
   (fun c8 h => ?_))
   (fun c7 h => ?_)))
   (fun c6 h => ?_))
   (fun c5 h => ?_))
   (fun c4 h => bif_split h
   (fun c5 h => bif_split h
   (fun c6 h => bif_split h
   (fun c7 h => ?_)
   (fun c7 h => bif_split h
   (fun c8 h => bif_split h
   (fun c9 h => ?_)
   (fun c9 h => bif_split h
   (fun c10 h => bif_split h
   (fun c11 h => ?_)
   (fun c11 h => ?_))
   (fun c10 h => ?_)))
   (fun c8 h => bif_split h
   (fun c9 h => bif_split h
   (fun c10 h => bif_split h
   (fun c11 h => ?_)
   (fun c11 h => cond_yes c9 (bif_split h
   (fun c12 h => ?_)
   (fun c12 h => ?_))))
   (fun c10 h => bif_split h
   (fun c11 h => ?_)
   (fun c11 h => cond_yes c9 (bif_split h
   (fun c12 h => ?_)
   (fun c12 h => ?_)))))
   (fun c9 h => ?_))))
   (fun c6 h => ?_))
   (fun c5 h => bif_split h
   (fun c6 h => bif_split h
   (fun c7 h => bif_split h
   (fun c8 h => ?_)
   (fun c8 h => bif_split h
   (fun c9 h => bif_split h
   (fun c10 h => ?_)
   (fun c10 h => ?_))
   (fun c9 h => ?_)))
   (fun c7 h => bif_split h
   (fun c8 h => bif_split h
   (fun c9 h => bif_split h
   (fun c10 h => ?_)
   (fun c10 h => cond_yes c8 (bif_split h
   (fun c11 h => ?_)
   (fun c11 h => ?_))))
   (fun c9 h => bif_split h
   (fun c10 h => ?_)
   (fun c10 h => cond_yes c8 (bif_split h
   (fun c11 h => ?_)
   (fun c11 h => ?_)))))
   (fun c8 h => ?_)))
   (fun c6 h => bif_split h
   (fun c7 h => bif_split h
   (fun c8 h => bif_split h
   (fun c9 h => ?_)
   (fun c9 h => bif_split h
   (fun c10 h => bif_split h
   (fun c11 h => ?_)
   (fun c11 h => bif_split h
   (fun c12 h => bif_split h
   (fun c13 h => cond_yes c12 (bif_split h
   (fun c14 h => ?_)
   (fun c14 h => ?_)))
   (fun c13 h => cond_yes c12 (bif_split h
   (fun c14 h => ?_)
   (fun c14 h => ?_))))
   (fun c12 h => ?_)))
   (fun c10 h => ?_)))
   (fun c8 h => ?_))
   (fun c7 h => ?_))))))
   (fun c2 h => ?_)))
   (fun c0 h => ?_)
  all_goals first
    | exact ret_at hR _ h (fun n => bif Nat.beq n 3 then 7 else bif Nat.beq n 4 then 8 else n) rfl rfl rfl (rn_tup ⟨(rn_agg ⟨(rn_own (use_own rfl) rfl rfl), (rn_int rfl), (rn_own (use_own rfl) rfl mkl_len), (rn_int rfl), (rn_int rfl), (rn_int rfl), (rn_bool_tf rfl), (rn_bool_tf rfl), trivial⟩), (rn_int rfl), trivial⟩) rfl (entl_new (use_own rfl) rfl (Nat.le_of_eq rfl) (rcs_str (fun _ _ => rfl) (rcs_int (fun _ _ => rfl) (rcs_int (fun _ _ => rfl) rcs_nil))) (entl_new (use_own rfl) rfl (Nat.le_of_eq mkl_len) (rcs_bool (fun _ hj => col_mkl (fun (t : Bool) => t) hj) rcs_nil) (entl_bor (use_lo rfl) rfl rfl (entl_bor (use_lo rfl) rfl rfl entl_nil))))
    | exact no_some h
    | exact ret_at hR _ h (fun n => bif Nat.beq n 3 then 7 else bif Nat.beq n 4 then 8 else n) rfl rfl rfl (rn_tup ⟨(rn_agg ⟨(rn_own (use_own rfl) rfl rfl), (rn_int rfl), (rn_own (use_own rfl) rfl rfl), (rn_int rfl), (rn_int rfl), (rn_int rfl), (rn_bool_tf rfl), (rn_bool_tf rfl), trivial⟩), (rn_int rfl), trivial⟩) rfl (entl_new (use_own rfl) rfl (Nat.le_of_eq rfl) (rcs_str (fun _ _ => rfl) (rcs_int (fun _ _ => rfl) (rcs_int (fun _ _ => rfl) rcs_nil))) (entl_new (use_own rfl) rfl (Nat.le_of_eq rfl) (rcs_bool (fun _ _ => rfl) rcs_nil) (entl_bor (use_lo rfl) rfl rfl (entl_bor (use_lo rfl) rfl rfl entl_nil))))
    | exact ret_at hR _ h (fun n => bif Nat.beq n 3 then 399 else bif Nat.beq n 4 then 398 else n) rfl rfl rfl (rn_tup ⟨(rn_agg ⟨(rn_own_nils rfl), (rn_int rfl), (rn_own_nils rfl), (rn_int rfl), (rn_int rfl), (rn_int rfl), (rn_bool_tf rfl), (rn_bool_tf rfl), trivial⟩), (rn_int rfl), trivial⟩) rfl (entl_fresh (use_own rfl) (fresh_ok rfl) (entl_fresh (use_own rfl) (fresh_ok rfl) (entl_bor (use_lo rfl) rfl rfl (entl_bor (use_lo rfl) rfl rfl entl_nil))))
theorem a34 (aq nq mq : Nat) (tq : Nat → ByteArray) (vq gq : Nat → Int) (de : Int) (ao no mo : Nat) (to : Nat → Bool) (k1 k2 k3 : Int) (la lb : Bool) (ki ss f1 f2 f3 : Int) {r : Rt34} (h : Goes ((q34 aq nq mq tq vq gq de ao no mo to k1 k2 k3 la lb ki ss f1 f2 f3)) ((p34 aq nq mq tq vq gq de ao no mo to k1 k2 k3 la lb ki ss f1 f2 f3)) r) : CallR Try.prog 34 [.agg [.loose ⟨0, 3, aq, 0⟩ nq, .int .i64 de, .loose ⟨1, 1, ao, 0⟩ no, .int .i64 k1, .int .i64 k2, .int .i64 k3, .bool la, .bool lb], .agg [.int .i64 ki, .int .i64 ss, .int .i64 f1, .int .i64 f2, .int .i64 f3]] [[(0, (false, .cols mq [.str tq, .int .i64 vq, .int .i64 gq])), (1, (false, .cols mo [.bool to]))]] 2 ((V34 aq nq mq tq vq gq de ao no mo to k1 k2 k3 la lb ki ss f1 f2 f3) r) ((fun r => [newL (2 + 1) ((N34 aq nq mq tq vq gq de ao no mo to k1 k2 k3 la lb ki ss f1 f2 f3) r) ++ [(0, (false, .cols mq [.str tq, .int .i64 vq, .int .i64 gq])), (1, (false, .cols mo [.bool to]))]]) r) 400 ∧ ∃ F, Try.prog.funcs[34]? = some F ∧ F.body.isSome = true ∧ (F.name == "runtime.NumGoroutine") = false := by
  refine dec_calls (f := 34) (lo := 2) (hi := 400) (H := [[(0, (false, .cols mq [.str tq, .int .i64 vq, .int .i64 gq])), (1, (false, .cols mo [.bool to]))]]) (args := [.agg [.loose ⟨0, 3, aq, 0⟩ nq, .int .i64 de, .loose ⟨1, 1, ao, 0⟩ no, .int .i64 k1, .int .i64 k2, .int .i64 k3, .bool la, .bool lb], .agg [.int .i64 ki, .int .i64 ss, .int .i64 f1, .int .i64 f2, .int .i64 f3]]) Try.envOk Try.mixed xO_ok ((I34 aq nq mq tq vq gq de ao no mo to k1 k2 k3 la lb ki ss f1 f2 f3)) ((V34 aq nq mq tq vq gq de ao no mo to k1 k2 k3 la lb ki ss f1 f2 f3)) (fun r => [newL (2 + 1) ((N34 aq nq mq tq vq gq de ao no mo to k1 k2 k3 la lb ki ss f1 f2 f3) r) ++ [(0, (false, .cols mq [.str tq, .int .i64 vq, .int .i64 gq])), (1, (false, .cols mo [.bool to]))]]) (fn := mkFn Try.f34) (ts := []) (n := 400) rfl (by decide) (by simp) (names_of rfl) ?_ ?_ ?_ h
  · intro s; exact s.elim
  · intro Kst Kret x hS hR h
    exact Holds.eq (te34 cond Kst Kret aq nq mq tq vq gq de ao no mo to k1 k2 k3 la lb ki ss f1 f2 f3) (be34 aq nq mq tq vq gq de ao no mo to k1 k2 k3 la lb ki ss f1 f2 f3 Kst Kret x hS hR h)
  · intro Kst Kret x hS hR s h; exact s.elim
noncomputable def k34  : Con := ⟨34, [.agg [.list [.str, .int .i64, .int .i64], .plain (.int .i64), .list [.bool], .plain (.int .i64), .plain (.int .i64), .plain (.int .i64), .plain (.bool), .plain (.bool)], .agg [.plain (.int .i64), .plain (.int .i64), .plain (.int .i64), .plain (.int .i64), .plain (.int .i64)]], fun (x : ((Nat × Nat × Nat × (Nat → ByteArray) × (Nat → Int) × (Nat → Int) × Unit) × Int × (Nat × Nat × Nat × (Nat → Bool) × Unit) × Int × Int × Int × Bool × Bool × Unit) × (Int × Int × Int × Int × Int × Unit) × Unit) => (fun (aq nq mq : Nat) (tq : Nat → ByteArray) (vq : Nat → Int) (gq : Nat → Int) (de : Int) (ao no mo : Nat) (to : Nat → Bool) (k1 : Int) (k2 : Int) (k3 : Int) (la : Bool) (lb : Bool) (ki : Int) (ss : Int) (f1 : Int) (f2 : Int) (f3 : Int) => decide (aq + nq ≤ mq ∧ nq ≤ 1000000 ∧ ao + no ≤ mo ∧ no ≤ 1000000)) x.1.1.1 x.1.1.2.1 x.1.1.2.2.1 x.1.1.2.2.2.1 x.1.1.2.2.2.2.1 x.1.1.2.2.2.2.2.1 x.1.2.1 x.1.2.2.1.1 x.1.2.2.1.2.1 x.1.2.2.1.2.2.1 x.1.2.2.1.2.2.2.1 x.1.2.2.2.1 x.1.2.2.2.2.1 x.1.2.2.2.2.2.1 x.1.2.2.2.2.2.2.1 x.1.2.2.2.2.2.2.2.1 x.2.1.1 x.2.1.2.1 x.2.1.2.2.1 x.2.1.2.2.2.1 x.2.1.2.2.2.2.1, fun (x : ((Nat × Nat × Nat × (Nat → ByteArray) × (Nat → Int) × (Nat → Int) × Unit) × Int × (Nat × Nat × Nat × (Nat → Bool) × Unit) × Int × Int × Int × Bool × Bool × Unit) × (Int × Int × Int × Int × Int × Unit) × Unit) => (fun (aq nq mq : Nat) (tq : Nat → ByteArray) (vq : Nat → Int) (gq : Nat → Int) (de : Int) (ao no mo : Nat) (to : Nat → Bool) (k1 : Int) (k2 : Int) (k3 : Int) (la : Bool) (lb : Bool) (ki : Int) (ss : Int) (f1 : Int) (f2 : Int) (f3 : Int) => (V34 aq nq mq tq vq gq de ao no mo to k1 k2 k3 la lb ki ss f1 f2 f3) (S.doS nq (S.stE nq no (S.netE nq (fun j => tq (j + aq)) (fun j => vq (j + aq)) (fun j => gq (j + aq)) de) (fun j => to (j + ao)) k1 k2 k3 la lb) de (S.mkl nq fun j => (tq (j + aq), vq (j + aq), gq (j + aq))) (fun j => to (j + ao)) k1 k2 k3 la lb ki ss f1 f2 f3)) x.1.1.1 x.1.1.2.1 x.1.1.2.2.1 x.1.1.2.2.2.1 x.1.1.2.2.2.2.1 x.1.1.2.2.2.2.2.1 x.1.2.1 x.1.2.2.1.1 x.1.2.2.1.2.1 x.1.2.2.1.2.2.1 x.1.2.2.1.2.2.2.1 x.1.2.2.2.1 x.1.2.2.2.2.1 x.1.2.2.2.2.2.1 x.1.2.2.2.2.2.2.1 x.1.2.2.2.2.2.2.2.1 x.2.1.1 x.2.1.2.1 x.2.1.2.2.1 x.2.1.2.2.2.1 x.2.1.2.2.2.2.1, fun (x : ((Nat × Nat × Nat × (Nat → ByteArray) × (Nat → Int) × (Nat → Int) × Unit) × Int × (Nat × Nat × Nat × (Nat → Bool) × Unit) × Int × Int × Int × Bool × Bool × Unit) × (Int × Int × Int × Int × Int × Unit) × Unit) => (fun (aq nq mq : Nat) (tq : Nat → ByteArray) (vq : Nat → Int) (gq : Nat → Int) (de : Int) (ao no mo : Nat) (to : Nat → Bool) (k1 : Int) (k2 : Int) (k3 : Int) (la : Bool) (lb : Bool) (ki : Int) (ss : Int) (f1 : Int) (f2 : Int) (f3 : Int) => (N34 aq nq mq tq vq gq de ao no mo to k1 k2 k3 la lb ki ss f1 f2 f3) (S.doS nq (S.stE nq no (S.netE nq (fun j => tq (j + aq)) (fun j => vq (j + aq)) (fun j => gq (j + aq)) de) (fun j => to (j + ao)) k1 k2 k3 la lb) de (S.mkl nq fun j => (tq (j + aq), vq (j + aq), gq (j + aq))) (fun j => to (j + ao)) k1 k2 k3 la lb ki ss f1 f2 f3)) x.1.1.1 x.1.1.2.1 x.1.1.2.2.1 x.1.1.2.2.2.1 x.1.1.2.2.2.2.1 x.1.1.2.2.2.2.2.1 x.1.2.1 x.1.2.2.1.1 x.1.2.2.1.2.1 x.1.2.2.1.2.2.1 x.1.2.2.1.2.2.2.1 x.1.2.2.2.1 x.1.2.2.2.2.1 x.1.2.2.2.2.2.1 x.1.2.2.2.2.2.2.1 x.1.2.2.2.2.2.2.2.1 x.2.1.1 x.2.1.2.1 x.2.1.2.2.1 x.2.1.2.2.2.1 x.2.1.2.2.2.2.1, fun _ _ => .dead⟩
theorem s34 (aq nq mq : Nat) (tq : Nat → ByteArray) (vq gq : Nat → Int) (de : Int) (ao no mo : Nat) (to : Nat → Bool) (k1 k2 k3 : Int) (la lb : Bool) (ki ss f1 f2 f3 : Int) (hp : aq + nq ≤ mq ∧ nq ≤ 1000000 ∧ ao + no ≤ mo ∧ no ≤ 1000000) : Goes ((q34 aq nq mq tq vq gq de ao no mo to k1 k2 k3 la lb ki ss f1 f2 f3)) ((p34 aq nq mq tq vq gq de ao no mo to k1 k2 k3 la lb ki ss f1 f2 f3)) (S.doS nq (S.stE nq no (S.netE nq (fun j => tq (j + aq)) (fun j => vq (j + aq)) (fun j => gq (j + aq)) de) (fun j => to (j + ao)) k1 k2 k3 la lb) de (S.mkl nq fun j => (tq (j + aq), vq (j + aq), gq (j + aq))) (fun j => to (j + ao)) k1 k2 k3 la lb ki ss f1 f2 f3) := by
  obtain ⟨hp1, hp2, hp3, hp4⟩ := hp
  by_cases he : (S.stE nq no (S.netE nq (fun j => tq (j + aq)) (fun j => vq (j + aq)) (fun j => gq (j + aq)) de) (fun j => to (j + ao)) k1 k2 k3 la lb) = 0
  · obtain ⟨e1, e2, e3, e4, e5⟩ := ste_ok he
    obtain ⟨v1, v2, v3⟩ := net_ok e1
    subst e2
    have hu : ∀ v, (S.mkl no fun j => bif Nat.beq j ss.toNat then v else S.at' (S.mkl no fun j => to (j + ao)) j) = S.updB no (fun j => to (j + ao)) ss.toNat v := fun v => mkl_congr fun j hj => by rw [at_mkl hj]
    have ho : ∀ lp v, S.op1 lp no (fun j => bif Nat.beq j ss.toNat then v else S.at' (S.mkl no fun j => to (j + ao)) j) k1 k2 k3 = S.op1 lp no (fun j => S.at' (S.updB no (fun j => to (j + ao)) ss.toNat v) j) k1 k2 k3 := fun lp v => by
      rw [← hu]; exact op1_mkl.symm
    have ha : S.any (fun j => to (j + ao) == false) no = S.any (fun j => !(fun j => to (j + ao)) j) no := any_congr fun j hj => by
      show (to (j + ao) == false) = !to (j + ao)
      cases to (j + ao) <;> rfl
    have hs : S.safB no (fun j => to (j + ao)) 1 (fun j => S.lit [k1] 0 j) (fun j => S.lit [k2] 0 j) (fun j => S.lit [k3] 0 j) = (S.op1 1 no (fun j => to (j + ao)) k1 k2 k3 || S.op1 2 no (fun j => to (j + ao)) k1 k2 k3) := by unfold S.safB; rw [op1_eq, op1_eq]
    have hk1 : (1 : Nat) ≤ 1000000 := by decide
    unfold S.doS S.doRes
    rw [if_pos he]
    simp only [op1_mkl]
    unfold p34
    simp only [c34_e_0, c34_e_1, c34_e_2, c34_e_3, c34_e_4, c34_e_5, c34_e_6, c34_e_7, c34_e_8, c34_e_9, c34_e_10, c34_e_11, c34_e_12, c34_e_13, c34_e_14, c34_e_15, c34_e_16, c34_e_17, c34_e_18, c34_e_19, c34_e_20, he, mkl_len, op1_eq, op1_mkl, hu, ho, ha, hs, Nat.zero_add, Nat.le_refl, hk1, hp1, hp2, hp3, hp4, and_self, and_true, true_and, decide_true, cond_true]
    by_cases c1 : ki = 1
    · subst c1
      rw [if_pos (.inl rfl), decide_eq_false (show ¬ (1 : Int) = 2 by decide)]
      generalize S.op1 1 no (fun j => S.at' (S.updB no (fun j => to (j + ao)) ss.toNat false) j) k1 k2 k3 = B1
      generalize S.op1 2 no (fun j => S.at' (S.updB no (fun j => to (j + ao)) ss.toNat false) j) k1 k2 k3 = B2
      by_cases hs2 : 0 ≤ ss ∧ ss < (no : Int)
      · rw [if_pos hs2]
        simp only [(show ((1 : Int) == 1) = true from rfl), (show ((1 : Int) == 2) = false from rfl), cond_true, cond_false]
        cases la <;> cases lb <;> cases B1 <;> cases B2
        all_goals
         show Goes _ _ _
         repeat' first
          | with_reducible refine goes_if (fun h => ?_) (fun h => ?_) <;> (try simp only [SH] at h)
          | exact goes_none.mpr (by omega)
          | fail
         all_goals first | (exfalso; omega) | exact goes_inr.mpr rfl | (exfalso; simp_all; done)
      · rw [if_neg hs2]
        simp only [(show ((1 : Int) == 1) = true from rfl), (show ((1 : Int) == 2) = false from rfl), cond_true, cond_false]
        cases la
        all_goals
         show Goes _ _ _
         repeat' first
          | with_reducible refine goes_if (fun h => ?_) (fun h => ?_) <;> (try simp only [SH] at h)
          | exact goes_none.mpr (by omega)
          | fail
         all_goals first | (exfalso; omega) | exact goes_inr.mpr rfl | (exfalso; simp_all; done)
    · by_cases c2 : ki = 2
      · subst c2
        rw [if_pos (.inr rfl), decide_eq_true (show (2 : Int) = 2 from rfl)]
        generalize S.op1 1 no (fun j => S.at' (S.updB no (fun j => to (j + ao)) ss.toNat true) j) k1 k2 k3 = A1
        generalize S.op1 2 no (fun j => S.at' (S.updB no (fun j => to (j + ao)) ss.toNat true) j) k1 k2 k3 = A2
        by_cases hs2 : 0 ≤ ss ∧ ss < (no : Int)
        · rw [if_pos hs2]
          simp only [(show ((2 : Int) == 1) = false from rfl), (show ((2 : Int) == 2) = true from rfl), cond_true, cond_false]
          cases la <;> cases lb <;> cases A1 <;> cases A2
          all_goals
           show Goes _ _ _
           repeat' first
            | with_reducible refine goes_if (fun h => ?_) (fun h => ?_) <;> (try simp only [SH] at h)
            | exact goes_none.mpr (by omega)
            | fail
           all_goals first | (exfalso; omega) | exact goes_inr.mpr rfl | (exfalso; simp_all; done)
        · rw [if_neg hs2]
          simp only [(show ((2 : Int) == 1) = false from rfl), (show ((2 : Int) == 2) = true from rfl), cond_true, cond_false]
          cases la
          all_goals
           show Goes _ _ _
           repeat' first
            | with_reducible refine goes_if (fun h => ?_) (fun h => ?_) <;> (try simp only [SH] at h)
            | exact goes_none.mpr (by omega)
            | fail
           all_goals first | (exfalso; omega) | exact goes_inr.mpr rfl | (exfalso; simp_all; done)
      · rw [if_neg (show ¬ (ki = 1 ∨ ki = 2) by omega)]
        by_cases c3 : ki = 3
        · subst c3
          rw [if_pos rfl]
          by_cases hf : S.failE no f1 f2 f3 = 0
          · rw [if_pos hf]
            simp only [(show ((3 : Int) == 1) = false from rfl), (show ((3 : Int) == 2) = false from rfl), (show ((3 : Int) == 3) = true from rfl), cond_true, cond_false, hf]
            generalize S.op1 1 no (fun j => to (j + ao)) f1 f2 f3 = C1
            generalize S.op1 2 no (fun j => to (j + ao)) f1 f2 f3 = C2
            cases la <;> cases lb <;> cases C1 <;> cases C2
            all_goals
             show Goes _ _ _
             repeat' first
              | with_reducible refine goes_if (fun h => ?_) (fun h => ?_) <;> (try simp only [SH] at h)
              | exact goes_none.mpr (by omega)
              | fail
             all_goals first | (exfalso; omega) | exact goes_inr.mpr rfl | (exfalso; simp_all; done)
          · rw [if_neg hf]
            generalize S.failE no f1 f2 f3 = fe at *
            simp only [(show ((3 : Int) == 1) = false from rfl), (show ((3 : Int) == 2) = false from rfl), (show ((3 : Int) == 3) = true from rfl), cond_true, cond_false]
            cases la
            all_goals
             show Goes _ _ _
             repeat' first
              | with_reducible refine goes_if (fun h => ?_) (fun h => ?_) <;> (try simp only [SH] at h)
              | exact goes_none.mpr (by omega)
              | fail
             all_goals first | (exfalso; omega) | exact goes_inr.mpr rfl | (exfalso; simp_all; done)
        · rw [if_neg c3]
          by_cases c4 : ki = 4
          · subst c4
            rw [if_pos rfl]
            simp only [(show ((4 : Int) == 1) = false from rfl), (show ((4 : Int) == 2) = false from rfl), (show ((4 : Int) == 3) = false from rfl), (show ((4 : Int) == 4) = true from rfl), cond_true, cond_false]
            generalize S.op1 1 no (fun j => to (j + ao)) 0 0 0 = C1
            generalize S.op1 2 no (fun j => to (j + ao)) 0 0 0 = C2
            cases la <;> cases lb <;> cases C1 <;> cases C2
            all_goals
             show Goes _ _ _
             repeat' first
              | with_reducible refine goes_if (fun h => ?_) (fun h => ?_) <;> (try simp only [SH] at h)
              | exact goes_none.mpr (by omega)
              | fail
             all_goals first | (exfalso; omega) | exact goes_inr.mpr rfl | (exfalso; simp_all; done)
          · rw [if_neg c4]
            by_cases c5 : ki = 5
            · subst c5
              rw [if_pos rfl]
              generalize S.any (fun j => !to (j + ao)) no = Z at *
              generalize S.op1 1 no (fun j => to (j + ao)) k1 k2 k3 = C1 at *
              generalize S.op1 2 no (fun j => to (j + ao)) k1 k2 k3 = C2 at *
              clear hu ho ha hs
              simp only [(show ((5 : Int) == 1) = false from rfl), (show ((5 : Int) == 2) = false from rfl), (show ((5 : Int) == 3) = false from rfl), (show ((5 : Int) == 4) = false from rfl), (show ((5 : Int) == 5) = true from rfl), cond_true, cond_false]
              cases Z <;> cases C1 <;> cases C2
              all_goals
               show Goes _ _ _
               repeat' first
                | with_reducible refine goes_if (fun h => ?_) (fun h => ?_) <;> (try simp only [SH] at h)
                | exact goes_none.mpr (by omega)
                | fail
               all_goals first | (exfalso; omega) | exact goes_inr.mpr rfl | (exfalso; simp_all; done)
            · rw [if_neg c5]
              simp only [(show (ki == 1) = false from beq_eq_false_iff_ne.mpr c1), (show (ki == 2) = false from beq_eq_false_iff_ne.mpr c2), (show (ki == 3) = false from beq_eq_false_iff_ne.mpr c3), (show (ki == 4) = false from beq_eq_false_iff_ne.mpr c4), (show (ki == 5) = false from beq_eq_false_iff_ne.mpr c5), cond_false]
              show Goes _ _ _
              repeat' first
                | with_reducible refine goes_if (fun h => ?_) (fun h => ?_) <;> (try simp only [SH] at h)
                | exact goes_none.mpr (by omega)
                | fail
              all_goals first | (exfalso; omega) | exact goes_inr.mpr rfl | (exfalso; simp_all; done)
  · unfold S.doS
    rw [if_neg he]
    unfold p34
    simp only [c34_e_0, c34_e_1, c34_e_2, c34_e_3, c34_e_4, c34_e_5, c34_e_6, c34_e_7, c34_e_8, c34_e_9, c34_e_10, c34_e_11, c34_e_12, c34_e_13, c34_e_14, c34_e_15, c34_e_16, c34_e_17, c34_e_18, c34_e_19, c34_e_20]
    generalize (S.stE nq no (S.netE nq (fun j => tq (j + aq)) (fun j => vq (j + aq)) (fun j => gq (j + aq)) de) (fun j => to (j + ao)) k1 k2 k3 la lb) = e at *
    show Goes _ _ _
    repeat' first
      | with_reducible refine goes_if (fun h => ?_) (fun h => ?_) <;> (try simp only [SH] at h)
      | exact goes_none.mpr (by omega)
      | fail
    all_goals first | (exfalso; omega) | exact goes_inr.mpr rfl | (exfalso; simp_all; done)
theorem k34_ok  : k34.ok Try.prog := by
  intro x hx
  obtain ⟨⟨⟨aq, nq, mq, tq, vq, gq, _⟩, de, ⟨ao, no, mo, to, _⟩, k1, k2, k3, la, lb, _⟩, ⟨ki, ss, f1, f2, f3, _⟩, _⟩ := x
  obtain ⟨h1, h2⟩ := a34 aq nq mq tq vq gq de ao no mo to k1 k2 k3 la lb ki ss f1 f2 f3 (s34 aq nq mq tq vq gq de ao no mo to k1 k2 k3 la lb ki ss f1 f2 f3 (of_dec hx rfl))
  exact ⟨⟨400, (by decide : 2 + 1 + 2 ≤ 400), h1⟩, h2⟩
namespace S
def rdS (a n : Nat) (D : D9) : Nat × Nat × Int × Int × Int × Int × Bool × Bool × Int × List Bool :=
  (bif D.2.2.2.2.2.2.1 == 0 then a else 0, bif D.2.2.2.2.2.2.1 == 0 then n else 0, D.1, D.2.1, D.2.2.1, D.2.2.2.1, D.2.2.2.2.1, D.2.2.2.2.2.1, D.2.2.2.2.2.2.1, D.2.2.2.2.2.2.2.2)
end S
theorem loo_ok  {n : Nat} {o : Nat → Bool} {k l p : Int} (h : S.failE n k l p = 0) : S.looS n n 0 o k l p = (!S.op1 1 n o k l p, !S.op1 2 n o k l p, 0) := by
  unfold S.looS
  rw [if_pos rfl, if_pos rfl, if_pos h]
noncomputable abbrev c35_0_0 (aq nq : Nat) (tq : Nat → ByteArray) (vq gq : Nat → Int) (de k1 k2 k3 : Int) (x3 : List Bool) :=
 S.looS nq (List.length x3)
 (S.netE nq (fun j => tq (j + aq)) (fun j => vq (j + aq)) (fun j => gq (j + aq)) de)
 (fun j => S.at' x3 j) k1 k2 k3
noncomputable abbrev c35_e_0 (mq : Nat) (tq : Nat → ByteArray) (vq gq : Nat → Int) (ao no mo : Nat) (to : Nat → Bool) :=
 ([[(1, false, Blk.cols mo [Col.bool to]),
 (0, false,
 Blk.cols mq [Col.str tq, Col.int IntKind.i64 vq, Col.int IntKind.i64 gq]),
 (7, true, Blk.cols (0 + no) [Col.bool fun j => to (j + ao)])]])
noncomputable abbrev c35_e_1 (aq nq : Nat) (de : Int) (no : Nat) (k1 k2 k3 : Int) :=
 (PV.tup
 [PV.agg
 [PV.loose (PA.mk (0) (3) aq (0)) nq, PV.int IntKind.i64 de,
 PV.own (7) (1) (0 + no), PV.int IntKind.i64 k1,
 PV.int IntKind.i64 k2, PV.int IntKind.i64 k3, PV.tf true, PV.tf true],
 PV.int IntKind.i64 (0 : Int)])
noncomputable abbrev c35_e_2 (mq : Nat) (tq : Nat → ByteArray) (vq gq : Nat → Int) (ao no mo : Nat) (to : Nat → Bool) (ss : Int) :=
 ([[(1, false, Blk.cols mo [Col.bool to]),
 (0, false,
 Blk.cols mq [Col.str tq, Col.int IntKind.i64 vq, Col.int IntKind.i64 gq]),
 (7, true,
 Blk.cols (0 + no)
 [Col.bool fun j => bif Nat.beq j (Int.toNat ss) then false else to (j + ao)])]])
noncomputable abbrev c35_e_3 (mq : Nat) (tq : Nat → ByteArray) (vq gq : Nat → Int) (ao no mo : Nat) (to : Nat → Bool) (ss : Int) :=
 ([[(1, false, Blk.cols mo [Col.bool to]),
 (0, false,
 Blk.cols mq [Col.str tq, Col.int IntKind.i64 vq, Col.int IntKind.i64 gq]),
 (7, true,
 Blk.cols (0 + no)
 [Col.bool fun j => bif Nat.beq j (Int.toNat ss) then true else to (j + ao)])]])
noncomputable abbrev c35_e_4 (aq nq : Nat) (tq : Nat → ByteArray) (vq gq : Nat → Int) (de : Int) :=
 S.netE nq (fun j => tq (j + aq)) (fun j => vq (j + aq)) (fun j => gq (j + aq)) de
noncomputable abbrev c35_e_5 (aq nq : Nat) (de : Int) (no : Nat) :=
 (PV.tup
 [PV.agg
 [PV.loose (PA.mk (0) (3) aq (0)) nq, PV.int IntKind.i64 de,
 PV.own (7) (1) (0 + no), PV.int IntKind.i64 (0 : Int),
 PV.int IntKind.i64 (0 : Int), PV.int IntKind.i64 (0 : Int), PV.tf true,
 PV.tf true],
 PV.int IntKind.i64 (0 : Int)])
noncomputable abbrev c35_e_6 (aq nq : Nat) (de : Int) (no : Nat) (k1 k2 k3 : Int) :=
 (PV.tup
 [PV.agg
 [PV.loose (PA.mk (0) (3) aq (0)) nq, PV.int IntKind.i64 de,
 PV.own (7) (1) (0 + no), PV.int IntKind.i64 k1,
 PV.int IntKind.i64 k2, PV.int IntKind.i64 k3, PV.tf true, PV.tf false],
 PV.int IntKind.i64 (0 : Int)])
noncomputable abbrev c35_e_7 (aq nq : Nat) (de : Int) (no : Nat) (k1 k2 k3 : Int) :=
 (PV.tup
 [PV.agg
 [PV.loose (PA.mk (0) (3) aq (0)) nq, PV.int IntKind.i64 de,
 PV.own (7) (1) (0 + no), PV.int IntKind.i64 k1,
 PV.int IntKind.i64 k2, PV.int IntKind.i64 k3, PV.tf false, PV.tf true],
 PV.int IntKind.i64 (0 : Int)])
noncomputable abbrev c35_e_8 (aq nq : Nat) (de : Int) (no : Nat) (f1 f2 f3 : Int) :=
 (PV.tup
 [PV.agg
 [PV.loose (PA.mk (0) (3) aq (0)) nq, PV.int IntKind.i64 de,
 PV.own (7) (1) (0 + no), PV.int IntKind.i64 f1,
 PV.int IntKind.i64 f2, PV.int IntKind.i64 f3, PV.tf true, PV.tf true],
 PV.int IntKind.i64 (0 : Int)])
noncomputable abbrev c35_e_9 (aq nq : Nat) (de : Int) (ao no : Nat) (to : Nat → Bool) (k1 k2 k3 ss : Int) :=
 (aq, nq, de, k1, k2, k3, true, true, (0 : Int), S.mkl (0 + no) fun j => bif Nat.beq j (Int.toNat ss) then false else to (j + ao))
noncomputable abbrev c35_e_10 (aq nq : Nat) (de : Int) (ao no : Nat) (to : Nat → Bool) (k1 k2 k3 ss : Int) :=
 (aq, nq, de, k1, k2, k3, true, true, (0 : Int), S.mkl (0 + no) fun j => bif Nat.beq j (Int.toNat ss) then true else to (j + ao))
noncomputable abbrev c35_e_11 (aq nq : Nat) (de : Int) (ao no : Nat) (to : Nat → Bool) :=
 (aq, nq, de, (0 : Int), (0 : Int), (0 : Int), true, true, (0 : Int), S.mkl (0 + no) fun j => to (j + ao))
noncomputable abbrev c35_e_12 (aq nq : Nat) (de : Int) (no : Nat) :=
 (PV.tup
 [PV.agg
 [PV.loose (PA.mk (0) (3) aq (0)) nq, PV.int IntKind.i64 de,
 PV.own (7) (1) (0 + no), PV.int IntKind.i64 (0 : Int),
 PV.int IntKind.i64 (0 : Int), PV.int IntKind.i64 (0 : Int), PV.tf true,
 PV.tf false],
 PV.int IntKind.i64 (0 : Int)])
noncomputable abbrev c35_e_13 (aq nq : Nat) (de : Int) (no : Nat) :=
 (PV.tup
 [PV.agg
 [PV.loose (PA.mk (0) (3) aq (0)) nq, PV.int IntKind.i64 de,
 PV.own (7) (1) (0 + no), PV.int IntKind.i64 (0 : Int),
 PV.int IntKind.i64 (0 : Int), PV.int IntKind.i64 (0 : Int), PV.tf false,
 PV.tf true],
 PV.int IntKind.i64 (0 : Int)])
noncomputable abbrev c35_e_14 (aq nq : Nat) (tq : Nat → ByteArray) (vq gq : Nat → Int) (de : Int) (ao no : Nat) (to : Nat → Bool) (k1 k2 k3 ss : Int) :=
 S.looS nq (0 + no)
 (c35_e_4 aq nq tq vq gq de)
 (fun j => bif Nat.beq j (Int.toNat ss) then false else to (j + ao)) k1 k2 k3
noncomputable abbrev c35_e_15 (aq nq : Nat) (tq : Nat → ByteArray) (vq gq : Nat → Int) (de : Int) (ao no : Nat) (to : Nat → Bool) (k1 k2 k3 ss : Int) :=
 S.looS nq (0 + no)
 (c35_e_4 aq nq tq vq gq de)
 (fun j => bif Nat.beq j (Int.toNat ss) then true else to (j + ao)) k1 k2 k3
noncomputable abbrev c35_e_16 (aq nq : Nat) (de : Int) (no : Nat) (k1 k2 k3 : Int) :=
 (PV.tup
 [PV.agg
 [PV.loose (PA.mk (0) (3) aq (0)) nq, PV.int IntKind.i64 de,
 PV.own (7) (1) (0 + no), PV.int IntKind.i64 k1,
 PV.int IntKind.i64 k2, PV.int IntKind.i64 k3, PV.tf false, PV.tf false],
 PV.int IntKind.i64 (0 : Int)])
noncomputable abbrev c35_e_17 (aq nq : Nat) (de : Int) (no : Nat) (f1 f2 f3 : Int) :=
 (PV.tup
 [PV.agg
 [PV.loose (PA.mk (0) (3) aq (0)) nq, PV.int IntKind.i64 de,
 PV.own (7) (1) (0 + no), PV.int IntKind.i64 f1,
 PV.int IntKind.i64 f2, PV.int IntKind.i64 f3, PV.tf true, PV.tf false],
 PV.int IntKind.i64 (0 : Int)])
noncomputable abbrev c35_e_18 (aq nq : Nat) (de : Int) (no : Nat) (f1 f2 f3 : Int) :=
 (PV.tup
 [PV.agg
 [PV.loose (PA.mk (0) (3) aq (0)) nq, PV.int IntKind.i64 de,
 PV.own (7) (1) (0 + no), PV.int IntKind.i64 f1,
 PV.int IntKind.i64 f2, PV.int IntKind.i64 f3, PV.tf false, PV.tf true],
 PV.int IntKind.i64 (0 : Int)])
noncomputable abbrev c35_e_19 (aq nq mq : Nat) (tq : Nat → ByteArray) (vq gq : Nat → Int) (de : Int) (ao no mo : Nat) (to : Nat → Bool) (k1 k2 k3 : Int) (la lb : Bool) :=
 ([[(1, false, Blk.cols mo [Col.bool to]),
 (0, false,
 Blk.cols mq [Col.str tq, Col.int IntKind.i64 vq, Col.int IntKind.i64 gq]),
 (4, true,
 Blk.cells
 [PV.nils, PV.int IntKind.i64 (0 : Int), PV.nils, PV.int IntKind.i64 (0 : Int),
 PV.int IntKind.i64 (0 : Int), PV.int IntKind.i64 (0 : Int), PV.tf false,
 PV.tf false]),
 (2, true,
 Blk.cells
 [PV.loose (PA.mk (0) (3) aq (0)) nq, PV.int IntKind.i64 de,
 PV.own (7) (1) (0 + no), PV.int IntKind.i64 k1,
 PV.int IntKind.i64 k2, PV.int IntKind.i64 k3, PV.bool la, PV.bool lb]),
 (7, true, Blk.cols (0 + no) [Col.bool fun j => to (j + ao)])]])
noncomputable abbrev c35_e_20 (aq nq : Nat) (de : Int) (ao no : Nat) (to : Nat → Bool) (f1 f2 f3 : Int) :=
 (aq, nq, de, f1, f2, f3, true, true, (0 : Int), S.mkl (0 + no) fun j => to (j + ao))
noncomputable abbrev c35_e_21 (aq nq : Nat) (tq : Nat → ByteArray) (vq gq : Nat → Int) (de : Int) (ao no : Nat) (to : Nat → Bool) :=
 S.looS nq (0 + no)
 (c35_e_4 aq nq tq vq gq de)
 (fun j => to (j + ao)) (0 : Int) (0 : Int) (0 : Int)
noncomputable abbrev c35_e_22 (aq nq : Nat) (tq : Nat → ByteArray) (vq gq : Nat → Int) (de : Int) (ao no : Nat) (to : Nat → Bool) (f1 f2 f3 : Int) :=
 S.looS nq (0 + no)
 (c35_e_4 aq nq tq vq gq de)
 (fun j => to (j + ao)) f1 f2 f3
noncomputable abbrev c35_e_23 (aq nq : Nat) (de : Int) (ao no : Nat) (to : Nat → Bool) (k1 k2 k3 ss : Int) :=
 (aq, nq, de, k1, k2, k3, true, false, (0 : Int), S.mkl (0 + no) fun j => bif Nat.beq j (Int.toNat ss) then false else to (j + ao))
noncomputable abbrev c35_e_24 (aq nq : Nat) (de : Int) (ao no : Nat) (to : Nat → Bool) (k1 k2 k3 ss : Int) :=
 (aq, nq, de, k1, k2, k3, false, true, (0 : Int), S.mkl (0 + no) fun j => bif Nat.beq j (Int.toNat ss) then false else to (j + ao))
noncomputable abbrev c35_e_25 (aq nq : Nat) (de : Int) (ao no : Nat) (to : Nat → Bool) (k1 k2 k3 ss : Int) :=
 (aq, nq, de, k1, k2, k3, true, false, (0 : Int), S.mkl (0 + no) fun j => bif Nat.beq j (Int.toNat ss) then true else to (j + ao))
noncomputable abbrev c35_e_26 (aq nq : Nat) (de : Int) (ao no : Nat) (to : Nat → Bool) (k1 k2 k3 ss : Int) :=
 (aq, nq, de, k1, k2, k3, false, true, (0 : Int), S.mkl (0 + no) fun j => bif Nat.beq j (Int.toNat ss) then true else to (j + ao))
noncomputable abbrev c35_e_27 (aq nq : Nat) (tq : Nat → ByteArray) (vq gq : Nat → Int) (de : Int) (ao no : Nat) (to : Nat → Bool) (k1 k2 k3 : Int) :=
 S.looS nq (0 + no)
 (c35_e_4 aq nq tq vq gq de)
 (fun j => to (j + ao)) k1 k2 k3
noncomputable abbrev c35_e_28 (aq nq : Nat) (de : Int) (ao no : Nat) (to : Nat → Bool) :=
 (aq, nq, de, (0 : Int), (0 : Int), (0 : Int), true, false, (0 : Int), S.mkl (0 + no) fun j => to (j + ao))
noncomputable abbrev c35_e_29 (aq nq : Nat) (de : Int) (ao no : Nat) (to : Nat → Bool) :=
 (aq, nq, de, (0 : Int), (0 : Int), (0 : Int), false, true, (0 : Int), S.mkl (0 + no) fun j => to (j + ao))
noncomputable abbrev c35_e_30 (aq nq : Nat) (de : Int) (no : Nat) :=
 (PV.tup
 [PV.agg
 [PV.loose (PA.mk (0) (3) aq (0)) nq, PV.int IntKind.i64 de,
 PV.own (7) (1) (0 + no), PV.int IntKind.i64 (0 : Int),
 PV.int IntKind.i64 (0 : Int), PV.int IntKind.i64 (0 : Int), PV.tf false,
 PV.tf false],
 PV.int IntKind.i64 (0 : Int)])
noncomputable abbrev c35_e_31 (aq nq : Nat) (de : Int) (no : Nat) (f1 f2 f3 : Int) :=
 (PV.tup
 [PV.agg
 [PV.loose (PA.mk (0) (3) aq (0)) nq, PV.int IntKind.i64 de,
 PV.own (7) (1) (0 + no), PV.int IntKind.i64 f1,
 PV.int IntKind.i64 f2, PV.int IntKind.i64 f3, PV.tf false, PV.tf false],
 PV.int IntKind.i64 (0 : Int)])
noncomputable abbrev c35_e_32 (nq : Nat) (f1 f2 f3 : Int) :=
 (PV.tup
 [PV.agg
 [PV.nils, PV.int IntKind.i64 (0 : Int), PV.nils, PV.int IntKind.i64 (0 : Int),
 PV.int IntKind.i64 (0 : Int), PV.int IntKind.i64 (0 : Int), PV.tf false,
 PV.tf false],
 PV.int IntKind.i64 (S.failE nq f1 f2 f3)])
noncomputable abbrev c35_e_33 (aq nq : Nat) (de : Int) (ao no : Nat) (to : Nat → Bool) (f1 f2 f3 : Int) :=
 (aq, nq, de, f1, f2, f3, true, false, (0 : Int), S.mkl (0 + no) fun j => to (j + ao))
noncomputable abbrev c35_e_34 (aq nq : Nat) (de : Int) (ao no : Nat) (to : Nat → Bool) (f1 f2 f3 : Int) :=
 (aq, nq, de, f1, f2, f3, false, true, (0 : Int), S.mkl (0 + no) fun j => to (j + ao))
noncomputable abbrev c35_e_35 (mq : Nat) (tq : Nat → ByteArray) (vq gq : Nat → Int) (mo : Nat) (to : Nat → Bool) :=
 ([[(1, false, Blk.cols mo [Col.bool to]),
 (0, false,
 Blk.cols mq [Col.str tq, Col.int IntKind.i64 vq, Col.int IntKind.i64 gq])]])
noncomputable abbrev c35_e_36 (aq nq : Nat) (de : Int) (ao no : Nat) (to : Nat → Bool) (k1 k2 k3 : Int) :=
 (aq, nq, de, k1, k2, k3, true, true, (0 : Int), S.mkl (0 + no) fun j => to (j + ao))
noncomputable abbrev c35_e_37 (aq nq : Nat) (de : Int) (ao no : Nat) (to : Nat → Bool) (k1 k2 k3 ss : Int) :=
 (aq, nq, de, k1, k2, k3, false, false, (0 : Int), S.mkl (0 + no) fun j => bif Nat.beq j (Int.toNat ss) then false else to (j + ao))
noncomputable abbrev c35_e_38 (aq nq : Nat) (de : Int) (ao no : Nat) (to : Nat → Bool) (k1 k2 k3 ss : Int) :=
 (aq, nq, de, k1, k2, k3, false, false, (0 : Int), S.mkl (0 + no) fun j => bif Nat.beq j (Int.toNat ss) then true else to (j + ao))
inductive St35 where
  | h0 (x0 : Bool) (x1 : Bool) (x2 : Int) (x3 : List Bool)
abbrev Rt35  := Nat × Nat × Int × Int × Int × Int × Bool × Bool × Int × List Bool
noncomputable def V35 (aq nq mq : Nat) (tq : Nat → ByteArray) (vq gq : Nat → Int) (de : Int) (ao no mo : Nat) (to : Nat → Bool) (k1 k2 k3 : Int) (la lb : Bool) (ki ss f1 f2 f3 : Int) (r : Rt35) : PV := PV.tup
 [PV.agg
 [PV.loose (PA.mk (0) (3) r.1 (0)) r.2.1, PV.int IntKind.i64 r.2.2.1,
 PV.own (3) (1) (List.length r.2.2.2.2.2.2.2.2.2), PV.int IntKind.i64 r.2.2.2.1,
 PV.int IntKind.i64 r.2.2.2.2.1, PV.int IntKind.i64 r.2.2.2.2.2.1, PV.bool r.2.2.2.2.2.2.1, PV.bool r.2.2.2.2.2.2.2.1],
 PV.int IntKind.i64 r.2.2.2.2.2.2.2.2.1]
noncomputable def N35 (aq nq mq : Nat) (tq : Nat → ByteArray) (vq gq : Nat → Int) (de : Int) (ao no mo : Nat) (to : Nat → Bool) (k1 k2 k3 : Int) (la lb : Bool) (ki ss f1 f2 f3 : Int) (r : Rt35) : List Blk := [Blk.cols (List.length r.2.2.2.2.2.2.2.2.2) [Col.bool fun j => S.at' r.2.2.2.2.2.2.2.2.2 j]]
noncomputable def I35 (aq nq mq : Nat) (tq : Nat → ByteArray) (vq gq : Nat → Int) (de : Int) (ao no mo : Nat) (to : Nat → Bool) (k1 k2 k3 : Int) (la lb : Bool) (ki ss f1 f2 f3 : Int) : St35 → Hd
  | .h0 x0 x1 x2 x3 => ⟨hd Try.f35 0, [PV.ptr (PA.mk (2) (0) (0) (0)),
 PV.ptr (PA.mk (4) (0) (0) (0)), PV.bool x0, PV.bool x1,
 PV.int IntKind.i64 x2], [[(2, (true, Blk.cells
 [PV.loose (PA.mk (0) (3) aq (0)) nq, PV.int IntKind.i64 de,
 PV.own (3) (1) (List.length x3), PV.int IntKind.i64 k1,
 PV.int IntKind.i64 k2, PV.int IntKind.i64 k3, PV.bool la, PV.bool lb])), (3, (true, Blk.cols (List.length x3) [Col.bool fun j => S.at' x3 j])), (4, (true, Blk.cells
 [PV.nils, PV.int IntKind.i64 (0 : Int), PV.nils, PV.int IntKind.i64 (0 : Int),
 PV.int IntKind.i64 (0 : Int), PV.int IntKind.i64 (0 : Int), PV.tf false,
 PV.tf false]))], [(0, (false, .cols mq [.str tq, .int .i64 vq, .int .i64 gq])), (1, (false, .cols mo [.bool to]))]], 5⟩
noncomputable def q35 (aq nq mq : Nat) (tq : Nat → ByteArray) (vq gq : Nat → Int) (de : Int) (ao no mo : Nat) (to : Nat → Bool) (k1 k2 k3 : Int) (la lb : Bool) (ki ss f1 f2 f3 : Int) : St35 → Option (St35 ⊕ Rt35)
  | .h0 x0 x1 x2 x3 => bif (decide (x2 < (↑(List.length x3) : Int)))
 then (bif (decide ((0 : Int) ≤ x2 ∧ x2 < (↑(List.length x3) : Int)))
 then (bif (decide (Int.toNat x2 < List.length x3))
 then (bif (S.at' x3 (Int.toNat x2))
 then (bif (lim IntKind.i64 (x2 + (1 : Int)))
 then (some (.inl (.h0 (x0) (x1) (x2 + (1 : Int)) (x3))))
 else (none))
 else (some (.inr (0, 0, (0 : Int), (0 : Int), (0 : Int), (0 : Int), false, false, (8 : Int), []))))
 else (none))
 else (none))
 else (bif (x0)
 then (bif (x1)
 then (bif (decide (aq + nq ≤ mq ∧ nq ≤ 1000000 ∧ 0 + List.length x3 ≤ List.length x3))
 then (bif (Prod.fst
 (c35_0_0 aq nq tq vq gq de k1 k2 k3 x3))
 then (bif (Prod.fst
 (Prod.snd
 (c35_0_0 aq nq tq vq gq de k1 k2 k3 x3)))
 then (some (.inr (aq, nq, de, k1, k2, k3, false, false, (0 : Int), x3)))
 else (some (.inr (aq, nq, de, k1, k2, k3, false, true, (0 : Int), x3))))
 else (bif (Prod.fst
 (Prod.snd
 (c35_0_0 aq nq tq vq gq de k1 k2 k3 x3)))
 then (some (.inr (aq, nq, de, k1, k2, k3, true, false, (0 : Int), x3)))
 else (some (.inr (aq, nq, de, k1, k2, k3, true, true, (0 : Int), x3)))))
 else (none))
 else (some (.inr (0, 0, (0 : Int), (0 : Int), (0 : Int), (0 : Int), false, false, (8 : Int), []))))
 else (some (.inr (0, 0, (0 : Int), (0 : Int), (0 : Int), (0 : Int), false, false, (8 : Int), []))))
noncomputable abbrev d35_3 (aq nq mq : Nat) (tq : Nat → ByteArray) (vq gq : Nat → Int) (de : Int) (ao no mo : Nat) (to : Nat → Bool) (k1 k2 k3 : Int) (la lb : Bool) (ki ss f1 f2 f3 : Int) : Option (St35 ⊕ Rt35) := (bif (decide ((0 : Int) ≤ ss ∧ ss < (↑(0 + no) : Int)))
 then (bif (decide (Int.toNat ss < 0 + no))
 then (bif (Prod.fst
 (c35_e_14 aq nq tq vq gq de ao no to k1 k2 k3 ss))
 then (bif (Prod.fst
 (Prod.snd
 (c35_e_14 aq nq tq vq gq de ao no to k1 k2 k3 ss)))
 then (bif (la)
 then (bif (lb)
 then (some (.inr (c35_e_9 aq nq de ao no to k1 k2 k3 ss)))
 else (some (.inr (c35_e_23 aq nq de ao no to k1 k2 k3 ss))))
 else (bif (lb)
 then (some (.inr (c35_e_24 aq nq de ao no to k1 k2 k3 ss)))
 else (some (.inr (c35_e_37 aq nq de ao no to k1 k2 k3 ss)))))
 else (bif (la)
 then (bif (lb)
 then (some (.inr (c35_e_9 aq nq de ao no to k1 k2 k3 ss)))
 else (some (.inr (c35_e_9 aq nq de ao no to k1 k2 k3 ss))))
 else (bif (lb)
 then (some (.inr (c35_e_24 aq nq de ao no to k1 k2 k3 ss)))
 else (some (.inr (c35_e_24 aq nq de ao no to k1 k2 k3 ss))))))
 else (bif (Prod.fst
 (Prod.snd
 (c35_e_14 aq nq tq vq gq de ao no to k1 k2 k3 ss)))
 then (bif (la)
 then (bif (lb)
 then (some (.inr (c35_e_9 aq nq de ao no to k1 k2 k3 ss)))
 else (some (.inr (c35_e_23 aq nq de ao no to k1 k2 k3 ss))))
 else (bif (lb)
 then (some (.inr (c35_e_9 aq nq de ao no to k1 k2 k3 ss)))
 else (some (.inr (c35_e_23 aq nq de ao no to k1 k2 k3 ss)))))
 else (bif (la)
 then (bif (lb)
 then (some (.inr (c35_e_9 aq nq de ao no to k1 k2 k3 ss)))
 else (some (.inr (c35_e_9 aq nq de ao no to k1 k2 k3 ss))))
 else (bif (lb)
 then (some (.inr (c35_e_9 aq nq de ao no to k1 k2 k3 ss)))
 else (some (.inr (c35_e_9 aq nq de ao no to k1 k2 k3 ss)))))))
 else (none))
 else (none))
noncomputable abbrev d35_2 (aq nq mq : Nat) (tq : Nat → ByteArray) (vq gq : Nat → Int) (de : Int) (ao no mo : Nat) (to : Nat → Bool) (k1 k2 k3 : Int) (la lb : Bool) (ki ss f1 f2 f3 : Int) : Option (St35 ⊕ Rt35) := (bif (decide ((0 : Int) ≤ ss ∧ ss < (↑(0 + no) : Int)))
 then (bif (decide (Int.toNat ss < 0 + no))
 then (bif (Prod.fst
 (c35_e_15 aq nq tq vq gq de ao no to k1 k2 k3 ss))
 then (bif (Prod.fst
 (Prod.snd
 (c35_e_15 aq nq tq vq gq de ao no to k1 k2 k3 ss)))
 then (bif (la)
 then (bif (lb)
 then (some (.inr (c35_e_10 aq nq de ao no to k1 k2 k3 ss)))
 else (some (.inr (c35_e_25 aq nq de ao no to k1 k2 k3 ss))))
 else (bif (lb)
 then (some (.inr (c35_e_26 aq nq de ao no to k1 k2 k3 ss)))
 else (some (.inr (c35_e_38 aq nq de ao no to k1 k2 k3 ss)))))
 else (bif (la)
 then (bif (lb)
 then (some (.inr (c35_e_10 aq nq de ao no to k1 k2 k3 ss)))
 else (some (.inr (c35_e_10 aq nq de ao no to k1 k2 k3 ss))))
 else (bif (lb)
 then (some (.inr (c35_e_26 aq nq de ao no to k1 k2 k3 ss)))
 else (some (.inr (c35_e_26 aq nq de ao no to k1 k2 k3 ss))))))
 else (bif (Prod.fst
 (Prod.snd
 (c35_e_15 aq nq tq vq gq de ao no to k1 k2 k3 ss)))
 then (bif (la)
 then (bif (lb)
 then (some (.inr (c35_e_10 aq nq de ao no to k1 k2 k3 ss)))
 else (some (.inr (c35_e_25 aq nq de ao no to k1 k2 k3 ss))))
 else (bif (lb)
 then (some (.inr (c35_e_10 aq nq de ao no to k1 k2 k3 ss)))
 else (some (.inr (c35_e_25 aq nq de ao no to k1 k2 k3 ss)))))
 else (bif (la)
 then (bif (lb)
 then (some (.inr (c35_e_10 aq nq de ao no to k1 k2 k3 ss)))
 else (some (.inr (c35_e_10 aq nq de ao no to k1 k2 k3 ss))))
 else (bif (lb)
 then (some (.inr (c35_e_10 aq nq de ao no to k1 k2 k3 ss)))
 else (some (.inr (c35_e_10 aq nq de ao no to k1 k2 k3 ss)))))))
 else (none))
 else (none))
end Go.Ev
