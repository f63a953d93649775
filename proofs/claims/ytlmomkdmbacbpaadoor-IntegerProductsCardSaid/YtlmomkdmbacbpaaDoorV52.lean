/-
  The parts that the statement needs, 2 of 2.
-/
import Derived.Test.YtlmomkdmbacbpaaDoorV51
namespace Go.Ev
open Go.Proofs
set_option linter.unusedVariables false
set_option linter.unusedSimpArgs false
set_option maxRecDepth 100000
noncomputable def Te16 (test : Bool → Prop → Prop → Prop) (Kst : KS) (Kret : KR) (n1 : Bool) (ap np mp : Nat) (tp : Nat → Int) : Prop :=
  test (n1)
 (test (decide (ap + np ≤ mp ∧ np ≤ 1000000))
 (Kret (PV.agg [PV.tf true, PV.own (4) (1) np]) ([[(0, false, Blk.cols mp [Col.int IntKind.i64 tp]),
 (4, true, Blk.cols np [Col.int IntKind.i64 fun j => tp (j + ap)])]]) (5))
 (False))
 (test (decide (ap + np ≤ mp ∧ np ≤ 1000000))
 (Kret (PV.agg [PV.tf false, PV.own (4) (1) np]) ([[(0, false, Blk.cols mp [Col.int IntKind.i64 tp]),
 (4, true, Blk.cols np [Col.int IntKind.i64 fun j => tp (j + ap)])]]) (5))
 (False))
theorem te16 (test : Bool → Prop → Prop → Prop) (Kst : KS) (Kret : KR) (n1 : Bool) (ap np mp : Nat) (tp : Nat → Int) : run test Tryd.env true (xE2 test) true 400 ⟨16, [.cd (mkFn Tryd.f16).body], argT 0 [.agg [.bool n1, .loose ⟨0, 1, ap, 0⟩ np]], [[], [(0, (false, .cols mp [.int .i64 tp]))]], 1⟩ (proj 1 [] Kst Kret) =
  Te16 test Kst Kret n1 ap np mp tp := by kernel_rfl
attribute [local irreducible] Int.subNatNat in
theorem be16 (n1 : Bool) (ap np mp : Nat) (tp : Nat → Int) (Kst : KS) (Kret : KR) (x : St16 ⊕ Rt16) (hS : HS 1 400 ((I16 n1 ap np mp tp)) Kst x) (hR : HR 1 400 ((V16 n1 ap np mp tp)) (fun r => [newL (1 + 1) ((N16 n1 ap np mp tp) r) ++ [(0, (false, .cols mp [.int .i64 tp]))]]) Kret x) (h : p16 n1 ap np mp tp = some x) : Te16 cond Kst Kret n1 ap np mp tp := by
  unfold Te16
  unfold p16 at h
  refine bif_split h
   (fun c0 h => bif_split h
   (fun c1 h => ?_)
   (fun c1 h => ?_))
   (fun c0 h => bif_split h
   (fun c1 h => ?_)
   (fun c1 h => ?_))
  all_goals first
    | exact ret_at hR _ h (fun n => bif Nat.beq n 2 then 4 else n) rfl rfl rfl (rn_agg ⟨(rn_bool_tf rfl), (rn_own (use_own rfl) rfl mkl_len), trivial⟩) rfl (entl_new (use_own rfl) rfl (Nat.le_of_eq mkl_len) (rcs_int (fun _ hj => col_mkl (fun (t : Int) => t) hj) rcs_nil) (entl_bor (use_lo rfl) rfl rfl entl_nil))
    | exact no_some h
theorem a16 (n1 : Bool) (ap np mp : Nat) (tp : Nat → Int) {r : Rt16} (h : Goes ((q16 n1 ap np mp tp)) ((p16 n1 ap np mp tp)) r) : CallR Tryd.prog 16 [.agg [.bool n1, .loose ⟨0, 1, ap, 0⟩ np]] [[(0, (false, .cols mp [.int .i64 tp]))]] 1 ((V16 n1 ap np mp tp) r) ((fun r => [newL (1 + 1) ((N16 n1 ap np mp tp) r) ++ [(0, (false, .cols mp [.int .i64 tp]))]]) r) 400 ∧ ∃ F, Tryd.prog.funcs[16]? = some F ∧ F.body.isSome = true ∧ (F.name == "runtime.NumGoroutine") = false := by
  refine dec_calls (f := 16) (lo := 1) (hi := 400) (H := [[(0, (false, .cols mp [.int .i64 tp]))]]) (args := [.agg [.bool n1, .loose ⟨0, 1, ap, 0⟩ np]]) Tryd.envOk Tryd.mixed xE2_ok ((I16 n1 ap np mp tp)) ((V16 n1 ap np mp tp)) (fun r => [newL (1 + 1) ((N16 n1 ap np mp tp) r) ++ [(0, (false, .cols mp [.int .i64 tp]))]]) (fn := mkFn Tryd.f16) (ts := []) (n := 400) rfl (by decide) (by simp) (names_of rfl) ?_ ?_ ?_ h
  · intro s; exact s.elim
  · intro Kst Kret x hS hR h
    exact Holds.eq (te16 cond Kst Kret n1 ap np mp tp) (be16 n1 ap np mp tp Kst Kret x hS hR h)
  · intro Kst Kret x hS hR s h; exact s.elim
noncomputable def k16  : Con := ⟨16, [.agg [.plain (.bool), .list [.int .i64]]], fun (x : (Bool × (Nat × Nat × Nat × (Nat → Int) × Unit) × Unit) × Unit) => (fun (n1 : Bool) (ap np mp : Nat) (tp : Nat → Int) => decide (ap + np ≤ mp ∧ np ≤ 1000000)) x.1.1 x.1.2.1.1 x.1.2.1.2.1 x.1.2.1.2.2.1 x.1.2.1.2.2.2.1, fun (x : (Bool × (Nat × Nat × Nat × (Nat → Int) × Unit) × Unit) × Unit) => (fun (n1 : Bool) (ap np mp : Nat) (tp : Nat → Int) => (V16 n1 ap np mp tp) (n1, S.mkl np (fun j => tp (j + ap)))) x.1.1 x.1.2.1.1 x.1.2.1.2.1 x.1.2.1.2.2.1 x.1.2.1.2.2.2.1, fun (x : (Bool × (Nat × Nat × Nat × (Nat → Int) × Unit) × Unit) × Unit) => (fun (n1 : Bool) (ap np mp : Nat) (tp : Nat → Int) => (N16 n1 ap np mp tp) (n1, S.mkl np (fun j => tp (j + ap)))) x.1.1 x.1.2.1.1 x.1.2.1.2.1 x.1.2.1.2.2.1 x.1.2.1.2.2.2.1, fun _ _ => .dead⟩
theorem s16 (n1 : Bool) (ap np mp : Nat) (tp : Nat → Int) (hp : ap + np ≤ mp ∧ np ≤ 1000000) : Goes ((q16 n1 ap np mp tp)) ((p16 n1 ap np mp tp)) ((n1, S.mkl np (fun j => tp (j + ap)))) := by
  unfold p16
  have h2 : 0 + np ≤ np ∧ np ≤ 1000000 := ⟨by omega, hp.2⟩
  cases n1 <;>
    repeat' first
      | with_reducible exact goes_inr.mpr rfl
      | (refine goes_ok ?_ ?_; focus (first | with_reducible exact beq_self_eq_true _ | (simp only [Bool.and_eq_true, decide_eq_true_eq, and_self, eq_self]; done) | with_reducible exact decide_eq_true trivial | with_reducible exact decide_eq_true rfl | (simp only [eq_self, decide_true, Bool.and_self, Bool.and_true, Bool.true_and]; done) | (apply decide_eq_true; omega) | (rw [lim64]; apply decide_eq_true; omega) | (apply decide_eq_true; simp only [mkl_len, mkl_zero, List.length_nil, true_and, and_true, and_self, Nat.zero_add, Nat.add_zero, Nat.le_refl]; done) | (apply decide_eq_true; simp only [mkl_len, mkl_zero, List.length_nil, true_and, and_true, and_self, Nat.zero_add, Nat.add_zero, Nat.le_refl]; omega) | decide))
      | (refine goes_no ?_ ?_; focus (first | with_reducible exact bne_self_eq_false _ | (apply decide_eq_false; omega) | decide))
theorem k16_ok  : k16.ok Tryd.prog := by
  intro x hx
  obtain ⟨⟨n1, ⟨ap, np, mp, tp, _⟩, _⟩, _⟩ := x
  obtain ⟨h1, h2⟩ := a16 n1 ap np mp tp (s16 n1 ap np mp tp (of_dec hx rfl))
  exact ⟨⟨400, (by decide : 1 + 1 + 1 ≤ 400), h1⟩, h2⟩
noncomputable def k12  : Con := ⟨12, [], fun _ => true, fun _ => .bool true, fun _ => [], fun _ _ => .dead⟩
theorem te12 (Kst : KS) (Kret : KR) : run cond Tryd.env true noX false 4000 ⟨12, [.cd (mkFn Tryd.f12).body], [], [[], []], 0⟩ (proj 0 [] Kst Kret) = Kret (.tf true) [[]] 483 := by kernel_rfl
theorem k12_ok  : k12.ok Tryd.prog := awake_ok (fn := mkFn Tryd.f12) (hi := 484) (n := 4000) Tryd.envOk Tryd.mixed noX_ok rfl (by decide) (by decide : Nat.ble 483 484 = true) te12
theorem valF_zero  : ∀ {k i : Nat}, S.valF (fun _ => 0) i k = 0
  | 0, _ => rfl
  | k + 1, i => by simp only [S.valF]; rw [valF_zero]; rfl
theorem upd_dig  {R : List Int} {n p : Nat} {v : Int} (hR : R.length = n) (hd : ∀ j, j < n → 0 ≤ S.at' R j ∧ S.at' R j < 1000000) (hv : 0 ≤ v ∧ v < 1000000) : ∀ j, j < n → 0 ≤ S.at' (S.mkl n fun j => bif Nat.beq j p then v else S.at' R j) j ∧ S.at' (S.mkl n fun j => bif Nat.beq j p then v else S.at' R j) j < 1000000 := fun j hj => by
  rw [at_mkl hj]
  by_cases h : j = p
  · subst h; rw [Nat.beq_refl, cond_true]; exact hv
  · rw [nbeq_no h, cond_false]; exact hd j hj
theorem upd_at  {R : List Int} {n p j : Nat} {v : Int} (hj : j < n) : S.at' (S.mkl n fun j => bif Nat.beq j p then v else S.at' R j) j = if j = p then v else S.at' R j := by
  rw [at_mkl hj]
  by_cases h : j = p
  · subst h; rw [Nat.beq_refl, cond_true, if_pos rfl]
  · rw [nbeq_no h, cond_false, if_neg h]
theorem md_sum  {x : Int} (h : 0 ≤ x ∧ x < 1000000000000) : 0 ≤ Int.tmod x 1000000 ∧ Int.tmod x 1000000 < 1000000 ∧ 0 ≤ Int.tdiv x 1000000 ∧ Int.tdiv x 1000000 < 1000000 ∧ x = Int.tmod x 1000000 + 1000000 * Int.tdiv x 1000000 := by
  rw [tmB h.1, tdB h.1]
  omega
theorem mul_dig  {x y : Int} (hx : 0 ≤ x ∧ x < 1000000) (hy : 0 ≤ y ∧ y < 1000000) : 0 ≤ x * y ∧ x * y ≤ 999998000001 := by
  refine ⟨Int.mul_nonneg hx.1 hy.1, ?_⟩
  have h1 : x * y ≤ 999999 * y := Int.mul_le_mul_of_nonneg_right (by omega) hy.1
  omega
inductive St52 where
  | h0 (x0 : Int) (x1 : List Int)
  | h1 (x0 : Int) (x1 : Int) (x2 : Int) (x3 : Int) (x4 : Int) (x5 : List Int)
abbrev Rt52  := List Int
noncomputable def V52 (ap np mp : Nat) (tp : Nat → Int) (aq nq mq : Nat) (tq : Nat → Int) (r : Rt52) : PV := PV.own (3) (1) (List.length r)
noncomputable def N52 (ap np mp : Nat) (tp : Nat → Int) (aq nq mq : Nat) (tq : Nat → Int) (r : Rt52) : List Blk := [Blk.cols (List.length r) [Col.int IntKind.i64 fun j => S.at' r j]]
noncomputable def I52 (ap np mp : Nat) (tp : Nat → Int) (aq nq mq : Nat) (tq : Nat → Int) : St52 → Hd
  | .h0 x0 x1 => ⟨hd Tryd.f52 0, [PV.loose (PA.mk (1) (1) aq (0)) nq,
 PV.own (2) (1) (List.length x1), PV.unk, PV.unk, PV.unk,
 PV.loose (PA.mk (0) (1) ap (0)) np, PV.int IntKind.i64 (↑np : Int),
 PV.int IntKind.i64 x0, PV.unk, PV.unk, PV.unk], [[(2, (true, Blk.cols (List.length x1) [Col.int IntKind.i64 fun j => S.at' x1 j]))], [(0, (false, .cols mp [.int .i64 tp])), (1, (false, .cols mq [.int .i64 tq]))]], 3⟩
  | .h1 x0 x1 x2 x3 x4 x5 => ⟨hd Tryd.f52 1, [PV.loose (PA.mk (1) (1) aq (0)) nq,
 PV.own (2) (1) (List.length x5), PV.int IntKind.i64 x0, PV.int IntKind.i64 x1,
 PV.int IntKind.i64 x2, PV.loose (PA.mk (0) (1) ap (0)) np,
 PV.int IntKind.i64 (↑np : Int), PV.int IntKind.i64 x3,
 PV.loose (PA.mk (1) (1) aq (0)) nq, PV.int IntKind.i64 (↑nq : Int),
 PV.int IntKind.i64 x4], [[(2, (true, Blk.cols (List.length x5) [Col.int IntKind.i64 fun j => S.at' x5 j]))], [(0, (false, .cols mp [.int .i64 tp])), (1, (false, .cols mq [.int .i64 tq]))]], 3⟩
noncomputable def q52 (ap np mp : Nat) (tp : Nat → Int) (aq nq mq : Nat) (tq : Nat → Int) : St52 → Option (St52 ⊕ Rt52)
  | .h0 x0 x1 => bif (decide (x0 < (↑np : Int)))
 then (bif (decide ((0 : Int) ≤ x0 ∧ x0 < (↑np : Int)))
 then (bif (decide (Int.toNat x0 + ap < mp))
 then (some (.inl (.h1 (x0) (tp (Int.toNat x0 + ap)) ((0 : Int)) (x0) ((0 : Int)) (x1))))
 else (none))
 else (none))
 else (bif (decide (List.length x1 ≤ List.length x1))
 then (bif (decide (List.length x1 ≤ 1000000))
 then (some (.inr (S.trim (S.mkl (List.length x1) fun j => S.at' x1 j))))
 else (none))
 else (none))
  | .h1 x0 x1 x2 x3 x4 x5 => bif (decide (x4 < (↑nq : Int)))
 then (bif (decide ((0 : Int) ≤ x4 ∧ x4 < (↑nq : Int)))
 then (bif (decide (Int.toNat x4 + aq < mq))
 then (bif (lim IntKind.i64 (x0 + x4))
 then (bif (decide ((0 : Int) ≤ x0 + x4 ∧ x0 + x4 < (↑(List.length x5) : Int)))
 then (bif (decide (Int.toNat (x0 + x4) < List.length x5))
 then (bif (lim IntKind.i64 (x1 * tq (Int.toNat x4 + aq)))
 then (bif (lim IntKind.i64 (S.at' x5 (Int.toNat (x0 + x4)) + x1 * tq (Int.toNat x4 + aq)))
 then (bif (lim IntKind.i64 (x2 + (S.at' x5 (Int.toNat (x0 + x4)) + x1 * tq (Int.toNat x4 + aq))))
 then (bif (lim IntKind.i64
 (Int.tdiv (x2 + (S.at' x5 (Int.toNat (x0 + x4)) + x1 * tq (Int.toNat x4 + aq))) (1000000 : Int)))
 then (bif (lim IntKind.i64 (x4 + (1 : Int)))
 then (some (.inl (.h1 (x0) (x1) (Int.tdiv (x2 + (S.at' x5 (Int.toNat (x0 + x4)) + x1 * tq (Int.toNat x4 + aq))) (1000000 : Int)) (x3) (x4 + (1 : Int)) (S.mkl (List.length x5) fun j =>
 bif Nat.beq j (Int.toNat (x0 + x4)) then
 Int.tmod (x2 + (S.at' x5 (Int.toNat (x0 + x4)) + x1 * tq (Int.toNat x4 + aq))) (1000000 : Int)
 else S.at' x5 j))))
 else (none))
 else (none))
 else (none))
 else (none))
 else (none))
 else (none))
 else (none))
 else (none))
 else (none))
 else (none))
 else (bif (lim IntKind.i64 (x0 + (↑nq : Int)))
 then (bif (decide ((0 : Int) ≤ x0 + (↑nq : Int) ∧ x0 + (↑nq : Int) < (↑(List.length x5) : Int)))
 then (bif (decide (Int.toNat (x0 + (↑nq : Int)) < List.length x5))
 then (bif (lim IntKind.i64 (x3 + (1 : Int)))
 then (some (.inl (.h0 (x3 + (1 : Int)) (S.mkl (List.length x5) fun j => bif Nat.beq j (Int.toNat (x0 + (↑nq : Int))) then x2 else S.at' x5 j))))
 else (none))
 else (none))
 else (none))
 else (none))
noncomputable def p52 (ap np mp : Nat) (tp : Nat → Int) (aq nq mq : Nat) (tq : Nat → Int) : Option (St52 ⊕ Rt52) := bif ((↑np : Int) == (0 : Int))
 then (some (.inr ([])))
 else (bif ((↑nq : Int) == (0 : Int))
 then (some (.inr ([])))
 else (bif (lim IntKind.i64 ((↑np : Int) + (↑nq : Int)))
 then (bif (decide
 ((0 : Int) ≤ (↑np : Int) + (↑nq : Int) ∧
 (↑np : Int) + (↑nq : Int) ≤ (↑np : Int) + (↑nq : Int) ∧ (↑np : Int) + (↑nq : Int) ≤ (1000000 : Int)))
 then (some (.inl (.h0 ((0 : Int)) (S.mkl (Int.toNat ((↑np : Int) + (↑nq : Int))) fun j => (0 : Int)))))
 else (none))
 else (none)))
noncomputable def Te52 (test : Bool → Prop → Prop → Prop) (Kst : KS) (Kret : KR) (ap np mp : Nat) (tp : Nat → Int) (aq nq mq : Nat) (tq : Nat → Int) : Prop :=
  test ((↑np : Int) == (0 : Int))
 (Kret (PV.nils) ([[(1, false, Blk.cols mq [Col.int IntKind.i64 tq]),
 (0, false, Blk.cols mp [Col.int IntKind.i64 tp])]]) (2))
 (test ((↑nq : Int) == (0 : Int))
 (Kret (PV.nils) ([[(1, false, Blk.cols mq [Col.int IntKind.i64 tq]),
 (0, false, Blk.cols mp [Col.int IntKind.i64 tp])]]) (2))
 (test (lim IntKind.i64 ((↑np : Int) + (↑nq : Int)))
 (test (decide
 ((0 : Int) ≤ (↑np : Int) + (↑nq : Int) ∧
 (↑np : Int) + (↑nq : Int) ≤ (↑np : Int) + (↑nq : Int) ∧ (↑np : Int) + (↑nq : Int) ≤ (1000000 : Int)))
 (Kst (hd Tryd.f52 0) ([PV.loose (PA.mk (1) (1) aq (0)) nq,
 PV.own (2) (1) (Int.toNat ((↑np : Int) + (↑nq : Int))), PV.unk, PV.unk,
 PV.unk, PV.loose (PA.mk (0) (1) ap (0)) np,
 PV.int IntKind.i64 (↑np : Int), PV.int IntKind.i64 (0 : Int), PV.unk, PV.unk,
 PV.unk]) ([[(1, false, Blk.cols mq [Col.int IntKind.i64 tq]),
 (0, false, Blk.cols mp [Col.int IntKind.i64 tp]),
 (2, true,
 Blk.cols (Int.toNat ((↑np : Int) + (↑nq : Int)))
 [Col.int IntKind.i64 fun (x : Nat) => (0 : Int)])]]) (3))
 (False))
 (False)))
theorem te52 (test : Bool → Prop → Prop → Prop) (Kst : KS) (Kret : KR) (ap np mp : Nat) (tp : Nat → Int) (aq nq mq : Nat) (tq : Nat → Int) : run test Tryd.env true (xD test) true 400 ⟨52, [.cd (mkFn Tryd.f52).body], argT 0 [.loose ⟨0, 1, ap, 0⟩ np, .loose ⟨1, 1, aq, 0⟩ nq], [[], [(0, (false, .cols mp [.int .i64 tp])), (1, (false, .cols mq [.int .i64 tq]))]], 2⟩ (proj 2 [1, 5, 6, 7, 8, 25, 26, 27, 32, 33, 34] Kst Kret) =
  Te52 test Kst Kret ap np mp tp aq nq mq tq := by kernel_rfl
noncomputable def T52_0 (test : Bool → Prop → Prop → Prop) (Kst : KS) (Kret : KR) (ap np mp : Nat) (tp : Nat → Int) (aq nq mq : Nat) (tq : Nat → Int) (x0 : Int) (x1 : List Int) : Prop :=
  test (decide (x0 < (↑np : Int)))
 (test (decide ((0 : Int) ≤ x0 ∧ x0 < (↑np : Int)))
 (test (decide (Int.toNat x0 + ap < mp))
 (Kst (hd Tryd.f52 1) ([PV.loose (PA.mk (1) (1) aq (0)) nq,
 PV.own (2) (1) (List.length x1), PV.int IntKind.i64 x0,
 PV.int IntKind.i64 (tp (Int.toNat x0 + ap)), PV.int IntKind.i64 (0 : Int),
 PV.loose (PA.mk (0) (1) ap (0)) np, PV.int IntKind.i64 (↑np : Int),
 PV.int IntKind.i64 x0, PV.loose (PA.mk (1) (1) aq (0)) nq,
 PV.int IntKind.i64 (↑nq : Int), PV.int IntKind.i64 (0 : Int)]) ([[(1, false, Blk.cols mq [Col.int IntKind.i64 tq]),
 (0, false, Blk.cols mp [Col.int IntKind.i64 tp]),
 (2, true,
 Blk.cols (List.length x1) [Col.int IntKind.i64 fun j => S.at' x1 j])]]) (3))
 (False))
 (False))
 (test (decide (List.length x1 ≤ List.length x1))
 (test (decide (List.length x1 ≤ 1000000))
 (Kret (PV.own (2) (1)
 (List.length (S.trim (S.mkl (List.length x1) fun j => S.at' x1 j)))) ([[(1, false, Blk.cols mq [Col.int IntKind.i64 tq]),
 (0, false, Blk.cols mp [Col.int IntKind.i64 tp]),
 (2, true,
 Blk.cols (List.length (S.trim (S.mkl (List.length x1) fun j => S.at' x1 j)))
 [Col.int IntKind.i64 fun j =>
 S.at' (S.trim (S.mkl (List.length x1) fun j => S.at' x1 j)) j])]]) (4))
 (False))
 (False))
theorem t52_0 (test : Bool → Prop → Prop → Prop) (Kst : KS) (Kret : KR) (ap np mp : Nat) (tp : Nat → Int) (aq nq mq : Nat) (tq : Nat → Int) (x0 : Int) (x1 : List Int) : run test Tryd.env true (xD test) true 400 ⟨52, hd Tryd.f52 0, zipT [1, 5, 6, 7, 8, 25, 26, 27, 32, 33, 34] [PV.loose (PA.mk (1) (1) aq (0)) nq,
 PV.own (2) (1) (List.length x1), PV.unk, PV.unk, PV.unk,
 PV.loose (PA.mk (0) (1) ap (0)) np, PV.int IntKind.i64 (↑np : Int),
 PV.int IntKind.i64 x0, PV.unk, PV.unk, PV.unk], [[(2, (true, Blk.cols (List.length x1) [Col.int IntKind.i64 fun j => S.at' x1 j]))], [(0, (false, .cols mp [.int .i64 tp])), (1, (false, .cols mq [.int .i64 tq]))]], 3⟩ (proj 2 [1, 5, 6, 7, 8, 25, 26, 27, 32, 33, 34] Kst Kret) =
  T52_0 test Kst Kret ap np mp tp aq nq mq tq x0 x1 := by kernel_rfl
noncomputable def T52_1 (test : Bool → Prop → Prop → Prop) (Kst : KS) (Kret : KR) (ap np mp : Nat) (tp : Nat → Int) (aq nq mq : Nat) (tq : Nat → Int) (x0 x1 x2 x3 x4 : Int) (x5 : List Int) : Prop :=
  test (decide (x4 < (↑nq : Int)))
 (test (decide ((0 : Int) ≤ x4 ∧ x4 < (↑nq : Int)))
 (test (decide (Int.toNat x4 + aq < mq))
 (test (lim IntKind.i64 (x0 + x4))
 (test (decide ((0 : Int) ≤ x0 + x4 ∧ x0 + x4 < (↑(List.length x5) : Int)))
 (test (decide (Int.toNat (x0 + x4) < List.length x5))
 (test (lim IntKind.i64 (x1 * tq (Int.toNat x4 + aq)))
 (test (lim IntKind.i64 (S.at' x5 (Int.toNat (x0 + x4)) + x1 * tq (Int.toNat x4 + aq)))
 (test (lim IntKind.i64 (x2 + (S.at' x5 (Int.toNat (x0 + x4)) + x1 * tq (Int.toNat x4 + aq))))
 (test (lim IntKind.i64 (x0 + x4))
 (test (false)
 (False)
 (test (decide ((0 : Int) ≤ x0 + x4 ∧ x0 + x4 < (↑(List.length x5) : Int)))
 (test (decide (Int.toNat (x0 + x4) < List.length x5))
 (test (false)
 (False)
 (test (lim IntKind.i64
 (Int.tdiv (x2 + (S.at' x5 (Int.toNat (x0 + x4)) + x1 * tq (Int.toNat x4 + aq))) (1000000 : Int)))
 (test (lim IntKind.i64 (x4 + (1 : Int)))
 (Kst (hd Tryd.f52 1) ([PV.loose (PA.mk (1) (1) aq (0)) nq,
 PV.own (2) (1) (List.length x5), PV.int IntKind.i64 x0, PV.int IntKind.i64 x1,
 PV.int IntKind.i64
 (Int.tdiv (x2 + (S.at' x5 (Int.toNat (x0 + x4)) + x1 * tq (Int.toNat x4 + aq))) (1000000 : Int)),
 PV.loose (PA.mk (0) (1) ap (0)) np, PV.int IntKind.i64 (↑np : Int),
 PV.int IntKind.i64 x3, PV.loose (PA.mk (1) (1) aq (0)) nq,
 PV.int IntKind.i64 (↑nq : Int), PV.int IntKind.i64 (x4 + (1 : Int))]) ([[(1, false, Blk.cols mq [Col.int IntKind.i64 tq]),
 (0, false, Blk.cols mp [Col.int IntKind.i64 tp]),
 (2, true,
 Blk.cols (List.length x5)
 [Col.int IntKind.i64 fun j =>
 bif Nat.beq j (Int.toNat (x0 + x4)) then
 Int.tmod (x2 + (S.at' x5 (Int.toNat (x0 + x4)) + x1 * tq (Int.toNat x4 + aq))) (1000000 : Int)
 else S.at' x5 j])]]) (3))
 (False))
 (False)))
 (False))
 (False)))
 (False))
 (False))
 (False))
 (False))
 (False))
 (False))
 (False))
 (False))
 (False))
 (test (lim IntKind.i64 (x0 + (↑nq : Int)))
 (test (decide ((0 : Int) ≤ x0 + (↑nq : Int) ∧ x0 + (↑nq : Int) < (↑(List.length x5) : Int)))
 (test (decide (Int.toNat (x0 + (↑nq : Int)) < List.length x5))
 (test (lim IntKind.i64 (x3 + (1 : Int)))
 (Kst (hd Tryd.f52 0) ([PV.loose (PA.mk (1) (1) aq (0)) nq,
 PV.own (2) (1) (List.length x5), PV.int IntKind.i64 x0, PV.int IntKind.i64 x1,
 PV.int IntKind.i64 x2, PV.loose (PA.mk (0) (1) ap (0)) np,
 PV.int IntKind.i64 (↑np : Int), PV.int IntKind.i64 (x3 + (1 : Int)),
 PV.loose (PA.mk (1) (1) aq (0)) nq, PV.int IntKind.i64 (↑nq : Int),
 PV.int IntKind.i64 x4]) ([[(1, false, Blk.cols mq [Col.int IntKind.i64 tq]),
 (0, false, Blk.cols mp [Col.int IntKind.i64 tp]),
 (2, true,
 Blk.cols (List.length x5)
 [Col.int IntKind.i64 fun j =>
 bif Nat.beq j (Int.toNat (x0 + (↑nq : Int))) then x2 else S.at' x5 j])]]) (3))
 (False))
 (False))
 (False))
 (False))
theorem t52_1 (test : Bool → Prop → Prop → Prop) (Kst : KS) (Kret : KR) (ap np mp : Nat) (tp : Nat → Int) (aq nq mq : Nat) (tq : Nat → Int) (x0 x1 x2 x3 x4 : Int) (x5 : List Int) : run test Tryd.env true (xD test) true 400 ⟨52, hd Tryd.f52 1, zipT [1, 5, 6, 7, 8, 25, 26, 27, 32, 33, 34] [PV.loose (PA.mk (1) (1) aq (0)) nq,
 PV.own (2) (1) (List.length x5), PV.int IntKind.i64 x0, PV.int IntKind.i64 x1,
 PV.int IntKind.i64 x2, PV.loose (PA.mk (0) (1) ap (0)) np,
 PV.int IntKind.i64 (↑np : Int), PV.int IntKind.i64 x3,
 PV.loose (PA.mk (1) (1) aq (0)) nq, PV.int IntKind.i64 (↑nq : Int),
 PV.int IntKind.i64 x4], [[(2, (true, Blk.cols (List.length x5) [Col.int IntKind.i64 fun j => S.at' x5 j]))], [(0, (false, .cols mp [.int .i64 tp])), (1, (false, .cols mq [.int .i64 tq]))]], 3⟩ (proj 2 [1, 5, 6, 7, 8, 25, 26, 27, 32, 33, 34] Kst Kret) =
  T52_1 test Kst Kret ap np mp tp aq nq mq tq x0 x1 x2 x3 x4 x5 := by kernel_rfl
attribute [local irreducible] Int.subNatNat in
theorem be52 (ap np mp : Nat) (tp : Nat → Int) (aq nq mq : Nat) (tq : Nat → Int) (Kst : KS) (Kret : KR) (x : St52 ⊕ Rt52) (hS : HS 2 400 ((I52 ap np mp tp aq nq mq tq)) Kst x) (hR : HR 2 400 ((V52 ap np mp tp aq nq mq tq)) (fun r => [newL (2 + 1) ((N52 ap np mp tp aq nq mq tq) r) ++ [(0, (false, .cols mp [.int .i64 tp])), (1, (false, .cols mq [.int .i64 tq]))]]) Kret x) (h : p52 ap np mp tp aq nq mq tq = some x) : Te52 cond Kst Kret ap np mp tp aq nq mq tq := by
  unfold Te52
  unfold p52 at h
  refine bif_split h
   (fun c0 h => ret_at hR _ h (fun n => bif Nat.beq n 3 then 399 else n) rfl rfl rfl (rn_own_nils rfl) rfl (entl_fresh (use_own rfl) (fresh_ok rfl) (entl_bor (use_lo rfl) rfl rfl (entl_bor (use_lo rfl) rfl rfl entl_nil))))
   (fun c0 h => bif_split h
   (fun c1 h => ret_at hR _ h (fun n => bif Nat.beq n 3 then 399 else n) rfl rfl rfl (rn_own_nils rfl) rfl (entl_fresh (use_own rfl) (fresh_ok rfl) (entl_bor (use_lo rfl) rfl rfl (entl_bor (use_lo rfl) rfl rfl entl_nil))))
   (fun c1 h => bif_split h
   (fun c2 h => bif_split h
   (fun c3 h => stop_at hS _ h (fun n => bif Nat.beq n 2 then 2 else n) rfl rfl rfl ⟨(rn_loose (use_lo rfl) rfl rfl rfl), ⟨(rn_own (use_own rfl) rfl mkl_len), ⟨(rn_unk _), ⟨(rn_unk _), ⟨(rn_unk _), ⟨(rn_loose (use_lo rfl) rfl rfl rfl), ⟨(rn_int rfl), ⟨(rn_int rfl), ⟨(rn_unk _), ⟨(rn_unk _), ⟨(rn_unk _), trivial⟩⟩⟩⟩⟩⟩⟩⟩⟩⟩⟩ rfl (entl_new (use_own rfl) rfl (Nat.le_of_eq mkl_len) (rcs_int (fun _ hj => col_mkl (fun (t : Int) => t) hj) rcs_nil) (entl_bor (use_lo rfl) rfl rfl (entl_bor (use_lo rfl) rfl rfl entl_nil))))
   (fun c3 h => no_some h))
   (fun c2 h => no_some h)))
attribute [local irreducible] Int.subNatNat in
theorem b52_0 (ap np mp : Nat) (tp : Nat → Int) (aq nq mq : Nat) (tq : Nat → Int) (Kst : KS) (Kret : KR) (x : St52 ⊕ Rt52) (hS : HS 2 400 ((I52 ap np mp tp aq nq mq tq)) Kst x) (hR : HR 2 400 ((V52 ap np mp tp aq nq mq tq)) (fun r => [newL (2 + 1) ((N52 ap np mp tp aq nq mq tq) r) ++ [(0, (false, .cols mp [.int .i64 tp])), (1, (false, .cols mq [.int .i64 tq]))]]) Kret x) (x0 : Int) (x1 : List Int) (h : (bif (decide (x0 < (↑np : Int)))
 then (bif (decide ((0 : Int) ≤ x0 ∧ x0 < (↑np : Int)))
 then (bif (decide (Int.toNat x0 + ap < mp))
 then (some (.inl (.h1 (x0) (tp (Int.toNat x0 + ap)) ((0 : Int)) (x0) ((0 : Int)) (x1))))
 else (none))
 else (none))
 else (bif (decide (List.length x1 ≤ List.length x1))
 then (bif (decide (List.length x1 ≤ 1000000))
 then (some (.inr (S.trim (S.mkl (List.length x1) fun j => S.at' x1 j))))
 else (none))
 else (none)) : Option (St52 ⊕ Rt52)) = some x) : T52_0 cond Kst Kret ap np mp tp aq nq mq tq x0 x1 := by
  unfold T52_0
  exact bif_split h
   (fun c0 h => bif_split h
   (fun c1 h => bif_split h
   (fun c2 h => stop_at hS _ h (fun n => bif Nat.beq n 2 then 2 else n) rfl rfl rfl ⟨(rn_loose (use_lo rfl) rfl rfl rfl), ⟨(rn_own (use_own rfl) rfl rfl), ⟨(rn_int rfl), ⟨(rn_int rfl), ⟨(rn_int rfl), ⟨(rn_loose (use_lo rfl) rfl rfl rfl), ⟨(rn_int rfl), ⟨(rn_int rfl), ⟨(rn_loose (use_lo rfl) rfl rfl rfl), ⟨(rn_int rfl), ⟨(rn_int rfl), trivial⟩⟩⟩⟩⟩⟩⟩⟩⟩⟩⟩ rfl (entl_new (use_own rfl) rfl (Nat.le_of_eq rfl) (rcs_int (fun _ _ => rfl) rcs_nil) (entl_bor (use_lo rfl) rfl rfl (entl_bor (use_lo rfl) rfl rfl entl_nil))))
   (fun c2 h => no_some h))
   (fun c1 h => no_some h))
   (fun c0 h => bif_split h
   (fun c1 h => bif_split h
   (fun c2 h => ret_at hR _ h (fun n => bif Nat.beq n 3 then 2 else n) rfl rfl rfl (rn_own (use_own rfl) rfl rfl) rfl (entl_new (use_own rfl) rfl (Nat.le_of_eq rfl) (rcs_int (fun _ _ => rfl) rcs_nil) (entl_bor (use_lo rfl) rfl rfl (entl_bor (use_lo rfl) rfl rfl entl_nil))))
   (fun c2 h => no_some h))
   (fun c1 h => no_some h))
attribute [local irreducible] Int.subNatNat in
theorem b52_1 (ap np mp : Nat) (tp : Nat → Int) (aq nq mq : Nat) (tq : Nat → Int) (Kst : KS) (Kret : KR) (x : St52 ⊕ Rt52) (hS : HS 2 400 ((I52 ap np mp tp aq nq mq tq)) Kst x) (hR : HR 2 400 ((V52 ap np mp tp aq nq mq tq)) (fun r => [newL (2 + 1) ((N52 ap np mp tp aq nq mq tq) r) ++ [(0, (false, .cols mp [.int .i64 tp])), (1, (false, .cols mq [.int .i64 tq]))]]) Kret x) (x0 x1 x2 x3 x4 : Int) (x5 : List Int) (h : (bif (decide (x4 < (↑nq : Int)))
 then (bif (decide ((0 : Int) ≤ x4 ∧ x4 < (↑nq : Int)))
 then (bif (decide (Int.toNat x4 + aq < mq))
 then (bif (lim IntKind.i64 (x0 + x4))
 then (bif (decide ((0 : Int) ≤ x0 + x4 ∧ x0 + x4 < (↑(List.length x5) : Int)))
 then (bif (decide (Int.toNat (x0 + x4) < List.length x5))
 then (bif (lim IntKind.i64 (x1 * tq (Int.toNat x4 + aq)))
 then (bif (lim IntKind.i64 (S.at' x5 (Int.toNat (x0 + x4)) + x1 * tq (Int.toNat x4 + aq)))
 then (bif (lim IntKind.i64 (x2 + (S.at' x5 (Int.toNat (x0 + x4)) + x1 * tq (Int.toNat x4 + aq))))
 then (bif (lim IntKind.i64
 (Int.tdiv (x2 + (S.at' x5 (Int.toNat (x0 + x4)) + x1 * tq (Int.toNat x4 + aq))) (1000000 : Int)))
 then (bif (lim IntKind.i64 (x4 + (1 : Int)))
 then (some (.inl (.h1 (x0) (x1) (Int.tdiv (x2 + (S.at' x5 (Int.toNat (x0 + x4)) + x1 * tq (Int.toNat x4 + aq))) (1000000 : Int)) (x3) (x4 + (1 : Int)) (S.mkl (List.length x5) fun j =>
 bif Nat.beq j (Int.toNat (x0 + x4)) then
 Int.tmod (x2 + (S.at' x5 (Int.toNat (x0 + x4)) + x1 * tq (Int.toNat x4 + aq))) (1000000 : Int)
 else S.at' x5 j))))
 else (none))
 else (none))
 else (none))
 else (none))
 else (none))
 else (none))
 else (none))
 else (none))
 else (none))
 else (none))
 else (bif (lim IntKind.i64 (x0 + (↑nq : Int)))
 then (bif (decide ((0 : Int) ≤ x0 + (↑nq : Int) ∧ x0 + (↑nq : Int) < (↑(List.length x5) : Int)))
 then (bif (decide (Int.toNat (x0 + (↑nq : Int)) < List.length x5))
 then (bif (lim IntKind.i64 (x3 + (1 : Int)))
 then (some (.inl (.h0 (x3 + (1 : Int)) (S.mkl (List.length x5) fun j => bif Nat.beq j (Int.toNat (x0 + (↑nq : Int))) then x2 else S.at' x5 j))))
 else (none))
 else (none))
 else (none))
 else (none)) : Option (St52 ⊕ Rt52)) = some x) : T52_1 cond Kst Kret ap np mp tp aq nq mq tq x0 x1 x2 x3 x4 x5 := by
  unfold T52_1
  exact bif_split h
   (fun c0 h => bif_split h
   (fun c1 h => bif_split h
   (fun c2 h => bif_split h
   (fun c3 h => bif_split h
   (fun c4 h => bif_split h
   (fun c5 h => bif_split h
   (fun c6 h => bif_split h
   (fun c7 h => bif_split h
   (fun c8 h => cond_yes c3 (cond_no rfl (cond_yes c4 (cond_yes c5 (cond_no rfl (bif_split h
   (fun c9 h => bif_split h
   (fun c10 h => stop_at hS _ h (fun n => bif Nat.beq n 2 then 2 else n) rfl rfl rfl ⟨(rn_loose (use_lo rfl) rfl rfl rfl), ⟨(rn_own (use_own rfl) rfl mkl_len), ⟨(rn_int rfl), ⟨(rn_int rfl), ⟨(rn_int rfl), ⟨(rn_loose (use_lo rfl) rfl rfl rfl), ⟨(rn_int rfl), ⟨(rn_int rfl), ⟨(rn_loose (use_lo rfl) rfl rfl rfl), ⟨(rn_int rfl), ⟨(rn_int rfl), trivial⟩⟩⟩⟩⟩⟩⟩⟩⟩⟩⟩ rfl (entl_new (use_own rfl) rfl (Nat.le_of_eq mkl_len) (rcs_int (fun _ hj => col_mkl (fun (t : Int) => t) hj) rcs_nil) (entl_bor (use_lo rfl) rfl rfl (entl_bor (use_lo rfl) rfl rfl entl_nil))))
   (fun c10 h => no_some h))
   (fun c9 h => no_some h)))))))
   (fun c8 h => no_some h))
   (fun c7 h => no_some h))
   (fun c6 h => no_some h))
   (fun c5 h => no_some h))
   (fun c4 h => no_some h))
   (fun c3 h => no_some h))
   (fun c2 h => no_some h))
   (fun c1 h => no_some h))
   (fun c0 h => bif_split h
   (fun c1 h => bif_split h
   (fun c2 h => bif_split h
   (fun c3 h => bif_split h
   (fun c4 h => stop_at hS _ h (fun n => bif Nat.beq n 2 then 2 else n) rfl rfl rfl ⟨(rn_loose (use_lo rfl) rfl rfl rfl), ⟨(rn_own (use_own rfl) rfl mkl_len), ⟨(rn_unk _), ⟨(rn_unk _), ⟨(rn_unk _), ⟨(rn_loose (use_lo rfl) rfl rfl rfl), ⟨(rn_int rfl), ⟨(rn_int rfl), ⟨(rn_unk _), ⟨(rn_unk _), ⟨(rn_unk _), trivial⟩⟩⟩⟩⟩⟩⟩⟩⟩⟩⟩ rfl (entl_new (use_own rfl) rfl (Nat.le_of_eq mkl_len) (rcs_int (fun _ hj => col_mkl (fun (t : Int) => t) hj) rcs_nil) (entl_bor (use_lo rfl) rfl rfl (entl_bor (use_lo rfl) rfl rfl entl_nil))))
   (fun c4 h => no_some h))
   (fun c3 h => no_some h))
   (fun c2 h => no_some h))
   (fun c1 h => no_some h))
theorem a52 (ap np mp : Nat) (tp : Nat → Int) (aq nq mq : Nat) (tq : Nat → Int) {r : Rt52} (h : Goes ((q52 ap np mp tp aq nq mq tq)) ((p52 ap np mp tp aq nq mq tq)) r) : CallR Tryd.prog 52 [.loose ⟨0, 1, ap, 0⟩ np, .loose ⟨1, 1, aq, 0⟩ nq] [[(0, (false, .cols mp [.int .i64 tp])), (1, (false, .cols mq [.int .i64 tq]))]] 2 ((V52 ap np mp tp aq nq mq tq) r) ((fun r => [newL (2 + 1) ((N52 ap np mp tp aq nq mq tq) r) ++ [(0, (false, .cols mp [.int .i64 tp])), (1, (false, .cols mq [.int .i64 tq]))]]) r) 400 ∧ ∃ F, Tryd.prog.funcs[52]? = some F ∧ F.body.isSome = true ∧ (F.name == "runtime.NumGoroutine") = false := by
  refine dec_calls (f := 52) (lo := 2) (hi := 400) (H := [[(0, (false, .cols mp [.int .i64 tp])), (1, (false, .cols mq [.int .i64 tq]))]]) (args := [.loose ⟨0, 1, ap, 0⟩ np, .loose ⟨1, 1, aq, 0⟩ nq]) Tryd.envOk Tryd.mixed xD_ok ((I52 ap np mp tp aq nq mq tq)) ((V52 ap np mp tp aq nq mq tq)) (fun r => [newL (2 + 1) ((N52 ap np mp tp aq nq mq tq) r) ++ [(0, (false, .cols mp [.int .i64 tp])), (1, (false, .cols mq [.int .i64 tq]))]]) (fn := mkFn Tryd.f52) (ts := [1, 5, 6, 7, 8, 25, 26, 27, 32, 33, 34]) (n := 400) rfl (by decide) (by simp) (names_of rfl) ?_ ?_ ?_ h
  · intro s; cases s <;> exact ⟨hd_ok _ _, by simp [I52], names_of rfl, Nat.le_of_ble_eq_true rfl⟩
  · intro Kst Kret x hS hR h
    exact Holds.eq (te52 cond Kst Kret ap np mp tp aq nq mq tq) (be52 ap np mp tp aq nq mq tq Kst Kret x hS hR h)
  · intro Kst Kret x hS hR s h
    cases s with
    | h0 x0 x1 => exact Holds.eq (t52_0 cond Kst Kret ap np mp tp aq nq mq tq x0 x1) (b52_0 ap np mp tp aq nq mq tq Kst Kret x hS hR x0 x1 h)
    | h1 x0 x1 x2 x3 x4 x5 => exact Holds.eq (t52_1 cond Kst Kret ap np mp tp aq nq mq tq x0 x1 x2 x3 x4 x5) (b52_1 ap np mp tp aq nq mq tq Kst Kret x hS hR x0 x1 x2 x3 x4 x5 h)
noncomputable def k52  : Con := ⟨52, [.one (.list [.int .i64]), .one (.list [.int .i64])], fun (x : (Nat × Nat × Nat × (Nat → Int) × Unit) × (Nat × Nat × Nat × (Nat → Int) × Unit) × Unit) => (fun (ap np mp : Nat) (tp : Nat → Int) (aq nq mq : Nat) (tq : Nat → Int) => decide ((ap + np ≤ mp ∧ aq + nq ≤ mq) ∧ (np ≤ 1000 ∧ nq ≤ 1000) ∧ S.okG np (fun j => tp (j + ap)) = true ∧ S.okG nq (fun j => tq (j + aq)) = true)) x.1.1 x.1.2.1 x.1.2.2.1 x.1.2.2.2.1 x.2.1.1 x.2.1.2.1 x.2.1.2.2.1 x.2.1.2.2.2.1, fun (x : (Nat × Nat × Nat × (Nat → Int) × Unit) × (Nat × Nat × Nat × (Nat → Int) × Unit) × Unit) => (fun (ap np mp : Nat) (tp : Nat → Int) (aq nq mq : Nat) (tq : Nat → Int) => (V52 ap np mp tp aq nq mq tq) (S.grp ((S.val np (fun j => tp (j + ap))) * (S.val nq (fun j => tq (j + aq)))))) x.1.1 x.1.2.1 x.1.2.2.1 x.1.2.2.2.1 x.2.1.1 x.2.1.2.1 x.2.1.2.2.1 x.2.1.2.2.2.1, fun (x : (Nat × Nat × Nat × (Nat → Int) × Unit) × (Nat × Nat × Nat × (Nat → Int) × Unit) × Unit) => (fun (ap np mp : Nat) (tp : Nat → Int) (aq nq mq : Nat) (tq : Nat → Int) => (N52 ap np mp tp aq nq mq tq) (S.grp ((S.val np (fun j => tp (j + ap))) * (S.val nq (fun j => tq (j + aq)))))) x.1.1 x.1.2.1 x.1.2.2.1 x.1.2.2.2.1 x.2.1.1 x.2.1.2.1 x.2.1.2.2.1 x.2.1.2.2.2.1, fun _ _ => .dead⟩
theorem s52i (ap np mp : Nat) (tp : Nat → Int) (aq nq mq : Nat) (tq : Nat → Int) (hp : (ap + np ≤ mp ∧ aq + nq ≤ mq) ∧ (np ≤ 1000 ∧ nq ≤ 1000) ∧ S.okG np (fun j => tp (j + ap)) = true ∧ S.okG nq (fun j => tq (j + aq)) = true) (i : Nat) (hi : i < np) : ∀ (k a : Nat) (c : Int) (R : List Int), a + k = nq → R.length = np + nq → (∀ j, j < np + nq → 0 ≤ S.at' R j ∧ S.at' R j < 1000000) → (∀ j, i + nq ≤ j → j < np + nq → S.at' R j = 0) → (0 ≤ c ∧ c < 1000000) →
    ∃ R' : List Int, R'.length = np + nq ∧ (∀ j, j < np + nq → 0 ≤ S.at' R' j ∧ S.at' R' j < 1000000) ∧ (∀ j, i + 1 + nq ≤ j → j < np + nq → S.at' R' j = 0) ∧ (∀ j, j < i + a → S.at' R' j = S.at' R j) ∧ S.valF (S.at' R') (i + a) (np + nq - (i + a)) = S.valF (S.at' R) (i + a) (np + nq - (i + a)) + c + tp (i + ap) * S.valF (fun j => tq (j + aq)) a k ∧
      ∀ res : List Int, (Comes (q52 ap np mp tp aq nq mq tq) (.h0 ((i : Int) + 1) R') res → Comes (q52 ap np mp tp aq nq mq tq) (.h1 (i : Int) (tp (i + ap)) c (i : Int) (a : Int) R) res) := by
  obtain ⟨⟨hp1, hp2⟩, ⟨hp3, hp4⟩, g1, g2⟩ := hp
  have d1 := (okG_iff.mp g1).1 i hi
  have d2 := (okG_iff.mp g2).1
  (try dsimp only at d1)
  intro k
  induction k with
  | zero =>
    intro a c R ha hR hd hz hc
    obtain rfl : a = nq := by omega
    have z0 := hz (i + a) (Nat.le_refl _) (by omega)
    refine ⟨S.mkl (np + a) (fun j => bif Nat.beq j (i + a) then c else S.at' R j), mkl_len, upd_dig hR hd hc, fun j h1 h2 => ?_, fun j h1 => ?_, ?_, fun res hC => ?_⟩
    · rw [upd_at h2, if_neg (by omega)]; exact hz j (by omega) h2
    · rw [upd_at (by omega), if_neg (by omega)]
    · rw [show np + a - (i + a) = (np + a - (i + a + 1)) + 1 by omega]
      simp only [S.valF]
      rw [upd_at (by omega), if_pos rfl, z0, valF_congr (u := S.at' R) fun j h1 h2 => by rw [upd_at (by omega), if_neg (by omega)]]
      omega
    · rw [← hR] at hC
      have e1 : ((i : Int) + a).toNat = i + a := by omega
      apply Comes.of
      show Goes _ _ _
      (first | rw [q52] | unfold q52)
      repeat' first
        | with_reducible refine goes_if (fun h => ?_) (fun h => ?_) <;> (try simp only [SH, e1] at h)
        | exact goes_none.mpr (by omega)
      all_goals first | (exfalso; omega) | (rw [e1]; exact hC)
  | succ k ih =>
    intro a c R ha hR hd hz hc
    have hq := d2 a (by omega)
    (try dsimp only at hq)
    have hm := mul_dig d1 hq
    have hr := hd (i + a) (by omega)
    have ms := md_sum (x := c + (S.at' R (i + a) + tp (i + ap) * tq (a + aq))) (by omega)
    generalize hD : Int.tmod (c + (S.at' R (i + a) + tp (i + ap) * tq (a + aq))) 1000000 = dg at ms
    generalize hC : Int.tdiv (c + (S.at' R (i + a) + tp (i + ap) * tq (a + aq))) 1000000 = cy at ms
    obtain ⟨R', r1, r2, r3, r4, r5, r6⟩ := ih (a + 1) cy (S.mkl (np + nq) fun j => bif Nat.beq j (i + a) then dg else S.at' R j) (by omega) mkl_len (upd_dig hR hd (by omega)) (fun j h1 h2 => by rw [upd_at h2, if_neg (by omega)]; exact hz j h1 h2) (by omega)
    refine ⟨R', r1, r2, r3, fun j h1 => ?_, ?_, fun res hX => ?_⟩
    · rw [r4 j (by omega), upd_at (by omega), if_neg (by omega)]
    · rw [show np + nq - (i + a) = (np + nq - (i + (a + 1))) + 1 by omega]
      have e1 := r4 (i + a) (by omega)
      rw [upd_at (by omega), if_pos rfl] at e1
      have r5' : S.valF (S.at' (S.mkl (np + nq) fun j => bif Nat.beq j (i + a) then dg else S.at' R j)) (i + (a + 1)) (np + nq - (i + (a + 1))) = S.valF (S.at' R) (i + (a + 1)) (np + nq - (i + (a + 1))) := valF_congr fun j h1 h2 => by rw [upd_at (by omega), if_neg (by omega)]
      rw [r5'] at r5
      simp only [S.valF]
      have ed : ∀ x : Int, tp (i + ap) * (tq (a + aq) + 1000000 * x) = tp (i + ap) * tq (a + aq) + 1000000 * (tp (i + ap) * x) := fun x => by rw [Int.mul_add, Int.mul_left_comm]
      rw [show i + a + 1 = i + (a + 1) by omega, r5, e1, ed]
      generalize tp (i + ap) * S.valF _ _ _ = w1 at *
      generalize S.valF _ _ _ = w2 at *
      (try dsimp only)
      omega
    · have r6 := r6 res hX
      rw [← hR] at r6
      have e1 : ((i : Int) + a).toNat = i + a := by omega
      clear ih r5 hX
      apply Comes.of
      show Goes _ _ _
      rw [q52]
      simp only [e1, Int.toNat_natCast, hD, hC]
      repeat' first
        | with_reducible refine goes_if (fun h => ?_) (fun h => ?_) <;> (try simp only [SH] at h)
        | exact goes_none.mpr (by omega)
      all_goals first | (exfalso; omega) | exact r6
theorem s52' (ap np mp : Nat) (tp : Nat → Int) (aq nq mq : Nat) (tq : Nat → Int) (hp : (ap + np ≤ mp ∧ aq + nq ≤ mq) ∧ (np ≤ 1000 ∧ nq ≤ 1000) ∧ S.okG np (fun j => tp (j + ap)) = true ∧ S.okG nq (fun j => tq (j + aq)) = true) : ∀ (k i : Nat) (R : List Int), i + k = np → R.length = np + nq → (∀ j, j < np + nq → 0 ≤ S.at' R j ∧ S.at' R j < 1000000) → (∀ j, i + nq ≤ j → j < np + nq → S.at' R j = 0) →
    ∃ R' : List Int, R'.length = np + nq ∧ (∀ j, j < np + nq → 0 ≤ S.at' R' j ∧ S.at' R' j < 1000000) ∧ (∀ j, j < i → S.at' R' j = S.at' R j) ∧ S.valF (S.at' R') (i) (np + nq - (i)) = S.valF (S.at' R) (i) (np + nq - (i)) + S.valF (fun j => tp (j + ap)) i k * (S.val nq (fun j => tq (j + aq))) ∧ Comes (q52 ap np mp tp aq nq mq tq) (.h0 (i : Int) R) (S.trim R') := by
  have hp' := hp
  obtain ⟨⟨hp1, hp2⟩, ⟨hp3, hp4⟩, g1, g2⟩ := hp
  intro k
  induction k with
  | zero =>
    intro i R hi hR hd hz
    refine ⟨R, hR, hd, fun j _ => rfl, by simp only [S.valF]; rw [Int.zero_mul, Int.add_zero], ?_⟩
    rw [← trim_at]
    apply Comes.of
    show Goes _ _ _
    (first | rw [q52] | unfold q52)
    repeat' first
      | with_reducible refine goes_if (fun h => ?_) (fun h => ?_) <;> (try simp only [SH] at h)
      | exact goes_none.mpr (by omega)
    all_goals first | (exfalso; omega) | exact goes_inr.mpr rfl
  | succ k ih =>
    intro i R hi hR hd hz
    obtain ⟨R1, a1, a2, a3, a4, a5, a6⟩ := s52i ap np mp tp aq nq mq tq hp' i (by omega) nq 0 0 R (by omega) hR hd hz (by omega)
    obtain ⟨R', b1, b2, b3, b4, b5⟩ := ih (i + 1) R1 (by omega) a1 a2 (fun j h1 h2 => a3 j (by omega) h2)
    have vq : S.valF (fun j => tq (j + aq)) 0 nq = (S.val nq (fun j => tq (j + aq))) := rfl
    rw [vq, Nat.add_zero, Int.add_zero] at a5
    refine ⟨R', b1, b2, fun j hj => by rw [b3 j (by omega), a4 j (by omega)], ?_, ?_⟩
    · have e1 := b3 i (by omega)
      rw [show np + nq - i = (np + nq - (i + 1)) + 1 by omega] at a5 ⊢
      simp only [S.valF] at a5 ⊢
      rw [e1, b4, Int.add_mul, Int.mul_assoc]
      (try dsimp only)
      generalize tp (i + ap) * (S.val nq (fun j => tq (j + aq))) = w1 at *
      generalize S.valF (fun j => tp (j + ap)) (i + 1) k * (S.val nq (fun j => tq (j + aq))) = w2 at *
      generalize S.valF _ _ _ = w3 at *
      generalize S.valF _ _ _ = w4 at *
      omega
    · have a6 := a6 _ b5
      apply Comes.of
      show Goes _ _ _
      (first | rw [q52] | unfold q52)
      repeat' first
        | with_reducible refine goes_if (fun h => ?_) (fun h => ?_) <;> (try simp only [SH] at h)
        | exact goes_none.mpr (by omega)
      all_goals first | (exfalso; omega) | exact a6
theorem s52 (ap np mp : Nat) (tp : Nat → Int) (aq nq mq : Nat) (tq : Nat → Int) (hp : (ap + np ≤ mp ∧ aq + nq ≤ mq) ∧ (np ≤ 1000 ∧ nq ≤ 1000) ∧ S.okG np (fun j => tp (j + ap)) = true ∧ S.okG nq (fun j => tq (j + aq)) = true) : Goes ((q52 ap np mp tp aq nq mq tq)) ((p52 ap np mp tp aq nq mq tq)) (S.grp ((S.val np (fun j => tp (j + ap))) * (S.val nq (fun j => tq (j + aq))))) := by
  have hp' := hp
  obtain ⟨⟨hp1, hp2⟩, ⟨hp3, hp4⟩, g1, g2⟩ := hp
  by_cases h1 : np = 0
  · subst h1
    have e' : S.val 0 (fun j => tp (j + ap)) = 0 := rfl
    rw [e', Int.zero_mul, grp_zero]
    show Goes _ _ _
    unfold p52
    repeat' first
      | with_reducible refine goes_if (fun h => ?_) (fun h => ?_) <;> (try simp only [SH] at h)
      | exact goes_none.mpr (by omega)
    all_goals first | (exfalso; omega) | (exfalso; simp at *; done) | exact goes_inr.mpr rfl
  · by_cases h2 : nq = 0
    · subst h2
      have e' : S.val 0 (fun j => tq (j + aq)) = 0 := rfl
      rw [e', Int.mul_zero, grp_zero]
      show Goes _ _ _
      unfold p52
      repeat' first
        | with_reducible refine goes_if (fun h => ?_) (fun h => ?_) <;> (try simp only [SH] at h)
        | exact goes_none.mpr (by omega)
      all_goals first | (exfalso; omega) | (exfalso; simp at *; done) | exact goes_inr.mpr rfl
    · have z : ∀ j, j < np + nq → S.at' (S.mkl (np + nq) fun _ => (0 : Int)) j = 0 := fun j hj => at_mkl hj
      obtain ⟨R', r1, r2, r3, r4, r5⟩ := s52' ap np mp tp aq nq mq tq hp' np 0 (S.mkl (np + nq) fun _ => 0) (by omega) mkl_len (fun j hj => by rw [z j hj]; omega) (fun j _ hj => z j hj)
      have z2 : S.valF (S.at' (S.mkl (np + nq) fun _ => (0 : Int))) 0 (np + nq - 0) = 0 := by rw [valF_congr (u := fun _ => 0) fun j _ hj => z j (by omega)]; exact valF_zero
      have vp : S.valF (fun j => tp (j + ap)) 0 np = (S.val np (fun j => tp (j + ap))) := rfl
      rw [z2, vp, Int.zero_add, Nat.sub_zero] at r4
      have e : S.trim R' = S.grp ((S.val np (fun j => tp (j + ap))) * (S.val nq (fun j => tq (j + aq)))) := by
        rw [trim_grp fun x hx => by obtain ⟨j, hj, rfl⟩ := List.getElem_of_mem hx; have := r2 j (by omega); rw [at_lt hj] at this; exact this]
        rw [← val_at, r1]
        exact congrArg S.grp r4
      rw [e] at r5
      have en : ((np : Int) + nq).toNat = np + nq := by omega
      show Goes _ _ _
      unfold p52
      repeat' first
        | with_reducible refine goes_if (fun h => ?_) (fun h => ?_) <;> (try simp only [SH, en] at h)
        | exact goes_none.mpr (by omega)
      all_goals first | (exfalso; omega) | (exfalso; simp at *; omega) | (rw [en]; exact r5)
theorem k52_ok  : k52.ok Tryd.prog := by
  intro x hx
  obtain ⟨⟨ap, np, mp, tp, _⟩, ⟨aq, nq, mq, tq, _⟩, _⟩ := x
  obtain ⟨h1, h2⟩ := a52 ap np mp tp aq nq mq tq (s52 ap np mp tp aq nq mq tq (of_dec hx rfl))
  exact ⟨⟨400, (by decide : 2 + 1 + 1 ≤ 400), h1⟩, h2⟩
inductive St53 where
  | h0 (x0 : Int) (x1 : List Int)
  | h1 (x0 : Int) (x1 : Int) (x2 : Int) (x3 : List Int)
abbrev Rt53  := List Int
noncomputable def V53 (ap np mp : Nat) (tp : Nat → Int) (aq nq mq : Nat) (tq : Nat → Int) (r : Rt53) : PV := PV.own (3) (1) (List.length r)
noncomputable def N53 (ap np mp : Nat) (tp : Nat → Int) (aq nq mq : Nat) (tq : Nat → Int) (r : Rt53) : List Blk := [Blk.cols (List.length r) [Col.int IntKind.i64 fun j => S.at' r j]]
noncomputable def I53 (ap np mp : Nat) (tp : Nat → Int) (aq nq mq : Nat) (tq : Nat → Int) : St53 → Hd
  | .h0 x0 x1 => ⟨hd Tryd.f53 0, [PV.loose (PA.mk (0) (1) ap (0)) np,
 PV.loose (PA.mk (1) (1) aq (0)) nq,
 PV.own (2) (1) (List.length x1), PV.int IntKind.i64 x0, PV.unk, PV.unk], [[(2, (true, Blk.cols (List.length x1) [Col.int IntKind.i64 fun j => S.at' x1 j]))], [(0, (false, .cols mp [.int .i64 tp])), (1, (false, .cols mq [.int .i64 tq]))]], 3⟩
  | .h1 x0 x1 x2 x3 => ⟨hd Tryd.f53 1, [PV.loose (PA.mk (0) (1) ap (0)) np,
 PV.loose (PA.mk (1) (1) aq (0)) nq,
 PV.own (2) (1) (List.length x3), PV.int IntKind.i64 x0, PV.int IntKind.i64 x1,
 PV.int IntKind.i64 x2], [[(2, (true, Blk.cols (List.length x3) [Col.int IntKind.i64 fun j => S.at' x3 j]))], [(0, (false, .cols mp [.int .i64 tp])), (1, (false, .cols mq [.int .i64 tq]))]], 3⟩
noncomputable def q53 (ap np mp : Nat) (tp : Nat → Int) (aq nq mq : Nat) (tq : Nat → Int) : St53 → Option (St53 ⊕ Rt53)
  | .h0 x0 x1 => bif (decide (x0 < (↑np : Int)))
 then (some (.inl (.h1 (x0) ((0 : Int)) ((0 : Int)) (x1))))
 else (bif (decide (List.length x1 ≤ List.length x1))
 then (bif (decide (List.length x1 ≤ 1000000))
 then (some (.inr (S.trim (S.mkl (List.length x1) fun j => S.at' x1 j))))
 else (none))
 else (none))
  | .h1 x0 x1 x2 x3 => bif (decide (x2 < (↑nq : Int)))
 then (bif (lim IntKind.i64 (x0 + x2))
 then (bif (decide ((0 : Int) ≤ x0 + x2 ∧ x0 + x2 < (↑(List.length x3) : Int)))
 then (bif (decide (Int.toNat (x0 + x2) < List.length x3))
 then (bif (decide ((0 : Int) ≤ x0 ∧ x0 < (↑np : Int)))
 then (bif (decide (Int.toNat x0 + ap < mp))
 then (bif (decide ((0 : Int) ≤ x2 ∧ x2 < (↑nq : Int)))
 then (bif (decide (Int.toNat x2 + aq < mq))
 then (bif (lim IntKind.i64 (tp (Int.toNat x0 + ap) * tq (Int.toNat x2 + aq)))
 then (bif (lim IntKind.i64 (S.at' x3 (Int.toNat (x0 + x2)) + tp (Int.toNat x0 + ap) * tq (Int.toNat x2 + aq)))
 then (bif (lim IntKind.i64 (S.at' x3 (Int.toNat (x0 + x2)) + tp (Int.toNat x0 + ap) * tq (Int.toNat x2 + aq) + x1))
 then (bif (lim IntKind.i64
 (Int.tdiv (S.at' x3 (Int.toNat (x0 + x2)) + tp (Int.toNat x0 + ap) * tq (Int.toNat x2 + aq) + x1)
 (1000000 : Int)))
 then (bif (lim IntKind.i64 (x2 + (1 : Int)))
 then (some (.inl (.h1 (x0) (Int.tdiv (S.at' x3 (Int.toNat (x0 + x2)) + tp (Int.toNat x0 + ap) * tq (Int.toNat x2 + aq) + x1) (1000000 : Int)) (x2 + (1 : Int)) (S.mkl (List.length x3) fun j =>
 bif Nat.beq j (Int.toNat (x0 + x2)) then
 Int.tmod (S.at' x3 (Int.toNat (x0 + x2)) + tp (Int.toNat x0 + ap) * tq (Int.toNat x2 + aq) + x1)
 (1000000 : Int)
 else S.at' x3 j))))
 else (none))
 else (none))
 else (none))
 else (none))
 else (none))
 else (none))
 else (none))
 else (none))
 else (none))
 else (none))
 else (none))
 else (none))
 else (bif (decide (x1 > (0 : Int)))
 then (bif (lim IntKind.i64 (x0 + x2))
 then (bif (decide ((0 : Int) ≤ x0 + x2 ∧ x0 + x2 < (↑(List.length x3) : Int)))
 then (bif (decide (Int.toNat (x0 + x2) < List.length x3))
 then (bif (decide ((0 : Int) ≤ x0 ∧ x0 < (↑np : Int)))
 then (bif (decide (Int.toNat x0 + ap < mp))
 then (bif (lim IntKind.i64 (tp (Int.toNat x0 + ap) * (0 : Int)))
 then (bif (lim IntKind.i64 (S.at' x3 (Int.toNat (x0 + x2)) + tp (Int.toNat x0 + ap) * (0 : Int)))
 then (bif (lim IntKind.i64 (S.at' x3 (Int.toNat (x0 + x2)) + tp (Int.toNat x0 + ap) * (0 : Int) + x1))
 then (bif (lim IntKind.i64
 (Int.tdiv (S.at' x3 (Int.toNat (x0 + x2)) + tp (Int.toNat x0 + ap) * (0 : Int) + x1) (1000000 : Int)))
 then (bif (lim IntKind.i64 (x2 + (1 : Int)))
 then (some (.inl (.h1 (x0) (Int.tdiv (S.at' x3 (Int.toNat (x0 + x2)) + tp (Int.toNat x0 + ap) * (0 : Int) + x1) (1000000 : Int)) (x2 + (1 : Int)) (S.mkl (List.length x3) fun j =>
 bif Nat.beq j (Int.toNat (x0 + x2)) then
 Int.tmod (S.at' x3 (Int.toNat (x0 + x2)) + tp (Int.toNat x0 + ap) * (0 : Int) + x1) (1000000 : Int)
 else S.at' x3 j))))
 else (none))
 else (none))
 else (none))
 else (none))
 else (none))
 else (none))
 else (none))
 else (none))
 else (none))
 else (none))
 else (bif (lim IntKind.i64 (x0 + (1 : Int)))
 then (some (.inl (.h0 (x0 + (1 : Int)) (x3))))
 else (none)))
noncomputable def p53 (ap np mp : Nat) (tp : Nat → Int) (aq nq mq : Nat) (tq : Nat → Int) : Option (St53 ⊕ Rt53) := bif (lim IntKind.i64 ((↑np : Int) + (↑nq : Int)))
 then (bif (lim IntKind.i64 ((↑np : Int) + (↑nq : Int) + (1 : Int)))
 then (bif (decide
 ((0 : Int) ≤ (↑np : Int) + (↑nq : Int) + (1 : Int) ∧
 (↑np : Int) + (↑nq : Int) + (1 : Int) ≤ (↑np : Int) + (↑nq : Int) + (1 : Int) ∧
 (↑np : Int) + (↑nq : Int) + (1 : Int) ≤ (1000000 : Int)))
 then (some (.inl (.h0 ((0 : Int)) (S.mkl (Int.toNat ((↑np : Int) + (↑nq : Int) + (1 : Int))) fun j => (0 : Int)))))
 else (none))
 else (none))
 else (none)
noncomputable def Te53 (test : Bool → Prop → Prop → Prop) (Kst : KS) (Kret : KR) (ap np mp : Nat) (tp : Nat → Int) (aq nq mq : Nat) (tq : Nat → Int) : Prop :=
  test (lim IntKind.i64 ((↑np : Int) + (↑nq : Int)))
 (test (lim IntKind.i64 ((↑np : Int) + (↑nq : Int) + (1 : Int)))
 (test (decide
 ((0 : Int) ≤ (↑np : Int) + (↑nq : Int) + (1 : Int) ∧
 (↑np : Int) + (↑nq : Int) + (1 : Int) ≤ (↑np : Int) + (↑nq : Int) + (1 : Int) ∧
 (↑np : Int) + (↑nq : Int) + (1 : Int) ≤ (1000000 : Int)))
 (Kst (hd Tryd.f53 0) ([PV.loose (PA.mk (0) (1) ap (0)) np,
 PV.loose (PA.mk (1) (1) aq (0)) nq,
 PV.own (2) (1) (Int.toNat ((↑np : Int) + (↑nq : Int) + (1 : Int))),
 PV.int IntKind.i64 (0 : Int), PV.unk, PV.unk]) ([[(1, false, Blk.cols mq [Col.int IntKind.i64 tq]),
 (0, false, Blk.cols mp [Col.int IntKind.i64 tp]),
 (2, true,
 Blk.cols (Int.toNat ((↑np : Int) + (↑nq : Int) + (1 : Int)))
 [Col.int IntKind.i64 fun (x : Nat) => (0 : Int)])]]) (3))
 (False))
 (False))
 (False)
theorem te53 (test : Bool → Prop → Prop → Prop) (Kst : KS) (Kret : KR) (ap np mp : Nat) (tp : Nat → Int) (aq nq mq : Nat) (tq : Nat → Int) : run test Tryd.env true (xD test) true 400 ⟨53, [.cd (mkFn Tryd.f53).body], argT 0 [.loose ⟨0, 1, ap, 0⟩ np, .loose ⟨1, 1, aq, 0⟩ nq], [[], [(0, (false, .cols mp [.int .i64 tp])), (1, (false, .cols mq [.int .i64 tq]))]], 2⟩ (proj 2 [0, 1, 5, 6, 7, 8] Kst Kret) =
  Te53 test Kst Kret ap np mp tp aq nq mq tq := by kernel_rfl
noncomputable def T53_0 (test : Bool → Prop → Prop → Prop) (Kst : KS) (Kret : KR) (ap np mp : Nat) (tp : Nat → Int) (aq nq mq : Nat) (tq : Nat → Int) (x0 : Int) (x1 : List Int) : Prop :=
  test (decide (x0 < (↑np : Int)))
 (Kst (hd Tryd.f53 1) ([PV.loose (PA.mk (0) (1) ap (0)) np,
 PV.loose (PA.mk (1) (1) aq (0)) nq,
 PV.own (2) (1) (List.length x1), PV.int IntKind.i64 x0,
 PV.int IntKind.i64 (0 : Int), PV.int IntKind.i64 (0 : Int)]) ([[(1, false, Blk.cols mq [Col.int IntKind.i64 tq]),
 (0, false, Blk.cols mp [Col.int IntKind.i64 tp]),
 (2, true,
 Blk.cols (List.length x1) [Col.int IntKind.i64 fun j => S.at' x1 j])]]) (3))
 (test (decide (List.length x1 ≤ List.length x1))
 (test (decide (List.length x1 ≤ 1000000))
 (Kret (PV.own (2) (1)
 (List.length (S.trim (S.mkl (List.length x1) fun j => S.at' x1 j)))) ([[(1, false, Blk.cols mq [Col.int IntKind.i64 tq]),
 (0, false, Blk.cols mp [Col.int IntKind.i64 tp]),
 (2, true,
 Blk.cols (List.length (S.trim (S.mkl (List.length x1) fun j => S.at' x1 j)))
 [Col.int IntKind.i64 fun j =>
 S.at' (S.trim (S.mkl (List.length x1) fun j => S.at' x1 j)) j])]]) (4))
 (False))
 (False))
theorem t53_0 (test : Bool → Prop → Prop → Prop) (Kst : KS) (Kret : KR) (ap np mp : Nat) (tp : Nat → Int) (aq nq mq : Nat) (tq : Nat → Int) (x0 : Int) (x1 : List Int) : run test Tryd.env true (xD test) true 400 ⟨53, hd Tryd.f53 0, zipT [0, 1, 5, 6, 7, 8] [PV.loose (PA.mk (0) (1) ap (0)) np,
 PV.loose (PA.mk (1) (1) aq (0)) nq,
 PV.own (2) (1) (List.length x1), PV.int IntKind.i64 x0, PV.unk, PV.unk], [[(2, (true, Blk.cols (List.length x1) [Col.int IntKind.i64 fun j => S.at' x1 j]))], [(0, (false, .cols mp [.int .i64 tp])), (1, (false, .cols mq [.int .i64 tq]))]], 3⟩ (proj 2 [0, 1, 5, 6, 7, 8] Kst Kret) =
  T53_0 test Kst Kret ap np mp tp aq nq mq tq x0 x1 := by kernel_rfl
noncomputable def T53_1 (test : Bool → Prop → Prop → Prop) (Kst : KS) (Kret : KR) (ap np mp : Nat) (tp : Nat → Int) (aq nq mq : Nat) (tq : Nat → Int) (x0 x1 x2 : Int) (x3 : List Int) : Prop :=
  test (decide (x2 < (↑nq : Int)))
 (test (lim IntKind.i64 (x0 + x2))
 (test (decide ((0 : Int) ≤ x0 + x2 ∧ x0 + x2 < (↑(List.length x3) : Int)))
 (test (decide (Int.toNat (x0 + x2) < List.length x3))
 (test (decide ((0 : Int) ≤ x0 ∧ x0 < (↑np : Int)))
 (test (decide (Int.toNat x0 + ap < mp))
 (test (decide (x2 < (↑nq : Int)))
 (test (decide ((0 : Int) ≤ x2 ∧ x2 < (↑nq : Int)))
 (test (decide (Int.toNat x2 + aq < mq))
 (test (lim IntKind.i64 (tp (Int.toNat x0 + ap) * tq (Int.toNat x2 + aq)))
 (test (lim IntKind.i64 (S.at' x3 (Int.toNat (x0 + x2)) + tp (Int.toNat x0 + ap) * tq (Int.toNat x2 + aq)))
 (test (lim IntKind.i64 (S.at' x3 (Int.toNat (x0 + x2)) + tp (Int.toNat x0 + ap) * tq (Int.toNat x2 + aq) + x1))
 (test (lim IntKind.i64 (x0 + x2))
 (test (false)
 (False)
 (test (decide ((0 : Int) ≤ x0 + x2 ∧ x0 + x2 < (↑(List.length x3) : Int)))
 (test (decide (Int.toNat (x0 + x2) < List.length x3))
 (test (false)
 (False)
 (test (lim IntKind.i64
 (Int.tdiv (S.at' x3 (Int.toNat (x0 + x2)) + tp (Int.toNat x0 + ap) * tq (Int.toNat x2 + aq) + x1)
 (1000000 : Int)))
 (test (lim IntKind.i64 (x2 + (1 : Int)))
 (Kst (hd Tryd.f53 1) ([PV.loose (PA.mk (0) (1) ap (0)) np,
 PV.loose (PA.mk (1) (1) aq (0)) nq,
 PV.own (2) (1) (List.length x3), PV.int IntKind.i64 x0,
 PV.int IntKind.i64
 (Int.tdiv (S.at' x3 (Int.toNat (x0 + x2)) + tp (Int.toNat x0 + ap) * tq (Int.toNat x2 + aq) + x1)
 (1000000 : Int)),
 PV.int IntKind.i64 (x2 + (1 : Int))]) ([[(1, false, Blk.cols mq [Col.int IntKind.i64 tq]),
 (0, false, Blk.cols mp [Col.int IntKind.i64 tp]),
 (2, true,
 Blk.cols (List.length x3)
 [Col.int IntKind.i64 fun j =>
 bif Nat.beq j (Int.toNat (x0 + x2)) then
 Int.tmod (S.at' x3 (Int.toNat (x0 + x2)) + tp (Int.toNat x0 + ap) * tq (Int.toNat x2 + aq) + x1)
 (1000000 : Int)
 else S.at' x3 j])]]) (3))
 (False))
 (False)))
 (False))
 (False)))
 (False))
 (False))
 (False))
 (False))
 (False))
 (False))
 (test (lim IntKind.i64 (tp (Int.toNat x0 + ap) * (0 : Int)))
 (test (lim IntKind.i64 (S.at' x3 (Int.toNat (x0 + x2)) + tp (Int.toNat x0 + ap) * (0 : Int)))
 (test (lim IntKind.i64 (S.at' x3 (Int.toNat (x0 + x2)) + tp (Int.toNat x0 + ap) * (0 : Int) + x1))
 (test (lim IntKind.i64 (x0 + x2))
 (test (false)
 (False)
 (test (decide ((0 : Int) ≤ x0 + x2 ∧ x0 + x2 < (↑(List.length x3) : Int)))
 (test (decide (Int.toNat (x0 + x2) < List.length x3))
 (test (false)
 (False)
 (test (lim IntKind.i64
 (Int.tdiv (S.at' x3 (Int.toNat (x0 + x2)) + tp (Int.toNat x0 + ap) * (0 : Int) + x1) (1000000 : Int)))
 (test (lim IntKind.i64 (x2 + (1 : Int)))
 (Kst (hd Tryd.f53 1) ([PV.loose (PA.mk (0) (1) ap (0)) np,
 PV.loose (PA.mk (1) (1) aq (0)) nq,
 PV.own (2) (1) (List.length x3), PV.int IntKind.i64 x0,
 PV.int IntKind.i64
 (Int.tdiv (S.at' x3 (Int.toNat (x0 + x2)) + tp (Int.toNat x0 + ap) * (0 : Int) + x1) (1000000 : Int)),
 PV.int IntKind.i64 (x2 + (1 : Int))]) ([[(1, false, Blk.cols mq [Col.int IntKind.i64 tq]),
 (0, false, Blk.cols mp [Col.int IntKind.i64 tp]),
 (2, true,
 Blk.cols (List.length x3)
 [Col.int IntKind.i64 fun j =>
 bif Nat.beq j (Int.toNat (x0 + x2)) then
 Int.tmod (S.at' x3 (Int.toNat (x0 + x2)) + tp (Int.toNat x0 + ap) * (0 : Int) + x1) (1000000 : Int)
 else S.at' x3 j])]]) (3))
 (False))
 (False)))
 (False))
 (False)))
 (False))
 (False))
 (False))
 (False)))
 (False))
 (False))
 (False))
 (False))
 (False))
 (test (decide (x1 > (0 : Int)))
 (test (lim IntKind.i64 (x0 + x2))
 (test (decide ((0 : Int) ≤ x0 + x2 ∧ x0 + x2 < (↑(List.length x3) : Int)))
 (test (decide (Int.toNat (x0 + x2) < List.length x3))
 (test (decide ((0 : Int) ≤ x0 ∧ x0 < (↑np : Int)))
 (test (decide (Int.toNat x0 + ap < mp))
 (test (decide (x2 < (↑nq : Int)))
 (test (decide ((0 : Int) ≤ x2 ∧ x2 < (↑nq : Int)))
 (test (decide (Int.toNat x2 + aq < mq))
 (test (lim IntKind.i64 (tp (Int.toNat x0 + ap) * tq (Int.toNat x2 + aq)))
 (test (lim IntKind.i64 (S.at' x3 (Int.toNat (x0 + x2)) + tp (Int.toNat x0 + ap) * tq (Int.toNat x2 + aq)))
 (test (lim IntKind.i64 (S.at' x3 (Int.toNat (x0 + x2)) + tp (Int.toNat x0 + ap) * tq (Int.toNat x2 + aq) + x1))
 (test (lim IntKind.i64 (x0 + x2))
 (test (false)
 (False)
 (test (decide ((0 : Int) ≤ x0 + x2 ∧ x0 + x2 < (↑(List.length x3) : Int)))
 (test (decide (Int.toNat (x0 + x2) < List.length x3))
 (test (false)
 (False)
 (test (lim IntKind.i64
 (Int.tdiv (S.at' x3 (Int.toNat (x0 + x2)) + tp (Int.toNat x0 + ap) * tq (Int.toNat x2 + aq) + x1)
 (1000000 : Int)))
 (test (lim IntKind.i64 (x2 + (1 : Int)))
 (Kst (hd Tryd.f53 1) ([PV.loose (PA.mk (0) (1) ap (0)) np,
 PV.loose (PA.mk (1) (1) aq (0)) nq,
 PV.own (2) (1) (List.length x3), PV.int IntKind.i64 x0,
 PV.int IntKind.i64
 (Int.tdiv (S.at' x3 (Int.toNat (x0 + x2)) + tp (Int.toNat x0 + ap) * tq (Int.toNat x2 + aq) + x1)
 (1000000 : Int)),
 PV.int IntKind.i64 (x2 + (1 : Int))]) ([[(1, false, Blk.cols mq [Col.int IntKind.i64 tq]),
 (0, false, Blk.cols mp [Col.int IntKind.i64 tp]),
 (2, true,
 Blk.cols (List.length x3)
 [Col.int IntKind.i64 fun j =>
 bif Nat.beq j (Int.toNat (x0 + x2)) then
 Int.tmod (S.at' x3 (Int.toNat (x0 + x2)) + tp (Int.toNat x0 + ap) * tq (Int.toNat x2 + aq) + x1)
 (1000000 : Int)
 else S.at' x3 j])]]) (3))
 (False))
 (False)))
 (False))
 (False)))
 (False))
 (False))
 (False))
 (False))
 (False))
 (False))
 (test (lim IntKind.i64 (tp (Int.toNat x0 + ap) * (0 : Int)))
 (test (lim IntKind.i64 (S.at' x3 (Int.toNat (x0 + x2)) + tp (Int.toNat x0 + ap) * (0 : Int)))
 (test (lim IntKind.i64 (S.at' x3 (Int.toNat (x0 + x2)) + tp (Int.toNat x0 + ap) * (0 : Int) + x1))
 (test (lim IntKind.i64 (x0 + x2))
 (test (false)
 (False)
 (test (decide ((0 : Int) ≤ x0 + x2 ∧ x0 + x2 < (↑(List.length x3) : Int)))
 (test (decide (Int.toNat (x0 + x2) < List.length x3))
 (test (false)
 (False)
 (test (lim IntKind.i64
 (Int.tdiv (S.at' x3 (Int.toNat (x0 + x2)) + tp (Int.toNat x0 + ap) * (0 : Int) + x1) (1000000 : Int)))
 (test (lim IntKind.i64 (x2 + (1 : Int)))
 (Kst (hd Tryd.f53 1) ([PV.loose (PA.mk (0) (1) ap (0)) np,
 PV.loose (PA.mk (1) (1) aq (0)) nq,
 PV.own (2) (1) (List.length x3), PV.int IntKind.i64 x0,
 PV.int IntKind.i64
 (Int.tdiv (S.at' x3 (Int.toNat (x0 + x2)) + tp (Int.toNat x0 + ap) * (0 : Int) + x1) (1000000 : Int)),
 PV.int IntKind.i64 (x2 + (1 : Int))]) ([[(1, false, Blk.cols mq [Col.int IntKind.i64 tq]),
 (0, false, Blk.cols mp [Col.int IntKind.i64 tp]),
 (2, true,
 Blk.cols (List.length x3)
 [Col.int IntKind.i64 fun j =>
 bif Nat.beq j (Int.toNat (x0 + x2)) then
 Int.tmod (S.at' x3 (Int.toNat (x0 + x2)) + tp (Int.toNat x0 + ap) * (0 : Int) + x1) (1000000 : Int)
 else S.at' x3 j])]]) (3))
 (False))
 (False)))
 (False))
 (False)))
 (False))
 (False))
 (False))
 (False)))
 (False))
 (False))
 (False))
 (False))
 (False))
 (test (lim IntKind.i64 (x0 + (1 : Int)))
 (Kst (hd Tryd.f53 0) ([PV.loose (PA.mk (0) (1) ap (0)) np,
 PV.loose (PA.mk (1) (1) aq (0)) nq,
 PV.own (2) (1) (List.length x3), PV.int IntKind.i64 (x0 + (1 : Int)),
 PV.int IntKind.i64 x1, PV.int IntKind.i64 x2]) ([[(1, false, Blk.cols mq [Col.int IntKind.i64 tq]),
 (0, false, Blk.cols mp [Col.int IntKind.i64 tp]),
 (2, true,
 Blk.cols (List.length x3) [Col.int IntKind.i64 fun j => S.at' x3 j])]]) (3))
 (False)))
theorem t53_1 (test : Bool → Prop → Prop → Prop) (Kst : KS) (Kret : KR) (ap np mp : Nat) (tp : Nat → Int) (aq nq mq : Nat) (tq : Nat → Int) (x0 x1 x2 : Int) (x3 : List Int) : run test Tryd.env true (xD test) true 400 ⟨53, hd Tryd.f53 1, zipT [0, 1, 5, 6, 7, 8] [PV.loose (PA.mk (0) (1) ap (0)) np,
 PV.loose (PA.mk (1) (1) aq (0)) nq,
 PV.own (2) (1) (List.length x3), PV.int IntKind.i64 x0, PV.int IntKind.i64 x1,
 PV.int IntKind.i64 x2], [[(2, (true, Blk.cols (List.length x3) [Col.int IntKind.i64 fun j => S.at' x3 j]))], [(0, (false, .cols mp [.int .i64 tp])), (1, (false, .cols mq [.int .i64 tq]))]], 3⟩ (proj 2 [0, 1, 5, 6, 7, 8] Kst Kret) =
  T53_1 test Kst Kret ap np mp tp aq nq mq tq x0 x1 x2 x3 := by kernel_rfl
attribute [local irreducible] Int.subNatNat in
theorem be53 (ap np mp : Nat) (tp : Nat → Int) (aq nq mq : Nat) (tq : Nat → Int) (Kst : KS) (Kret : KR) (x : St53 ⊕ Rt53) (hS : HS 2 400 ((I53 ap np mp tp aq nq mq tq)) Kst x) (hR : HR 2 400 ((V53 ap np mp tp aq nq mq tq)) (fun r => [newL (2 + 1) ((N53 ap np mp tp aq nq mq tq) r) ++ [(0, (false, .cols mp [.int .i64 tp])), (1, (false, .cols mq [.int .i64 tq]))]]) Kret x) (h : p53 ap np mp tp aq nq mq tq = some x) : Te53 cond Kst Kret ap np mp tp aq nq mq tq := by
  unfold Te53
  unfold p53 at h
  refine bif_split h
   (fun c0 h => bif_split h
   (fun c1 h => bif_split h
   (fun c2 h => stop_at hS _ h (fun n => bif Nat.beq n 2 then 2 else n) rfl rfl rfl ⟨(rn_loose (use_lo rfl) rfl rfl rfl), ⟨(rn_loose (use_lo rfl) rfl rfl rfl), ⟨(rn_own (use_own rfl) rfl mkl_len), ⟨(rn_int rfl), ⟨(rn_unk _), ⟨(rn_unk _), trivial⟩⟩⟩⟩⟩⟩ rfl (entl_new (use_own rfl) rfl (Nat.le_of_eq mkl_len) (rcs_int (fun _ hj => col_mkl (fun (t : Int) => t) hj) rcs_nil) (entl_bor (use_lo rfl) rfl rfl (entl_bor (use_lo rfl) rfl rfl entl_nil))))
   (fun c2 h => no_some h))
   (fun c1 h => no_some h))
   (fun c0 h => no_some h)
attribute [local irreducible] Int.subNatNat in
theorem b53_0 (ap np mp : Nat) (tp : Nat → Int) (aq nq mq : Nat) (tq : Nat → Int) (Kst : KS) (Kret : KR) (x : St53 ⊕ Rt53) (hS : HS 2 400 ((I53 ap np mp tp aq nq mq tq)) Kst x) (hR : HR 2 400 ((V53 ap np mp tp aq nq mq tq)) (fun r => [newL (2 + 1) ((N53 ap np mp tp aq nq mq tq) r) ++ [(0, (false, .cols mp [.int .i64 tp])), (1, (false, .cols mq [.int .i64 tq]))]]) Kret x) (x0 : Int) (x1 : List Int) (h : (bif (decide (x0 < (↑np : Int)))
 then (some (.inl (.h1 (x0) ((0 : Int)) ((0 : Int)) (x1))))
 else (bif (decide (List.length x1 ≤ List.length x1))
 then (bif (decide (List.length x1 ≤ 1000000))
 then (some (.inr (S.trim (S.mkl (List.length x1) fun j => S.at' x1 j))))
 else (none))
 else (none)) : Option (St53 ⊕ Rt53)) = some x) : T53_0 cond Kst Kret ap np mp tp aq nq mq tq x0 x1 := by
  unfold T53_0
  exact bif_split h
   (fun c0 h => stop_at hS _ h (fun n => bif Nat.beq n 2 then 2 else n) rfl rfl rfl ⟨(rn_loose (use_lo rfl) rfl rfl rfl), ⟨(rn_loose (use_lo rfl) rfl rfl rfl), ⟨(rn_own (use_own rfl) rfl rfl), ⟨(rn_int rfl), ⟨(rn_int rfl), ⟨(rn_int rfl), trivial⟩⟩⟩⟩⟩⟩ rfl (entl_new (use_own rfl) rfl (Nat.le_of_eq rfl) (rcs_int (fun _ _ => rfl) rcs_nil) (entl_bor (use_lo rfl) rfl rfl (entl_bor (use_lo rfl) rfl rfl entl_nil))))
   (fun c0 h => bif_split h
   (fun c1 h => bif_split h
   (fun c2 h => ret_at hR _ h (fun n => bif Nat.beq n 3 then 2 else n) rfl rfl rfl (rn_own (use_own rfl) rfl rfl) rfl (entl_new (use_own rfl) rfl (Nat.le_of_eq rfl) (rcs_int (fun _ _ => rfl) rcs_nil) (entl_bor (use_lo rfl) rfl rfl (entl_bor (use_lo rfl) rfl rfl entl_nil))))
   (fun c2 h => no_some h))
   (fun c1 h => no_some h))
attribute [local irreducible] Int.subNatNat in
theorem b53_1 (ap np mp : Nat) (tp : Nat → Int) (aq nq mq : Nat) (tq : Nat → Int) (Kst : KS) (Kret : KR) (x : St53 ⊕ Rt53) (hS : HS 2 400 ((I53 ap np mp tp aq nq mq tq)) Kst x) (hR : HR 2 400 ((V53 ap np mp tp aq nq mq tq)) (fun r => [newL (2 + 1) ((N53 ap np mp tp aq nq mq tq) r) ++ [(0, (false, .cols mp [.int .i64 tp])), (1, (false, .cols mq [.int .i64 tq]))]]) Kret x) (x0 x1 x2 : Int) (x3 : List Int) (h : (bif (decide (x2 < (↑nq : Int)))
 then (bif (lim IntKind.i64 (x0 + x2))
 then (bif (decide ((0 : Int) ≤ x0 + x2 ∧ x0 + x2 < (↑(List.length x3) : Int)))
 then (bif (decide (Int.toNat (x0 + x2) < List.length x3))
 then (bif (decide ((0 : Int) ≤ x0 ∧ x0 < (↑np : Int)))
 then (bif (decide (Int.toNat x0 + ap < mp))
 then (bif (decide ((0 : Int) ≤ x2 ∧ x2 < (↑nq : Int)))
 then (bif (decide (Int.toNat x2 + aq < mq))
 then (bif (lim IntKind.i64 (tp (Int.toNat x0 + ap) * tq (Int.toNat x2 + aq)))
 then (bif (lim IntKind.i64 (S.at' x3 (Int.toNat (x0 + x2)) + tp (Int.toNat x0 + ap) * tq (Int.toNat x2 + aq)))
 then (bif (lim IntKind.i64 (S.at' x3 (Int.toNat (x0 + x2)) + tp (Int.toNat x0 + ap) * tq (Int.toNat x2 + aq) + x1))
 then (bif (lim IntKind.i64
 (Int.tdiv (S.at' x3 (Int.toNat (x0 + x2)) + tp (Int.toNat x0 + ap) * tq (Int.toNat x2 + aq) + x1)
 (1000000 : Int)))
 then (bif (lim IntKind.i64 (x2 + (1 : Int)))
 then (some (.inl (.h1 (x0) (Int.tdiv (S.at' x3 (Int.toNat (x0 + x2)) + tp (Int.toNat x0 + ap) * tq (Int.toNat x2 + aq) + x1) (1000000 : Int)) (x2 + (1 : Int)) (S.mkl (List.length x3) fun j =>
 bif Nat.beq j (Int.toNat (x0 + x2)) then
 Int.tmod (S.at' x3 (Int.toNat (x0 + x2)) + tp (Int.toNat x0 + ap) * tq (Int.toNat x2 + aq) + x1)
 (1000000 : Int)
 else S.at' x3 j))))
 else (none))
 else (none))
 else (none))
 else (none))
 else (none))
 else (none))
 else (none))
 else (none))
 else (none))
 else (none))
 else (none))
 else (none))
 else (bif (decide (x1 > (0 : Int)))
 then (bif (lim IntKind.i64 (x0 + x2))
 then (bif (decide ((0 : Int) ≤ x0 + x2 ∧ x0 + x2 < (↑(List.length x3) : Int)))
 then (bif (decide (Int.toNat (x0 + x2) < List.length x3))
 then (bif (decide ((0 : Int) ≤ x0 ∧ x0 < (↑np : Int)))
 then (bif (decide (Int.toNat x0 + ap < mp))
 then (bif (lim IntKind.i64 (tp (Int.toNat x0 + ap) * (0 : Int)))
 then (bif (lim IntKind.i64 (S.at' x3 (Int.toNat (x0 + x2)) + tp (Int.toNat x0 + ap) * (0 : Int)))
 then (bif (lim IntKind.i64 (S.at' x3 (Int.toNat (x0 + x2)) + tp (Int.toNat x0 + ap) * (0 : Int) + x1))
 then (bif (lim IntKind.i64
 (Int.tdiv (S.at' x3 (Int.toNat (x0 + x2)) + tp (Int.toNat x0 + ap) * (0 : Int) + x1) (1000000 : Int)))
 then (bif (lim IntKind.i64 (x2 + (1 : Int)))
 then (some (.inl (.h1 (x0) (Int.tdiv (S.at' x3 (Int.toNat (x0 + x2)) + tp (Int.toNat x0 + ap) * (0 : Int) + x1) (1000000 : Int)) (x2 + (1 : Int)) (S.mkl (List.length x3) fun j =>
 bif Nat.beq j (Int.toNat (x0 + x2)) then
 Int.tmod (S.at' x3 (Int.toNat (x0 + x2)) + tp (Int.toNat x0 + ap) * (0 : Int) + x1) (1000000 : Int)
 else S.at' x3 j))))
 else (none))
 else (none))
 else (none))
 else (none))
 else (none))
 else (none))
 else (none))
 else (none))
 else (none))
 else (none))
 else (bif (lim IntKind.i64 (x0 + (1 : Int)))
 then (some (.inl (.h0 (x0 + (1 : Int)) (x3))))
 else (none))) : Option (St53 ⊕ Rt53)) = some x) : T53_1 cond Kst Kret ap np mp tp aq nq mq tq x0 x1 x2 x3 := by
  unfold T53_1
  refine bif_split h
   (fun c0 h => bif_split h
   (fun c1 h => bif_split h
   (fun c2 h => bif_split h
   (fun c3 h => bif_split h
   (fun c4 h => bif_split h
   (fun c5 h => cond_yes c0 (bif_split h
   (fun c6 h => bif_split h
   (fun c7 h => bif_split h
   (fun c8 h => bif_split h
   (fun c9 h => bif_split h
   (fun c10 h => cond_yes c1 (cond_no rfl (cond_yes c2 (cond_yes c3 (cond_no rfl (bif_split h
   (fun c11 h => bif_split h
   (fun c12 h => ?_)
   (fun c12 h => ?_))
   (fun c11 h => ?_)))))))
   (fun c10 h => ?_))
   (fun c9 h => ?_))
   (fun c8 h => ?_))
   (fun c7 h => ?_))
   (fun c6 h => ?_)))
   (fun c5 h => ?_))
   (fun c4 h => ?_))
   (fun c3 h => ?_))
   (fun c2 h => ?_))
   (fun c1 h => ?_))
   (fun c0 h => bif_split h
   (fun c1 h => bif_split h
   (fun c2 h => bif_split h
   (fun c3 h => bif_split h
   (fun c4 h => bif_split h
   (fun c5 h => bif_split h
   (fun c6 h => cond_no c0 (bif_split h
   (fun c7 h => bif_split h
   (fun c8 h => bif_split h
   (fun c9 h => cond_yes c2 (cond_no rfl (cond_yes c3 (cond_yes c4 (cond_no rfl (bif_split h
   (fun c10 h => bif_split h
   (fun c11 h => ?_)
   (fun c11 h => ?_))
   (fun c10 h => ?_)))))))
   (fun c9 h => ?_))
   (fun c8 h => ?_))
   (fun c7 h => ?_)))
   (fun c6 h => ?_))
   (fun c5 h => ?_))
   (fun c4 h => ?_))
   (fun c3 h => ?_))
   (fun c2 h => ?_))
   (fun c1 h => bif_split h
   (fun c2 h => stop_at hS _ h (fun n => bif Nat.beq n 2 then 2 else n) rfl rfl rfl ⟨(rn_loose (use_lo rfl) rfl rfl rfl), ⟨(rn_loose (use_lo rfl) rfl rfl rfl), ⟨(rn_own (use_own rfl) rfl rfl), ⟨(rn_int rfl), ⟨(rn_unk _), ⟨(rn_unk _), trivial⟩⟩⟩⟩⟩⟩ rfl (entl_new (use_own rfl) rfl (Nat.le_of_eq rfl) (rcs_int (fun _ _ => rfl) rcs_nil) (entl_bor (use_lo rfl) rfl rfl (entl_bor (use_lo rfl) rfl rfl entl_nil))))
   (fun c2 h => ?_)))
  all_goals first
    | exact no_some h
    | exact stop_at hS _ h (fun n => bif Nat.beq n 2 then 2 else n) rfl rfl rfl ⟨(rn_loose (use_lo rfl) rfl rfl rfl), ⟨(rn_loose (use_lo rfl) rfl rfl rfl), ⟨(rn_own (use_own rfl) rfl mkl_len), ⟨(rn_int rfl), ⟨(rn_int rfl), ⟨(rn_int rfl), trivial⟩⟩⟩⟩⟩⟩ rfl (entl_new (use_own rfl) rfl (Nat.le_of_eq mkl_len) (rcs_int (fun _ hj => col_mkl (fun (t : Int) => t) hj) rcs_nil) (entl_bor (use_lo rfl) rfl rfl (entl_bor (use_lo rfl) rfl rfl entl_nil)))
theorem a53 (ap np mp : Nat) (tp : Nat → Int) (aq nq mq : Nat) (tq : Nat → Int) {r : Rt53} (h : Goes ((q53 ap np mp tp aq nq mq tq)) ((p53 ap np mp tp aq nq mq tq)) r) : CallR Tryd.prog 53 [.loose ⟨0, 1, ap, 0⟩ np, .loose ⟨1, 1, aq, 0⟩ nq] [[(0, (false, .cols mp [.int .i64 tp])), (1, (false, .cols mq [.int .i64 tq]))]] 2 ((V53 ap np mp tp aq nq mq tq) r) ((fun r => [newL (2 + 1) ((N53 ap np mp tp aq nq mq tq) r) ++ [(0, (false, .cols mp [.int .i64 tp])), (1, (false, .cols mq [.int .i64 tq]))]]) r) 400 ∧ ∃ F, Tryd.prog.funcs[53]? = some F ∧ F.body.isSome = true ∧ (F.name == "runtime.NumGoroutine") = false := by
  refine dec_calls (f := 53) (lo := 2) (hi := 400) (H := [[(0, (false, .cols mp [.int .i64 tp])), (1, (false, .cols mq [.int .i64 tq]))]]) (args := [.loose ⟨0, 1, ap, 0⟩ np, .loose ⟨1, 1, aq, 0⟩ nq]) Tryd.envOk Tryd.mixed xD_ok ((I53 ap np mp tp aq nq mq tq)) ((V53 ap np mp tp aq nq mq tq)) (fun r => [newL (2 + 1) ((N53 ap np mp tp aq nq mq tq) r) ++ [(0, (false, .cols mp [.int .i64 tp])), (1, (false, .cols mq [.int .i64 tq]))]]) (fn := mkFn Tryd.f53) (ts := [0, 1, 5, 6, 7, 8]) (n := 400) rfl (by decide) (by simp) (names_of rfl) ?_ ?_ ?_ h
  · intro s; cases s <;> exact ⟨hd_ok _ _, by simp [I53], names_of rfl, Nat.le_of_ble_eq_true rfl⟩
  · intro Kst Kret x hS hR h
    exact Holds.eq (te53 cond Kst Kret ap np mp tp aq nq mq tq) (be53 ap np mp tp aq nq mq tq Kst Kret x hS hR h)
  · intro Kst Kret x hS hR s h
    cases s with
    | h0 x0 x1 => exact Holds.eq (t53_0 cond Kst Kret ap np mp tp aq nq mq tq x0 x1) (b53_0 ap np mp tp aq nq mq tq Kst Kret x hS hR x0 x1 h)
    | h1 x0 x1 x2 x3 => exact Holds.eq (t53_1 cond Kst Kret ap np mp tp aq nq mq tq x0 x1 x2 x3) (b53_1 ap np mp tp aq nq mq tq Kst Kret x hS hR x0 x1 x2 x3 h)
noncomputable def k53  : Con := ⟨53, [.one (.list [.int .i64]), .one (.list [.int .i64])], fun (x : (Nat × Nat × Nat × (Nat → Int) × Unit) × (Nat × Nat × Nat × (Nat → Int) × Unit) × Unit) => (fun (ap np mp : Nat) (tp : Nat → Int) (aq nq mq : Nat) (tq : Nat → Int) => decide ((ap + np ≤ mp ∧ aq + nq ≤ mq) ∧ (np ≤ 1000 ∧ nq ≤ 1000) ∧ S.okG np (fun j => tp (j + ap)) = true ∧ S.okG nq (fun j => tq (j + aq)) = true)) x.1.1 x.1.2.1 x.1.2.2.1 x.1.2.2.2.1 x.2.1.1 x.2.1.2.1 x.2.1.2.2.1 x.2.1.2.2.2.1, fun (x : (Nat × Nat × Nat × (Nat → Int) × Unit) × (Nat × Nat × Nat × (Nat → Int) × Unit) × Unit) => (fun (ap np mp : Nat) (tp : Nat → Int) (aq nq mq : Nat) (tq : Nat → Int) => (V53 ap np mp tp aq nq mq tq) (S.grp ((S.val np (fun j => tp (j + ap))) * (S.val nq (fun j => tq (j + aq)))))) x.1.1 x.1.2.1 x.1.2.2.1 x.1.2.2.2.1 x.2.1.1 x.2.1.2.1 x.2.1.2.2.1 x.2.1.2.2.2.1, fun (x : (Nat × Nat × Nat × (Nat → Int) × Unit) × (Nat × Nat × Nat × (Nat → Int) × Unit) × Unit) => (fun (ap np mp : Nat) (tp : Nat → Int) (aq nq mq : Nat) (tq : Nat → Int) => (N53 ap np mp tp aq nq mq tq) (S.grp ((S.val np (fun j => tp (j + ap))) * (S.val nq (fun j => tq (j + aq)))))) x.1.1 x.1.2.1 x.1.2.2.1 x.1.2.2.2.1 x.2.1.1 x.2.1.2.1 x.2.1.2.2.1 x.2.1.2.2.2.1, fun _ _ => .dead⟩
theorem s53i (ap np mp : Nat) (tp : Nat → Int) (aq nq mq : Nat) (tq : Nat → Int) (hp : (ap + np ≤ mp ∧ aq + nq ≤ mq) ∧ (np ≤ 1000 ∧ nq ≤ 1000) ∧ S.okG np (fun j => tp (j + ap)) = true ∧ S.okG nq (fun j => tq (j + aq)) = true) (i : Nat) (hi : i < np) : ∀ (k a : Nat) (c : Int) (R : List Int), a + k = nq → R.length = np + nq + 1 → (∀ j, j < np + nq + 1 → 0 ≤ S.at' R j ∧ S.at' R j < 1000000) → (∀ j, i + nq ≤ j → j < np + nq + 1 → S.at' R j = 0) → (0 ≤ c ∧ c < 1000000) →
    ∃ R' : List Int, R'.length = np + nq + 1 ∧ (∀ j, j < np + nq + 1 → 0 ≤ S.at' R' j ∧ S.at' R' j < 1000000) ∧ (∀ j, i + 1 + nq ≤ j → j < np + nq + 1 → S.at' R' j = 0) ∧ (∀ j, j < i + a → S.at' R' j = S.at' R j) ∧ S.valF (S.at' R') (i + a) (np + nq + 1 - (i + a)) = S.valF (S.at' R) (i + a) (np + nq + 1 - (i + a)) + c + tp (i + ap) * S.valF (fun j => tq (j + aq)) a k ∧
      ∀ res : List Int, (Comes (q53 ap np mp tp aq nq mq tq) (.h0 ((i : Int) + 1) R') res → Comes (q53 ap np mp tp aq nq mq tq) (.h1 (i : Int) c (a : Int) R) res) := by
  obtain ⟨⟨hp1, hp2⟩, ⟨hp3, hp4⟩, g1, g2⟩ := hp
  have d1 := (okG_iff.mp g1).1 i hi
  have d2 := (okG_iff.mp g2).1
  (try dsimp only at d1)
  intro k
  induction k with
  | zero =>
    intro a c R ha hR hd hz hc
    obtain rfl : a = nq := by omega
    have z0 := hz (i + a) (Nat.le_refl _) (by omega)
    have e1 : ((i : Int) + a).toNat = i + a := by omega
    by_cases h0 : c = 0
    · subst h0
      refine ⟨R, hR, hd, fun j h1 h2 => hz j (by omega) h2, fun j _ => rfl, by simp only [S.valF]; rw [Int.mul_zero]; omega, fun res hC => ?_⟩
      apply Comes.of
      show Goes _ _ _
      (first | rw [q53] | unfold q53)
      repeat' first
        | with_reducible refine goes_if (fun h => ?_) (fun h => ?_) <;> (try simp only [SH, e1] at h)
        | exact goes_none.mpr (by omega)
      all_goals first | (exfalso; omega) | exact hC
    · refine ⟨S.mkl (np + a + 1) (fun j => bif Nat.beq j (i + a) then c else S.at' R j), mkl_len, upd_dig hR hd hc, fun j h1 h2 => ?_, fun j h1 => ?_, ?_, fun res hC => ?_⟩
      · rw [upd_at h2, if_neg (by omega)]; exact hz j (by omega) h2
      · rw [upd_at (by omega), if_neg (by omega)]
      · rw [show np + a + 1 - (i + a) = (np + a + 1 - (i + a + 1)) + 1 by omega]
        simp only [S.valF]
        rw [upd_at (by omega), if_pos rfl, z0, valF_congr (u := S.at' R) fun j h1 h2 => by rw [upd_at (by omega), if_neg (by omega)]]
        omega
      · have e2 : S.at' R (i + a) + tp (i + ap) * 0 + c = c := by rw [z0, Int.mul_zero]; omega
        have e3 : Int.tmod c 1000000 = c := by rw [tmB hc.1]; omega
        have e4 : Int.tdiv c 1000000 = 0 := by rw [tdB hc.1]; omega
        have e5 : tp (i + ap) * 0 = 0 := Int.mul_zero _
        have hE : Comes (q53 ap np mp tp aq a mq tq) (.h1 (i : Int) 0 ((a : Int) + 1) (S.mkl R.length fun j => bif Nat.beq j (i + a) then c else S.at' R j)) res := by
          rw [← hR] at hC
          apply Comes.of
          show Goes _ _ _
          (first | rw [q53] | unfold q53)
          repeat' first
            | with_reducible refine goes_if (fun h => ?_) (fun h => ?_) <;> (try simp only [SH, e1] at h)
            | exact goes_none.mpr (by omega)
          all_goals first | (exfalso; omega) | exact hC
        apply Comes.of
        show Goes _ _ _
        rw [q53]
        simp only [e1, e2, e3, e4, Int.toNat_natCast]
        simp only [z0, e5]
        repeat' first
          | with_reducible refine goes_if (fun h => ?_) (fun h => ?_) <;> (try simp only [SH] at h)
          | exact goes_none.mpr (by omega)
        all_goals first | (exfalso; omega) | (simp only [z0] at hE; exact hE) | exact hE
  | succ k ih =>
    intro a c R ha hR hd hz hc
    have hq := d2 a (by omega)
    (try dsimp only at hq)
    have hm := mul_dig d1 hq
    have hr := hd (i + a) (by omega)
    have ms := md_sum (x := S.at' R (i + a) + tp (i + ap) * tq (a + aq) + c) (by omega)
    generalize hD : Int.tmod (S.at' R (i + a) + tp (i + ap) * tq (a + aq) + c) 1000000 = dg at ms
    generalize hC : Int.tdiv (S.at' R (i + a) + tp (i + ap) * tq (a + aq) + c) 1000000 = cy at ms
    obtain ⟨R', r1, r2, r3, r4, r5, r6⟩ := ih (a + 1) cy (S.mkl (np + nq + 1) fun j => bif Nat.beq j (i + a) then dg else S.at' R j) (by omega) mkl_len (upd_dig hR hd (by omega)) (fun j h1 h2 => by rw [upd_at h2, if_neg (by omega)]; exact hz j h1 h2) (by omega)
    refine ⟨R', r1, r2, r3, fun j h1 => ?_, ?_, fun res hX => ?_⟩
    · rw [r4 j (by omega), upd_at (by omega), if_neg (by omega)]
    · rw [show np + nq + 1 - (i + a) = (np + nq + 1 - (i + (a + 1))) + 1 by omega]
      have e1 := r4 (i + a) (by omega)
      rw [upd_at (by omega), if_pos rfl] at e1
      have r5' : S.valF (S.at' (S.mkl (np + nq + 1) fun j => bif Nat.beq j (i + a) then dg else S.at' R j)) (i + (a + 1)) (np + nq + 1 - (i + (a + 1))) = S.valF (S.at' R) (i + (a + 1)) (np + nq + 1 - (i + (a + 1))) := valF_congr fun j h1 h2 => by rw [upd_at (by omega), if_neg (by omega)]
      rw [r5'] at r5
      simp only [S.valF]
      have ed : ∀ x : Int, tp (i + ap) * (tq (a + aq) + 1000000 * x) = tp (i + ap) * tq (a + aq) + 1000000 * (tp (i + ap) * x) := fun x => by rw [Int.mul_add, Int.mul_left_comm]
      rw [show i + a + 1 = i + (a + 1) by omega, r5, e1, ed]
      generalize tp (i + ap) * S.valF _ _ _ = w1 at *
      generalize S.valF _ _ _ = w2 at *
      (try dsimp only)
      omega
    · have r6 := r6 res hX
      rw [← hR] at r6
      have e1 : ((i : Int) + a).toNat = i + a := by omega
      clear ih r5 hX
      apply Comes.of
      show Goes _ _ _
      rw [q53]
      simp only [e1, Int.toNat_natCast, hD, hC]
      repeat' first
        | with_reducible refine goes_if (fun h => ?_) (fun h => ?_) <;> (try simp only [SH] at h)
        | exact goes_none.mpr (by omega)
      all_goals first | (exfalso; omega) | exact r6
theorem s53' (ap np mp : Nat) (tp : Nat → Int) (aq nq mq : Nat) (tq : Nat → Int) (hp : (ap + np ≤ mp ∧ aq + nq ≤ mq) ∧ (np ≤ 1000 ∧ nq ≤ 1000) ∧ S.okG np (fun j => tp (j + ap)) = true ∧ S.okG nq (fun j => tq (j + aq)) = true) : ∀ (k i : Nat) (R : List Int), i + k = np → R.length = np + nq + 1 → (∀ j, j < np + nq + 1 → 0 ≤ S.at' R j ∧ S.at' R j < 1000000) → (∀ j, i + nq ≤ j → j < np + nq + 1 → S.at' R j = 0) →
    ∃ R' : List Int, R'.length = np + nq + 1 ∧ (∀ j, j < np + nq + 1 → 0 ≤ S.at' R' j ∧ S.at' R' j < 1000000) ∧ (∀ j, j < i → S.at' R' j = S.at' R j) ∧ S.valF (S.at' R') (i) (np + nq + 1 - (i)) = S.valF (S.at' R) (i) (np + nq + 1 - (i)) + S.valF (fun j => tp (j + ap)) i k * (S.val nq (fun j => tq (j + aq))) ∧ Comes (q53 ap np mp tp aq nq mq tq) (.h0 (i : Int) R) (S.trim R') := by
  have hp' := hp
  obtain ⟨⟨hp1, hp2⟩, ⟨hp3, hp4⟩, g1, g2⟩ := hp
  intro k
  induction k with
  | zero =>
    intro i R hi hR hd hz
    refine ⟨R, hR, hd, fun j _ => rfl, by simp only [S.valF]; rw [Int.zero_mul, Int.add_zero], ?_⟩
    rw [← trim_at]
    apply Comes.of
    show Goes _ _ _
    (first | rw [q53] | unfold q53)
    repeat' first
      | with_reducible refine goes_if (fun h => ?_) (fun h => ?_) <;> (try simp only [SH] at h)
      | exact goes_none.mpr (by omega)
    all_goals first | (exfalso; omega) | exact goes_inr.mpr rfl
  | succ k ih =>
    intro i R hi hR hd hz
    obtain ⟨R1, a1, a2, a3, a4, a5, a6⟩ := s53i ap np mp tp aq nq mq tq hp' i (by omega) nq 0 0 R (by omega) hR hd hz (by omega)
    obtain ⟨R', b1, b2, b3, b4, b5⟩ := ih (i + 1) R1 (by omega) a1 a2 (fun j h1 h2 => a3 j (by omega) h2)
    have vq : S.valF (fun j => tq (j + aq)) 0 nq = (S.val nq (fun j => tq (j + aq))) := rfl
    rw [vq, Nat.add_zero, Int.add_zero] at a5
    refine ⟨R', b1, b2, fun j hj => by rw [b3 j (by omega), a4 j (by omega)], ?_, ?_⟩
    · have e1 := b3 i (by omega)
      rw [show np + nq + 1 - i = (np + nq + 1 - (i + 1)) + 1 by omega] at a5 ⊢
      simp only [S.valF] at a5 ⊢
      rw [e1, b4, Int.add_mul, Int.mul_assoc]
      (try dsimp only)
      generalize tp (i + ap) * (S.val nq (fun j => tq (j + aq))) = w1 at *
      generalize S.valF (fun j => tp (j + ap)) (i + 1) k * (S.val nq (fun j => tq (j + aq))) = w2 at *
      generalize S.valF _ _ _ = w3 at *
      generalize S.valF _ _ _ = w4 at *
      omega
    · have a6 := a6 _ b5
      apply Comes.of
      show Goes _ _ _
      (first | rw [q53] | unfold q53)
      repeat' first
        | with_reducible refine goes_if (fun h => ?_) (fun h => ?_) <;> (try simp only [SH] at h)
        | exact goes_none.mpr (by omega)
      all_goals first | (exfalso; omega) | exact a6
theorem s53 (ap np mp : Nat) (tp : Nat → Int) (aq nq mq : Nat) (tq : Nat → Int) (hp : (ap + np ≤ mp ∧ aq + nq ≤ mq) ∧ (np ≤ 1000 ∧ nq ≤ 1000) ∧ S.okG np (fun j => tp (j + ap)) = true ∧ S.okG nq (fun j => tq (j + aq)) = true) : Goes ((q53 ap np mp tp aq nq mq tq)) ((p53 ap np mp tp aq nq mq tq)) (S.grp ((S.val np (fun j => tp (j + ap))) * (S.val nq (fun j => tq (j + aq))))) := by
  have hp' := hp
  obtain ⟨⟨hp1, hp2⟩, ⟨hp3, hp4⟩, g1, g2⟩ := hp
  have z : ∀ j, j < np + nq + 1 → S.at' (S.mkl (np + nq + 1) fun _ => (0 : Int)) j = 0 := fun j hj => at_mkl hj
  obtain ⟨R', r1, r2, r3, r4, r5⟩ := s53' ap np mp tp aq nq mq tq hp' np 0 (S.mkl (np + nq + 1) fun _ => 0) (by omega) mkl_len (fun j hj => by rw [z j hj]; omega) (fun j _ hj => z j hj)
  have z2 : S.valF (S.at' (S.mkl (np + nq + 1) fun _ => (0 : Int))) 0 (np + nq + 1 - 0) = 0 := by rw [valF_congr (u := fun _ => 0) fun j _ hj => z j (by omega)]; exact valF_zero
  have vp : S.valF (fun j => tp (j + ap)) 0 np = (S.val np (fun j => tp (j + ap))) := rfl
  rw [z2, vp, Int.zero_add, Nat.sub_zero] at r4
  have e : S.trim R' = S.grp ((S.val np (fun j => tp (j + ap))) * (S.val nq (fun j => tq (j + aq)))) := by
    rw [trim_grp fun x hx => by obtain ⟨j, hj, rfl⟩ := List.getElem_of_mem hx; have := r2 j (by omega); rw [at_lt hj] at this; exact this]
    rw [← val_at, r1]
    exact congrArg S.grp r4
  rw [e] at r5
  have en : ((np : Int) + nq + 1).toNat = np + nq + 1 := by omega
  show Goes _ _ _
  unfold p53
  repeat' first
    | with_reducible refine goes_if (fun h => ?_) (fun h => ?_) <;> (try simp only [SH, en] at h)
    | exact goes_none.mpr (by omega)
  all_goals first | (exfalso; omega) | (rw [en]; exact r5)
theorem k53_ok  : k53.ok Tryd.prog := by
  intro x hx
  obtain ⟨⟨ap, np, mp, tp, _⟩, ⟨aq, nq, mq, tq, _⟩, _⟩ := x
  obtain ⟨h1, h2⟩ := a53 ap np mp tp aq nq mq tq (s53 ap np mp tp aq nq mq tq (of_dec hx rfl))
  exact ⟨⟨400, (by decide : 2 + 1 + 1 ≤ 400), h1⟩, h2⟩
noncomputable def xM (test : Bool → Prop → Prop → Prop) : Ext := consX test [k69, k65, k69v, k65v, k60, k44, k55, k45, k56, k46, k18, k19, k52, k53]
theorem xM_ok  : ExtOk Tryd.prog (xM cond) := consX_ok ⟨k69_ok, k65_ok, k69v_ok, k65v_ok, k60_ok, k44_ok, k55_ok, k45_ok, k56_ok, k46_ok, k18_ok, k19_ok, k52_ok, k53_ok, trivial⟩
namespace S
def mulI (n1 : Bool) (n : Nat) (t : Nat → Int) (n2 : Bool) (m : Nat) (u : Nat → Int) : Bool × Int × List Int := if okI n1 n t = true ∧ okI n2 m u = true then fitI (sv n1 (val n t) * sv n2 (val m u)) else (false, 1, [])
end S
theorem sv_mul  {n1 n2 : Bool} {v w : Int} : S.sv n1 v * S.sv n2 w = S.sv (n1 != n2) (v * w) := by
  cases n1 <;> cases n2 <;> simp [S.sv, Int.neg_mul, Int.mul_neg]
theorem pw_add  : ∀ {a b : Nat}, S.pw (a + b) = S.pw a * S.pw b
  | a, 0 => by show S.pw a = S.pw a * 1; rw [Int.mul_one]
  | a, b + 1 => by
    show 1000000 * S.pw (a + b) = S.pw a * (1000000 * S.pw b)
    rw [pw_add, Int.mul_left_comm]
theorem mul_lt  {a b : Nat} {v w : Int} (hv : 0 ≤ v ∧ v < S.pw a) (hw : 0 ≤ w ∧ w < S.pw b) : 0 ≤ v * w ∧ v * w < S.pw (a + b) := by
  refine ⟨Int.mul_nonneg hv.1 hw.1, ?_⟩
  rw [pw_add]
  have h1 : v * w ≤ v * S.pw b := Int.mul_le_mul_of_nonneg_left (by omega) hv.1
  have h2 : v * S.pw b < S.pw a * S.pw b := Int.mul_lt_mul_of_pos_right hv.2 pw_pos
  omega
theorem beq_zero  {v : Int} : ((((S.grp v).length : Nat) : Int) == 0) = decide (v ≤ 0) := by
  rw [Bool.eq_iff_iff, beq_iff_eq, decide_eq_true_eq]
  have := len_zero (v := v)
  omega
abbrev St26  := Empty
abbrev Rt26  := Bool × Int × List Int
noncomputable def V26 (n1 : Bool) (ap np mp : Nat) (tp : Nat → Int) (n2 : Bool) (aq nq mq : Nat) (tq : Nat → Int) (r : Rt26) : PV := PV.tup
 [PV.agg [PV.bool r.1, PV.own (3) (1) (List.length r.2.2)],
 PV.int IntKind.i64 r.2.1]
noncomputable def N26 (n1 : Bool) (ap np mp : Nat) (tp : Nat → Int) (n2 : Bool) (aq nq mq : Nat) (tq : Nat → Int) (r : Rt26) : List Blk := [Blk.cols (List.length r.2.2) [Col.int IntKind.i64 fun j => S.at' r.2.2 j]]
noncomputable def I26 (n1 : Bool) (ap np mp : Nat) (tp : Nat → Int) (n2 : Bool) (aq nq mq : Nat) (tq : Nat → Int) : St26 → Hd := fun s => s.elim
noncomputable def q26 (n1 : Bool) (ap np mp : Nat) (tp : Nat → Int) (n2 : Bool) (aq nq mq : Nat) (tq : Nat → Int) : St26 → Option (St26 ⊕ Rt26) := fun s => s.elim
noncomputable def p26 (n1 : Bool) (ap np mp : Nat) (tp : Nat → Int) (n2 : Bool) (aq nq mq : Nat) (tq : Nat → Int) : Option (St26 ⊕ Rt26) := bif (decide (ap + np ≤ mp ∧ np ≤ 1000000))
 then (bif (S.okI n1 np fun j => tp (j + ap))
 then (bif (decide (aq + nq ≤ mq ∧ nq ≤ 1000000))
 then (bif (S.okI n2 nq fun j => tq (j + aq))
 then (bif (n1)
 then (bif (n2)
 then (bif (decide
 ((ap + np ≤ mp ∧ aq + nq ≤ mq) ∧
 (np ≤ 1000 ∧ nq ≤ 1000) ∧
 (S.okG np fun j => tp (j + ap)) = true ∧
 (S.okG nq fun j => tq (j + aq)) = true))
 then (bif ((↑(List.length
 (S.grp ((S.val np fun j => tp (j + ap)) * S.val nq fun j => tq (j + aq)))) :
 Int) ==
 (0 : Int))
 then (some (.inr (false, (0 : Int), [])))
 else (bif (decide
 ((↑(List.length
 (S.grp ((S.val np fun j => tp (j + ap)) * S.val nq fun j => tq (j + aq)))) :
 Int) >
 (80 : Int)))
 then (some (.inr (false, (3 : Int), [])))
 else (some (.inr (false, (0 : Int), S.grp ((S.val np fun j => tp (j + ap)) * S.val nq fun j => tq (j + aq)))))))
 else (none))
 else (bif (decide
 ((ap + np ≤ mp ∧ aq + nq ≤ mq) ∧
 (np ≤ 1000 ∧ nq ≤ 1000) ∧
 (S.okG np fun j => tp (j + ap)) = true ∧
 (S.okG nq fun j => tq (j + aq)) = true))
 then (bif ((↑(List.length
 (S.grp ((S.val np fun j => tp (j + ap)) * S.val nq fun j => tq (j + aq)))) :
 Int) ==
 (0 : Int))
 then (some (.inr (false, (0 : Int), [])))
 else (bif (decide
 ((↑(List.length
 (S.grp ((S.val np fun j => tp (j + ap)) * S.val nq fun j => tq (j + aq)))) :
 Int) >
 (80 : Int)))
 then (some (.inr (false, (3 : Int), [])))
 else (some (.inr (true, (0 : Int), S.grp ((S.val np fun j => tp (j + ap)) * S.val nq fun j => tq (j + aq)))))))
 else (none)))
 else (bif (n2)
 then (bif (decide
 ((ap + np ≤ mp ∧ aq + nq ≤ mq) ∧
 (np ≤ 1000 ∧ nq ≤ 1000) ∧
 (S.okG np fun j => tp (j + ap)) = true ∧
 (S.okG nq fun j => tq (j + aq)) = true))
 then (bif ((↑(List.length
 (S.grp ((S.val np fun j => tp (j + ap)) * S.val nq fun j => tq (j + aq)))) :
 Int) ==
 (0 : Int))
 then (some (.inr (false, (0 : Int), [])))
 else (bif (decide
 ((↑(List.length
 (S.grp ((S.val np fun j => tp (j + ap)) * S.val nq fun j => tq (j + aq)))) :
 Int) >
 (80 : Int)))
 then (some (.inr (false, (3 : Int), [])))
 else (some (.inr (true, (0 : Int), S.grp ((S.val np fun j => tp (j + ap)) * S.val nq fun j => tq (j + aq)))))))
 else (none))
 else (bif (decide
 ((ap + np ≤ mp ∧ aq + nq ≤ mq) ∧
 (np ≤ 1000 ∧ nq ≤ 1000) ∧
 (S.okG np fun j => tp (j + ap)) = true ∧
 (S.okG nq fun j => tq (j + aq)) = true))
 then (bif ((↑(List.length
 (S.grp ((S.val np fun j => tp (j + ap)) * S.val nq fun j => tq (j + aq)))) :
 Int) ==
 (0 : Int))
 then (some (.inr (false, (0 : Int), [])))
 else (bif (decide
 ((↑(List.length
 (S.grp ((S.val np fun j => tp (j + ap)) * S.val nq fun j => tq (j + aq)))) :
 Int) >
 (80 : Int)))
 then (some (.inr (false, (3 : Int), [])))
 else (some (.inr (false, (0 : Int), S.grp ((S.val np fun j => tp (j + ap)) * S.val nq fun j => tq (j + aq)))))))
 else (none))))
 else (some (.inr (false, (1 : Int), []))))
 else (none))
 else (some (.inr (false, (1 : Int), []))))
 else (none)
noncomputable def Te26 (test : Bool → Prop → Prop → Prop) (Kst : KS) (Kret : KR) (n1 : Bool) (ap np mp : Nat) (tp : Nat → Int) (n2 : Bool) (aq nq mq : Nat) (tq : Nat → Int) : Prop :=
  test (decide (ap + np ≤ mp ∧ np ≤ 1000000))
 (test (S.okI n1 np fun j => tp (j + ap))
 (test (decide (aq + nq ≤ mq ∧ nq ≤ 1000000))
 (test (S.okI n2 nq fun j => tq (j + aq))
 (test (n1)
 (test (n2)
 (test (decide
 ((ap + np ≤ mp ∧ aq + nq ≤ mq) ∧
 (np ≤ 1000 ∧ nq ≤ 1000) ∧
 (S.okG np fun j => tp (j + ap)) = true ∧
 (S.okG nq fun j => tq (j + aq)) = true))
 (test ((↑(List.length
 (S.grp ((S.val np fun j => tp (j + ap)) * S.val nq fun j => tq (j + aq)))) :
 Int) ==
 (0 : Int))
 (test (false)
 (Kret (PV.tup [PV.agg [PV.tf false, PV.nils], PV.int IntKind.i64 (3 : Int)]) ([[(1, false, Blk.cols mq [Col.int IntKind.i64 tq]),
 (0, false, Blk.cols mp [Col.int IntKind.i64 tp])]]) (12))
 (Kret (PV.tup [PV.agg [PV.tf false, PV.nils], PV.int IntKind.i64 (0 : Int)]) ([[(1, false, Blk.cols mq [Col.int IntKind.i64 tq]),
 (0, false, Blk.cols mp [Col.int IntKind.i64 tp])]]) (12)))
 (test (decide
 ((↑(List.length
 (S.grp ((S.val np fun j => tp (j + ap)) * S.val nq fun j => tq (j + aq)))) :
 Int) >
 (80 : Int)))
 (Kret (PV.tup [PV.agg [PV.tf false, PV.nils], PV.int IntKind.i64 (3 : Int)]) ([[(1, false, Blk.cols mq [Col.int IntKind.i64 tq]),
 (0, false, Blk.cols mp [Col.int IntKind.i64 tp])]]) (12))
 (Kret (PV.tup
 [PV.agg
 [PV.tf false,
 PV.own (8) (1)
 (List.length
 (S.grp
 ((S.val np fun j => tp (j + ap)) * S.val nq fun j => tq (j + aq))))],
 PV.int IntKind.i64 (0 : Int)]) ([[(1, false, Blk.cols mq [Col.int IntKind.i64 tq]),
 (0, false, Blk.cols mp [Col.int IntKind.i64 tp]),
 (8, true,
 Blk.cols
 (List.length
 (S.grp ((S.val np fun j => tp (j + ap)) * S.val nq fun j => tq (j + aq))))
 [Col.int IntKind.i64 fun j =>
 S.at'
 (S.grp
 ((S.val np fun j => tp (j + ap)) * S.val nq fun j => tq (j + aq)))
 j])]]) (12))))
 (False))
 (test (decide
 ((ap + np ≤ mp ∧ aq + nq ≤ mq) ∧
 (np ≤ 1000 ∧ nq ≤ 1000) ∧
 (S.okG np fun j => tp (j + ap)) = true ∧
 (S.okG nq fun j => tq (j + aq)) = true))
 (test ((↑(List.length
 (S.grp ((S.val np fun j => tp (j + ap)) * S.val nq fun j => tq (j + aq)))) :
 Int) ==
 (0 : Int))
 (test (false)
 (Kret (PV.tup [PV.agg [PV.tf false, PV.nils], PV.int IntKind.i64 (3 : Int)]) ([[(1, false, Blk.cols mq [Col.int IntKind.i64 tq]),
 (0, false, Blk.cols mp [Col.int IntKind.i64 tp])]]) (12))
 (Kret (PV.tup [PV.agg [PV.tf false, PV.nils], PV.int IntKind.i64 (0 : Int)]) ([[(1, false, Blk.cols mq [Col.int IntKind.i64 tq]),
 (0, false, Blk.cols mp [Col.int IntKind.i64 tp])]]) (12)))
 (test (decide
 ((↑(List.length
 (S.grp ((S.val np fun j => tp (j + ap)) * S.val nq fun j => tq (j + aq)))) :
 Int) >
 (80 : Int)))
 (Kret (PV.tup [PV.agg [PV.tf false, PV.nils], PV.int IntKind.i64 (3 : Int)]) ([[(1, false, Blk.cols mq [Col.int IntKind.i64 tq]),
 (0, false, Blk.cols mp [Col.int IntKind.i64 tp])]]) (12))
 (Kret (PV.tup
 [PV.agg
 [PV.tf true,
 PV.own (8) (1)
 (List.length
 (S.grp
 ((S.val np fun j => tp (j + ap)) * S.val nq fun j => tq (j + aq))))],
 PV.int IntKind.i64 (0 : Int)]) ([[(1, false, Blk.cols mq [Col.int IntKind.i64 tq]),
 (0, false, Blk.cols mp [Col.int IntKind.i64 tp]),
 (8, true,
 Blk.cols
 (List.length
 (S.grp ((S.val np fun j => tp (j + ap)) * S.val nq fun j => tq (j + aq))))
 [Col.int IntKind.i64 fun j =>
 S.at'
 (S.grp
 ((S.val np fun j => tp (j + ap)) * S.val nq fun j => tq (j + aq)))
 j])]]) (12))))
 (False)))
 (test (n2)
 (test (decide
 ((ap + np ≤ mp ∧ aq + nq ≤ mq) ∧
 (np ≤ 1000 ∧ nq ≤ 1000) ∧
 (S.okG np fun j => tp (j + ap)) = true ∧
 (S.okG nq fun j => tq (j + aq)) = true))
 (test ((↑(List.length
 (S.grp ((S.val np fun j => tp (j + ap)) * S.val nq fun j => tq (j + aq)))) :
 Int) ==
 (0 : Int))
 (test (false)
 (Kret (PV.tup [PV.agg [PV.tf false, PV.nils], PV.int IntKind.i64 (3 : Int)]) ([[(1, false, Blk.cols mq [Col.int IntKind.i64 tq]),
 (0, false, Blk.cols mp [Col.int IntKind.i64 tp])]]) (12))
 (Kret (PV.tup [PV.agg [PV.tf false, PV.nils], PV.int IntKind.i64 (0 : Int)]) ([[(1, false, Blk.cols mq [Col.int IntKind.i64 tq]),
 (0, false, Blk.cols mp [Col.int IntKind.i64 tp])]]) (12)))
 (test (decide
 ((↑(List.length
 (S.grp ((S.val np fun j => tp (j + ap)) * S.val nq fun j => tq (j + aq)))) :
 Int) >
 (80 : Int)))
 (Kret (PV.tup [PV.agg [PV.tf false, PV.nils], PV.int IntKind.i64 (3 : Int)]) ([[(1, false, Blk.cols mq [Col.int IntKind.i64 tq]),
 (0, false, Blk.cols mp [Col.int IntKind.i64 tp])]]) (12))
 (Kret (PV.tup
 [PV.agg
 [PV.tf true,
 PV.own (8) (1)
 (List.length
 (S.grp
 ((S.val np fun j => tp (j + ap)) * S.val nq fun j => tq (j + aq))))],
 PV.int IntKind.i64 (0 : Int)]) ([[(1, false, Blk.cols mq [Col.int IntKind.i64 tq]),
 (0, false, Blk.cols mp [Col.int IntKind.i64 tp]),
 (8, true,
 Blk.cols
 (List.length
 (S.grp ((S.val np fun j => tp (j + ap)) * S.val nq fun j => tq (j + aq))))
 [Col.int IntKind.i64 fun j =>
 S.at'
 (S.grp
 ((S.val np fun j => tp (j + ap)) * S.val nq fun j => tq (j + aq)))
 j])]]) (12))))
 (False))
 (test (decide
 ((ap + np ≤ mp ∧ aq + nq ≤ mq) ∧
 (np ≤ 1000 ∧ nq ≤ 1000) ∧
 (S.okG np fun j => tp (j + ap)) = true ∧
 (S.okG nq fun j => tq (j + aq)) = true))
 (test ((↑(List.length
 (S.grp ((S.val np fun j => tp (j + ap)) * S.val nq fun j => tq (j + aq)))) :
 Int) ==
 (0 : Int))
 (test (false)
 (Kret (PV.tup [PV.agg [PV.tf false, PV.nils], PV.int IntKind.i64 (3 : Int)]) ([[(1, false, Blk.cols mq [Col.int IntKind.i64 tq]),
 (0, false, Blk.cols mp [Col.int IntKind.i64 tp])]]) (12))
 (Kret (PV.tup [PV.agg [PV.tf false, PV.nils], PV.int IntKind.i64 (0 : Int)]) ([[(1, false, Blk.cols mq [Col.int IntKind.i64 tq]),
 (0, false, Blk.cols mp [Col.int IntKind.i64 tp])]]) (12)))
 (test (decide
 ((↑(List.length
 (S.grp ((S.val np fun j => tp (j + ap)) * S.val nq fun j => tq (j + aq)))) :
 Int) >
 (80 : Int)))
 (Kret (PV.tup [PV.agg [PV.tf false, PV.nils], PV.int IntKind.i64 (3 : Int)]) ([[(1, false, Blk.cols mq [Col.int IntKind.i64 tq]),
 (0, false, Blk.cols mp [Col.int IntKind.i64 tp])]]) (12))
 (Kret (PV.tup
 [PV.agg
 [PV.tf false,
 PV.own (8) (1)
 (List.length
 (S.grp
 ((S.val np fun j => tp (j + ap)) * S.val nq fun j => tq (j + aq))))],
 PV.int IntKind.i64 (0 : Int)]) ([[(1, false, Blk.cols mq [Col.int IntKind.i64 tq]),
 (0, false, Blk.cols mp [Col.int IntKind.i64 tp]),
 (8, true,
 Blk.cols
 (List.length
 (S.grp ((S.val np fun j => tp (j + ap)) * S.val nq fun j => tq (j + aq))))
 [Col.int IntKind.i64 fun j =>
 S.at'
 (S.grp
 ((S.val np fun j => tp (j + ap)) * S.val nq fun j => tq (j + aq)))
 j])]]) (12))))
 (False))))
 (Kret (PV.tup [PV.agg [PV.tf false, PV.nils], PV.int IntKind.i64 (1 : Int)]) ([[(1, false, Blk.cols mq [Col.int IntKind.i64 tq]),
 (0, false, Blk.cols mp [Col.int IntKind.i64 tp])]]) (7)))
 (False))
 (Kret (PV.tup [PV.agg [PV.tf false, PV.nils], PV.int IntKind.i64 (1 : Int)]) ([[(1, false, Blk.cols mq [Col.int IntKind.i64 tq]),
 (0, false, Blk.cols mp [Col.int IntKind.i64 tp])]]) (6)))
 (False)
theorem te26 (test : Bool → Prop → Prop → Prop) (Kst : KS) (Kret : KR) (n1 : Bool) (ap np mp : Nat) (tp : Nat → Int) (n2 : Bool) (aq nq mq : Nat) (tq : Nat → Int) : run test Tryd.env true (xM test) true 400 ⟨26, [.cd (mkFn Tryd.f26).body], argT 0 [.agg [.bool n1, .loose ⟨0, 1, ap, 0⟩ np], .agg [.bool n2, .loose ⟨1, 1, aq, 0⟩ nq]], [[], [(0, (false, .cols mp [.int .i64 tp])), (1, (false, .cols mq [.int .i64 tq]))]], 2⟩ (proj 2 [] Kst Kret) =
  Te26 test Kst Kret n1 ap np mp tp n2 aq nq mq tq := by kernel_rfl
attribute [local irreducible] Int.subNatNat in
theorem be26 (n1 : Bool) (ap np mp : Nat) (tp : Nat → Int) (n2 : Bool) (aq nq mq : Nat) (tq : Nat → Int) (Kst : KS) (Kret : KR) (x : St26 ⊕ Rt26) (hS : HS 2 400 ((I26 n1 ap np mp tp n2 aq nq mq tq)) Kst x) (hR : HR 2 400 ((V26 n1 ap np mp tp n2 aq nq mq tq)) (fun r => [newL (2 + 1) ((N26 n1 ap np mp tp n2 aq nq mq tq) r) ++ [(0, (false, .cols mp [.int .i64 tp])), (1, (false, .cols mq [.int .i64 tq]))]]) Kret x) (h : p26 n1 ap np mp tp n2 aq nq mq tq = some x) : Te26 cond Kst Kret n1 ap np mp tp n2 aq nq mq tq := by
  unfold Te26
  unfold p26 at h
  refine bif_split h
   (fun c0 h => bif_split h
   (fun c1 h => bif_split h
   (fun c2 h => bif_split h
   (fun c3 h => bif_split h
   (fun c4 h => bif_split h
   (fun c5 h => bif_split h
   (fun c6 h => bif_split h
   (fun c7 h => cond_no rfl (ret_at hR _ h (fun n => bif Nat.beq n 3 then 399 else n) rfl rfl rfl (rn_tup ⟨(rn_agg ⟨(rn_bool_tf rfl), (rn_own_nils rfl), trivial⟩), (rn_int rfl), trivial⟩) rfl (entl_fresh (use_own rfl) (fresh_ok rfl) (entl_bor (use_lo rfl) rfl rfl (entl_bor (use_lo rfl) rfl rfl entl_nil)))))
   (fun c7 h => bif_split h
   (fun c8 h => ?_)
   (fun c8 h => ?_)))
   (fun c6 h => ?_))
   (fun c5 h => bif_split h
   (fun c6 h => bif_split h
   (fun c7 h => cond_no rfl (ret_at hR _ h (fun n => bif Nat.beq n 3 then 399 else n) rfl rfl rfl (rn_tup ⟨(rn_agg ⟨(rn_bool_tf rfl), (rn_own_nils rfl), trivial⟩), (rn_int rfl), trivial⟩) rfl (entl_fresh (use_own rfl) (fresh_ok rfl) (entl_bor (use_lo rfl) rfl rfl (entl_bor (use_lo rfl) rfl rfl entl_nil)))))
   (fun c7 h => bif_split h
   (fun c8 h => ?_)
   (fun c8 h => ?_)))
   (fun c6 h => ?_)))
   (fun c4 h => bif_split h
   (fun c5 h => bif_split h
   (fun c6 h => bif_split h
   (fun c7 h => cond_no rfl (ret_at hR _ h (fun n => bif Nat.beq n 3 then 399 else n) rfl rfl rfl (rn_tup ⟨(rn_agg ⟨(rn_bool_tf rfl), (rn_own_nils rfl), trivial⟩), (rn_int rfl), trivial⟩) rfl (entl_fresh (use_own rfl) (fresh_ok rfl) (entl_bor (use_lo rfl) rfl rfl (entl_bor (use_lo rfl) rfl rfl entl_nil)))))
   (fun c7 h => bif_split h
   (fun c8 h => ?_)
   (fun c8 h => ?_)))
   (fun c6 h => ?_))
   (fun c5 h => bif_split h
   (fun c6 h => bif_split h
   (fun c7 h => cond_no rfl (ret_at hR _ h (fun n => bif Nat.beq n 3 then 399 else n) rfl rfl rfl (rn_tup ⟨(rn_agg ⟨(rn_bool_tf rfl), (rn_own_nils rfl), trivial⟩), (rn_int rfl), trivial⟩) rfl (entl_fresh (use_own rfl) (fresh_ok rfl) (entl_bor (use_lo rfl) rfl rfl (entl_bor (use_lo rfl) rfl rfl entl_nil)))))
   (fun c7 h => bif_split h
   (fun c8 h => ?_)
   (fun c8 h => ?_)))
   (fun c6 h => ?_))))
   (fun c3 h => ?_))
   (fun c2 h => ?_))
   (fun c1 h => ?_))
   (fun c0 h => ?_)
  all_goals first
    | exact ret_at hR _ h (fun n => bif Nat.beq n 3 then 399 else n) rfl rfl rfl (rn_tup ⟨(rn_agg ⟨(rn_bool_tf rfl), (rn_own_nils rfl), trivial⟩), (rn_int rfl), trivial⟩) rfl (entl_fresh (use_own rfl) (fresh_ok rfl) (entl_bor (use_lo rfl) rfl rfl (entl_bor (use_lo rfl) rfl rfl entl_nil)))
    | exact no_some h
    | exact ret_at hR _ h (fun n => bif Nat.beq n 3 then 8 else n) rfl rfl rfl (rn_tup ⟨(rn_agg ⟨(rn_bool_tf rfl), (rn_own (use_own rfl) rfl rfl), trivial⟩), (rn_int rfl), trivial⟩) rfl (entl_new (use_own rfl) rfl (Nat.le_of_eq rfl) (rcs_int (fun _ _ => rfl) rcs_nil) (entl_bor (use_lo rfl) rfl rfl (entl_bor (use_lo rfl) rfl rfl entl_nil)))
theorem a26 (n1 : Bool) (ap np mp : Nat) (tp : Nat → Int) (n2 : Bool) (aq nq mq : Nat) (tq : Nat → Int) {r : Rt26} (h : Goes ((q26 n1 ap np mp tp n2 aq nq mq tq)) ((p26 n1 ap np mp tp n2 aq nq mq tq)) r) : CallR Tryd.prog 26 [.agg [.bool n1, .loose ⟨0, 1, ap, 0⟩ np], .agg [.bool n2, .loose ⟨1, 1, aq, 0⟩ nq]] [[(0, (false, .cols mp [.int .i64 tp])), (1, (false, .cols mq [.int .i64 tq]))]] 2 ((V26 n1 ap np mp tp n2 aq nq mq tq) r) ((fun r => [newL (2 + 1) ((N26 n1 ap np mp tp n2 aq nq mq tq) r) ++ [(0, (false, .cols mp [.int .i64 tp])), (1, (false, .cols mq [.int .i64 tq]))]]) r) 400 ∧ ∃ F, Tryd.prog.funcs[26]? = some F ∧ F.body.isSome = true ∧ (F.name == "runtime.NumGoroutine") = false := by
  refine dec_calls (f := 26) (lo := 2) (hi := 400) (H := [[(0, (false, .cols mp [.int .i64 tp])), (1, (false, .cols mq [.int .i64 tq]))]]) (args := [.agg [.bool n1, .loose ⟨0, 1, ap, 0⟩ np], .agg [.bool n2, .loose ⟨1, 1, aq, 0⟩ nq]]) Tryd.envOk Tryd.mixed xM_ok ((I26 n1 ap np mp tp n2 aq nq mq tq)) ((V26 n1 ap np mp tp n2 aq nq mq tq)) (fun r => [newL (2 + 1) ((N26 n1 ap np mp tp n2 aq nq mq tq) r) ++ [(0, (false, .cols mp [.int .i64 tp])), (1, (false, .cols mq [.int .i64 tq]))]]) (fn := mkFn Tryd.f26) (ts := []) (n := 400) rfl (by decide) (by simp) (names_of rfl) ?_ ?_ ?_ h
  · intro s; exact s.elim
  · intro Kst Kret x hS hR h
    exact Holds.eq (te26 cond Kst Kret n1 ap np mp tp n2 aq nq mq tq) (be26 n1 ap np mp tp n2 aq nq mq tq Kst Kret x hS hR h)
  · intro Kst Kret x hS hR s h; exact s.elim
noncomputable def k26  : Con := ⟨26, [.agg [.plain (.bool), .list [.int .i64]], .agg [.plain (.bool), .list [.int .i64]]], fun (x : (Bool × (Nat × Nat × Nat × (Nat → Int) × Unit) × Unit) × (Bool × (Nat × Nat × Nat × (Nat → Int) × Unit) × Unit) × Unit) => (fun (n1 : Bool) (ap np mp : Nat) (tp : Nat → Int) (n2 : Bool) (aq nq mq : Nat) (tq : Nat → Int) => decide ((ap + np ≤ mp ∧ np ≤ 1000000) ∧ aq + nq ≤ mq ∧ nq ≤ 1000000)) x.1.1 x.1.2.1.1 x.1.2.1.2.1 x.1.2.1.2.2.1 x.1.2.1.2.2.2.1 x.2.1.1 x.2.1.2.1.1 x.2.1.2.1.2.1 x.2.1.2.1.2.2.1 x.2.1.2.1.2.2.2.1, fun (x : (Bool × (Nat × Nat × Nat × (Nat → Int) × Unit) × Unit) × (Bool × (Nat × Nat × Nat × (Nat → Int) × Unit) × Unit) × Unit) => (fun (n1 : Bool) (ap np mp : Nat) (tp : Nat → Int) (n2 : Bool) (aq nq mq : Nat) (tq : Nat → Int) => (V26 n1 ap np mp tp n2 aq nq mq tq) ((S.mulI n1 np (fun j => tp (j + ap)) n2 nq (fun j => tq (j + aq))).1, (S.mulI n1 np (fun j => tp (j + ap)) n2 nq (fun j => tq (j + aq))).2.1, (S.mulI n1 np (fun j => tp (j + ap)) n2 nq (fun j => tq (j + aq))).2.2)) x.1.1 x.1.2.1.1 x.1.2.1.2.1 x.1.2.1.2.2.1 x.1.2.1.2.2.2.1 x.2.1.1 x.2.1.2.1.1 x.2.1.2.1.2.1 x.2.1.2.1.2.2.1 x.2.1.2.1.2.2.2.1, fun (x : (Bool × (Nat × Nat × Nat × (Nat → Int) × Unit) × Unit) × (Bool × (Nat × Nat × Nat × (Nat → Int) × Unit) × Unit) × Unit) => (fun (n1 : Bool) (ap np mp : Nat) (tp : Nat → Int) (n2 : Bool) (aq nq mq : Nat) (tq : Nat → Int) => (N26 n1 ap np mp tp n2 aq nq mq tq) ((S.mulI n1 np (fun j => tp (j + ap)) n2 nq (fun j => tq (j + aq))).1, (S.mulI n1 np (fun j => tp (j + ap)) n2 nq (fun j => tq (j + aq))).2.1, (S.mulI n1 np (fun j => tp (j + ap)) n2 nq (fun j => tq (j + aq))).2.2)) x.1.1 x.1.2.1.1 x.1.2.1.2.1 x.1.2.1.2.2.1 x.1.2.1.2.2.2.1 x.2.1.1 x.2.1.2.1.1 x.2.1.2.1.2.1 x.2.1.2.1.2.2.1 x.2.1.2.1.2.2.2.1, fun _ _ => .dead⟩
theorem s26 (n1 : Bool) (ap np mp : Nat) (tp : Nat → Int) (n2 : Bool) (aq nq mq : Nat) (tq : Nat → Int) (hp : (ap + np ≤ mp ∧ np ≤ 1000000) ∧ aq + nq ≤ mq ∧ nq ≤ 1000000) : Goes ((q26 n1 ap np mp tp n2 aq nq mq tq)) ((p26 n1 ap np mp tp n2 aq nq mq tq)) (((S.mulI n1 np (fun j => tp (j + ap)) n2 nq (fun j => tq (j + aq))).1, (S.mulI n1 np (fun j => tp (j + ap)) n2 nq (fun j => tq (j + aq))).2.1, (S.mulI n1 np (fun j => tp (j + ap)) n2 nq (fun j => tq (j + aq))).2.2)) := by
  obtain ⟨⟨hp1, hp2⟩, hp3, hp4⟩ := hp
  unfold S.mulI
  by_cases g1 : S.okI n1 np (fun j => tp (j + ap)) = true
  · obtain ⟨l1, k1⟩ := okI_G g1
    by_cases g2 : S.okI n2 nq (fun j => tq (j + aq)) = true
    · obtain ⟨l2, k2⟩ := okI_G g2
      have hq : (ap + np ≤ mp ∧ aq + nq ≤ mq) ∧ (np ≤ 1000 ∧ nq ≤ 1000) ∧ S.okG np (fun j => tp (j + ap)) = true ∧ S.okG nq (fun j => tq (j + aq)) = true := ⟨⟨hp1, hp3⟩, ⟨by omega, by omega⟩, k1, k2⟩
      have v1 := val_nn (okG_D k1)
      have v2 := val_nn (okG_D k2)
      have vm := mul_lt (a := 1000) (b := 1000) ⟨v1, val_lt (okG_D k1) (by omega)⟩ ⟨v2, val_lt (okG_D k2) (by omega)⟩
      have hl := grp_le vm.2
      rw [if_pos ⟨g1, g2⟩, fit_of, sv_mul, big_of vm.1]
      have hz := @len_zero ((S.val np (fun j => tp (j + ap))) * (S.val nq (fun j => tq (j + aq))))
      have ho : 0 + (S.grp ((S.val np (fun j => tp (j + ap))) * (S.val nq (fun j => tq (j + aq))))).length ≤ (S.grp ((S.val np (fun j => tp (j + ap))) * (S.val nq (fun j => tq (j + aq))))).length ∧ (S.grp ((S.val np (fun j => tp (j + ap))) * (S.val nq (fun j => tq (j + aq))))).length ≤ 1000000 ∧ (S.okD (S.grp ((S.val np (fun j => tp (j + ap))) * (S.val nq (fun j => tq (j + aq))))).length fun j => S.at' (S.grp ((S.val np (fun j => tp (j + ap))) * (S.val nq (fun j => tq (j + aq))))) j) = true := ⟨by omega, by omega, okG_D grp_ok⟩
      have hvl := val_grpL vm.1
      unfold p26
      cases n1 <;> cases n2 <;>
      (simp only [cond_true, cond_false, g1, g2, bne_self_eq_false, show (true != false) = true from rfl, show (false != true) = true from rfl, decide_eq_true (⟨hp1, hp2⟩ : ap + np ≤ mp ∧ np ≤ 1000000), decide_eq_true (⟨hp3, hp4⟩ : aq + nq ≤ mq ∧ nq ≤ 1000000), decide_eq_true hq, beq_zero, Bool.false_and, Bool.true_and]
       generalize (S.val np (fun j => tp (j + ap))) * (S.val nq (fun j => tq (j + aq))) = v at *
       by_cases h8 : (S.grp v).length > 80
       · rw [if_pos h8]
         have hv0 : 0 < v := by
           refine Int.not_le.mp fun h => ?_
           rw [grp_neg h] at h8
           exact absurd h8 (by simp)
         rw [decide_eq_false (by omega : ¬ v ≤ 0), cond_false]
         rw [decide_eq_true (by omega : (((S.grp v).length : Nat) : Int) > 80), cond_true]
         exact goes_inr.mpr rfl
       · rw [if_neg h8]
         by_cases hv0 : v ≤ 0
         · (try rw [decide_eq_false (by omega : ¬ 0 < v)])
           rw [decide_eq_true hv0, cond_true, grp_neg hv0]
           exact goes_inr.mpr rfl
         · (try rw [decide_eq_true (by omega : 0 < v)])
           rw [decide_eq_false hv0, cond_false, decide_eq_false (by omega : ¬ (((S.grp v).length : Nat) : Int) > 80), cond_false]
           exact goes_inr.mpr rfl)
    · rw [if_neg (fun h => g2 h.2)]
      have g2 := Bool.not_eq_true _ ▸ g2
      unfold p26
      cases n1 <;> cases n2 <;> simp only [cond_true, cond_false, g1, g2, decide_eq_true (⟨hp1, hp2⟩ : ap + np ≤ mp ∧ np ≤ 1000000), decide_eq_true (⟨hp3, hp4⟩ : aq + nq ≤ mq ∧ nq ≤ 1000000)] <;> exact goes_inr.mpr rfl
  · rw [if_neg (fun h => g1 h.1)]
    have g1 := Bool.not_eq_true _ ▸ g1
    unfold p26
    cases n1 <;> simp only [cond_true, cond_false, g1, decide_eq_true (⟨hp1, hp2⟩ : ap + np ≤ mp ∧ np ≤ 1000000)] <;> exact goes_inr.mpr rfl
theorem k26_ok  : k26.ok Tryd.prog := by
  intro x hx
  obtain ⟨⟨n1, ⟨ap, np, mp, tp, _⟩, _⟩, ⟨n2, ⟨aq, nq, mq, tq, _⟩, _⟩, _⟩ := x
  obtain ⟨h1, h2⟩ := a26 n1 ap np mp tp n2 aq nq mq tq (s26 n1 ap np mp tp n2 aq nq mq tq (of_dec hx rfl))
  exact ⟨⟨400, (by decide : 2 + 1 + 1 ≤ 400), h1⟩, h2⟩
abbrev St27  := Empty
abbrev Rt27  := Bool × Int × List Int
noncomputable def V27 (n1 : Bool) (ap np mp : Nat) (tp : Nat → Int) (n2 : Bool) (aq nq mq : Nat) (tq : Nat → Int) (r : Rt27) : PV := PV.tup
 [PV.agg [PV.bool r.1, PV.own (3) (1) (List.length r.2.2)],
 PV.int IntKind.i64 r.2.1]
noncomputable def N27 (n1 : Bool) (ap np mp : Nat) (tp : Nat → Int) (n2 : Bool) (aq nq mq : Nat) (tq : Nat → Int) (r : Rt27) : List Blk := [Blk.cols (List.length r.2.2) [Col.int IntKind.i64 fun j => S.at' r.2.2 j]]
noncomputable def I27 (n1 : Bool) (ap np mp : Nat) (tp : Nat → Int) (n2 : Bool) (aq nq mq : Nat) (tq : Nat → Int) : St27 → Hd := fun s => s.elim
noncomputable def q27 (n1 : Bool) (ap np mp : Nat) (tp : Nat → Int) (n2 : Bool) (aq nq mq : Nat) (tq : Nat → Int) : St27 → Option (St27 ⊕ Rt27) := fun s => s.elim
noncomputable def p27 (n1 : Bool) (ap np mp : Nat) (tp : Nat → Int) (n2 : Bool) (aq nq mq : Nat) (tq : Nat → Int) : Option (St27 ⊕ Rt27) := bif (decide (ap + np ≤ mp ∧ np ≤ 1000000))
 then (bif (S.okI n1 np fun j => tp (j + ap))
 then (bif (decide (aq + nq ≤ mq ∧ nq ≤ 1000000))
 then (bif (S.okI n2 nq fun j => tq (j + aq))
 then (bif (n1)
 then (bif (n2)
 then (bif (decide
 ((ap + np ≤ mp ∧ aq + nq ≤ mq) ∧
 (np ≤ 1000 ∧ nq ≤ 1000) ∧
 (S.okG np fun j => tp (j + ap)) = true ∧
 (S.okG nq fun j => tq (j + aq)) = true))
 then (bif (decide
 (0 +
 List.length
 (S.grp ((S.val np fun j => tp (j + ap)) * S.val nq fun j => tq (j + aq))) ≤
 List.length
 (S.grp ((S.val np fun j => tp (j + ap)) * S.val nq fun j => tq (j + aq))) ∧
 List.length
 (S.grp ((S.val np fun j => tp (j + ap)) * S.val nq fun j => tq (j + aq))) ≤
 1000000 ∧
 (S.okD
 (List.length
 (S.grp ((S.val np fun j => tp (j + ap)) * S.val nq fun j => tq (j + aq))))
 fun j =>
 S.at'
 (S.grp ((S.val np fun j => tp (j + ap)) * S.val nq fun j => tq (j + aq)))
 j) =
 true))
 then (bif (decide
 ((↑(List.length
 (S.grp
 (S.val
 (List.length
 (S.grp
 ((S.val np fun j => tp (j + ap)) * S.val nq fun j => tq (j + aq))))
 fun j =>
 S.at'
 (S.grp
 ((S.val np fun j => tp (j + ap)) * S.val nq fun j => tq (j + aq)))
 j))) :
 Int) >
 (80 : Int)))
 then (some (.inr (false, (3 : Int), [])))
 else (some (.inr (S.sgB false
 (S.val
 (List.length
 (S.grp ((S.val np fun j => tp (j + ap)) * S.val nq fun j => tq (j + aq))))
 fun j =>
 S.at'
 (S.grp ((S.val np fun j => tp (j + ap)) * S.val nq fun j => tq (j + aq))) j), (0 : Int), S.grp
 (S.val
 (List.length
 (S.grp ((S.val np fun j => tp (j + ap)) * S.val nq fun j => tq (j + aq))))
 fun j =>
 S.at'
 (S.grp ((S.val np fun j => tp (j + ap)) * S.val nq fun j => tq (j + aq))) j)))))
 else (none))
 else (none))
 else (bif (decide
 ((ap + np ≤ mp ∧ aq + nq ≤ mq) ∧
 (np ≤ 1000 ∧ nq ≤ 1000) ∧
 (S.okG np fun j => tp (j + ap)) = true ∧
 (S.okG nq fun j => tq (j + aq)) = true))
 then (bif (decide
 (0 +
 List.length
 (S.grp ((S.val np fun j => tp (j + ap)) * S.val nq fun j => tq (j + aq))) ≤
 List.length
 (S.grp ((S.val np fun j => tp (j + ap)) * S.val nq fun j => tq (j + aq))) ∧
 List.length
 (S.grp ((S.val np fun j => tp (j + ap)) * S.val nq fun j => tq (j + aq))) ≤
 1000000 ∧
 (S.okD
 (List.length
 (S.grp ((S.val np fun j => tp (j + ap)) * S.val nq fun j => tq (j + aq))))
 fun j =>
 S.at'
 (S.grp ((S.val np fun j => tp (j + ap)) * S.val nq fun j => tq (j + aq)))
 j) =
 true))
 then (bif (decide
 ((↑(List.length
 (S.grp
 (S.val
 (List.length
 (S.grp
 ((S.val np fun j => tp (j + ap)) * S.val nq fun j => tq (j + aq))))
 fun j =>
 S.at'
 (S.grp
 ((S.val np fun j => tp (j + ap)) * S.val nq fun j => tq (j + aq)))
 j))) :
 Int) >
 (80 : Int)))
 then (some (.inr (false, (3 : Int), [])))
 else (some (.inr (S.sgB true
 (S.val
 (List.length
 (S.grp ((S.val np fun j => tp (j + ap)) * S.val nq fun j => tq (j + aq))))
 fun j =>
 S.at'
 (S.grp ((S.val np fun j => tp (j + ap)) * S.val nq fun j => tq (j + aq))) j), (0 : Int), S.grp
 (S.val
 (List.length
 (S.grp ((S.val np fun j => tp (j + ap)) * S.val nq fun j => tq (j + aq))))
 fun j =>
 S.at'
 (S.grp ((S.val np fun j => tp (j + ap)) * S.val nq fun j => tq (j + aq))) j)))))
 else (none))
 else (none)))
 else (bif (n2)
 then (bif (decide
 ((ap + np ≤ mp ∧ aq + nq ≤ mq) ∧
 (np ≤ 1000 ∧ nq ≤ 1000) ∧
 (S.okG np fun j => tp (j + ap)) = true ∧
 (S.okG nq fun j => tq (j + aq)) = true))
 then (bif (decide
 (0 +
 List.length
 (S.grp ((S.val np fun j => tp (j + ap)) * S.val nq fun j => tq (j + aq))) ≤
 List.length
 (S.grp ((S.val np fun j => tp (j + ap)) * S.val nq fun j => tq (j + aq))) ∧
 List.length
 (S.grp ((S.val np fun j => tp (j + ap)) * S.val nq fun j => tq (j + aq))) ≤
 1000000 ∧
 (S.okD
 (List.length
 (S.grp ((S.val np fun j => tp (j + ap)) * S.val nq fun j => tq (j + aq))))
 fun j =>
 S.at'
 (S.grp ((S.val np fun j => tp (j + ap)) * S.val nq fun j => tq (j + aq)))
 j) =
 true))
 then (bif (decide
 ((↑(List.length
 (S.grp
 (S.val
 (List.length
 (S.grp
 ((S.val np fun j => tp (j + ap)) * S.val nq fun j => tq (j + aq))))
 fun j =>
 S.at'
 (S.grp
 ((S.val np fun j => tp (j + ap)) * S.val nq fun j => tq (j + aq)))
 j))) :
 Int) >
 (80 : Int)))
 then (some (.inr (false, (3 : Int), [])))
 else (some (.inr (S.sgB true
 (S.val
 (List.length
 (S.grp ((S.val np fun j => tp (j + ap)) * S.val nq fun j => tq (j + aq))))
 fun j =>
 S.at'
 (S.grp ((S.val np fun j => tp (j + ap)) * S.val nq fun j => tq (j + aq))) j), (0 : Int), S.grp
 (S.val
 (List.length
 (S.grp ((S.val np fun j => tp (j + ap)) * S.val nq fun j => tq (j + aq))))
 fun j =>
 S.at'
 (S.grp ((S.val np fun j => tp (j + ap)) * S.val nq fun j => tq (j + aq))) j)))))
 else (none))
 else (none))
 else (bif (decide
 ((ap + np ≤ mp ∧ aq + nq ≤ mq) ∧
 (np ≤ 1000 ∧ nq ≤ 1000) ∧
 (S.okG np fun j => tp (j + ap)) = true ∧
 (S.okG nq fun j => tq (j + aq)) = true))
 then (bif (decide
 (0 +
 List.length
 (S.grp ((S.val np fun j => tp (j + ap)) * S.val nq fun j => tq (j + aq))) ≤
 List.length
 (S.grp ((S.val np fun j => tp (j + ap)) * S.val nq fun j => tq (j + aq))) ∧
 List.length
 (S.grp ((S.val np fun j => tp (j + ap)) * S.val nq fun j => tq (j + aq))) ≤
 1000000 ∧
 (S.okD
 (List.length
 (S.grp ((S.val np fun j => tp (j + ap)) * S.val nq fun j => tq (j + aq))))
 fun j =>
 S.at'
 (S.grp ((S.val np fun j => tp (j + ap)) * S.val nq fun j => tq (j + aq)))
 j) =
 true))
 then (bif (decide
 ((↑(List.length
 (S.grp
 (S.val
 (List.length
 (S.grp
 ((S.val np fun j => tp (j + ap)) * S.val nq fun j => tq (j + aq))))
 fun j =>
 S.at'
 (S.grp
 ((S.val np fun j => tp (j + ap)) * S.val nq fun j => tq (j + aq)))
 j))) :
 Int) >
 (80 : Int)))
 then (some (.inr (false, (3 : Int), [])))
 else (some (.inr (S.sgB false
 (S.val
 (List.length
 (S.grp ((S.val np fun j => tp (j + ap)) * S.val nq fun j => tq (j + aq))))
 fun j =>
 S.at'
 (S.grp ((S.val np fun j => tp (j + ap)) * S.val nq fun j => tq (j + aq))) j), (0 : Int), S.grp
 (S.val
 (List.length
 (S.grp ((S.val np fun j => tp (j + ap)) * S.val nq fun j => tq (j + aq))))
 fun j =>
 S.at'
 (S.grp ((S.val np fun j => tp (j + ap)) * S.val nq fun j => tq (j + aq))) j)))))
 else (none))
 else (none))))
 else (some (.inr (false, (1 : Int), []))))
 else (none))
 else (some (.inr (false, (1 : Int), []))))
 else (none)
noncomputable def Te27 (test : Bool → Prop → Prop → Prop) (Kst : KS) (Kret : KR) (n1 : Bool) (ap np mp : Nat) (tp : Nat → Int) (n2 : Bool) (aq nq mq : Nat) (tq : Nat → Int) : Prop :=
  test (decide (ap + np ≤ mp ∧ np ≤ 1000000))
 (test (S.okI n1 np fun j => tp (j + ap))
 (test (decide (aq + nq ≤ mq ∧ nq ≤ 1000000))
 (test (S.okI n2 nq fun j => tq (j + aq))
 (test (n1)
 (test (n2)
 (test (decide
 ((ap + np ≤ mp ∧ aq + nq ≤ mq) ∧
 (np ≤ 1000 ∧ nq ≤ 1000) ∧
 (S.okG np fun j => tp (j + ap)) = true ∧
 (S.okG nq fun j => tq (j + aq)) = true))
 (test (decide
 (0 +
 List.length
 (S.grp ((S.val np fun j => tp (j + ap)) * S.val nq fun j => tq (j + aq))) ≤
 List.length
 (S.grp ((S.val np fun j => tp (j + ap)) * S.val nq fun j => tq (j + aq))) ∧
 List.length
 (S.grp ((S.val np fun j => tp (j + ap)) * S.val nq fun j => tq (j + aq))) ≤
 1000000 ∧
 (S.okD
 (List.length
 (S.grp ((S.val np fun j => tp (j + ap)) * S.val nq fun j => tq (j + aq))))
 fun j =>
 S.at'
 (S.grp ((S.val np fun j => tp (j + ap)) * S.val nq fun j => tq (j + aq)))
 j) =
 true))
 (test (decide
 ((↑(List.length
 (S.grp
 (S.val
 (List.length
 (S.grp
 ((S.val np fun j => tp (j + ap)) * S.val nq fun j => tq (j + aq))))
 fun j =>
 S.at'
 (S.grp
 ((S.val np fun j => tp (j + ap)) * S.val nq fun j => tq (j + aq)))
 j))) :
 Int) >
 (80 : Int)))
 (Kret (PV.tup [PV.agg [PV.tf false, PV.nils], PV.int IntKind.i64 (3 : Int)]) ([[(1, false, Blk.cols mq [Col.int IntKind.i64 tq]),
 (0, false, Blk.cols mp [Col.int IntKind.i64 tp])]]) (13))
 (Kret (PV.tup
 [PV.agg
 [PV.bool
 (S.sgB false
 (S.val
 (List.length
 (S.grp
 ((S.val np fun j => tp (j + ap)) * S.val nq fun j => tq (j + aq))))
 fun j =>
 S.at'
 (S.grp
 ((S.val np fun j => tp (j + ap)) * S.val nq fun j => tq (j + aq)))
 j)),
 PV.own (10) (1)
 (List.length
 (S.grp
 (S.val
 (List.length
 (S.grp
 ((S.val np fun j => tp (j + ap)) * S.val nq fun j => tq (j + aq))))
 fun j =>
 S.at'
 (S.grp
 ((S.val np fun j => tp (j + ap)) * S.val nq fun j => tq (j + aq)))
 j)))],
 PV.int IntKind.i64 (0 : Int)]) ([[(1, false, Blk.cols mq [Col.int IntKind.i64 tq]),
 (0, false, Blk.cols mp [Col.int IntKind.i64 tp]),
 (10, true,
 Blk.cols
 (List.length
 (S.grp
 (S.val
 (List.length
 (S.grp
 ((S.val np fun j => tp (j + ap)) * S.val nq fun j => tq (j + aq))))
 fun j =>
 S.at'
 (S.grp
 ((S.val np fun j => tp (j + ap)) * S.val nq fun j => tq (j + aq)))
 j)))
 [Col.int IntKind.i64 fun j =>
 S.at'
 (S.grp
 (S.val
 (List.length
 (S.grp
 ((S.val np fun j => tp (j + ap)) * S.val nq fun j => tq (j + aq))))
 fun j =>
 S.at'
 (S.grp
 ((S.val np fun j => tp (j + ap)) * S.val nq fun j => tq (j + aq)))
 j))
 j])]]) (13)))
 (False))
 (False))
 (test (decide
 ((ap + np ≤ mp ∧ aq + nq ≤ mq) ∧
 (np ≤ 1000 ∧ nq ≤ 1000) ∧
 (S.okG np fun j => tp (j + ap)) = true ∧
 (S.okG nq fun j => tq (j + aq)) = true))
 (test (decide
 (0 +
 List.length
 (S.grp ((S.val np fun j => tp (j + ap)) * S.val nq fun j => tq (j + aq))) ≤
 List.length
 (S.grp ((S.val np fun j => tp (j + ap)) * S.val nq fun j => tq (j + aq))) ∧
 List.length
 (S.grp ((S.val np fun j => tp (j + ap)) * S.val nq fun j => tq (j + aq))) ≤
 1000000 ∧
 (S.okD
 (List.length
 (S.grp ((S.val np fun j => tp (j + ap)) * S.val nq fun j => tq (j + aq))))
 fun j =>
 S.at'
 (S.grp ((S.val np fun j => tp (j + ap)) * S.val nq fun j => tq (j + aq)))
 j) =
 true))
 (test (decide
 ((↑(List.length
 (S.grp
 (S.val
 (List.length
 (S.grp
 ((S.val np fun j => tp (j + ap)) * S.val nq fun j => tq (j + aq))))
 fun j =>
 S.at'
 (S.grp
 ((S.val np fun j => tp (j + ap)) * S.val nq fun j => tq (j + aq)))
 j))) :
 Int) >
 (80 : Int)))
 (Kret (PV.tup [PV.agg [PV.tf false, PV.nils], PV.int IntKind.i64 (3 : Int)]) ([[(1, false, Blk.cols mq [Col.int IntKind.i64 tq]),
 (0, false, Blk.cols mp [Col.int IntKind.i64 tp])]]) (13))
 (Kret (PV.tup
 [PV.agg
 [PV.bool
 (S.sgB true
 (S.val
 (List.length
 (S.grp
 ((S.val np fun j => tp (j + ap)) * S.val nq fun j => tq (j + aq))))
 fun j =>
 S.at'
 (S.grp
 ((S.val np fun j => tp (j + ap)) * S.val nq fun j => tq (j + aq)))
 j)),
 PV.own (10) (1)
 (List.length
 (S.grp
 (S.val
 (List.length
 (S.grp
 ((S.val np fun j => tp (j + ap)) * S.val nq fun j => tq (j + aq))))
 fun j =>
 S.at'
 (S.grp
 ((S.val np fun j => tp (j + ap)) * S.val nq fun j => tq (j + aq)))
 j)))],
 PV.int IntKind.i64 (0 : Int)]) ([[(1, false, Blk.cols mq [Col.int IntKind.i64 tq]),
 (0, false, Blk.cols mp [Col.int IntKind.i64 tp]),
 (10, true,
 Blk.cols
 (List.length
 (S.grp
 (S.val
 (List.length
 (S.grp
 ((S.val np fun j => tp (j + ap)) * S.val nq fun j => tq (j + aq))))
 fun j =>
 S.at'
 (S.grp
 ((S.val np fun j => tp (j + ap)) * S.val nq fun j => tq (j + aq)))
 j)))
 [Col.int IntKind.i64 fun j =>
 S.at'
 (S.grp
 (S.val
 (List.length
 (S.grp
 ((S.val np fun j => tp (j + ap)) * S.val nq fun j => tq (j + aq))))
 fun j =>
 S.at'
 (S.grp
 ((S.val np fun j => tp (j + ap)) * S.val nq fun j => tq (j + aq)))
 j))
 j])]]) (13)))
 (False))
 (False)))
 (test (n2)
 (test (decide
 ((ap + np ≤ mp ∧ aq + nq ≤ mq) ∧
 (np ≤ 1000 ∧ nq ≤ 1000) ∧
 (S.okG np fun j => tp (j + ap)) = true ∧
 (S.okG nq fun j => tq (j + aq)) = true))
 (test (decide
 (0 +
 List.length
 (S.grp ((S.val np fun j => tp (j + ap)) * S.val nq fun j => tq (j + aq))) ≤
 List.length
 (S.grp ((S.val np fun j => tp (j + ap)) * S.val nq fun j => tq (j + aq))) ∧
 List.length
 (S.grp ((S.val np fun j => tp (j + ap)) * S.val nq fun j => tq (j + aq))) ≤
 1000000 ∧
 (S.okD
 (List.length
 (S.grp ((S.val np fun j => tp (j + ap)) * S.val nq fun j => tq (j + aq))))
 fun j =>
 S.at'
 (S.grp ((S.val np fun j => tp (j + ap)) * S.val nq fun j => tq (j + aq)))
 j) =
 true))
 (test (decide
 ((↑(List.length
 (S.grp
 (S.val
 (List.length
 (S.grp
 ((S.val np fun j => tp (j + ap)) * S.val nq fun j => tq (j + aq))))
 fun j =>
 S.at'
 (S.grp
 ((S.val np fun j => tp (j + ap)) * S.val nq fun j => tq (j + aq)))
 j))) :
 Int) >
 (80 : Int)))
 (Kret (PV.tup [PV.agg [PV.tf false, PV.nils], PV.int IntKind.i64 (3 : Int)]) ([[(1, false, Blk.cols mq [Col.int IntKind.i64 tq]),
 (0, false, Blk.cols mp [Col.int IntKind.i64 tp])]]) (13))
 (Kret (PV.tup
 [PV.agg
 [PV.bool
 (S.sgB true
 (S.val
 (List.length
 (S.grp
 ((S.val np fun j => tp (j + ap)) * S.val nq fun j => tq (j + aq))))
 fun j =>
 S.at'
 (S.grp
 ((S.val np fun j => tp (j + ap)) * S.val nq fun j => tq (j + aq)))
 j)),
 PV.own (10) (1)
 (List.length
 (S.grp
 (S.val
 (List.length
 (S.grp
 ((S.val np fun j => tp (j + ap)) * S.val nq fun j => tq (j + aq))))
 fun j =>
 S.at'
 (S.grp
 ((S.val np fun j => tp (j + ap)) * S.val nq fun j => tq (j + aq)))
 j)))],
 PV.int IntKind.i64 (0 : Int)]) ([[(1, false, Blk.cols mq [Col.int IntKind.i64 tq]),
 (0, false, Blk.cols mp [Col.int IntKind.i64 tp]),
 (10, true,
 Blk.cols
 (List.length
 (S.grp
 (S.val
 (List.length
 (S.grp
 ((S.val np fun j => tp (j + ap)) * S.val nq fun j => tq (j + aq))))
 fun j =>
 S.at'
 (S.grp
 ((S.val np fun j => tp (j + ap)) * S.val nq fun j => tq (j + aq)))
 j)))
 [Col.int IntKind.i64 fun j =>
 S.at'
 (S.grp
 (S.val
 (List.length
 (S.grp
 ((S.val np fun j => tp (j + ap)) * S.val nq fun j => tq (j + aq))))
 fun j =>
 S.at'
 (S.grp
 ((S.val np fun j => tp (j + ap)) * S.val nq fun j => tq (j + aq)))
 j))
 j])]]) (13)))
 (False))
 (False))
 (test (decide
 ((ap + np ≤ mp ∧ aq + nq ≤ mq) ∧
 (np ≤ 1000 ∧ nq ≤ 1000) ∧
 (S.okG np fun j => tp (j + ap)) = true ∧
 (S.okG nq fun j => tq (j + aq)) = true))
 (test (decide
 (0 +
 List.length
 (S.grp ((S.val np fun j => tp (j + ap)) * S.val nq fun j => tq (j + aq))) ≤
 List.length
 (S.grp ((S.val np fun j => tp (j + ap)) * S.val nq fun j => tq (j + aq))) ∧
 List.length
 (S.grp ((S.val np fun j => tp (j + ap)) * S.val nq fun j => tq (j + aq))) ≤
 1000000 ∧
 (S.okD
 (List.length
 (S.grp ((S.val np fun j => tp (j + ap)) * S.val nq fun j => tq (j + aq))))
 fun j =>
 S.at'
 (S.grp ((S.val np fun j => tp (j + ap)) * S.val nq fun j => tq (j + aq)))
 j) =
 true))
 (test (decide
 ((↑(List.length
 (S.grp
 (S.val
 (List.length
 (S.grp
 ((S.val np fun j => tp (j + ap)) * S.val nq fun j => tq (j + aq))))
 fun j =>
 S.at'
 (S.grp
 ((S.val np fun j => tp (j + ap)) * S.val nq fun j => tq (j + aq)))
 j))) :
 Int) >
 (80 : Int)))
 (Kret (PV.tup [PV.agg [PV.tf false, PV.nils], PV.int IntKind.i64 (3 : Int)]) ([[(1, false, Blk.cols mq [Col.int IntKind.i64 tq]),
 (0, false, Blk.cols mp [Col.int IntKind.i64 tp])]]) (13))
 (Kret (PV.tup
 [PV.agg
 [PV.bool
 (S.sgB false
 (S.val
 (List.length
 (S.grp
 ((S.val np fun j => tp (j + ap)) * S.val nq fun j => tq (j + aq))))
 fun j =>
 S.at'
 (S.grp
 ((S.val np fun j => tp (j + ap)) * S.val nq fun j => tq (j + aq)))
 j)),
 PV.own (10) (1)
 (List.length
 (S.grp
 (S.val
 (List.length
 (S.grp
 ((S.val np fun j => tp (j + ap)) * S.val nq fun j => tq (j + aq))))
 fun j =>
 S.at'
 (S.grp
 ((S.val np fun j => tp (j + ap)) * S.val nq fun j => tq (j + aq)))
 j)))],
 PV.int IntKind.i64 (0 : Int)]) ([[(1, false, Blk.cols mq [Col.int IntKind.i64 tq]),
 (0, false, Blk.cols mp [Col.int IntKind.i64 tp]),
 (10, true,
 Blk.cols
 (List.length
 (S.grp
 (S.val
 (List.length
 (S.grp
 ((S.val np fun j => tp (j + ap)) * S.val nq fun j => tq (j + aq))))
 fun j =>
 S.at'
 (S.grp
 ((S.val np fun j => tp (j + ap)) * S.val nq fun j => tq (j + aq)))
 j)))
 [Col.int IntKind.i64 fun j =>
 S.at'
 (S.grp
 (S.val
 (List.length
 (S.grp
 ((S.val np fun j => tp (j + ap)) * S.val nq fun j => tq (j + aq))))
 fun j =>
 S.at'
 (S.grp
 ((S.val np fun j => tp (j + ap)) * S.val nq fun j => tq (j + aq)))
 j))
 j])]]) (13)))
 (False))
 (False))))
 (Kret (PV.tup [PV.agg [PV.tf false, PV.nils], PV.int IntKind.i64 (1 : Int)]) ([[(1, false, Blk.cols mq [Col.int IntKind.i64 tq]),
 (0, false, Blk.cols mp [Col.int IntKind.i64 tp])]]) (7)))
 (False))
 (Kret (PV.tup [PV.agg [PV.tf false, PV.nils], PV.int IntKind.i64 (1 : Int)]) ([[(1, false, Blk.cols mq [Col.int IntKind.i64 tq]),
 (0, false, Blk.cols mp [Col.int IntKind.i64 tp])]]) (6)))
 (False)
theorem te27 (test : Bool → Prop → Prop → Prop) (Kst : KS) (Kret : KR) (n1 : Bool) (ap np mp : Nat) (tp : Nat → Int) (n2 : Bool) (aq nq mq : Nat) (tq : Nat → Int) : run test Tryd.env true (xM test) true 400 ⟨27, [.cd (mkFn Tryd.f27).body], argT 0 [.agg [.bool n1, .loose ⟨0, 1, ap, 0⟩ np], .agg [.bool n2, .loose ⟨1, 1, aq, 0⟩ nq]], [[], [(0, (false, .cols mp [.int .i64 tp])), (1, (false, .cols mq [.int .i64 tq]))]], 2⟩ (proj 2 [] Kst Kret) =
  Te27 test Kst Kret n1 ap np mp tp n2 aq nq mq tq := by kernel_rfl
attribute [local irreducible] Int.subNatNat in
theorem be27 (n1 : Bool) (ap np mp : Nat) (tp : Nat → Int) (n2 : Bool) (aq nq mq : Nat) (tq : Nat → Int) (Kst : KS) (Kret : KR) (x : St27 ⊕ Rt27) (hS : HS 2 400 ((I27 n1 ap np mp tp n2 aq nq mq tq)) Kst x) (hR : HR 2 400 ((V27 n1 ap np mp tp n2 aq nq mq tq)) (fun r => [newL (2 + 1) ((N27 n1 ap np mp tp n2 aq nq mq tq) r) ++ [(0, (false, .cols mp [.int .i64 tp])), (1, (false, .cols mq [.int .i64 tq]))]]) Kret x) (h : p27 n1 ap np mp tp n2 aq nq mq tq = some x) : Te27 cond Kst Kret n1 ap np mp tp n2 aq nq mq tq := by
  unfold Te27
  unfold p27 at h
  refine bif_split h
   (fun c0 h => bif_split h
   (fun c1 h => bif_split h
   (fun c2 h => bif_split h
   (fun c3 h => bif_split h
   (fun c4 h => bif_split h
   (fun c5 h => bif_split h
   (fun c6 h => bif_split h
   (fun c7 h => bif_split h
   (fun c8 h => ?_)
   (fun c8 h => ?_))
   (fun c7 h => ?_))
   (fun c6 h => ?_))
   (fun c5 h => bif_split h
   (fun c6 h => bif_split h
   (fun c7 h => bif_split h
   (fun c8 h => ?_)
   (fun c8 h => ?_))
   (fun c7 h => ?_))
   (fun c6 h => ?_)))
   (fun c4 h => bif_split h
   (fun c5 h => bif_split h
   (fun c6 h => bif_split h
   (fun c7 h => bif_split h
   (fun c8 h => ?_)
   (fun c8 h => ?_))
   (fun c7 h => ?_))
   (fun c6 h => ?_))
   (fun c5 h => bif_split h
   (fun c6 h => bif_split h
   (fun c7 h => bif_split h
   (fun c8 h => ?_)
   (fun c8 h => ?_))
   (fun c7 h => ?_))
   (fun c6 h => ?_))))
   (fun c3 h => ?_))
   (fun c2 h => ?_))
   (fun c1 h => ?_))
   (fun c0 h => ?_)
  all_goals first
    | exact no_some h
    | exact ret_at hR _ h (fun n => bif Nat.beq n 3 then 399 else n) rfl rfl rfl (rn_tup ⟨(rn_agg ⟨(rn_bool_tf rfl), (rn_own_nils rfl), trivial⟩), (rn_int rfl), trivial⟩) rfl (entl_fresh (use_own rfl) (fresh_ok rfl) (entl_bor (use_lo rfl) rfl rfl (entl_bor (use_lo rfl) rfl rfl entl_nil)))
    | exact ret_at hR _ h (fun n => bif Nat.beq n 3 then 10 else n) rfl rfl rfl (rn_tup ⟨(rn_agg ⟨(rn_bool rfl), (rn_own (use_own rfl) rfl rfl), trivial⟩), (rn_int rfl), trivial⟩) rfl (entl_new (use_own rfl) rfl (Nat.le_of_eq rfl) (rcs_int (fun _ _ => rfl) rcs_nil) (entl_bor (use_lo rfl) rfl rfl (entl_bor (use_lo rfl) rfl rfl entl_nil)))
theorem a27 (n1 : Bool) (ap np mp : Nat) (tp : Nat → Int) (n2 : Bool) (aq nq mq : Nat) (tq : Nat → Int) {r : Rt27} (h : Goes ((q27 n1 ap np mp tp n2 aq nq mq tq)) ((p27 n1 ap np mp tp n2 aq nq mq tq)) r) : CallR Tryd.prog 27 [.agg [.bool n1, .loose ⟨0, 1, ap, 0⟩ np], .agg [.bool n2, .loose ⟨1, 1, aq, 0⟩ nq]] [[(0, (false, .cols mp [.int .i64 tp])), (1, (false, .cols mq [.int .i64 tq]))]] 2 ((V27 n1 ap np mp tp n2 aq nq mq tq) r) ((fun r => [newL (2 + 1) ((N27 n1 ap np mp tp n2 aq nq mq tq) r) ++ [(0, (false, .cols mp [.int .i64 tp])), (1, (false, .cols mq [.int .i64 tq]))]]) r) 400 ∧ ∃ F, Tryd.prog.funcs[27]? = some F ∧ F.body.isSome = true ∧ (F.name == "runtime.NumGoroutine") = false := by
  refine dec_calls (f := 27) (lo := 2) (hi := 400) (H := [[(0, (false, .cols mp [.int .i64 tp])), (1, (false, .cols mq [.int .i64 tq]))]]) (args := [.agg [.bool n1, .loose ⟨0, 1, ap, 0⟩ np], .agg [.bool n2, .loose ⟨1, 1, aq, 0⟩ nq]]) Tryd.envOk Tryd.mixed xM_ok ((I27 n1 ap np mp tp n2 aq nq mq tq)) ((V27 n1 ap np mp tp n2 aq nq mq tq)) (fun r => [newL (2 + 1) ((N27 n1 ap np mp tp n2 aq nq mq tq) r) ++ [(0, (false, .cols mp [.int .i64 tp])), (1, (false, .cols mq [.int .i64 tq]))]]) (fn := mkFn Tryd.f27) (ts := []) (n := 400) rfl (by decide) (by simp) (names_of rfl) ?_ ?_ ?_ h
  · intro s; exact s.elim
  · intro Kst Kret x hS hR h
    exact Holds.eq (te27 cond Kst Kret n1 ap np mp tp n2 aq nq mq tq) (be27 n1 ap np mp tp n2 aq nq mq tq Kst Kret x hS hR h)
  · intro Kst Kret x hS hR s h; exact s.elim
noncomputable def k27  : Con := ⟨27, [.agg [.plain (.bool), .list [.int .i64]], .agg [.plain (.bool), .list [.int .i64]]], fun (x : (Bool × (Nat × Nat × Nat × (Nat → Int) × Unit) × Unit) × (Bool × (Nat × Nat × Nat × (Nat → Int) × Unit) × Unit) × Unit) => (fun (n1 : Bool) (ap np mp : Nat) (tp : Nat → Int) (n2 : Bool) (aq nq mq : Nat) (tq : Nat → Int) => decide ((ap + np ≤ mp ∧ np ≤ 1000000) ∧ aq + nq ≤ mq ∧ nq ≤ 1000000)) x.1.1 x.1.2.1.1 x.1.2.1.2.1 x.1.2.1.2.2.1 x.1.2.1.2.2.2.1 x.2.1.1 x.2.1.2.1.1 x.2.1.2.1.2.1 x.2.1.2.1.2.2.1 x.2.1.2.1.2.2.2.1, fun (x : (Bool × (Nat × Nat × Nat × (Nat → Int) × Unit) × Unit) × (Bool × (Nat × Nat × Nat × (Nat → Int) × Unit) × Unit) × Unit) => (fun (n1 : Bool) (ap np mp : Nat) (tp : Nat → Int) (n2 : Bool) (aq nq mq : Nat) (tq : Nat → Int) => (V27 n1 ap np mp tp n2 aq nq mq tq) ((S.mulI n1 np (fun j => tp (j + ap)) n2 nq (fun j => tq (j + aq))).1, (S.mulI n1 np (fun j => tp (j + ap)) n2 nq (fun j => tq (j + aq))).2.1, (S.mulI n1 np (fun j => tp (j + ap)) n2 nq (fun j => tq (j + aq))).2.2)) x.1.1 x.1.2.1.1 x.1.2.1.2.1 x.1.2.1.2.2.1 x.1.2.1.2.2.2.1 x.2.1.1 x.2.1.2.1.1 x.2.1.2.1.2.1 x.2.1.2.1.2.2.1 x.2.1.2.1.2.2.2.1, fun (x : (Bool × (Nat × Nat × Nat × (Nat → Int) × Unit) × Unit) × (Bool × (Nat × Nat × Nat × (Nat → Int) × Unit) × Unit) × Unit) => (fun (n1 : Bool) (ap np mp : Nat) (tp : Nat → Int) (n2 : Bool) (aq nq mq : Nat) (tq : Nat → Int) => (N27 n1 ap np mp tp n2 aq nq mq tq) ((S.mulI n1 np (fun j => tp (j + ap)) n2 nq (fun j => tq (j + aq))).1, (S.mulI n1 np (fun j => tp (j + ap)) n2 nq (fun j => tq (j + aq))).2.1, (S.mulI n1 np (fun j => tp (j + ap)) n2 nq (fun j => tq (j + aq))).2.2)) x.1.1 x.1.2.1.1 x.1.2.1.2.1 x.1.2.1.2.2.1 x.1.2.1.2.2.2.1 x.2.1.1 x.2.1.2.1.1 x.2.1.2.1.2.1 x.2.1.2.1.2.2.1 x.2.1.2.1.2.2.2.1, fun _ _ => .dead⟩
theorem s27 (n1 : Bool) (ap np mp : Nat) (tp : Nat → Int) (n2 : Bool) (aq nq mq : Nat) (tq : Nat → Int) (hp : (ap + np ≤ mp ∧ np ≤ 1000000) ∧ aq + nq ≤ mq ∧ nq ≤ 1000000) : Goes ((q27 n1 ap np mp tp n2 aq nq mq tq)) ((p27 n1 ap np mp tp n2 aq nq mq tq)) (((S.mulI n1 np (fun j => tp (j + ap)) n2 nq (fun j => tq (j + aq))).1, (S.mulI n1 np (fun j => tp (j + ap)) n2 nq (fun j => tq (j + aq))).2.1, (S.mulI n1 np (fun j => tp (j + ap)) n2 nq (fun j => tq (j + aq))).2.2)) := by
  obtain ⟨⟨hp1, hp2⟩, hp3, hp4⟩ := hp
  unfold S.mulI
  by_cases g1 : S.okI n1 np (fun j => tp (j + ap)) = true
  · obtain ⟨l1, k1⟩ := okI_G g1
    by_cases g2 : S.okI n2 nq (fun j => tq (j + aq)) = true
    · obtain ⟨l2, k2⟩ := okI_G g2
      have hq : (ap + np ≤ mp ∧ aq + nq ≤ mq) ∧ (np ≤ 1000 ∧ nq ≤ 1000) ∧ S.okG np (fun j => tp (j + ap)) = true ∧ S.okG nq (fun j => tq (j + aq)) = true := ⟨⟨hp1, hp3⟩, ⟨by omega, by omega⟩, k1, k2⟩
      have v1 := val_nn (okG_D k1)
      have v2 := val_nn (okG_D k2)
      have vm := mul_lt (a := 1000) (b := 1000) ⟨v1, val_lt (okG_D k1) (by omega)⟩ ⟨v2, val_lt (okG_D k2) (by omega)⟩
      have hl := grp_le vm.2
      rw [if_pos ⟨g1, g2⟩, fit_of, sv_mul, big_of vm.1]
      have hz := @len_zero ((S.val np (fun j => tp (j + ap))) * (S.val nq (fun j => tq (j + aq))))
      have ho : 0 + (S.grp ((S.val np (fun j => tp (j + ap))) * (S.val nq (fun j => tq (j + aq))))).length ≤ (S.grp ((S.val np (fun j => tp (j + ap))) * (S.val nq (fun j => tq (j + aq))))).length ∧ (S.grp ((S.val np (fun j => tp (j + ap))) * (S.val nq (fun j => tq (j + aq))))).length ≤ 1000000 ∧ (S.okD (S.grp ((S.val np (fun j => tp (j + ap))) * (S.val nq (fun j => tq (j + aq))))).length fun j => S.at' (S.grp ((S.val np (fun j => tp (j + ap))) * (S.val nq (fun j => tq (j + aq))))) j) = true := ⟨by omega, by omega, okG_D grp_ok⟩
      have hvl := val_grpL vm.1
      unfold p27
      cases n1 <;> cases n2 <;>
      (simp only [cond_true, cond_false, g1, g2, bne_self_eq_false, show (true != false) = true from rfl, show (false != true) = true from rfl, decide_eq_true (⟨hp1, hp2⟩ : ap + np ≤ mp ∧ np ≤ 1000000), decide_eq_true (⟨hp3, hp4⟩ : aq + nq ≤ mq ∧ nq ≤ 1000000), decide_eq_true hq, decide_eq_true ho, hvl, S.sgB, Bool.false_and, Bool.true_and]
       generalize (S.val np (fun j => tp (j + ap))) * (S.val nq (fun j => tq (j + aq))) = v at *
       by_cases h8 : (S.grp v).length > 80
       · rw [if_pos h8]
         have hv0 : 0 < v := by
           refine Int.not_le.mp fun h => ?_
           rw [grp_neg h] at h8
           exact absurd h8 (by simp)
         skip
         rw [decide_eq_true (by omega : (((S.grp v).length : Nat) : Int) > 80), cond_true]
         exact goes_inr.mpr rfl
       · rw [if_neg h8]
         skip
         rw [decide_eq_false (by omega : ¬ (((S.grp v).length : Nat) : Int) > 80), cond_false]
         exact goes_inr.mpr rfl)
    · rw [if_neg (fun h => g2 h.2)]
      have g2 := Bool.not_eq_true _ ▸ g2
      unfold p27
      cases n1 <;> cases n2 <;> simp only [cond_true, cond_false, g1, g2, decide_eq_true (⟨hp1, hp2⟩ : ap + np ≤ mp ∧ np ≤ 1000000), decide_eq_true (⟨hp3, hp4⟩ : aq + nq ≤ mq ∧ nq ≤ 1000000)] <;> exact goes_inr.mpr rfl
  · rw [if_neg (fun h => g1 h.1)]
    have g1 := Bool.not_eq_true _ ▸ g1
    unfold p27
    cases n1 <;> simp only [cond_true, cond_false, g1, decide_eq_true (⟨hp1, hp2⟩ : ap + np ≤ mp ∧ np ≤ 1000000)] <;> exact goes_inr.mpr rfl
theorem k27_ok  : k27.ok Tryd.prog := by
  intro x hx
  obtain ⟨⟨n1, ⟨ap, np, mp, tp, _⟩, _⟩, ⟨n2, ⟨aq, nq, mq, tq, _⟩, _⟩, _⟩ := x
  obtain ⟨h1, h2⟩ := a27 n1 ap np mp tp n2 aq nq mq tq (s27 n1 ap np mp tp n2 aq nq mq tq (of_dec hx rfl))
  exact ⟨⟨400, (by decide : 2 + 1 + 1 ≤ 400), h1⟩, h2⟩
noncomputable def xP (test : Bool → Prop → Prop → Prop) : Ext := consX test [k12, k26, k27, k45, k20, k16, k18, k19]
theorem xP_ok  : ExtOk Tryd.prog (xP cond) := consX_ok ⟨k12_ok, k26_ok, k27_ok, k45_ok, k20_ok, k16_ok, k18_ok, k19_ok, trivial⟩
theorem okI_congr  {ng : Bool} {n : Nat} {t u : Nat → Int} (h : ∀ j, j < n → t j = u j) : S.okI ng n t = S.okI ng n u := by
  unfold S.okI S.okG
  rw [all_congr (q := fun j => S.digB (u j)) fun j hj => by rw [h j hj]]
  cases n with
  | zero => rfl
  | succ n => rw [h (n + 1 - 1) (by omega)]
section
variable {n1 n2 : Bool} {n m : Nat} {t u : Nat → Int}
theorem samI_self  {L : List Int} {c : Bool} : S.samI c L.length (fun j => S.at' L j) c L.length (fun j => S.at' L j) = true := decide_eq_true ⟨rfl, rfl⟩
theorem fit_len (v : Int) : (S.fitI v).2.2.length ≤ 80 := by
  unfold S.fitI
  split
  · exact Nat.zero_le _
  · show (S.grp _).length ≤ 80; omega
end
section
variable {n1 n2 : Bool} {n m : Nat} {t u : Nat → Int}
theorem mulI_mk  : S.mulI n1 n (fun j => S.at' (S.mkl n t) j) n2 m (fun j => S.at' (S.mkl m u) j) = S.mulI n1 n t n2 m u := by
  unfold S.mulI
  rw [okI_congr (u := t) fun j hj => at_mkl hj, okI_congr (u := u) fun j hj => at_mkl hj, val_congr (u := t) fun j hj => at_mkl hj, val_congr (u := u) fun j hj => at_mkl hj]
theorem mulI_len  : (S.mulI n1 n t n2 m u).2.2.length ≤ 80 := by
  unfold S.mulI
  split
  · exact fit_len _
  · exact Nat.zero_le _
end
abbrev St5  := Empty
abbrev Rt5  := Bool
noncomputable def V5 (n1 : Bool) (ap np mp : Nat) (tp : Nat → Int) (n2 : Bool) (aq nq mq : Nat) (tq : Nat → Int) (r : Rt5) : PV := PV.bool r
noncomputable def N5 (n1 : Bool) (ap np mp : Nat) (tp : Nat → Int) (n2 : Bool) (aq nq mq : Nat) (tq : Nat → Int) (r : Rt5) : List Blk := []
noncomputable def I5 (n1 : Bool) (ap np mp : Nat) (tp : Nat → Int) (n2 : Bool) (aq nq mq : Nat) (tq : Nat → Int) : St5 → Hd := fun s => s.elim
noncomputable def q5 (n1 : Bool) (ap np mp : Nat) (tp : Nat → Int) (n2 : Bool) (aq nq mq : Nat) (tq : Nat → Int) : St5 → Option (St5 ⊕ Rt5) := fun s => s.elim
noncomputable def p5 (n1 : Bool) (ap np mp : Nat) (tp : Nat → Int) (n2 : Bool) (aq nq mq : Nat) (tq : Nat → Int) : Option (St5 ⊕ Rt5) := bif (lim IntKind.i64 ((0 : Int) + (↑np : Int)))
 then (bif (lim IntKind.i64 ((0 : Int) + (↑np : Int) + (↑nq : Int)))
 then (bif (decide ((0 : Int) + (↑np : Int) + (↑nq : Int) ≤ (170 : Int)))
 then (bif (decide (ap + np ≤ mp ∧ np ≤ 1000000))
 then (bif (decide (aq + nq ≤ mq ∧ nq ≤ 1000000))
 then (bif (decide
 ((0 + List.length (S.mkl np fun j => tp (j + ap)) ≤
 List.length (S.mkl np fun j => tp (j + ap)) ∧
 List.length (S.mkl np fun j => tp (j + ap)) ≤ 1000000) ∧
 0 + List.length (S.mkl nq fun j => tq (j + aq)) ≤
 List.length (S.mkl nq fun j => tq (j + aq)) ∧
 List.length (S.mkl nq fun j => tq (j + aq)) ≤ 1000000))
 then (bif (decide ((ap + np ≤ mp ∧ np ≤ 1000000) ∧ aq + nq ≤ mq ∧ nq ≤ 1000000))
 then (bif (Prod.fst
 (Prod.snd
 (S.mulI n1 (List.length (S.mkl np fun j => tp (j + ap)))
 (fun j => S.at' (S.mkl np fun j => tp (j + ap)) j) n2
 (List.length (S.mkl nq fun j => tq (j + aq))) fun j =>
 S.at' (S.mkl nq fun j => tq (j + aq)) j)) ==
 (S.mulI n1 np (fun j => tp (j + ap)) n2 nq fun j => tq (j + aq)).2.1)
 then (bif (decide
 ((0 +
 List.length
 (Prod.snd
 (Prod.snd
 (S.mulI n1 (List.length (S.mkl np fun j => tp (j + ap)))
 (fun j => S.at' (S.mkl np fun j => tp (j + ap)) j) n2
 (List.length (S.mkl nq fun j => tq (j + aq))) fun j =>
 S.at' (S.mkl nq fun j => tq (j + aq)) j))) ≤
 List.length
 (Prod.snd
 (Prod.snd
 (S.mulI n1 (List.length (S.mkl np fun j => tp (j + ap)))
 (fun j => S.at' (S.mkl np fun j => tp (j + ap)) j) n2
 (List.length (S.mkl nq fun j => tq (j + aq))) fun j =>
 S.at' (S.mkl nq fun j => tq (j + aq)) j))) ∧
 List.length
 (Prod.snd
 (Prod.snd
 (S.mulI n1 (List.length (S.mkl np fun j => tp (j + ap)))
 (fun j => S.at' (S.mkl np fun j => tp (j + ap)) j) n2
 (List.length (S.mkl nq fun j => tq (j + aq))) fun j =>
 S.at' (S.mkl nq fun j => tq (j + aq)) j))) ≤
 1000000) ∧
 0 +
 List.length
 (Prod.snd
 ((S.mulI n1 np (fun j => tp (j + ap)) n2 nq fun j => tq (j + aq)).2)) ≤
 List.length
 ((S.mulI n1 np (fun j => tp (j + ap)) n2 nq fun j => tq (j + aq)).2.2) ∧
 List.length
 ((S.mulI n1 np (fun j => tp (j + ap)) n2 nq fun j => tq (j + aq)).2.2) ≤
 1000000))
 then (bif (S.samI
 (Prod.fst
 (S.mulI n1 (List.length (S.mkl np fun j => tp (j + ap)))
 (fun j => S.at' (S.mkl np fun j => tp (j + ap)) j) n2
 (List.length (S.mkl nq fun j => tq (j + aq))) fun j =>
 S.at' (S.mkl nq fun j => tq (j + aq)) j))
 (List.length
 (Prod.snd
 (Prod.snd
 (S.mulI n1 (List.length (S.mkl np fun j => tp (j + ap)))
 (fun j => S.at' (S.mkl np fun j => tp (j + ap)) j) n2
 (List.length (S.mkl nq fun j => tq (j + aq))) fun j =>
 S.at' (S.mkl nq fun j => tq (j + aq)) j))))
 (fun j =>
 S.at'
 (Prod.snd
 (Prod.snd
 (S.mulI n1 (List.length (S.mkl np fun j => tp (j + ap)))
 (fun j => S.at' (S.mkl np fun j => tp (j + ap)) j) n2
 (List.length (S.mkl nq fun j => tq (j + aq))) fun j =>
 S.at' (S.mkl nq fun j => tq (j + aq)) j)))
 j)
 ((S.mulI n1 np (fun j => tp (j + ap)) n2 nq fun j => tq (j + aq)).1)
 (List.length
 ((S.mulI n1 np (fun j => tp (j + ap)) n2 nq fun j => tq (j + aq)).2.2))
 fun j =>
 S.at'
 ((S.mulI n1 np (fun j => tp (j + ap)) n2 nq fun j => tq (j + aq)).2.2) j)
 then (some (.inr (true)))
 else (some (.inr (false))))
 else (none))
 else (some (.inr (false))))
 else (none))
 else (none))
 else (none))
 else (none))
 else (some (.inr (true))))
 else (none))
 else (none)
noncomputable def Te5 (test : Bool → Prop → Prop → Prop) (Kst : KS) (Kret : KR) (n1 : Bool) (ap np mp : Nat) (tp : Nat → Int) (n2 : Bool) (aq nq mq : Nat) (tq : Nat → Int) : Prop :=
  test (true)
 (test (true)
 (test (true)
 (test (true)
 (test (lim IntKind.i64 ((0 : Int) + (↑np : Int)))
 (test (true)
 (test (true)
 (test (true)
 (test (lim IntKind.i64 ((0 : Int) + (↑np : Int) + (↑nq : Int)))
 (test (true)
 (test (false)
 (test (false)
 (False)
 (False))
 (test (decide ((0 : Int) + (↑np : Int) + (↑nq : Int) ≤ (170 : Int)))
 (test (decide (ap + np ≤ mp ∧ np ≤ 1000000))
 (test (decide (aq + nq ≤ mq ∧ nq ≤ 1000000))
 (test (decide
 ((0 + List.length (S.mkl np fun j => tp (j + ap)) ≤
 List.length (S.mkl np fun j => tp (j + ap)) ∧
 List.length (S.mkl np fun j => tp (j + ap)) ≤ 1000000) ∧
 0 + List.length (S.mkl nq fun j => tq (j + aq)) ≤
 List.length (S.mkl nq fun j => tq (j + aq)) ∧
 List.length (S.mkl nq fun j => tq (j + aq)) ≤ 1000000))
 (test (decide ((ap + np ≤ mp ∧ np ≤ 1000000) ∧ aq + nq ≤ mq ∧ nq ≤ 1000000))
 (test (Prod.fst
 (Prod.snd
 (S.mulI n1 (List.length (S.mkl np fun j => tp (j + ap)))
 (fun j => S.at' (S.mkl np fun j => tp (j + ap)) j) n2
 (List.length (S.mkl nq fun j => tq (j + aq))) fun j =>
 S.at' (S.mkl nq fun j => tq (j + aq)) j)) ==
 (S.mulI n1 np (fun j => tp (j + ap)) n2 nq fun j => tq (j + aq)).2.1)
 (test (decide
 ((0 +
 List.length
 (Prod.snd
 (Prod.snd
 (S.mulI n1 (List.length (S.mkl np fun j => tp (j + ap)))
 (fun j => S.at' (S.mkl np fun j => tp (j + ap)) j) n2
 (List.length (S.mkl nq fun j => tq (j + aq))) fun j =>
 S.at' (S.mkl nq fun j => tq (j + aq)) j))) ≤
 List.length
 (Prod.snd
 (Prod.snd
 (S.mulI n1 (List.length (S.mkl np fun j => tp (j + ap)))
 (fun j => S.at' (S.mkl np fun j => tp (j + ap)) j) n2
 (List.length (S.mkl nq fun j => tq (j + aq))) fun j =>
 S.at' (S.mkl nq fun j => tq (j + aq)) j))) ∧
 List.length
 (Prod.snd
 (Prod.snd
 (S.mulI n1 (List.length (S.mkl np fun j => tp (j + ap)))
 (fun j => S.at' (S.mkl np fun j => tp (j + ap)) j) n2
 (List.length (S.mkl nq fun j => tq (j + aq))) fun j =>
 S.at' (S.mkl nq fun j => tq (j + aq)) j))) ≤
 1000000) ∧
 0 +
 List.length
 (Prod.snd
 ((S.mulI n1 np (fun j => tp (j + ap)) n2 nq fun j => tq (j + aq)).2)) ≤
 List.length
 ((S.mulI n1 np (fun j => tp (j + ap)) n2 nq fun j => tq (j + aq)).2.2) ∧
 List.length
 ((S.mulI n1 np (fun j => tp (j + ap)) n2 nq fun j => tq (j + aq)).2.2) ≤
 1000000))
 (test (S.samI
 (Prod.fst
 (S.mulI n1 (List.length (S.mkl np fun j => tp (j + ap)))
 (fun j => S.at' (S.mkl np fun j => tp (j + ap)) j) n2
 (List.length (S.mkl nq fun j => tq (j + aq))) fun j =>
 S.at' (S.mkl nq fun j => tq (j + aq)) j))
 (List.length
 (Prod.snd
 (Prod.snd
 (S.mulI n1 (List.length (S.mkl np fun j => tp (j + ap)))
 (fun j => S.at' (S.mkl np fun j => tp (j + ap)) j) n2
 (List.length (S.mkl nq fun j => tq (j + aq))) fun j =>
 S.at' (S.mkl nq fun j => tq (j + aq)) j))))
 (fun j =>
 S.at'
 (Prod.snd
 (Prod.snd
 (S.mulI n1 (List.length (S.mkl np fun j => tp (j + ap)))
 (fun j => S.at' (S.mkl np fun j => tp (j + ap)) j) n2
 (List.length (S.mkl nq fun j => tq (j + aq))) fun j =>
 S.at' (S.mkl nq fun j => tq (j + aq)) j)))
 j)
 ((S.mulI n1 np (fun j => tp (j + ap)) n2 nq fun j => tq (j + aq)).1)
 (List.length
 ((S.mulI n1 np (fun j => tp (j + ap)) n2 nq fun j => tq (j + aq)).2.2))
 fun j =>
 S.at'
 ((S.mulI n1 np (fun j => tp (j + ap)) n2 nq fun j => tq (j + aq)).2.2) j)
 (Kret (PV.tf true) ([[(1, false, Blk.cols mq [Col.int IntKind.i64 tq]),
 (0, false, Blk.cols mp [Col.int IntKind.i64 tp])]]) (17))
 (Kret (PV.tf false) ([[(1, false, Blk.cols mq [Col.int IntKind.i64 tq]),
 (0, false, Blk.cols mp [Col.int IntKind.i64 tp])]]) (17)))
 (False))
 (Kret (PV.tf false) ([[(1, false, Blk.cols mq [Col.int IntKind.i64 tq]),
 (0, false, Blk.cols mp [Col.int IntKind.i64 tp])]]) (16)))
 (False))
 (False))
 (False))
 (False))
 (test (true)
 (test (true)
 (Kret (PV.tf true) ([[(1, false, Blk.cols mq [Col.int IntKind.i64 tq]),
 (0, false, Blk.cols mp [Col.int IntKind.i64 tp])]]) (7))
 (Kret (PV.tf false) ([[(1, false, Blk.cols mq [Col.int IntKind.i64 tq]),
 (0, false, Blk.cols mp [Col.int IntKind.i64 tp])]]) (7)))
 (False))))
 (False))
 (False))
 (False))
 (test (decide ((0 : Int) + (↑np : Int) ≤ (170 : Int)))
 (test (decide (ap + np ≤ mp ∧ np ≤ 1000000))
 (test (decide (aq + nq ≤ mq ∧ nq ≤ 1000000))
 (test (decide
 ((0 + List.length (S.mkl np fun j => tp (j + ap)) ≤
 List.length (S.mkl np fun j => tp (j + ap)) ∧
 List.length (S.mkl np fun j => tp (j + ap)) ≤ 1000000) ∧
 0 + List.length (S.mkl nq fun j => tq (j + aq)) ≤
 List.length (S.mkl nq fun j => tq (j + aq)) ∧
 List.length (S.mkl nq fun j => tq (j + aq)) ≤ 1000000))
 (test (decide ((ap + np ≤ mp ∧ np ≤ 1000000) ∧ aq + nq ≤ mq ∧ nq ≤ 1000000))
 (test (Prod.fst
 (Prod.snd
 (S.mulI n1 (List.length (S.mkl np fun j => tp (j + ap)))
 (fun j => S.at' (S.mkl np fun j => tp (j + ap)) j) n2
 (List.length (S.mkl nq fun j => tq (j + aq))) fun j =>
 S.at' (S.mkl nq fun j => tq (j + aq)) j)) ==
 (S.mulI n1 np (fun j => tp (j + ap)) n2 nq fun j => tq (j + aq)).2.1)
 (test (decide
 ((0 +
 List.length
 (Prod.snd
 (Prod.snd
 (S.mulI n1 (List.length (S.mkl np fun j => tp (j + ap)))
 (fun j => S.at' (S.mkl np fun j => tp (j + ap)) j) n2
 (List.length (S.mkl nq fun j => tq (j + aq))) fun j =>
 S.at' (S.mkl nq fun j => tq (j + aq)) j))) ≤
 List.length
 (Prod.snd
 (Prod.snd
 (S.mulI n1 (List.length (S.mkl np fun j => tp (j + ap)))
 (fun j => S.at' (S.mkl np fun j => tp (j + ap)) j) n2
 (List.length (S.mkl nq fun j => tq (j + aq))) fun j =>
 S.at' (S.mkl nq fun j => tq (j + aq)) j))) ∧
 List.length
 (Prod.snd
 (Prod.snd
 (S.mulI n1 (List.length (S.mkl np fun j => tp (j + ap)))
 (fun j => S.at' (S.mkl np fun j => tp (j + ap)) j) n2
 (List.length (S.mkl nq fun j => tq (j + aq))) fun j =>
 S.at' (S.mkl nq fun j => tq (j + aq)) j))) ≤
 1000000) ∧
 0 +
 List.length
 (Prod.snd
 ((S.mulI n1 np (fun j => tp (j + ap)) n2 nq fun j => tq (j + aq)).2)) ≤
 List.length
 ((S.mulI n1 np (fun j => tp (j + ap)) n2 nq fun j => tq (j + aq)).2.2) ∧
 List.length
 ((S.mulI n1 np (fun j => tp (j + ap)) n2 nq fun j => tq (j + aq)).2.2) ≤
 1000000))
 (test (S.samI
 (Prod.fst
 (S.mulI n1 (List.length (S.mkl np fun j => tp (j + ap)))
 (fun j => S.at' (S.mkl np fun j => tp (j + ap)) j) n2
 (List.length (S.mkl nq fun j => tq (j + aq))) fun j =>
 S.at' (S.mkl nq fun j => tq (j + aq)) j))
 (List.length
 (Prod.snd
 (Prod.snd
 (S.mulI n1 (List.length (S.mkl np fun j => tp (j + ap)))
 (fun j => S.at' (S.mkl np fun j => tp (j + ap)) j) n2
 (List.length (S.mkl nq fun j => tq (j + aq))) fun j =>
 S.at' (S.mkl nq fun j => tq (j + aq)) j))))
 (fun j =>
 S.at'
 (Prod.snd
 (Prod.snd
 (S.mulI n1 (List.length (S.mkl np fun j => tp (j + ap)))
 (fun j => S.at' (S.mkl np fun j => tp (j + ap)) j) n2
 (List.length (S.mkl nq fun j => tq (j + aq))) fun j =>
 S.at' (S.mkl nq fun j => tq (j + aq)) j)))
 j)
 ((S.mulI n1 np (fun j => tp (j + ap)) n2 nq fun j => tq (j + aq)).1)
 (List.length
 ((S.mulI n1 np (fun j => tp (j + ap)) n2 nq fun j => tq (j + aq)).2.2))
 fun j =>
 S.at'
 ((S.mulI n1 np (fun j => tp (j + ap)) n2 nq fun j => tq (j + aq)).2.2) j)
 (Kret (PV.tf true) ([[(1, false, Blk.cols mq [Col.int IntKind.i64 tq]),
 (0, false, Blk.cols mp [Col.int IntKind.i64 tp])]]) (17))
 (Kret (PV.tf false) ([[(1, false, Blk.cols mq [Col.int IntKind.i64 tq]),
 (0, false, Blk.cols mp [Col.int IntKind.i64 tp])]]) (17)))
 (False))
 (Kret (PV.tf false) ([[(1, false, Blk.cols mq [Col.int IntKind.i64 tq]),
 (0, false, Blk.cols mp [Col.int IntKind.i64 tp])]]) (16)))
 (False))
 (False))
 (False))
 (False))
 (test (true)
 (test (true)
 (Kret (PV.tf true) ([[(1, false, Blk.cols mq [Col.int IntKind.i64 tq]),
 (0, false, Blk.cols mp [Col.int IntKind.i64 tp])]]) (7))
 (Kret (PV.tf false) ([[(1, false, Blk.cols mq [Col.int IntKind.i64 tq]),
 (0, false, Blk.cols mp [Col.int IntKind.i64 tp])]]) (7)))
 (False))))
 (False))
 (False))
 (False))
 (test (true)
 (test (decide (ap + np ≤ mp ∧ np ≤ 1000000))
 (test (decide (aq + nq ≤ mq ∧ nq ≤ 1000000))
 (test (decide
 ((0 + List.length (S.mkl np fun j => tp (j + ap)) ≤
 List.length (S.mkl np fun j => tp (j + ap)) ∧
 List.length (S.mkl np fun j => tp (j + ap)) ≤ 1000000) ∧
 0 + List.length (S.mkl nq fun j => tq (j + aq)) ≤
 List.length (S.mkl nq fun j => tq (j + aq)) ∧
 List.length (S.mkl nq fun j => tq (j + aq)) ≤ 1000000))
 (test (decide ((ap + np ≤ mp ∧ np ≤ 1000000) ∧ aq + nq ≤ mq ∧ nq ≤ 1000000))
 (test (Prod.fst
 (Prod.snd
 (S.mulI n1 (List.length (S.mkl np fun j => tp (j + ap)))
 (fun j => S.at' (S.mkl np fun j => tp (j + ap)) j) n2
 (List.length (S.mkl nq fun j => tq (j + aq))) fun j =>
 S.at' (S.mkl nq fun j => tq (j + aq)) j)) ==
 (S.mulI n1 np (fun j => tp (j + ap)) n2 nq fun j => tq (j + aq)).2.1)
 (test (decide
 ((0 +
 List.length
 (Prod.snd
 (Prod.snd
 (S.mulI n1 (List.length (S.mkl np fun j => tp (j + ap)))
 (fun j => S.at' (S.mkl np fun j => tp (j + ap)) j) n2
 (List.length (S.mkl nq fun j => tq (j + aq))) fun j =>
 S.at' (S.mkl nq fun j => tq (j + aq)) j))) ≤
 List.length
 (Prod.snd
 (Prod.snd
 (S.mulI n1 (List.length (S.mkl np fun j => tp (j + ap)))
 (fun j => S.at' (S.mkl np fun j => tp (j + ap)) j) n2
 (List.length (S.mkl nq fun j => tq (j + aq))) fun j =>
 S.at' (S.mkl nq fun j => tq (j + aq)) j))) ∧
 List.length
 (Prod.snd
 (Prod.snd
 (S.mulI n1 (List.length (S.mkl np fun j => tp (j + ap)))
 (fun j => S.at' (S.mkl np fun j => tp (j + ap)) j) n2
 (List.length (S.mkl nq fun j => tq (j + aq))) fun j =>
 S.at' (S.mkl nq fun j => tq (j + aq)) j))) ≤
 1000000) ∧
 0 +
 List.length
 (Prod.snd
 ((S.mulI n1 np (fun j => tp (j + ap)) n2 nq fun j => tq (j + aq)).2)) ≤
 List.length
 ((S.mulI n1 np (fun j => tp (j + ap)) n2 nq fun j => tq (j + aq)).2.2) ∧
 List.length
 ((S.mulI n1 np (fun j => tp (j + ap)) n2 nq fun j => tq (j + aq)).2.2) ≤
 1000000))
 (test (S.samI
 (Prod.fst
 (S.mulI n1 (List.length (S.mkl np fun j => tp (j + ap)))
 (fun j => S.at' (S.mkl np fun j => tp (j + ap)) j) n2
 (List.length (S.mkl nq fun j => tq (j + aq))) fun j =>
 S.at' (S.mkl nq fun j => tq (j + aq)) j))
 (List.length
 (Prod.snd
 (Prod.snd
 (S.mulI n1 (List.length (S.mkl np fun j => tp (j + ap)))
 (fun j => S.at' (S.mkl np fun j => tp (j + ap)) j) n2
 (List.length (S.mkl nq fun j => tq (j + aq))) fun j =>
 S.at' (S.mkl nq fun j => tq (j + aq)) j))))
 (fun j =>
 S.at'
 (Prod.snd
 (Prod.snd
 (S.mulI n1 (List.length (S.mkl np fun j => tp (j + ap)))
 (fun j => S.at' (S.mkl np fun j => tp (j + ap)) j) n2
 (List.length (S.mkl nq fun j => tq (j + aq))) fun j =>
 S.at' (S.mkl nq fun j => tq (j + aq)) j)))
 j)
 ((S.mulI n1 np (fun j => tp (j + ap)) n2 nq fun j => tq (j + aq)).1)
 (List.length
 ((S.mulI n1 np (fun j => tp (j + ap)) n2 nq fun j => tq (j + aq)).2.2))
 fun j =>
 S.at'
 ((S.mulI n1 np (fun j => tp (j + ap)) n2 nq fun j => tq (j + aq)).2.2) j)
 (Kret (PV.tf true) ([[(1, false, Blk.cols mq [Col.int IntKind.i64 tq]),
 (0, false, Blk.cols mp [Col.int IntKind.i64 tp])]]) (17))
 (Kret (PV.tf false) ([[(1, false, Blk.cols mq [Col.int IntKind.i64 tq]),
 (0, false, Blk.cols mp [Col.int IntKind.i64 tp])]]) (17)))
 (False))
 (Kret (PV.tf false) ([[(1, false, Blk.cols mq [Col.int IntKind.i64 tq]),
 (0, false, Blk.cols mp [Col.int IntKind.i64 tp])]]) (16)))
 (False))
 (False))
 (False))
 (False))
 (test (true)
 (test (true)
 (Kret (PV.tf true) ([[(1, false, Blk.cols mq [Col.int IntKind.i64 tq]),
 (0, false, Blk.cols mp [Col.int IntKind.i64 tp])]]) (7))
 (Kret (PV.tf false) ([[(1, false, Blk.cols mq [Col.int IntKind.i64 tq]),
 (0, false, Blk.cols mp [Col.int IntKind.i64 tp])]]) (7)))
 (False))))
 (test (true)
 (test (true)
 (Kret (PV.tf true) ([[(1, false, Blk.cols mq [Col.int IntKind.i64 tq]),
 (0, false, Blk.cols mp [Col.int IntKind.i64 tp])]]) (6))
 (Kret (PV.tf false) ([[(1, false, Blk.cols mq [Col.int IntKind.i64 tq]),
 (0, false, Blk.cols mp [Col.int IntKind.i64 tp])]]) (6)))
 (False)))
 (False)
theorem te5 (test : Bool → Prop → Prop → Prop) (Kst : KS) (Kret : KR) (n1 : Bool) (ap np mp : Nat) (tp : Nat → Int) (n2 : Bool) (aq nq mq : Nat) (tq : Nat → Int) : run test Tryd.env true (xP test) true 400 ⟨5, [.cd (mkFn Tryd.f5).body], argT 0 [.agg [.bool n1, .loose ⟨0, 1, ap, 0⟩ np], .agg [.bool n2, .loose ⟨1, 1, aq, 0⟩ nq]], [[], [(0, (false, .cols mp [.int .i64 tp])), (1, (false, .cols mq [.int .i64 tq]))]], 2⟩ (proj 2 [] Kst Kret) =
  Te5 test Kst Kret n1 ap np mp tp n2 aq nq mq tq := by kernel_rfl
attribute [local irreducible] Int.subNatNat in
theorem be5 (n1 : Bool) (ap np mp : Nat) (tp : Nat → Int) (n2 : Bool) (aq nq mq : Nat) (tq : Nat → Int) (Kst : KS) (Kret : KR) (x : St5 ⊕ Rt5) (hS : HS 2 400 ((I5 n1 ap np mp tp n2 aq nq mq tq)) Kst x) (hR : HR 2 400 ((V5 n1 ap np mp tp n2 aq nq mq tq)) (fun r => [newL (2 + 1) ((N5 n1 ap np mp tp n2 aq nq mq tq) r) ++ [(0, (false, .cols mp [.int .i64 tp])), (1, (false, .cols mq [.int .i64 tq]))]]) Kret x) (h : (bif (lim IntKind.i64 ((0 : Int) + (↑np : Int)))
 then (bif (lim IntKind.i64 ((0 : Int) + (↑np : Int) + (↑nq : Int)))
 then (bif (decide ((0 : Int) + (↑np : Int) + (↑nq : Int) ≤ (170 : Int)))
 then (bif (decide (ap + np ≤ mp ∧ np ≤ 1000000))
 then (bif (decide (aq + nq ≤ mq ∧ nq ≤ 1000000))
 then (bif (decide
 ((0 + List.length (S.mkl np fun j => tp (j + ap)) ≤
 List.length (S.mkl np fun j => tp (j + ap)) ∧
 List.length (S.mkl np fun j => tp (j + ap)) ≤ 1000000) ∧
 0 + List.length (S.mkl nq fun j => tq (j + aq)) ≤
 List.length (S.mkl nq fun j => tq (j + aq)) ∧
 List.length (S.mkl nq fun j => tq (j + aq)) ≤ 1000000))
 then (bif (decide ((ap + np ≤ mp ∧ np ≤ 1000000) ∧ aq + nq ≤ mq ∧ nq ≤ 1000000))
 then (bif (Prod.fst
 (Prod.snd
 (S.mulI n1 (List.length (S.mkl np fun j => tp (j + ap)))
 (fun j => S.at' (S.mkl np fun j => tp (j + ap)) j) n2
 (List.length (S.mkl nq fun j => tq (j + aq))) fun j =>
 S.at' (S.mkl nq fun j => tq (j + aq)) j)) ==
 (S.mulI n1 np (fun j => tp (j + ap)) n2 nq fun j => tq (j + aq)).2.1)
 then (bif (decide
 ((0 +
 List.length
 (Prod.snd
 (Prod.snd
 (S.mulI n1 (List.length (S.mkl np fun j => tp (j + ap)))
 (fun j => S.at' (S.mkl np fun j => tp (j + ap)) j) n2
 (List.length (S.mkl nq fun j => tq (j + aq))) fun j =>
 S.at' (S.mkl nq fun j => tq (j + aq)) j))) ≤
 List.length
 (Prod.snd
 (Prod.snd
 (S.mulI n1 (List.length (S.mkl np fun j => tp (j + ap)))
 (fun j => S.at' (S.mkl np fun j => tp (j + ap)) j) n2
 (List.length (S.mkl nq fun j => tq (j + aq))) fun j =>
 S.at' (S.mkl nq fun j => tq (j + aq)) j))) ∧
 List.length
 (Prod.snd
 (Prod.snd
 (S.mulI n1 (List.length (S.mkl np fun j => tp (j + ap)))
 (fun j => S.at' (S.mkl np fun j => tp (j + ap)) j) n2
 (List.length (S.mkl nq fun j => tq (j + aq))) fun j =>
 S.at' (S.mkl nq fun j => tq (j + aq)) j))) ≤
 1000000) ∧
 0 +
 List.length
 (Prod.snd
 ((S.mulI n1 np (fun j => tp (j + ap)) n2 nq fun j => tq (j + aq)).2)) ≤
 List.length
 ((S.mulI n1 np (fun j => tp (j + ap)) n2 nq fun j => tq (j + aq)).2.2) ∧
 List.length
 ((S.mulI n1 np (fun j => tp (j + ap)) n2 nq fun j => tq (j + aq)).2.2) ≤
 1000000))
 then (bif (S.samI
 (Prod.fst
 (S.mulI n1 (List.length (S.mkl np fun j => tp (j + ap)))
 (fun j => S.at' (S.mkl np fun j => tp (j + ap)) j) n2
 (List.length (S.mkl nq fun j => tq (j + aq))) fun j =>
 S.at' (S.mkl nq fun j => tq (j + aq)) j))
 (List.length
 (Prod.snd
 (Prod.snd
 (S.mulI n1 (List.length (S.mkl np fun j => tp (j + ap)))
 (fun j => S.at' (S.mkl np fun j => tp (j + ap)) j) n2
 (List.length (S.mkl nq fun j => tq (j + aq))) fun j =>
 S.at' (S.mkl nq fun j => tq (j + aq)) j))))
 (fun j =>
 S.at'
 (Prod.snd
 (Prod.snd
 (S.mulI n1 (List.length (S.mkl np fun j => tp (j + ap)))
 (fun j => S.at' (S.mkl np fun j => tp (j + ap)) j) n2
 (List.length (S.mkl nq fun j => tq (j + aq))) fun j =>
 S.at' (S.mkl nq fun j => tq (j + aq)) j)))
 j)
 ((S.mulI n1 np (fun j => tp (j + ap)) n2 nq fun j => tq (j + aq)).1)
 (List.length
 ((S.mulI n1 np (fun j => tp (j + ap)) n2 nq fun j => tq (j + aq)).2.2))
 fun j =>
 S.at'
 ((S.mulI n1 np (fun j => tp (j + ap)) n2 nq fun j => tq (j + aq)).2.2) j)
 then (some (.inr (true)))
 else (some (.inr (false))))
 else (none))
 else (some (.inr (false))))
 else (none))
 else (none))
 else (none))
 else (none))
 else (some (.inr (true))))
 else (none))
 else (none) : Option (St5 ⊕ Rt5)) = some x) : Te5 cond Kst Kret n1 ap np mp tp n2 aq nq mq tq := by
  unfold Te5
  exact cond_yes rfl (cond_yes rfl (cond_yes rfl (cond_yes rfl (bif_split h
   (fun c0 h => cond_yes rfl (cond_yes rfl (cond_yes rfl (bif_split h
   (fun c1 h => cond_yes rfl (cond_no rfl (bif_split h
   (fun c2 h => bif_split h
   (fun c3 h => bif_split h
   (fun c4 h => bif_split h
   (fun c5 h => bif_split h
   (fun c6 h => bif_split h
   (fun c7 h => bif_split h
   (fun c8 h => bif_split h
   (fun c9 h => ret_at hR _ h (fun n => n) rfl rfl rfl (rn_bool_tf rfl) rfl (entl_bor (use_lo rfl) rfl rfl (entl_bor (use_lo rfl) rfl rfl entl_nil)))
   (fun c9 h => ret_at hR _ h (fun n => n) rfl rfl rfl (rn_bool_tf rfl) rfl (entl_bor (use_lo rfl) rfl rfl (entl_bor (use_lo rfl) rfl rfl entl_nil))))
   (fun c8 h => no_some h))
   (fun c7 h => ret_at hR _ h (fun n => n) rfl rfl rfl (rn_bool_tf rfl) rfl (entl_bor (use_lo rfl) rfl rfl (entl_bor (use_lo rfl) rfl rfl entl_nil))))
   (fun c6 h => no_some h))
   (fun c5 h => no_some h))
   (fun c4 h => no_some h))
   (fun c3 h => no_some h))
   (fun c2 h => cond_yes rfl (cond_yes rfl (ret_at hR _ h (fun n => n) rfl rfl rfl (rn_bool_tf rfl) rfl (entl_bor (use_lo rfl) rfl rfl (entl_bor (use_lo rfl) rfl rfl entl_nil))))))))
   (fun c1 h => no_some h)))))
   (fun c0 h => no_some h)))))
theorem a5 (n1 : Bool) (ap np mp : Nat) (tp : Nat → Int) (n2 : Bool) (aq nq mq : Nat) (tq : Nat → Int) {r : Rt5} (h : Goes ((q5 n1 ap np mp tp n2 aq nq mq tq)) ((p5 n1 ap np mp tp n2 aq nq mq tq)) r) : CallR Tryd.prog 5 [.agg [.bool n1, .loose ⟨0, 1, ap, 0⟩ np], .agg [.bool n2, .loose ⟨1, 1, aq, 0⟩ nq]] [[(0, (false, .cols mp [.int .i64 tp])), (1, (false, .cols mq [.int .i64 tq]))]] 2 ((V5 n1 ap np mp tp n2 aq nq mq tq) r) ((fun r => [newL (2 + 1) ((N5 n1 ap np mp tp n2 aq nq mq tq) r) ++ [(0, (false, .cols mp [.int .i64 tp])), (1, (false, .cols mq [.int .i64 tq]))]]) r) 400 ∧ ∃ F, Tryd.prog.funcs[5]? = some F ∧ F.body.isSome = true ∧ (F.name == "runtime.NumGoroutine") = false := by
  refine dec_calls (f := 5) (lo := 2) (hi := 400) (H := [[(0, (false, .cols mp [.int .i64 tp])), (1, (false, .cols mq [.int .i64 tq]))]]) (args := [.agg [.bool n1, .loose ⟨0, 1, ap, 0⟩ np], .agg [.bool n2, .loose ⟨1, 1, aq, 0⟩ nq]]) Tryd.envOk Tryd.mixed xP_ok ((I5 n1 ap np mp tp n2 aq nq mq tq)) ((V5 n1 ap np mp tp n2 aq nq mq tq)) (fun r => [newL (2 + 1) ((N5 n1 ap np mp tp n2 aq nq mq tq) r) ++ [(0, (false, .cols mp [.int .i64 tp])), (1, (false, .cols mq [.int .i64 tq]))]]) (fn := mkFn Tryd.f5) (ts := []) (n := 400) rfl (by decide) (by simp) (names_of rfl) ?_ ?_ ?_ h
  · intro s; exact s.elim
  · intro Kst Kret x hS hR h
    exact Holds.eq (te5 cond Kst Kret n1 ap np mp tp n2 aq nq mq tq) (be5 n1 ap np mp tp n2 aq nq mq tq Kst Kret x hS hR h)
  · intro Kst Kret x hS hR s h; exact s.elim
noncomputable def k5  : Con := ⟨5, [.agg [.plain (.bool), .list [.int .i64]], .agg [.plain (.bool), .list [.int .i64]]], fun (x : (Bool × (Nat × Nat × Nat × (Nat → Int) × Unit) × Unit) × (Bool × (Nat × Nat × Nat × (Nat → Int) × Unit) × Unit) × Unit) => (fun (n1 : Bool) (ap np mp : Nat) (tp : Nat → Int) (n2 : Bool) (aq nq mq : Nat) (tq : Nat → Int) => decide (ap + np ≤ mp ∧ aq + nq ≤ mq ∧ np ≤ reachBytes ∧ nq ≤ reachBytes)) x.1.1 x.1.2.1.1 x.1.2.1.2.1 x.1.2.1.2.2.1 x.1.2.1.2.2.2.1 x.2.1.1 x.2.1.2.1.1 x.2.1.2.1.2.1 x.2.1.2.1.2.2.1 x.2.1.2.1.2.2.2.1, fun (x : (Bool × (Nat × Nat × Nat × (Nat → Int) × Unit) × Unit) × (Bool × (Nat × Nat × Nat × (Nat → Int) × Unit) × Unit) × Unit) => (fun (n1 : Bool) (ap np mp : Nat) (tp : Nat → Int) (n2 : Bool) (aq nq mq : Nat) (tq : Nat → Int) => (V5 n1 ap np mp tp n2 aq nq mq tq) (true)) x.1.1 x.1.2.1.1 x.1.2.1.2.1 x.1.2.1.2.2.1 x.1.2.1.2.2.2.1 x.2.1.1 x.2.1.2.1.1 x.2.1.2.1.2.1 x.2.1.2.1.2.2.1 x.2.1.2.1.2.2.2.1, fun (x : (Bool × (Nat × Nat × Nat × (Nat → Int) × Unit) × Unit) × (Bool × (Nat × Nat × Nat × (Nat → Int) × Unit) × Unit) × Unit) => (fun (n1 : Bool) (ap np mp : Nat) (tp : Nat → Int) (n2 : Bool) (aq nq mq : Nat) (tq : Nat → Int) => (N5 n1 ap np mp tp n2 aq nq mq tq) (true)) x.1.1 x.1.2.1.1 x.1.2.1.2.1 x.1.2.1.2.2.1 x.1.2.1.2.2.2.1 x.2.1.1 x.2.1.2.1.1 x.2.1.2.1.2.1 x.2.1.2.1.2.2.1 x.2.1.2.1.2.2.2.1, fun _ _ => .dead⟩
theorem s5 (n1 : Bool) (ap np mp : Nat) (tp : Nat → Int) (n2 : Bool) (aq nq mq : Nat) (tq : Nat → Int) (hp : ap + np ≤ mp ∧ aq + nq ≤ mq ∧ np ≤ reachBytes ∧ nq ≤ reachBytes) : Goes ((q5 n1 ap np mp tp n2 aq nq mq tq)) ((p5 n1 ap np mp tp n2 aq nq mq tq)) (true) := by
  obtain ⟨hp1, hp2, hp3, hp4⟩ := hp
  unfold reachBytes at hp3 hp4
  by_cases h0 : (0 : Int) + np + nq ≤ 170
  · have lA := @mulI_len n1 n2 np nq (fun j => tp (j + ap)) (fun j => tq (j + aq))
    unfold p5
    simp only [mkl_len, mulI_mk]
    generalize S.mulI n1 np (fun j => tp (j + ap)) n2 nq (fun j => tq (j + aq)) = A at *
    repeat' first
      | with_reducible exact goes_inr.mpr rfl
      | (refine goes_ok ?_ ?_; focus (first | with_reducible exact beq_self_eq_true _ | (simp only [Bool.and_eq_true, decide_eq_true_eq, and_self, eq_self]; done) | with_reducible exact decide_eq_true trivial | with_reducible exact decide_eq_true rfl | (simp only [eq_self, decide_true, Bool.and_self, Bool.and_true, Bool.true_and]; done) | (apply decide_eq_true; omega) | (rw [lim64]; apply decide_eq_true; omega) | (apply decide_eq_true; simp only [mkl_len, mkl_zero, List.length_nil, true_and, and_true, and_self, Nat.zero_add, Nat.add_zero, Nat.le_refl]; done) | (apply decide_eq_true; simp only [mkl_len, mkl_zero, List.length_nil, true_and, and_true, and_self, Nat.zero_add, Nat.add_zero, Nat.le_refl]; omega) | decide | exact samI_self | rfl))
      | (refine goes_no ?_ ?_; focus (first | with_reducible exact bne_self_eq_false _ | (apply decide_eq_false; omega) | decide))

  · unfold p5
    repeat' first
      | with_reducible refine goes_if (fun h => ?_) (fun h => ?_) <;> (try simp only [SH] at h)
      | exact goes_none.mpr (by omega)
    all_goals first | (exfalso; omega) | exact goes_inr.mpr rfl
theorem k5_ok  : k5.ok Tryd.prog := by
  intro x hx
  obtain ⟨⟨n1, ⟨ap, np, mp, tp, _⟩, _⟩, ⟨n2, ⟨aq, nq, mq, tq, _⟩, _⟩, _⟩ := x
  obtain ⟨h1, h2⟩ := a5 n1 ap np mp tp n2 aq nq mq tq (s5 n1 ap np mp tp n2 aq nq mq tq (of_dec hx rfl))
  exact ⟨⟨400, (by decide : 2 + 1 + 0 ≤ 400), h1⟩, h2⟩
theorem pre5  {x : SsI k5.ss} (hx : ssFits k5.ss x) (hz : ssSmall reachBytes k5.ss x) : k5.pre (ssj k5.ss x) = true := by
  obtain ⟨⟨b0, ⟨n, t, u'⟩, u1⟩, ⟨b1, ⟨m, t2, u2⟩, u3⟩, u''⟩ := x
  obtain ⟨⟨-, hn, -⟩, ⟨-, hm, -⟩, -⟩ := hz
  exact decide_eq_true ⟨Nat.le_of_eq (Nat.zero_add _), Nat.le_of_eq (Nat.zero_add _), hn, hm⟩
end Go.Ev
